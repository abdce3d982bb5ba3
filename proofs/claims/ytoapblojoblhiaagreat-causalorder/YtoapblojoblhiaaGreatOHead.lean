/- The head of an operation: what mayHead tells; what may be a character. -/
import Derived.Test.YtoapblojoblhiaaGreatOBase
namespace Go.Proofs.YtoapblojoblhiaaGreat
open Go.RowKit
open Go.Sort (grow)

theorem mayChar_any (c : Int) (w : World) : Calls Tryz.prog 77 #[.int .i64 c] w fun e w' => e = .returned (.bool (charb c)) ∧ w = w' := by
  by_cases h0 : 0 ≤ c
  · by_cases h1 : c ≤ 1114111
    · by_cases h2 : c < 55296
      · go_enter Tryz.func77, Tryz.ntmps77
        go_wp2
        go_ret
        exact ⟨by simp [charb]; omega, rfl⟩
      · go_enter Tryz.func77, Tryz.ntmps77
        go_wp2
        go_ret
        exact ⟨by simp [charb, h0, h1]; omega, rfl⟩
    · go_enter Tryz.func77, Tryz.ntmps77
      go_wp2
      go_ret
      exact ⟨by simp [charb]; omega, rfl⟩
  · go_enter Tryz.func77, Tryz.ntmps77
    go_wp2
    go_ret
    exact ⟨by simp [charb]; omega, rfl⟩

set_option maxRecDepth 100000 in
set_option maxHeartbeats 2000000 in
theorem mayHead_any (o : OpIn) (a : Option Addr) (n c : Nat) (V : List Dt) (w : World) (hs : PS w a n c V) (hn : n ≤ 1000000) : Tells 60 #[ov o (.slice a n c)] w (.bool (headb o V)) := by
  have mixed := mixed
  have hA := opAt_alloc w o (.slice a n c) 36
  have hF := (Far.refl w).alloc (.cells (o.cells (.slice a n c)) 36)
  have hs1 := hs.far hF
  go_enter Tryz.func60, Tryz.ntmps60
  go_wp2_with fail
  generalize w.alloc (.cells (o.cells (.slice a n c)) 36) = W1 at hA hF hs1 ⊢
  generalize w.heap.size = q at hA ⊢
  have E0 := fun m os => (hA.grow m os).c0
  have E1 := fun m os => (hA.grow m os).c1
  have E2 := fun m os => (hA.grow m os).c2
  have E3 := fun m os => (hA.grow m os).c3
  have hM := fun m os => tells_q (may_any o.id (grow (W1.drewN m) os))
  have hV := fun m os => tells_q (vmay_any a n c V _ (hs1.far ⟨m, os, rfl⟩) (Nat.le_trans hn (by decide)))
  have hG := fun (hv : vmb V = true) m os => tells_q (get_any a n c V o.id0 _ (hs1.far ⟨m, os, rfl⟩) (Nat.le_trans hn (by decide)) ((vmb_iff V).1 hv).ac)
  have hg := fun (hv : vmb V = true) => ((vmb_iff V).1 hv).gt_bounds o.id0
  have hi := fun h => (mayd_iff o.id).1 h
  have hb : Hid (headb o V = (mayd o.id && decide (1 ≤ o.time) && decide (o.time ≤ 1099511627776) && vmb V && decide (gt V o.id0 = o.id1 - 1))) := hid rfl
  generalize mayd o.id = r at hM hb hi
  generalize vmb V = s at hV hb hG hg
  clear hA hs hs1 hn
  generalize gt V o.id0 = g at hb hG hg
  obtain ⟨i0, i1, time⟩ := o
  simp only [OpIn.id] at *
  cases r
  · clear hG hg hi
    refine wp_region_quiet_grown mixed (by kernel_rfl) ?_
    repeat (go_big_quiet_step ((first | (go_at_call 37; exact hM _ _) | (go_at_call 74; exact hV _ _) | (go_at_call 59; exact hG _ _))))
    refine wpQuiet_nil ?_
    intro _ hw'
    obtain ⟨⟨nq, osq⟩, hw''⟩ := hw'
    subst hw''
    simp only []
    go_wp2
    go_ret
    exact ⟨by have hb := hb.out; rw [hb]; first | (simp [h1, h2, h3.out]; done) | (simp; intros; omega) | simp_all, hF.more nq osq⟩
  · by_cases h1 : 1 ≤ time
    · by_cases h2 : time ≤ 1099511627776
      · cases s
        · clear hG hg hi
          refine wp_region_quiet_grown mixed (by kernel_rfl) ?_
          repeat (go_big_quiet_step ((first | (go_at_call 37; exact hM _ _) | (go_at_call 74; exact hV _ _) | (go_at_call 59; exact hG _ _))))
          refine wpQuiet_nil ?_
          intro _ hw'
          obtain ⟨⟨nq, osq⟩, hw''⟩ := hw'
          subst hw''
          simp only []
          go_wp2
          go_ret
          exact ⟨by have hb := hb.out; rw [hb]; first | (simp [h1, h2, h3.out]; done) | (simp; intros; omega) | simp_all, hF.more nq osq⟩
        · have hG := hG rfl
          have hg := hg rfl
          have hi := hi rfl
          by_cases h3 : g = i1 - 1
          · have hb3 : (g == i1 - 1) = true := by simp [h3]
            replace h3 := hid h3
            refine wp_region_quiet_grown mixed (by kernel_rfl) ?_
            repeat (go_big_quiet_step ((first | (go_at_call 37; exact hM _ _) | (go_at_call 74; exact hV _ _) | (go_at_call 59; exact hG _ _))))
            refine wpQuiet_nil ?_
            intro _ hw'
            obtain ⟨⟨nq, osq⟩, hw''⟩ := hw'
            subst hw''
            simp only []
            go_wp2
            go_ret
            exact ⟨by have hb := hb.out; rw [hb]; first | (simp [h1, h2, h3.out]; done) | (simp; intros; omega) | simp_all, hF.more nq osq⟩
          · have hb3 : (g == i1 - 1) = false := by simp [h3]
            refine wp_region_quiet_grown mixed (by kernel_rfl) ?_
            repeat (go_big_quiet_step ((first | (go_at_call 37; exact hM _ _) | (go_at_call 74; exact hV _ _) | (go_at_call 59; exact hG _ _))))
            refine wpQuiet_nil ?_
            intro _ hw'
            obtain ⟨⟨nq, osq⟩, hw''⟩ := hw'
            subst hw''
            simp only []
            go_wp2
            go_ret
            exact ⟨by have hb := hb.out; rw [hb]; first | (simp [h1, h2, h3.out]; done) | (simp; intros; omega) | simp_all, hF.more nq osq⟩
      · clear hG hg hi
        refine wp_region_quiet_grown mixed (by kernel_rfl) ?_
        repeat (go_big_quiet_step ((first | (go_at_call 37; exact hM _ _) | (go_at_call 74; exact hV _ _) | (go_at_call 59; exact hG _ _))))
        refine wpQuiet_nil ?_
        intro _ hw'
        obtain ⟨⟨nq, osq⟩, hw''⟩ := hw'
        subst hw''
        simp only []
        go_wp2
        go_ret
        exact ⟨by have hb := hb.out; rw [hb]; first | (simp [h1, h2, h3.out]; done) | (simp; intros; omega) | simp_all, hF.more nq osq⟩
    · clear hG hg hi
      refine wp_region_quiet_grown mixed (by kernel_rfl) ?_
      repeat (go_big_quiet_step ((first | (go_at_call 37; exact hM _ _) | (go_at_call 74; exact hV _ _) | (go_at_call 59; exact hG _ _))))
      refine wpQuiet_nil ?_
      intro _ hw'
      obtain ⟨⟨nq, osq⟩, hw''⟩ := hw'
      subst hw''
      simp only []
      go_wp2
      go_ret
      exact ⟨by have hb := hb.out; rw [hb]; first | (simp [h1, h2, h3.out]; done) | (simp; intros; omega) | simp_all, hF.more nq osq⟩
end Go.Proofs.YtoapblojoblhiaaGreat
