/- The reference's Check: the head. -/
import Derived.Test.YthipadnghdodlaaOCheck
import Derived.Deep.CutBlock
import Derived.Deep.CutRange
namespace Go.Proofs.Ythipadnghdodlaa
open Go.RowKit
open Go.Sort (grow)

theorem chk_nohead {o : OpIn} {V : List Dt} (h : headb o V = false) : chk o V = false := by simp [chk, h]

set_option maxRecDepth 100000 in
set_option maxHeartbeats 8000000 in
theorem rchk_head (o : OpIn) (a : Option Addr) (n c : Nat) (V : List Dt) (w : World) (hs : PS w a n c V) (hn : n ≤ 9223372036854775807) (hh : headb o V = false) : Tells 11 #[ov o (.slice a n c)] w (.bool (chk o V)) := by
  have hb := hid (chk_nohead hh)
  have hi := fun h => (mayd_iff o.id).1 h
  have hg := fun (hv : vmb V = true) => ((vmb_iff V).1 hv).gt_bounds o.id0
  have hd : Hid ((mayd o.id && decide (1 ≤ o.time) && decide (o.time ≤ 1099511627776) && vmb V && decide (gt V o.id0 = o.id1 - 1)) = false) := hid hh
  clear hh
  have mixed := mixed
  have hA := opAt_alloc w o (.slice a n c) 27
  have hF := (Far.refl w).alloc (.cells (o.cells (.slice a n c)) 27)
  have hI := rmay_any o.id (w.alloc (.cells (o.cells (.slice a n c)) 27))
  have hV := fun W (h : Far w W) => rvmay_any a n c V W (hs.far h) hn
  have E0 := hA.c0
  have E1 := hA.c1
  have E3 := hA.c3
  generalize mayd o.id = r1 at hI hi hd
  generalize vmb V = r2 at hV hg hd
  go_enter Try.func11, Try.ntmps11
  go_upto_region 3 with (first
    | (go_at_call 30; refine hI.mono ?_; rintro e w1 ⟨rfl, hF1⟩; have hA1 := hA.far hF1; have F1 := hF.trans hF1; have e3 := hA1.c3)
    | (go_at_call 31; refine (hV _ F1).mono ?_; rintro e w2 ⟨rfl, hF2⟩; have hA2 := hA1.far hF2; have F2 := F1.trans hF2))
  clear E0 E1 E3 e3 hI hV hF hF1 hF2 F1 hA hA1
  generalize w.heap.size = q at hA2 ⊢
  have E0 := fun m os => (hA2.grow m os).c0
  have E1 := fun m os => (hA2.grow m os).c1
  have E2 := fun m os => (hA2.grow m os).c2
  have E3 := fun m os => (hA2.grow m os).c3
  have hG := fun m os => tells_q (rget_far (y := o.id0) ((hs.far F2).far ⟨m, os, rfl⟩) hn)
  generalize gt V o.id0 = g at hG hg hd
  clear hA2 hs hn
  obtain ⟨i0, i1, time⟩ := o
  simp only at *
  cases r1
  · clear hG hg hi hd
    refine wp_region_quiet_grown mixed (by kernel_rfl) ?_
    repeat (go_big_quiet_step ((first | (go_at_call 32; exact hG _ _))))
    refine wpQuiet_nil ?_
    intro _ hw'
    obtain ⟨⟨nq, osq⟩, hw''⟩ := hw'
    subst hw''
    simp only []
    go_wp2
    go_ret
    exact ⟨by rw [hb.out]; rfl, F2.more nq osq⟩
  · cases r2
    · clear hG hg hi hd
      refine wp_region_quiet_grown mixed (by kernel_rfl) ?_
      repeat (go_big_quiet_step ((first | (go_at_call 32; exact hG _ _))))
      refine wpQuiet_nil ?_
      intro _ hw'
      obtain ⟨⟨nq, osq⟩, hw''⟩ := hw'
      subst hw''
      simp only []
      go_wp2
      go_ret
      exact ⟨by rw [hb.out]; rfl, F2.more nq osq⟩
    · by_cases h1 : 1 ≤ time
      · by_cases h2 : time ≤ 1099511627776
        · have hi := hi rfl
          have hg := hg rfl
          have h3 : ¬ g = i1 - 1 := by have := hd.out; simp only [h1, h2] at this; simpa using this
          have hb3 : (g == i1 - 1) = false := by simp [h3]
          have h4 : ¬ time < 1 := by omega
          have h5 : ¬ 1099511627776 < time := by omega
          clear hd
          refine wp_region_quiet_grown mixed (by kernel_rfl) ?_
          repeat (go_big_quiet_step ((first | (go_at_call 32; exact hG _ _))))
          refine wpQuiet_nil ?_
          intro _ hw'
          obtain ⟨⟨nq, osq⟩, hw''⟩ := hw'
          subst hw''
          simp only []
          go_wp2
          go_ret
          exact ⟨by rw [hb.out]; rfl, F2.more nq osq⟩
        · have h4 : ¬ time < 1 := by omega
          have h5 : 1099511627776 < time := by omega
          clear hG hg hi hd
          refine wp_region_quiet_grown mixed (by kernel_rfl) ?_
          repeat (go_big_quiet_step ((first | (go_at_call 32; exact hG _ _))))
          refine wpQuiet_nil ?_
          intro _ hw'
          obtain ⟨⟨nq, osq⟩, hw''⟩ := hw'
          subst hw''
          simp only []
          go_wp2
          go_ret
          exact ⟨by rw [hb.out]; rfl, F2.more nq osq⟩
      · have h4 : time < 1 := by omega
        clear hG hg hi hd
        refine wp_region_quiet_grown mixed (by kernel_rfl) ?_
        repeat (go_big_quiet_step ((first | (go_at_call 32; exact hG _ _))))
        refine wpQuiet_nil ?_
        intro _ hw'
        obtain ⟨⟨nq, osq⟩, hw''⟩ := hw'
        subst hw''
        simp only []
        go_wp2
        go_ret
        exact ⟨by rw [hb.out]; rfl, F2.more nq osq⟩
end Go.Proofs.Ythipadnghdodlaa
