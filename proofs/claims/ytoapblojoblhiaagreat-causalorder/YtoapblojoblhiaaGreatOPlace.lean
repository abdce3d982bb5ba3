/- Whether an Insert's place, and a Move's Parent, may be. -/
import Derived.Test.YtoapblojoblhiaaGreatOParts
namespace Go.Proofs.YtoapblojoblhiaaGreat
open Go.RowKit
open Go.Sort (grow)

set_option maxRecDepth 100000 in
set_option maxHeartbeats 1000000 in
theorem mayBeside_any (o : OpIn) (a : Option Addr) (n c : Nat) (V : List Dt) (w : World) (hs : PS w a n c V) (hn : n ≤ 1000000) (hv : Ac V) : Tells 76 #[ov o (.slice a n c)] w (.bool (besb o V)) := by
  have hA := opAt_alloc w o (.slice a n c) 36
  have hF := (Far.refl w).alloc (.cells (o.cells (.slice a n c)) 36)
  have hH := fun x y => has_any a n c V (x, y) _ (hs.far hF) (Nat.le_trans hn (by decide)) hv
  have E3 := hA.c3
  have E7 := hA.c7
  have E8 := hA.c8
  have E9 := hA.c9
  have hb : Hid (besb o V = if o.at0 = 0 ∧ o.at1 = 0 then (o.side == 1) else hasv V o.at && ((o.side == 0) || (o.side == 1))) := hid rfl
  clear hs hn hv
  go_enter Tryz.func76, Tryz.ntmps76
  go_wp2_with (first
    | (go_at_call 39; refine (hH _ _).mono ?_; rintro e w1 ⟨rfl, hF1⟩; have e9 := (hA.far hF1).c9))
  all_goals go_ret
  all_goals (refine ⟨?_, by first | exact hF.trans hF1 | exact hF⟩; have hb := hb.out; rw [hb]; clear hb hA hF hH E3 E7 E8 E9; try clear e9 hF1)
  all_goals (try unfold OpIn.at)
  all_goals simp_all

set_option maxRecDepth 100000 in
set_option maxHeartbeats 1000000 in
theorem mayParent_any (o : OpIn) (a : Option Addr) (n c : Nat) (V : List Dt) (w : World) (hs : PS w a n c V) (hn : n ≤ 1000000) (hv : Ac V) : Tells 78 #[ov o (.slice a n c)] w (.bool (parb o V)) := by
  have mixed := mixed
  have hA := opAt_alloc w o (.slice a n c) 36
  have hF := (Far.refl w).alloc (.cells (o.cells (.slice a n c)) 36)
  have hs1 := hs.far hF
  go_enter Tryz.func78, Tryz.ntmps78
  go_wp2_with fail
  generalize w.alloc (.cells (o.cells (.slice a n c)) 36) = W1 at hA hF hs1 ⊢
  generalize w.heap.size = q at hA ⊢
  have E3 := fun m os => (hA.grow m os).c3
  have E11 := fun m os => (hA.grow m os).c11
  have E12 := fun m os => (hA.grow m os).c12
  have hR := fun m os => tells_q (root_any (grow (W1.drewN m) os))
  have hT := fun m os => tells_q (trash_any (grow (W1.drewN m) os))
  have hH := fun m os => tells_q (has_any a n c V o.par _ (hs1.far ⟨m, os, rfl⟩) (Nat.le_trans hn (by decide)) hv)
  have hb : Hid (parb o V = ((((o.pa0 == 0) && (o.pa1 == -1)) || ((o.pa0 == 0) && (o.pa1 == -2)) || hasv V o.par) && !((o.pa0 == o.bl0) && (o.pa1 == o.bl1)))) := hid rfl
  generalize hasv V o.par = r at hH hb
  clear hs hn hv hs1
  by_cases h0 : o.pa0 = 0
  · have g0 : (o.pa0 == 0) = true := by simp [h0]
    clear h0
    by_cases h1 : o.pa1 = -1
    · have g : (o.pa1 == -1) = true := by simp [h1]
      clear h1
      refine wp_region_quiet_grown mixed (by kernel_rfl) ?_
      repeat (go_big_quiet_step ((first | (go_at_call 17; exact hR _ _) | (go_at_call 18; exact hT _ _) | (go_at_call 39; exact hH _ _))))
      refine wpQuiet_nil ?_
      intro _ hw'
      obtain ⟨⟨nq, osq⟩, hw''⟩ := hw'
      subst hw''
      simp only []
      have hB := hA.grow nq osq
      have e5 := hB.c5
      have e6 := hB.c6
      have e11 := hB.c11
      have e12 := hB.c12
      have hF2 := hF.more nq osq
      clear hA hF E3 E11 E12 hR hT hH hB
      try cases r
      all_goals go_wp2
      all_goals go_ret
      all_goals (refine ⟨?_, hF2⟩; have hb := hb.out; rw [hb]; clear hb e5 e6 e11 e12 hF2; simp_all)
    · have g : (o.pa1 == -1) = false := by simp [h1]
      clear h1
      by_cases h2 : o.pa1 = -2
      · have g2 : (o.pa1 == -2) = true := by simp [h2]
        clear h2
        refine wp_region_quiet_grown mixed (by kernel_rfl) ?_
        repeat (go_big_quiet_step ((first | (go_at_call 17; exact hR _ _) | (go_at_call 18; exact hT _ _) | (go_at_call 39; exact hH _ _))))
        refine wpQuiet_nil ?_
        intro _ hw'
        obtain ⟨⟨nq, osq⟩, hw''⟩ := hw'
        subst hw''
        simp only []
        have hB := hA.grow nq osq
        have e5 := hB.c5
        have e6 := hB.c6
        have e11 := hB.c11
        have e12 := hB.c12
        have hF2 := hF.more nq osq
        clear hA hF E3 E11 E12 hR hT hH hB
        try cases r
        all_goals go_wp2
        all_goals go_ret
        all_goals (refine ⟨?_, hF2⟩; have hb := hb.out; rw [hb]; clear hb e5 e6 e11 e12 hF2; simp_all)
      · have g2 : (o.pa1 == -2) = false := by simp [h2]
        clear h2
        refine wp_region_quiet_grown mixed (by kernel_rfl) ?_
        repeat (go_big_quiet_step ((first | (go_at_call 17; exact hR _ _) | (go_at_call 18; exact hT _ _) | (go_at_call 39; exact hH _ _))))
        refine wpQuiet_nil ?_
        intro _ hw'
        obtain ⟨⟨nq, osq⟩, hw''⟩ := hw'
        subst hw''
        simp only []
        have hB := hA.grow nq osq
        have e5 := hB.c5
        have e6 := hB.c6
        have e11 := hB.c11
        have e12 := hB.c12
        have hF2 := hF.more nq osq
        clear hA hF E3 E11 E12 hR hT hH hB
        try cases r
        all_goals go_wp2
        all_goals go_ret
        all_goals (refine ⟨?_, hF2⟩; have hb := hb.out; rw [hb]; clear hb e5 e6 e11 e12 hF2; simp_all)
  · have g0 : (o.pa0 == 0) = false := by simp [h0]
    clear h0
    refine wp_region_quiet_grown mixed (by kernel_rfl) ?_
    repeat (go_big_quiet_step ((first | (go_at_call 17; exact hR _ _) | (go_at_call 18; exact hT _ _) | (go_at_call 39; exact hH _ _))))
    refine wpQuiet_nil ?_
    intro _ hw'
    obtain ⟨⟨nq, osq⟩, hw''⟩ := hw'
    subst hw''
    simp only []
    have hB := hA.grow nq osq
    have e5 := hB.c5
    have e6 := hB.c6
    have e11 := hB.c11
    have e12 := hB.c12
    have hF2 := hF.more nq osq
    clear hA hF E3 E11 E12 hR hT hH hB
    try cases r
    all_goals go_wp2
    all_goals go_ret
    all_goals (refine ⟨?_, hF2⟩; have hb := hb.out; rw [hb]; clear hb e5 e6 e11 e12 hF2; simp_all)
end Go.Proofs.YtoapblojoblhiaaGreat
