/- What mayParts and Check tell. -/
import Derived.Test.YtlncokkpdkddlaaGreatOPlace
namespace Go.Proofs.YtlncokkpdkddlaaGreat
open Go.RowKit
open Go.Sort (grow)

theorem partb_ins {o : OpIn} (V : List Dt) (h : o.kind = 1) : partb o V = (hasv V o.blk && besb o V && charb o.char) := by simp [partb, h]
theorem partb_del {o : OpIn} (V : List Dt) (h : o.kind = 2) : partb o V = (hasv V o.blk && hasv V o.at) := by simp [partb, h]
theorem partb_mov {o : OpIn} (V : List Dt) (h : o.kind = 3) : partb o V = ((((o.bl0 == o.id0) && (o.bl1 == o.id1)) || hasv V o.blk) && parb o V && kyb o.key.toList) := by simp [partb, h]
theorem partb_no {o : OpIn} (V : List Dt) (h1 : o.kind ≠ 1) (h2 : o.kind ≠ 2) (h3 : o.kind ≠ 3) : partb o V = false := by simp [partb, h1, h2, h3]

set_option maxRecDepth 100000 in
set_option maxHeartbeats 2000000 in
theorem mayParts_any (o : OpIn) (a : Option Addr) (n c : Nat) (V : List Dt) (w : World) (hs : PS w a n c V) (hn : n ≤ 1000000) (hv : Ac V) (hk : o.key.size ≤ maxLen) : Tells 62 #[ov o (.slice a n c)] w (.bool (partb o V)) := by
  have hA := opAt_alloc w o (.slice a n c) 36
  have hF := (Far.refl w).alloc (.cells (o.cells (.slice a n c)) 36)
  have hs1 := hs.far hF
  have hn' : n ≤ 140737488355328 := Nat.le_trans hn (by decide)
  by_cases h1 : o.kind = 1
  · have hb := hid (partb_ins V h1)
    have k1 : (o.kind == 1) = true := by simp [h1]
    have hH := has_any a n c V o.blk _ hs1 hn' hv
    have hB := fun W (h : Far w W) => mayBeside_any o a n c V W (hs.far h) hn hv
    have hC := fun W => mayChar_any o.char W
    generalize hasv V o.blk = r1 at hH hb
    generalize besb o V = r2 at hB hb
    generalize charb o.char = r3 at hC hb
    have E3 := hA.c3
    have E4 := hA.c4
    have E5 := hA.c5
    have E6 := hA.c6
    clear h1 hs hs1 hn' hn hv hk
    go_enter Tryz.func62, Tryz.ntmps62
    go_wp2_with (first
      | (go_at_call 39; refine hH.mono ?_; rintro e w1 ⟨rfl, hF1⟩; have hA1 := hA.far hF1; have F1 := hF.trans hF1; have e0 := hA1.c0; have e1 := hA1.c1; have e2 := hA1.c2; have e3 := hA1.c3; have e4 := hA1.c4; have e5 := hA1.c5; have e6 := hA1.c6; have e7 := hA1.c7; have e8 := hA1.c8; have e9 := hA1.c9; have e10 := hA1.c10; have e11 := hA1.c11; have e12 := hA1.c12; have e13 := hA1.c13)
      | (go_at_call 76; refine (hB _ F1).mono ?_; rintro e w2 ⟨rfl, hF2⟩; have hA2 := hA1.far hF2; have F2 := F1.trans hF2; have f10 := hA2.c10)
      | (go_at_call 77; refine (hC _).mono ?_; rintro e w3 ⟨rfl, rfl⟩))
    all_goals go_ret
    all_goals (refine ⟨?_, by first | exact F2 | exact F1⟩; have hb := hb.out; rw [hb]; simp_all)
  by_cases h2 : o.kind = 2
  · have hb := hid (partb_del V h2)
    have k1 : (o.kind == 1) = false := by simp [h2]
    have k2 : (o.kind == 2) = true := by simp [h2]
    have hH := has_any a n c V o.blk _ hs1 hn' hv
    have hG := fun W (h : Far w W) => has_any a n c V o.at W (hs.far h) hn' hv
    generalize hasv V o.blk = r1 at hH hb
    generalize hasv V o.at = r2 at hG hb
    have E3 := hA.c3
    have E4 := hA.c4
    have E5 := hA.c5
    have E6 := hA.c6
    clear h1 h2 hs hs1 hn' hn hv hk
    go_enter Tryz.func62, Tryz.ntmps62
    go_wp2_with (first
      | (go_at_call 39; have hq := F1; refine (hG _ F1).mono ?_; rintro e w2 ⟨rfl, hF2⟩; have F2 := F1.trans hF2)
      | (go_at_call 39; refine hH.mono ?_; rintro e w1 ⟨rfl, hF1⟩; have hA1 := hA.far hF1; have F1 := hF.trans hF1; have e3 := hA1.c3; have e7 := hA1.c7; have e8 := hA1.c8))
    all_goals go_ret
    all_goals (refine ⟨?_, by first | exact F2 | exact F1⟩; have hb := hb.out; rw [hb]; simp_all)
  by_cases h3 : o.kind = 3
  · have hb := hid (partb_mov V h3)
    have k1 : (o.kind == 1) = false := by simp [h3]
    have k2 : (o.kind == 2) = false := by simp [h3]
    have k3 : (o.kind == 3) = true := by simp [h3]
    have hH := fun x y => has_any a n c V (x, y) _ hs1 hn' hv
    have hB := fun W (h : Far w W) => mayParent_any o a n c V W (hs.far h) hn hv
    have hC := fun W => kmay_any o.key W hk
    generalize parb o V = r2 at hB hb
    generalize kyb o.key.toList = r3 at hC hb
    have E0 := hA.c0
    have E1 := hA.c1
    have E2 := hA.c2
    have E3 := hA.c3
    have E4 := hA.c4
    have E5 := hA.c5
    have E6 := hA.c6
    have E7 := hA.c7
    have E8 := hA.c8
    have E9 := hA.c9
    have E10 := hA.c10
    have E11 := hA.c11
    have E12 := hA.c12
    have E13 := hA.c13
    clear h1 h2 h3 hs hs1 hn' hn hv hk
    by_cases hI : o.bl0 = o.id0
    · by_cases hJ : o.bl1 = o.id1
      · have g1 : (o.bl0 == o.id0) = true := by simp [hI]
        have g2 : (o.bl1 == o.id1) = true := by simp [hJ]
        clear hI hJ
        go_enter Tryz.func62, Tryz.ntmps62
        go_wp2_with (first
          | (go_at_call 78; refine (hB _ hF).mono ?_; rintro e w2 ⟨rfl, hF2⟩; have hA2 := hA.far hF2; have F2 := hF.trans hF2; have f13 := hA2.c13)
          | (go_at_call 79; refine (hC _).mono ?_; rintro e w3 ⟨rfl, rfl⟩))
        all_goals go_ret
        all_goals (refine ⟨?_, F2⟩; have hb := hb.out; rw [hb]; simp_all)
      · have g1 : (o.bl0 == o.id0) = true := by simp [hI]
        have g2 : (o.bl1 == o.id1) = false := by simp [hJ]
        have hH := hH o.bl0 o.bl1
        generalize hasv V (o.bl0, o.bl1) = r1 at hH hb
        clear hI hJ
        go_enter Tryz.func62, Tryz.ntmps62
        go_wp2_with (first
          | (go_at_call 39; refine hH.mono ?_; rintro e w1 ⟨rfl, hF1⟩; have hA1 := hA.far hF1; have F1 := hF.trans hF1; have e0 := hA1.c0; have e1 := hA1.c1; have e2 := hA1.c2; have e3 := hA1.c3; have e4 := hA1.c4; have e5 := hA1.c5; have e6 := hA1.c6; have e7 := hA1.c7; have e8 := hA1.c8; have e9 := hA1.c9; have e10 := hA1.c10; have e11 := hA1.c11; have e12 := hA1.c12; have e13 := hA1.c13)
          | (go_at_call 78; refine (hB _ F1).mono ?_; rintro e w2 ⟨rfl, hF2⟩; have hA2 := hA1.far hF2; have F2 := F1.trans hF2; have f13 := hA2.c13)
          | (go_at_call 79; refine (hC _).mono ?_; rintro e w3 ⟨rfl, rfl⟩))
        all_goals go_ret
        all_goals (refine ⟨?_, by first | exact F2 | exact F1⟩; have hb := hb.out; rw [hb]; simp_all)
    · have g1 : (o.bl0 == o.id0) = false := by simp [hI]
      have hH := hH o.bl0 o.bl1
      generalize hasv V (o.bl0, o.bl1) = r1 at hH hb
      clear hI
      go_enter Tryz.func62, Tryz.ntmps62
      go_wp2_with (first
        | (go_at_call 39; refine hH.mono ?_; rintro e w1 ⟨rfl, hF1⟩; have hA1 := hA.far hF1; have F1 := hF.trans hF1; have e0 := hA1.c0; have e1 := hA1.c1; have e2 := hA1.c2; have e3 := hA1.c3; have e4 := hA1.c4; have e5 := hA1.c5; have e6 := hA1.c6; have e7 := hA1.c7; have e8 := hA1.c8; have e9 := hA1.c9; have e10 := hA1.c10; have e11 := hA1.c11; have e12 := hA1.c12; have e13 := hA1.c13)
        | (go_at_call 78; refine (hB _ F1).mono ?_; rintro e w2 ⟨rfl, hF2⟩; have hA2 := hA1.far hF2; have F2 := F1.trans hF2; have f13 := hA2.c13)
        | (go_at_call 79; refine (hC _).mono ?_; rintro e w3 ⟨rfl, rfl⟩))
      all_goals go_ret
      all_goals (refine ⟨?_, by first | exact F2 | exact F1⟩; have hb := hb.out; rw [hb]; simp_all)
  have hb := hid (partb_no V h1 h2 h3)
  have k1 : (o.kind == 1) = false := by simp [h1]
  have k2 : (o.kind == 2) = false := by simp [h2]
  have k3 : (o.kind == 3) = false := by simp [h3]
  have E4 := hA.c4
  clear h1 h2 h3 hs hs1 hn' hn hv hk
  go_enter Tryz.func62, Tryz.ntmps62
  go_wp2
  go_ret
  exact ⟨by rw [hb.out]; rfl, hF⟩

set_option maxRecDepth 100000 in
set_option maxHeartbeats 1000000 in
theorem check_any (o : OpIn) (a : Option Addr) (n c : Nat) (V : List Dt) (w : World) (hs : PS w a n c V) (hn : n ≤ 1000000) (hk : o.key.size ≤ maxLen) : Tells 40 #[ov o (.slice a n c)] w (.bool (chk o V)) := by
  have hA := opAt_alloc w o (.slice a n c) 36
  have hF := (Far.refl w).alloc (.cells (o.cells (.slice a n c)) 36)
  have hH := mayHead_any o a n c V _ (hs.far hF) hn
  have hB := fun W => bare_any o (.slice a n c) W
  have hP := fun (h : headb o V = true) W (k : Far w W) => mayParts_any o a n c V W (hs.far k) hn (by simp [headb] at h; exact ((vmb_iff V).1 h.1.2).ac) hk
  have hb : Hid (chk o V = (headb o V && barb o && partb o V)) := hid rfl
  generalize headb o V = r1 at hH hP hb
  generalize barb o = r2 at hB hb
  generalize partb o V = r3 at hP hb
  have E0 := hA.c0
  have E1 := hA.c1
  have E2 := hA.c2
  have E3 := hA.c3
  have E4 := hA.c4
  have E5 := hA.c5
  have E6 := hA.c6
  have E7 := hA.c7
  have E8 := hA.c8
  have E9 := hA.c9
  have E10 := hA.c10
  have E11 := hA.c11
  have E12 := hA.c12
  have E13 := hA.c13
  clear hs hn hk
  cases r1
  · go_enter Tryz.func40, Tryz.ntmps40
    go_wp2_with (first
      | (go_at_call 60; refine hH.mono ?_; rintro e w1 ⟨rfl, hF1⟩; have F1 := hF.trans hF1))
    all_goals go_ret
    all_goals (refine ⟨?_, F1⟩; have hb := hb.out; rw [hb]; simp)
  · have hQ := hP rfl
    clear hP
    go_enter Tryz.func40, Tryz.ntmps40
    go_wp2_with (first
      | (go_at_call 60; refine hH.mono ?_; rintro e w1 ⟨rfl, hF1⟩; have hA1 := hA.far hF1; have F1 := hF.trans hF1; have e0 := hA1.c0; have e1 := hA1.c1; have e2 := hA1.c2; have e3 := hA1.c3; have e4 := hA1.c4; have e5 := hA1.c5; have e6 := hA1.c6; have e7 := hA1.c7; have e8 := hA1.c8; have e9 := hA1.c9; have e10 := hA1.c10; have e11 := hA1.c11; have e12 := hA1.c12; have e13 := hA1.c13)
      | (go_at_call 61; refine (hB _).mono ?_; rintro e w2 ⟨rfl, hF2⟩; have hA2 := hA1.far hF2; have F2 := F1.trans hF2; have f0 := hA2.c0; have f1 := hA2.c1; have f2 := hA2.c2; have f3 := hA2.c3; have f4 := hA2.c4; have f5 := hA2.c5; have f6 := hA2.c6; have f7 := hA2.c7; have f8 := hA2.c8; have f9 := hA2.c9; have f10 := hA2.c10; have f11 := hA2.c11; have f12 := hA2.c12; have f13 := hA2.c13)
      | (go_at_call 62; refine (hQ _ F2).mono ?_; rintro e w3 ⟨rfl, hF3⟩; have F3 := F2.trans hF3))
    all_goals go_ret
    all_goals (refine ⟨?_, by first | exact F3 | exact F2⟩; have hb := hb.out; rw [hb]; simp_all)
end Go.Proofs.YtlncokkpdkddlaaGreat
