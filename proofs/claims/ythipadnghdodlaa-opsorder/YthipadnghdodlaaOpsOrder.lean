/- For any three operations OpsOrder answers true: which comes ahead, and which are the same, is what the document says, and the order is one. No condition. -/
import Derived.Test.YthipadnghdodlaaOSame
import Derived.Test.YthipadnghdodlaaORSame
import Derived.Test.YthipadnghdodlaaOArg
import Derived.WalkKit
import Derived.WalkSpells
import Derived.WalkLawsBesides
import Derived.ProofKit
import Derived.OpenShut
import Derived.ShutString
import Derived.ChangeOld
import Derived.Below
import Derived.ChangeMaps5
import Derived.Lib.SmallJoins
namespace Go.Proofs.Ythipadnghdodlaa
open Go.RowKit
open Go.Sort (grow)

theorem lo_irrefl (o : OpIn) : lo o o = false := by simp [lo, dl]
theorem lo_asymm {o p : OpIn} (h : lo o p = true) : lo p o = false := by
  simp only [lo, dl, Bool.or_eq_true, decide_eq_true_eq, Bool.and_eq_true, beq_iff_eq] at h
  simp only [lo, dl, Bool.or_eq_false_iff, decide_eq_false_iff_not, Bool.and_eq_false_iff, beq_eq_false_iff_ne]
  omega
theorem lo_trans {o p r : OpIn} (h : lo o p = true) (k : lo p r = true) : lo o r = true := by
  simp only [lo, dl, Bool.or_eq_true, decide_eq_true_eq, Bool.and_eq_true, beq_iff_eq] at h k ⊢
  omega
theorem lo_total {o p : OpIn} (h : o.time ≠ p.time ∨ o.id0 ≠ p.id0 ∨ o.id1 ≠ p.id1) (k : lo o p = false) : lo p o = true := by
  simp only [lo, dl, Bool.or_eq_false_iff, decide_eq_false_iff_not, Bool.and_eq_false_iff, beq_eq_false_iff_ne] at k
  simp only [lo, dl, Bool.or_eq_true, decide_eq_true_eq, Bool.and_eq_true, beq_iff_eq]
  omega
theorem so_refl (o : OpIn) (V : List Dt) : so o o V V = true := by simp [so]

/-- Three operations in three new blocks. -/
theorem three_ops (w : World) (o p r : OpIn) (u v x : Value) :
    OpAt (((w.alloc (.cells (o.cells u) 27)).alloc (.cells (p.cells v) 27)).alloc (.cells (r.cells x) 27)) w.heap.size o u ∧ OpAt (((w.alloc (.cells (o.cells u) 27)).alloc (.cells (p.cells v) 27)).alloc (.cells (r.cells x) 27)) (w.heap.size + 1) p v ∧ OpAt (((w.alloc (.cells (o.cells u) 27)).alloc (.cells (p.cells v) 27)).alloc (.cells (r.cells x) 27)) (w.heap.size + 1 + 1) r x ∧ Far w (((w.alloc (.cells (o.cells u) 27)).alloc (.cells (p.cells v) 27)).alloc (.cells (r.cells x) 27)) := by
  obtain ⟨h1, h2, h3⟩ := two_ops w o p u v
  refine ⟨h1.far ((Far.refl _).alloc _), h2.far ((Far.refl _).alloc _), ?_, h3.alloc _⟩
  have h := opAt_alloc ((w.alloc (.cells (o.cells u) 27)).alloc (.cells (p.cells v) 27)) r x 27
  rw [World.size_alloc, World.size_alloc] at h
  exact h

set_option maxRecDepth 100000 in
set_option maxHeartbeats 8000000 in
theorem order_walk (o : OpIn) (a : Option Addr) (n c : Nat) (V : List Dt) (p : OpIn) (a' : Option Addr) (n' c' : Nat) (U : List Dt) (r : OpIn) (v : Value) (w : World) (hs : PS w a n c V) (hs' : PS w a' n' c' U) :
    Calls Try.prog 4 #[ov o (.slice a n c), ov p (.slice a' n' c'), ov r v] w fun e w' => e = .returned (.bool true) ∧ Below w.heap.size w w' := by
  have mixed := mixed
  obtain ⟨hA, hB, hC, hF⟩ := three_ops w o p r (.slice a n c) (.slice a' n' c') v
  go_enter Try.func4, Try.ntmps4
  go_upto_region 4 with (first
    | (go_at_call 9; refine (awake_any _).mono ?_; rintro e w1 ⟨rfl, b1⟩))
  have hA1 := hA.below b1
  have hB1 := hB.below b1
  have hC1 := hC.below b1
  have B1 := below2 hF.below b1
  have hs1 := hs.below B1
  have hs1' := hs'.below B1
  have hm := hs1.cap
  have hm2 := hs1.max
  have hm' := hs1'.cap
  have hm2' := hs1'.max
  unfold maxLen at hm2 hm2'
  clear hA hB hC hF b1 hs hs'
  generalize w.heap.size + 1 + 1 = q3 at hC1 ⊢
  generalize w.heap.size + 1 = q2 at hB1 ⊢
  generalize w.heap.size = q1 at hA1 ⊢
  have hLab := fun W => oless_any o p (.slice a n c) (.slice a' n' c') W
  have hLbc := fun W => oless_any p r (.slice a' n' c') v W
  have e0 := hA1.c0
  have e1 := hA1.c1
  have e2 := hA1.c2
  have e3 := hA1.c3
  have e4 := hA1.c4
  have e5 := hA1.c5
  have e6 := hA1.c6
  have e7 := hA1.c7
  have e8 := hA1.c8
  have e9 := hA1.c9
  have e10 := hA1.c10
  have e11 := hA1.c11
  have e12 := hA1.c12
  have e13 := hA1.c13
  have f0 := hB1.c0
  have f1 := hB1.c1
  have f2 := hB1.c2
  have f3 := hB1.c3
  have f4 := hB1.c4
  have f5 := hB1.c5
  have f6 := hB1.c6
  have f7 := hB1.c7
  have f8 := hB1.c8
  have f9 := hB1.c9
  have f10 := hB1.c10
  have f11 := hB1.c11
  have f12 := hB1.c12
  have f13 := hB1.c13
  go_upto_region 5 with (first
    | (go_at_call 12; refine (hLab _).mono ?_; rintro e w2 ⟨rfl, F2⟩))
  have hA2 := hA1.far F2
  have hB2 := hB1.far F2
  have hC2 := hC1.far F2
  clear e0 e1 e2 e3 e4 e5 e6 e7 e8 e9 e10 e11 e12 e13 f0 f1 f2 f3 f4 f5 f6 f7 f8 f9 f10 f11 f12 f13 hA1 hB1 hC1
  have e0 := hB2.c0
  have e1 := hB2.c1
  have e2 := hB2.c2
  have e3 := hB2.c3
  have e4 := hB2.c4
  have e5 := hB2.c5
  have e6 := hB2.c6
  have e7 := hB2.c7
  have e8 := hB2.c8
  have e9 := hB2.c9
  have e10 := hB2.c10
  have e11 := hB2.c11
  have e12 := hB2.c12
  have e13 := hB2.c13
  have f0 := hC2.c0
  have f1 := hC2.c1
  have f2 := hC2.c2
  have f3 := hC2.c3
  have f4 := hC2.c4
  have f5 := hC2.c5
  have f6 := hC2.c6
  have f7 := hC2.c7
  have f8 := hC2.c8
  have f9 := hC2.c9
  have f10 := hC2.c10
  have f11 := hC2.c11
  have f12 := hC2.c12
  have f13 := hC2.c13
  go_upto_region 6 with (first
    | (go_at_call 12; refine (hLbc _).mono ?_; rintro e w3 ⟨rfl, F3⟩))
  have F13 := F2.trans F3
  have hA3 := hA2.far F3
  have hB3 := hB2.far F3
  have hC3 := hC2.far F3
  have hs3 := hs1.far F13
  have hs3' := hs1'.far F13
  have B3 := below2 B1 F13.below
  clear e0 e1 e2 e3 e4 e5 e6 e7 e8 e9 e10 e11 e12 e13 f0 f1 f2 f3 f4 f5 f6 f7 f8 f9 f10 f11 f12 f13 hA2 hB2 hC2 hLab hLbc F2 F3 F13 B1 hs1 hs1'
  have E0 := fun m os => (hA3.grow m os).c0
  have E1 := fun m os => (hA3.grow m os).c1
  have E2 := fun m os => (hA3.grow m os).c2
  have E3 := fun m os => (hA3.grow m os).c3
  have E4 := fun m os => (hA3.grow m os).c4
  have E5 := fun m os => (hA3.grow m os).c5
  have E6 := fun m os => (hA3.grow m os).c6
  have E7 := fun m os => (hA3.grow m os).c7
  have E8 := fun m os => (hA3.grow m os).c8
  have E9 := fun m os => (hA3.grow m os).c9
  have E10 := fun m os => (hA3.grow m os).c10
  have E11 := fun m os => (hA3.grow m os).c11
  have E12 := fun m os => (hA3.grow m os).c12
  have E13 := fun m os => (hA3.grow m os).c13
  have G0 := fun m os => (hB3.grow m os).c0
  have G1 := fun m os => (hB3.grow m os).c1
  have G2 := fun m os => (hB3.grow m os).c2
  have G3 := fun m os => (hB3.grow m os).c3
  have G4 := fun m os => (hB3.grow m os).c4
  have G5 := fun m os => (hB3.grow m os).c5
  have G6 := fun m os => (hB3.grow m os).c6
  have G7 := fun m os => (hB3.grow m os).c7
  have G8 := fun m os => (hB3.grow m os).c8
  have G9 := fun m os => (hB3.grow m os).c9
  have G10 := fun m os => (hB3.grow m os).c10
  have G11 := fun m os => (hB3.grow m os).c11
  have G12 := fun m os => (hB3.grow m os).c12
  have G13 := fun m os => (hB3.grow m os).c13
  have hR := fun m os => tells_q (rless7_any o p (.slice a n c) (.slice a' n' c') (grow (w3.drewN m) os))
  have hS := fun m os => tells_q (osame_any o p a a' n c n' c' V U _ (hs3.far ⟨m, os, rfl⟩) (hs3'.far ⟨m, os, rfl⟩) (by omega) (by omega))
  have hT := fun m os => tells_q (rsame7_any o p a a' n c n' c' V U _ (hs3.far ⟨m, os, rfl⟩) (hs3'.far ⟨m, os, rfl⟩) (by omega) (by omega))
  have hSS := fun m os => tells_q (osame_any o o a a n c n c V V _ (hs3.far ⟨m, os, rfl⟩) (hs3.far ⟨m, os, rfl⟩) (by omega) (by omega))
  rw [so_refl] at hSS
  generalize so o p V U = s at hS hT
  obtain ⟨x, hx⟩ : ∃ x, lo o p = x := ⟨_, rfl⟩
  obtain ⟨x', hx'⟩ : ∃ x, lo p o = x := ⟨_, rfl⟩
  obtain ⟨y, hy⟩ : ∃ x, lo p r = x := ⟨_, rfl⟩
  rw [hx] at hR
  have hLba := fun W => oless_any p o (.slice a' n' c') (.slice a n c) W
  rw [hx'] at hLba
  have hLac := fun W => oless_any o r (.slice a n c) v W
  have has : x = true → x' = false := fun h => by rw [← hx']; exact lo_asymm (by rw [hx]; exact h)
  have ht : x = true → y = true → lo o r = true := fun h k => lo_trans (by rw [hx]; exact h) (by rw [hy]; exact k)
  have hto : (o.time ≠ p.time ∨ o.id0 ≠ p.id0 ∨ o.id1 ≠ p.id1) → x = false → x' = true := fun h k => by rw [← hx']; exact lo_total h (by rw [hx]; exact k)
  have hee : o.time = p.time → o.id0 = p.id0 → o.id1 = p.id1 → x = false ∧ x' = false := fun h1 h2 h3 => by rw [← hx, ← hx']; simp [lo, dl, h1, h2, h3]
  rw [hx, hy]
  clear hx hx' hy
  have b1 : (s == s) = true := by simp
  have b2 : (x == x) = true := by simp
  generalize Value.agg #[.int .i64 o.id0, .int .i64 o.id1, .int .i64 o.time, .slice a n c, .int .i64 o.kind, .int .i64 o.bl0, .int .i64 o.bl1, .int .i64 o.at0, .int .i64 o.at1, .int .i64 o.side, .int .i64 o.char, .int .i64 o.pa0, .int .i64 o.pa1, .string o.key] = X1
  generalize Value.agg #[.int .i64 p.id0, .int .i64 p.id1, .int .i64 p.time, .slice a' n' c', .int .i64 p.kind, .int .i64 p.bl0, .int .i64 p.bl1, .int .i64 p.at0, .int .i64 p.at1, .int .i64 p.side, .int .i64 p.char, .int .i64 p.pa0, .int .i64 p.pa1, .string p.key] = X2
  generalize Value.agg #[.int .i64 r.id0, .int .i64 r.id1, .int .i64 r.time, v, .int .i64 r.kind, .int .i64 r.bl0, .int .i64 r.bl1, .int .i64 r.at0, .int .i64 r.at1, .int .i64 r.side, .int .i64 r.char, .int .i64 r.pa0, .int .i64 r.pa1, .string r.key] = X3
  generalize ov o (.slice a n c) = X4
  generalize ov p (.slice a' n' c') = X5
  generalize ov r v = X6
  go_cut [10] from 21 to 39 (fun s wc => s = .bool true ∧ Far w3 wc)
  case first =>
    refine wp_region_quiet_grown mixed (by kernel_rfl) ?_
    repeat (go_big_quiet_step ((first | (go_at_call 13; exact hR _ _) | (go_at_call 15; exact hT _ _) | (go_at_call_of 14 (p.kind); exact hS _ _) | (go_at_call 14; exact hSS _ _))))
    refine wpQuiet_nil ?_
    intro _ hw'
    obtain ⟨⟨nq, osq⟩, hw''⟩ := hw'
    subst hw''
    simp only []
    go_wp2_with fail
    go_meet
    exact ⟨rfl, (Far.refl w3).more nq osq⟩
  obtain ⟨rfl, F4⟩ := hcut
  have hA4 := hA3.far F4
  have hB4 := hB3.far F4
  have hC4 := hC3.far F4
  have B4 := below2 B3 F4.below
  clear F4
  generalize wc = w4 at hA4 hB4 hC4 B4 ⊢
  clear hA3 hB3 hC3 B3 E0 E1 E2 E3 E4 E5 E6 E7 E8 E9 E10 E11 E12 E13 G0 G1 G2 G3 G4 G5 G6 G7 G8 G9 G10 G11 G12 G13 hR hS hT hSS hs3 hs3' hm hm2 hm' hm2' b1 b2
  go_upto_region 7 with fail
  have E0 := fun m os => (hA4.grow m os).c0
  have E1 := fun m os => (hA4.grow m os).c1
  have E2 := fun m os => (hA4.grow m os).c2
  have E3 := fun m os => (hA4.grow m os).c3
  have E4 := fun m os => (hA4.grow m os).c4
  have E5 := fun m os => (hA4.grow m os).c5
  have E6 := fun m os => (hA4.grow m os).c6
  have E7 := fun m os => (hA4.grow m os).c7
  have E8 := fun m os => (hA4.grow m os).c8
  have E9 := fun m os => (hA4.grow m os).c9
  have E10 := fun m os => (hA4.grow m os).c10
  have E11 := fun m os => (hA4.grow m os).c11
  have E12 := fun m os => (hA4.grow m os).c12
  have E13 := fun m os => (hA4.grow m os).c13
  have G0 := fun m os => (hB4.grow m os).c0
  have G1 := fun m os => (hB4.grow m os).c1
  have G2 := fun m os => (hB4.grow m os).c2
  have G3 := fun m os => (hB4.grow m os).c3
  have G4 := fun m os => (hB4.grow m os).c4
  have G5 := fun m os => (hB4.grow m os).c5
  have G6 := fun m os => (hB4.grow m os).c6
  have G7 := fun m os => (hB4.grow m os).c7
  have G8 := fun m os => (hB4.grow m os).c8
  have G9 := fun m os => (hB4.grow m os).c9
  have G10 := fun m os => (hB4.grow m os).c10
  have G11 := fun m os => (hB4.grow m os).c11
  have G12 := fun m os => (hB4.grow m os).c12
  have G13 := fun m os => (hB4.grow m os).c13
  have hLba := fun m os => tells_q (hLba (grow (w4.drewN m) os))
  go_cut [11] from 40 to 67 (fun s wc => s = .bool true ∧ Far w4 wc)
  case first =>
    by_cases h1 : o.time = p.time
    · have g1 : (o.time != p.time) = false := by simp [h1]
      by_cases h2 : o.id0 = p.id0
      · have g2 : (o.id0 == p.id0) = true := by simp [h2]
        by_cases h3 : o.id1 = p.id1
        · have g3 : (o.id1 == p.id1) = true := by simp [h3]
          obtain ⟨rfl, rfl⟩ := hee h1 h2 h3
          clear hto hee has ht h1 h2 h3
          as_aux_lemma =>
            refine wp_region_quiet_grown mixed (by kernel_rfl) ?_
            repeat (go_big_quiet_step ((first | (go_at_call 12; exact hLba _ _))))
            refine wpQuiet_nil ?_
            intro _ hw'
            obtain ⟨⟨nq, osq⟩, hw''⟩ := hw'
            subst hw''
            simp only []
            go_wp2_with fail
            go_meet
            exact ⟨rfl, (Far.refl w4).more nq osq⟩
        · have g3 : (o.id1 == p.id1) = false := by simp [h3]
          cases x
          · obtain rfl := hto (.inr (.inr h3)) rfl
            clear hto hee has ht
            try clear h1
            try clear h2
            try clear h3
            as_aux_lemma =>
              refine wp_region_quiet_grown mixed (by kernel_rfl) ?_
              repeat (go_big_quiet_step ((first | (go_at_call 12; exact hLba _ _))))
              refine wpQuiet_nil ?_
              intro _ hw'
              obtain ⟨⟨nq, osq⟩, hw''⟩ := hw'
              subst hw''
              simp only []
              go_wp2_with fail
              go_meet
              exact ⟨rfl, (Far.refl w4).more nq osq⟩
          · obtain rfl := has rfl
            clear hto hee has ht
            try clear h1
            try clear h2
            try clear h3
            as_aux_lemma =>
              refine wp_region_quiet_grown mixed (by kernel_rfl) ?_
              repeat (go_big_quiet_step ((first | (go_at_call 12; exact hLba _ _))))
              refine wpQuiet_nil ?_
              intro _ hw'
              obtain ⟨⟨nq, osq⟩, hw''⟩ := hw'
              subst hw''
              simp only []
              go_wp2_with fail
              go_meet
              exact ⟨rfl, (Far.refl w4).more nq osq⟩
      · have g2 : (o.id0 == p.id0) = false := by simp [h2]
        cases x
        · obtain rfl := hto (.inr (.inl h2)) rfl
          clear hto hee has ht
          try clear h1
          try clear h2
          try clear h3
          as_aux_lemma =>
            refine wp_region_quiet_grown mixed (by kernel_rfl) ?_
            repeat (go_big_quiet_step ((first | (go_at_call 12; exact hLba _ _))))
            refine wpQuiet_nil ?_
            intro _ hw'
            obtain ⟨⟨nq, osq⟩, hw''⟩ := hw'
            subst hw''
            simp only []
            go_wp2_with fail
            go_meet
            exact ⟨rfl, (Far.refl w4).more nq osq⟩
        · obtain rfl := has rfl
          clear hto hee has ht
          try clear h1
          try clear h2
          try clear h3
          as_aux_lemma =>
            refine wp_region_quiet_grown mixed (by kernel_rfl) ?_
            repeat (go_big_quiet_step ((first | (go_at_call 12; exact hLba _ _))))
            refine wpQuiet_nil ?_
            intro _ hw'
            obtain ⟨⟨nq, osq⟩, hw''⟩ := hw'
            subst hw''
            simp only []
            go_wp2_with fail
            go_meet
            exact ⟨rfl, (Far.refl w4).more nq osq⟩
    · have g1 : (o.time != p.time) = true := by simp [h1]
      cases x
      · obtain rfl := hto (.inl h1) rfl
        clear hto hee has ht
        try clear h1
        try clear h2
        try clear h3
        as_aux_lemma =>
          refine wp_region_quiet_grown mixed (by kernel_rfl) ?_
          repeat (go_big_quiet_step ((first | (go_at_call 12; exact hLba _ _))))
          refine wpQuiet_nil ?_
          intro _ hw'
          obtain ⟨⟨nq, osq⟩, hw''⟩ := hw'
          subst hw''
          simp only []
          go_wp2_with fail
          go_meet
          exact ⟨rfl, (Far.refl w4).more nq osq⟩
      · obtain rfl := has rfl
        clear hto hee has ht
        try clear h1
        try clear h2
        try clear h3
        as_aux_lemma =>
          refine wp_region_quiet_grown mixed (by kernel_rfl) ?_
          repeat (go_big_quiet_step ((first | (go_at_call 12; exact hLba _ _))))
          refine wpQuiet_nil ?_
          intro _ hw'
          obtain ⟨⟨nq, osq⟩, hw''⟩ := hw'
          subst hw''
          simp only []
          go_wp2_with fail
          go_meet
          exact ⟨rfl, (Far.refl w4).more nq osq⟩
  case rest =>
    obtain ⟨rfl, F5⟩ := hcut
    have hA5 := hA4.far F5
    have hC5 := hC4.far F5
    have B5 := below2 B4 F5.below
    clear hA4 hB4 hC4 B4 F5 E0 E1 E2 E3 E4 E5 E6 E7 E8 E9 E10 E11 E12 E13 G0 G1 G2 G3 G4 G5 G6 G7 G8 G9 G10 G11 G12 G13 hLba hto hee has
    have e0 := hA5.c0
    have e1 := hA5.c1
    have e2 := hA5.c2
    have e3 := hA5.c3
    have e4 := hA5.c4
    have e5 := hA5.c5
    have e6 := hA5.c6
    have e7 := hA5.c7
    have e8 := hA5.c8
    have e9 := hA5.c9
    have e10 := hA5.c10
    have e11 := hA5.c11
    have e12 := hA5.c12
    have e13 := hA5.c13
    have g0 := hC5.c0
    have g1 := hC5.c1
    have g2 := hC5.c2
    have g3 := hC5.c3
    have g4 := hC5.c4
    have g5 := hC5.c5
    have g6 := hC5.c6
    have g7 := hC5.c7
    have g8 := hC5.c8
    have g9 := hC5.c9
    have g10 := hC5.c10
    have g11 := hC5.c11
    have g12 := hC5.c12
    have g13 := hC5.c13
    cases x
    · go_wp2
      go_ret
      exact ⟨rfl, B5⟩
    · cases y
      · go_wp2
        go_ret
        exact ⟨rfl, B5⟩
      · have ht := ht rfl rfl
        rw [ht] at hLac
        go_wp2_with (first
          | (go_at_call 12; refine (hLac _).mono ?_; rintro e w6 ⟨rfl, F6⟩))
        go_ret
        exact ⟨rfl, below2 B5 F6.below⟩

namespace opsOrder
open Go.ChangeShapes Go.WideShapes Go.ChangeAt Go.RowKit
open Go.ChangeMaps (open_string shut_string)
set_option linter.unusedVariables false

theorem own : ownKnob Try.prog.godebug = none := by kernel_rfl
theorem laidOut : laidOutB Try.prog = true := by kernel_rfl

set_option maxRecDepth 100000 in
theorem lifted (os : Os) (started : os.Started) (H : Type) (enc : TypeId × Value → H) :
    ReturnsInHanded {} Try.checked os 4 .any (Rows.opsOrderSpec.pre6 enc Try.prog Try.f4 Rows.opsOrderRow.domain false) (Rows.opsOrderSpec.post enc Try.prog Try.f4 false true false false) := by
  refine returnsInHanded_of_change (C := Try.checked) own started (by kernel_rfl) Try.func4
    (ChangeSpec.witness6 (enc := enc) (C := Try.checked) false ⟨#[], #[.agg #[.int .i64 0, .int .i64 0, .int .i64 0, .slice none 0 0, .int .i64 0, .int .i64 0, .int .i64 0, .int .i64 0, .int .i64 0, .int .i64 0, .int .i64 0, .int .i64 0, .int .i64 0, .string ByteArray.empty], .agg #[.int .i64 0, .int .i64 0, .int .i64 0, .slice none 0 0, .int .i64 0, .int .i64 0, .int .i64 0, .int .i64 0, .int .i64 0, .int .i64 0, .int .i64 0, .int .i64 0, .int .i64 0, .string ByteArray.empty], .agg #[.int .i64 0, .int .i64 0, .int .i64 0, .slice none 0 0, .int .i64 0, .int .i64 0, .int .i64 0, .int .i64 0, .int .i64 0, .int .i64 0, .int .i64 0, .int .i64 0, .int .i64 0, .string ByteArray.empty]], []⟩ 8 (by kernel_rfl) (by kernel_rfl) (by kernel_rfl) (by kernel_rfl)) ?_
  intro W base args ds gs before hval0 hW hcnd _
  have hval : ∀ (j : Nat) t v, Try.f4.params[j]? = some t → args[j]? = some v → Value.okWide Try.prog W .any base t v := hval0
  have hW' := hW
  obtain ⟨p, q, hA0, hV, rfl, hfz, hnd⟩ := hW
  have hA : DataW.TrodAll enc Try.prog W 0 (fun _ => true) true Try.f4.params.toList args.toList ds p := hA0
  rw [Try.params4] at hA hval
  obtain ⟨v0, vs0, d0, ds0, p0, q0, hargs, rfl, rfl, h0, r0⟩ := trodAll_cons hA
  obtain ⟨v1, vs1, d1, ds1, p1, q1, rfl, rfl, rfl, h1, r1⟩ := trodAll_cons r0
  obtain ⟨v2, vs2, d2, ds2, p2, q2, rfl, rfl, rfl, h2, r2⟩ := trodAll_cons r1
  obtain ⟨rfl, rfl, rfl⟩ := trodAll_nil r2
  obtain rfl : args = #[v0, v1, v2] := by cases args; simp_all
  obtain ⟨rfl, rfl⟩ := trodVars_none hV
  have k0 := h0
  have k1 := h1
  have k2 := h2
  have lt0 : ∀ x ∈ p0, x.block < W.heap.size := by obtain ⟨m, hm⟩ := k0; exact DataW.trod_lt m _ _ _ hm
  have lt1 : ∀ x ∈ p1, x.block < W.heap.size := by obtain ⟨m, hm⟩ := k1; exact DataW.trod_lt m _ _ _ hm
  have lt2 : ∀ x ∈ p2, x.block < W.heap.size := by obtain ⟨m, hm⟩ := k2; exact DataW.trod_lt m _ _ _ hm
  obtain ⟨o0, a0, n0, c0, z0, rfl, f0, w0, u0⟩ := open_op7 (hval 0 27 v0 rfl rfl) h0
  obtain ⟨o1, a1, n1, c1, z1, rfl, f1, w1, u1⟩ := open_op7 (hval 1 27 v1 rfl rfl) h1
  obtain ⟨o2, a2, n2, c2, z2, rfl, f2, w2, u2⟩ := open_op7 (hval 2 27 v2 rfl rfl) h2
  clear hA0 hval0
  refine (order_walk o0 a0 n0 c0 z0 o1 a1 n1 c1 z1 o2 (.slice a2 n2 c2) W w0 w1).mono fun e W' ⟨he, bel⟩ => ?_
  subst he
  exact ⟨_, rfl, _, _, _, [], _, [], hW', trodAll_mk1 (shut_bool Try.underlying4 _),
    (trodAll_cons_mk (Below.trod laidOut (by kernel_rfl) (of_decide_eq_true (by kernel_rfl)) k0 bel lt0) (trodAll_cons_mk (Below.trod laidOut (by kernel_rfl) (of_decide_eq_true (by kernel_rfl)) k1 bel lt1) (trodAll_cons_mk (Below.trod laidOut (by kernel_rfl) (of_decide_eq_true (by kernel_rfl)) k2 bel lt2) trodAll_mk0))), rfl, bel.frame _, fun h => by cases h⟩

theorem over : Rows.opsOrderRow.holds Try.pinned (OpenSpec.ofChange Rows.opsOrderSpec) :=
  OpenClaim.holds_of_wide 4 Try.f4 rfl rfl rfl rfl rfl rfl rfl ⟨rfl, rfl, rfl, rfl, rfl⟩ rfl rfl rfl rfl rfl (by kernel_rfl) Try.func4 (by kernel_rfl)
    (of_decide_eq_true (by kernel_rfl)) (by unfold Func.isWrapper; first | (rw [if_pos (by decide +kernel)]; kernel_rfl) | (rw [if_neg (by decide +kernel)]; exact ⟨rfl, rfl⟩))
    (fun os started H enc _ => lifted os started H enc)

end opsOrder

/-- The statement. -/
theorem opsOrder_holds : Rows.OpsOrderSaid := opsOrder.over
#print axioms opsOrder_holds
end Go.Proofs.Ythipadnghdodlaa
