/- For any operation OpsLean answers true: one that may be leans on all that it names. No condition. -/
import Derived.Test.YthipadnghdodlaaOLess
import Derived.Test.YthipadnghdodlaaOArg
import Derived.WalkKit
import Derived.WalkSpells
import Derived.WalkLawsBesides
import Derived.ProofKit
import Derived.OpenShut
import Derived.ShutString
import Derived.ChangeOld
import Derived.Below
import Derived.ChangeMaps5
import Derived.Lib.SmallJoins
namespace Go.Proofs.Ythipadnghdodlaa
open Go.RowKit
open Go.Sort (grow)

/-- The making of a block at the root or in the trash. -/
def mdb (o : OpIn) : Bool := (o.id1 == 1) && (o.kind == 3) && ((o.bl0 == o.id0) && (o.bl1 == o.id1)) && (((o.pa0 == 0) && (o.pa1 == -1)) || ((o.pa0 == 0) && (o.pa1 == -2)))

theorem hasv_nil (d : Dt) : hasv [] d = false := by
  unfold hasv
  cases h : mayd d with
  | false => rfl
  | true =>
    have := (mayd_iff d).1 h
    have h2 : ¬ d.2 ≤ gt [] d.1 := by show ¬ d.2 ≤ 0; omega
    simp [h2]

/-- Without its Deps an operation that may be may be where it makes a block at the root or in the trash. -/
theorem lean_none {o : OpIn} {V : List Dt} (h : chk o V = true) : chk o [] = mdb o := by
  simp only [chk, Bool.and_eq_true] at h
  obtain ⟨⟨hh, hb⟩, hp⟩ := h
  have hh2 := hh
  simp only [headb, Bool.and_eq_true, decide_eq_true_eq] at hh2
  obtain ⟨⟨⟨⟨i1, i2⟩, i3⟩, i4⟩, i5⟩ := hh2
  have hhd : headb o [] = (o.id1 == 1) := by
    have h1 : vmb [] = true := by decide
    have h2 : (decide (gt [] o.id0 = o.id1 - 1)) = (o.id1 == 1) := by
      rw [Bool.eq_iff_iff, decide_eq_true_eq, beq_iff_eq]
      show (0 : Int) = o.id1 - 1 ↔ _
      omega
    unfold headb
    rw [i1, h1, h2, decide_eq_true i2, decide_eq_true i3]
    simp
  have hm := (mayd_iff o.id).1 i1
  unfold chk
  rw [hhd, hb]
  by_cases k1 : o.kind = 1
  · rw [partb_ins _ k1]; simp [hasv_nil, mdb, k1]
  by_cases k2 : o.kind = 2
  · rw [partb_del _ k2]; simp [hasv_nil, mdb, k2]
  by_cases k3 : o.kind = 3
  · rw [partb_mov V k3] at hp
    simp only [Bool.and_eq_true] at hp
    obtain ⟨⟨p1, p2⟩, p3⟩ := hp
    simp only [parb, Bool.and_eq_true] at p2
    rw [partb_mov _ k3]
    simp only [parb, hasv_nil, p3, p2.2, mdb, k3]
    simp [Bool.and_assoc]
  · rw [partb_no _ k1 k2 k3]; simp [mdb, k3]

theorem lean_time {o : OpIn} (V : List Dt) : chk { o with time := 0 } V = false := by simp [chk, headb]

theorem lean_seq {o : OpIn} {V : List Dt} (h : chk o V = true) : chk { o with id1 := o.id1 + 1 } V = false := by
  have hg : gt V o.id0 = o.id1 - 1 := by simp only [chk, headb, Bool.and_eq_true, decide_eq_true_eq] at h; exact h.1.1.2
  have : headb { o with id1 := o.id1 + 1 } V = false := by
    simp only [headb, Bool.and_eq_false_iff, decide_eq_false_iff_not]
    right
    show ¬ gt V o.id0 = o.id1 + 1 - 1
    omega
  simp [chk, this]

theorem lean_id {o : OpIn} {V : List Dt} (h : chk o V = true) : 1 ≤ o.id1 ∧ o.id1 ≤ 1073741824 := by
  simp only [chk, headb, Bool.and_eq_true, decide_eq_true_eq] at h
  have := (mayd_iff o.id).1 h.1.1.1.1.1.1
  exact ⟨this.2.2.1, this.2.2.2⟩

theorem OpAt.only {w w' : World} {q g : Nat} {o : OpIn} {v : Value} (h : OpAt w q o v) (hO : Only g w w') (hne : q ≠ g) : OpAt w' q o v := by
  have k : ∀ i, w'.cell? ⟨q, i, none⟩ = w.cell? ⟨q, i, none⟩ := fun i => hO.cell (p := ⟨q, i, none⟩) hne
  exact ⟨(k _).trans h.c0, (k _).trans h.c1, (k _).trans h.c2, (k _).trans h.c3, (k _).trans h.c4, (k _).trans h.c5, (k _).trans h.c6, (k _).trans h.c7, (k _).trans h.c8, (k _).trans h.c9, (k _).trans h.c10, (k _).trans h.c11, (k _).trans h.c12, (k _).trans h.c13⟩

theorem PS.apart {w0 w w' : World} {a : Option Addr} {n c g : Nat} {V : List Dt} (h : PS w a n c V) (h0 : PS w0 a n c V) (hg : w0.heap.size ≤ g) (hO : Only g w w') : PS w' a n c V :=
  ⟨h.len, h.cap, h.max, h.nil, fun ad ha j u hj => by
    have hl := cell_in (h0.cells ad ha j u hj)
    rw [hO.cell (p := ad.add j) (by omega)]
    exact h.cells ad ha j u hj⟩

set_option maxRecDepth 100000 in
set_option maxHeartbeats 8000000 in
theorem lean_walk (o : OpIn) (a : Option Addr) (n c : Nat) (V : List Dt) (w : World) (hs : PS w a n c V) (hk : o.key.size ≤ maxLen) :
    Calls Try.prog 8 #[ov o (.slice a n c)] w fun e w' => e = .returned (.bool true) ∧ Below w.heap.size w w' := by
  have mixed := mixed
  have hA := opAt_alloc w o (.slice a n c) 27
  have b0 : Below w.heap.size w (w.alloc (.cells (o.cells (.slice a n c)) 27)) := (Below.refl _ w).alloc (Nat.le_refl _) _
  go_enter Try.func8, Try.ntmps8
  go_upto_region 4 with (first
    | (go_at_call 9; refine (awake_any _).mono ?_; rintro e w1 ⟨rfl, b1⟩))
  have hA1 := hA.below b1
  have B1 := below2 b0 b1
  have hs1 := hs.below B1
  clear hA b0 b1 hs
  have hlen := hs1.max
  unfold maxLen at hlen
  have hcap := hs1.cap
  generalize w.heap.size = q at hA1 ⊢
  have e0 := hA1.c0
  have e1 := hA1.c1
  have e2 := hA1.c2
  have e3 := hA1.c3
  have e4 := hA1.c4
  have e5 := hA1.c5
  have e6 := hA1.c6
  have e7 := hA1.c7
  have e8 := hA1.c8
  have e9 := hA1.c9
  have e10 := hA1.c10
  have e11 := hA1.c11
  have e12 := hA1.c12
  have e13 := hA1.c13
  by_cases hbig : 200 < n
  · go_wp2_with fail
    go_ret
    exact ⟨rfl, B1⟩
  have cO : ∀ W, PS W a n c V → Tells 10 #[.agg #[.int .i64 o.id0, .int .i64 o.id1, .int .i64 o.time, .slice a n c, .int .i64 o.kind, .int .i64 o.bl0, .int .i64 o.bl1, .int .i64 o.at0, .int .i64 o.at1, .int .i64 o.side, .int .i64 o.char, .int .i64 o.pa0, .int .i64 o.pa1, .string o.key]] W (.bool (chk o V)) := fun W h => check_any o a n c V W h (by omega) hk
  have cO1 := cO w1 hs1
  cases hr : chk o V with
  | false =>
    rw [hr] at cO1
    go_wp2_with (first
      | (go_at_call 10; refine cO1.mono ?_; rintro e w2 ⟨rfl, F2⟩))
    go_ret
    exact ⟨rfl, below2 B1 F2.below⟩
  | true =>
    rw [hr] at cO1
    have cP : ∀ W, Tells 10 #[.agg #[.int .i64 o.id0, .int .i64 o.id1, .int .i64 o.time, .slice none 0 0, .int .i64 o.kind, .int .i64 o.bl0, .int .i64 o.bl1, .int .i64 o.at0, .int .i64 o.at1, .int .i64 o.side, .int .i64 o.char, .int .i64 o.pa0, .int .i64 o.pa1, .string o.key]] W (.bool (mdb o)) := fun W => by have := check_any o none 0 0 [] W (PS.none W) (by omega) hk; rw [lean_none hr] at this; exact this
    have cQ : ∀ W, PS W a n c V → Tells 10 #[.agg #[.int .i64 o.id0, .int .i64 o.id1, .int .i64 0, .slice a n c, .int .i64 o.kind, .int .i64 o.bl0, .int .i64 o.bl1, .int .i64 o.at0, .int .i64 o.at1, .int .i64 o.side, .int .i64 o.char, .int .i64 o.pa0, .int .i64 o.pa1, .string o.key]] W (.bool false) := fun W h => by have := check_any { o with time := 0 } a n c V W h (by omega) hk; rw [lean_time V] at this; exact this
    have cS : ∀ W, PS W a n c V → Tells 10 #[.agg #[.int .i64 o.id0, .int .i64 (o.id1 + 1), .int .i64 o.time, .slice a n c, .int .i64 o.kind, .int .i64 o.bl0, .int .i64 o.bl1, .int .i64 o.at0, .int .i64 o.at1, .int .i64 o.side, .int .i64 o.char, .int .i64 o.pa0, .int .i64 o.pa1, .string o.key]] W (.bool false) := fun W h => by have := check_any { o with id1 := o.id1 + 1 } a n c V W h (by omega) hk; rw [lean_seq hr] at this; exact this
    obtain ⟨hi1, hi2⟩ := lean_id hr
    have hmd : Hid (mdb o = ((o.id1 == 1) && (o.kind == 3) && ((o.bl0 == o.id0) && (o.bl1 == o.id1)) && (((o.pa0 == 0) && (o.pa1 == -1)) || ((o.pa0 == 0) && (o.pa1 == -2))))) := hid rfl
    generalize mdb o = md at cP hmd
    clear hr cO hk
    go_upto_region 8 with (first
      | (go_at_call 10; refine cO1.mono ?_; rintro e w2 ⟨rfl, F2⟩; have hA2 := hA1.far F2; have f0 := hA2.c0; have f1 := hA2.c1; have f2 := hA2.c2; have f3 := hA2.c3; have f4 := hA2.c4; have f5 := hA2.c5; have f6 := hA2.c6; have f7 := hA2.c7; have f8 := hA2.c8; have f9 := hA2.c9; have f10 := hA2.c10; have f11 := hA2.c11; have f12 := hA2.c12; have f13 := hA2.c13))
    have hP3 : Blk (w2.alloc (.cells #[.int .i64 o.id0, .int .i64 o.id1, .int .i64 o.time, .slice none 0 0, .int .i64 o.kind, .int .i64 o.bl0, .int .i64 o.bl1, .int .i64 o.at0, .int .i64 o.at1, .int .i64 o.side, .int .i64 o.char, .int .i64 o.pa0, .int .i64 o.pa1, .string o.key] 27)) w2.heap.size (o.cells (.slice none 0 0)) := blk_alloc w2 _
    have F3 := (Far.refl w2).alloc (.cells #[.int .i64 o.id0, .int .i64 o.id1, .int .i64 o.time, .slice none 0 0, .int .i64 o.kind, .int .i64 o.bl0, .int .i64 o.bl1, .int .i64 o.at0, .int .i64 o.at1, .int .i64 o.side, .int .i64 o.char, .int .i64 o.pa0, .int .i64 o.pa1, .string o.key] 27)
    have hA3 := hA2.far F3
    have hs2 := hs1.far F2
    have hs3 := hs2.far F3
    have B2s := (below2 B1 F2.below).size
    have B3 := below2 (below2 B1 F2.below) F3.below
    have hqp : q ≠ w2.heap.size := Nat.ne_of_lt hA2.lt
    have hap := Nat.le_refl w2.heap.size
    generalize w2.alloc (.cells #[.int .i64 o.id0, .int .i64 o.id1, .int .i64 o.time, .slice none 0 0, .int .i64 o.kind, .int .i64 o.bl0, .int .i64 o.bl1, .int .i64 o.at0, .int .i64 o.at1, .int .i64 o.side, .int .i64 o.char, .int .i64 o.pa0, .int .i64 o.pa1, .string o.key] 27) = w3 at hP3 hA3 hs3 B3 ⊢
    generalize hqq : w2.heap.size = qp at hP3 hqp hap B2s ⊢
    clear e0 e1 e2 e3 e4 e5 e6 e7 e8 e9 e10 e11 e12 e13 f0 f1 f2 f3 f4 f5 f6 f7 f8 f9 f10 f11 f12 f13 hA1 hA2 F2 F3 B1 cO1
    have E0 := fun m os => (hA3.grow m os).c0
    have E1 := fun m os => (hA3.grow m os).c1
    have E4 := fun m os => (hA3.grow m os).c4
    have E5 := fun m os => (hA3.grow m os).c5
    have E6 := fun m os => (hA3.grow m os).c6
    have E11 := fun m os => (hA3.grow m os).c11
    have E12 := fun m os => (hA3.grow m os).c12
    have hR := fun m os => tells_q (root_any (grow (w3.drewN m) os))
    have hT := fun m os => tells_q (trash_any (grow (w3.drewN m) os))
    go_cut [5] from 22 to 49 (fun s wc => s = .bool md ∧ Far w3 wc)
    case first =>
      by_cases h : o.id1 = 1
      · have g0 : (o.id1 == 1) = true := by simp [h]
        clear h
        by_cases h : o.kind = 3
        · have g1 : (o.kind == 3) = true := by simp [h]
          clear h
          by_cases h : o.bl0 = o.id0
          · have g2 : (o.bl0 == o.id0) = true := by simp [h]
            clear h
            by_cases h : o.bl1 = o.id1
            · have g3 : (o.bl1 == o.id1) = true := by simp [h]
              clear h
              by_cases h : o.pa0 = 0
              · have g4 : (o.pa0 == 0) = true := by simp [h]
                clear h
                by_cases h : o.pa1 = -1
                · have g5 : (o.pa1 == -1) = true := by simp [h]
                  clear h
                  refine wp_region_quiet_grown mixed (by kernel_rfl) ?_
                  repeat (go_big_quiet_step ((first | (go_at_call 24; exact hR _ _) | (go_at_call 25; exact hT _ _))))
                  refine wpQuiet_nil ?_
                  intro _ hw'
                  obtain ⟨⟨nq, osq⟩, hw''⟩ := hw'
                  subst hw''
                  simp only []
                  go_wp2_with fail
                  go_meet
                  refine ⟨?_, (Far.refl w3).more nq osq⟩
                  rw [hmd.out]
                  simp [g0, g1, g2, g3, g4, g5]
                · have g5 : (o.pa1 == -1) = false := by simp [h]
                  clear h
                  by_cases h : o.pa1 = -2
                  · have g6 : (o.pa1 == -2) = true := by simp [h]
                    clear h
                    refine wp_region_quiet_grown mixed (by kernel_rfl) ?_
                    repeat (go_big_quiet_step ((first | (go_at_call 24; exact hR _ _) | (go_at_call 25; exact hT _ _))))
                    refine wpQuiet_nil ?_
                    intro _ hw'
                    obtain ⟨⟨nq, osq⟩, hw''⟩ := hw'
                    subst hw''
                    simp only []
                    go_wp2_with fail
                    go_meet
                    refine ⟨?_, (Far.refl w3).more nq osq⟩
                    rw [hmd.out]
                    simp [g0, g1, g2, g3, g4, g5, g6]
                  · have g6 : (o.pa1 == -2) = false := by simp [h]
                    clear h
                    refine wp_region_quiet_grown mixed (by kernel_rfl) ?_
                    repeat (go_big_quiet_step ((first | (go_at_call 24; exact hR _ _) | (go_at_call 25; exact hT _ _))))
                    refine wpQuiet_nil ?_
                    intro _ hw'
                    obtain ⟨⟨nq, osq⟩, hw''⟩ := hw'
                    subst hw''
                    simp only []
                    go_wp2_with fail
                    go_meet
                    refine ⟨?_, (Far.refl w3).more nq osq⟩
                    rw [hmd.out]
                    simp [g0, g1, g2, g3, g4, g5, g6]
              · have g4 : (o.pa0 == 0) = false := by simp [h]
                clear h
                refine wp_region_quiet_grown mixed (by kernel_rfl) ?_
                repeat (go_big_quiet_step ((first | (go_at_call 24; exact hR _ _) | (go_at_call 25; exact hT _ _))))
                refine wpQuiet_nil ?_
                intro _ hw'
                obtain ⟨⟨nq, osq⟩, hw''⟩ := hw'
                subst hw''
                simp only []
                go_wp2_with fail
                go_meet
                refine ⟨?_, (Far.refl w3).more nq osq⟩
                rw [hmd.out]
                simp [g0, g1, g2, g3, g4]
            · have g3 : (o.bl1 == o.id1) = false := by simp [h]
              clear h
              refine wp_region_quiet_grown mixed (by kernel_rfl) ?_
              repeat (go_big_quiet_step ((first | (go_at_call 24; exact hR _ _) | (go_at_call 25; exact hT _ _))))
              refine wpQuiet_nil ?_
              intro _ hw'
              obtain ⟨⟨nq, osq⟩, hw''⟩ := hw'
              subst hw''
              simp only []
              go_wp2_with fail
              go_meet
              refine ⟨?_, (Far.refl w3).more nq osq⟩
              rw [hmd.out]
              simp [g0, g1, g2, g3]
          · have g2 : (o.bl0 == o.id0) = false := by simp [h]
            clear h
            refine wp_region_quiet_grown mixed (by kernel_rfl) ?_
            repeat (go_big_quiet_step ((first | (go_at_call 24; exact hR _ _) | (go_at_call 25; exact hT _ _))))
            refine wpQuiet_nil ?_
            intro _ hw'
            obtain ⟨⟨nq, osq⟩, hw''⟩ := hw'
            subst hw''
            simp only []
            go_wp2_with fail
            go_meet
            refine ⟨?_, (Far.refl w3).more nq osq⟩
            rw [hmd.out]
            simp [g0, g1, g2]
        · have g1 : (o.kind == 3) = false := by simp [h]
          clear h
          refine wp_region_quiet_grown mixed (by kernel_rfl) ?_
          repeat (go_big_quiet_step ((first | (go_at_call 24; exact hR _ _) | (go_at_call 25; exact hT _ _))))
          refine wpQuiet_nil ?_
          intro _ hw'
          obtain ⟨⟨nq, osq⟩, hw''⟩ := hw'
          subst hw''
          simp only []
          go_wp2_with fail
          go_meet
          refine ⟨?_, (Far.refl w3).more nq osq⟩
          rw [hmd.out]
          simp [g0, g1]
      · have g0 : (o.id1 == 1) = false := by simp [h]
        clear h
        refine wp_region_quiet_grown mixed (by kernel_rfl) ?_
        repeat (go_big_quiet_step ((first | (go_at_call 24; exact hR _ _) | (go_at_call 25; exact hT _ _))))
        refine wpQuiet_nil ?_
        intro _ hw'
        obtain ⟨⟨nq, osq⟩, hw''⟩ := hw'
        subst hw''
        simp only []
        go_wp2_with fail
        go_meet
        refine ⟨?_, (Far.refl w3).more nq osq⟩
        rw [hmd.out]
        simp [g0]
    case rest =>
      obtain ⟨rfl, F4⟩ := hcut
      have hA4 := hA3.far F4
      have hP4 := hP3.same (F4.below.block qp hP3.lt)
      have hs4 := hs3.far F4
      have B4 := below2 B3 F4.below
      clear hR hT E0 E1 E4 E5 E6 E11 E12 hA3 hP3 hs3 B3 F4 hmd
      have e13 := hA4.c13
      have g13 := hP4.opAt.c13
      have y13 := hP4.frozen 13
      go_upto_region 10 with fail
      have hO := only1 wc qp 13 (.string o.key)
      have hP5 : Blk (wc.setCell ⟨qp, 13, none⟩ (.string o.key)) qp (o.cells (.slice none 0 0)) := by have := hP4.set 13 (.string o.key); simpa [OpIn.cells] using this
      have hA5 : OpAt (wc.setCell ⟨qp, 13, none⟩ (.string o.key)) q o (.slice a n c) := hA4.only hO hqp
      have hs5 : PS (wc.setCell ⟨qp, 13, none⟩ (.string o.key)) a n c V := hs4.apart hs2 (by omega) hO
      have B5 : Below w.heap.size w (wc.setCell ⟨qp, 13, none⟩ (.string o.key)) := B4.trans (hO.below (by have := B2s; omega))
      generalize wc.setCell ⟨qp, 13, none⟩ (.string o.key) = w5 at hP5 hA5 hs5 B5 ⊢
      clear hO hA4 hP4 hs4 B4 e13 g13 y13
      have hlt := hA5.lt
      have hlt2 : q < w5.heap.size + 1 := by omega
      have hne1 : q ≠ w5.heap.size := by omega
      have hne2 : q ≠ w5.heap.size + 1 := by omega
      have e0 := hA5.c0
      have e1 := hA5.c1
      have e2 := hA5.c2
      have e3 := hA5.c3
      have e4 := hA5.c4
      have e5 := hA5.c5
      have e6 := hA5.c6
      have e7 := hA5.c7
      have e8 := hA5.c8
      have e9 := hA5.c9
      have e10 := hA5.c10
      have e11 := hA5.c11
      have e12 := hA5.c12
      have e13 := hA5.c13
      go_upto_region 14 with fail
      have F6 := ((Far.refl w5).alloc (.cells #[.int .i64 o.id0, .int .i64 o.id1, .int .i64 0, .slice a n c, .int .i64 o.kind, .int .i64 o.bl0, .int .i64 o.bl1, .int .i64 o.at0, .int .i64 o.at1, .int .i64 o.side, .int .i64 o.char, .int .i64 o.pa0, .int .i64 o.pa1, .string o.key] 27)).alloc (.cells #[.int .i64 o.id0, .int .i64 (o.id1 + 1), .int .i64 o.time, .slice a n c, .int .i64 o.kind, .int .i64 o.bl0, .int .i64 o.bl1, .int .i64 o.at0, .int .i64 o.at1, .int .i64 o.side, .int .i64 o.char, .int .i64 o.pa0, .int .i64 o.pa1, .string o.key] 27)
      have hQ : OpAt ((w5.alloc (.cells #[.int .i64 o.id0, .int .i64 o.id1, .int .i64 0, .slice a n c, .int .i64 o.kind, .int .i64 o.bl0, .int .i64 o.bl1, .int .i64 o.at0, .int .i64 o.at1, .int .i64 o.side, .int .i64 o.char, .int .i64 o.pa0, .int .i64 o.pa1, .string o.key] 27)).alloc (.cells #[.int .i64 o.id0, .int .i64 (o.id1 + 1), .int .i64 o.time, .slice a n c, .int .i64 o.kind, .int .i64 o.bl0, .int .i64 o.bl1, .int .i64 o.at0, .int .i64 o.at1, .int .i64 o.side, .int .i64 o.char, .int .i64 o.pa0, .int .i64 o.pa1, .string o.key] 27)) w5.heap.size { o with time := 0 } (.slice a n c) := (two_ops w5 { o with time := 0 } { o with id1 := o.id1 + 1 } (.slice a n c) (.slice a n c)).1
      have hS : OpAt ((w5.alloc (.cells #[.int .i64 o.id0, .int .i64 o.id1, .int .i64 0, .slice a n c, .int .i64 o.kind, .int .i64 o.bl0, .int .i64 o.bl1, .int .i64 o.at0, .int .i64 o.at1, .int .i64 o.side, .int .i64 o.char, .int .i64 o.pa0, .int .i64 o.pa1, .string o.key] 27)).alloc (.cells #[.int .i64 o.id0, .int .i64 (o.id1 + 1), .int .i64 o.time, .slice a n c, .int .i64 o.kind, .int .i64 o.bl0, .int .i64 o.bl1, .int .i64 o.at0, .int .i64 o.at1, .int .i64 o.side, .int .i64 o.char, .int .i64 o.pa0, .int .i64 o.pa1, .string o.key] 27)) (w5.heap.size + 1) { o with id1 := o.id1 + 1 } (.slice a n c) := (two_ops w5 { o with time := 0 } { o with id1 := o.id1 + 1 } (.slice a n c) (.slice a n c)).2.1
      have hP6 := hP5.opAt.far F6
      have hs6 := hs5.far F6
      have B6 := below2 B5 F6.below
      clear e0 e1 e2 e3 e4 e5 e6 e7 e8 e9 e10 e11 e12 e13 hlt hlt2 hne1 hne2 hA5 hP5 hs5 B5
      generalize (w5.alloc (.cells #[.int .i64 o.id0, .int .i64 o.id1, .int .i64 0, .slice a n c, .int .i64 o.kind, .int .i64 o.bl0, .int .i64 o.bl1, .int .i64 o.at0, .int .i64 o.at1, .int .i64 o.side, .int .i64 o.char, .int .i64 o.pa0, .int .i64 o.pa1, .string o.key] 27)).alloc (.cells #[.int .i64 o.id0, .int .i64 (o.id1 + 1), .int .i64 o.time, .slice a n c, .int .i64 o.kind, .int .i64 o.bl0, .int .i64 o.bl1, .int .i64 o.at0, .int .i64 o.at1, .int .i64 o.side, .int .i64 o.char, .int .i64 o.pa0, .int .i64 o.pa1, .string o.key] 27) = w6 at hQ hS hP6 hs6 B6 F6 ⊢
      clear F6
      generalize w5.heap.size + 1 = qs at hS ⊢
      generalize w5.heap.size = qt at hQ ⊢
      have e0 := hP6.c0
      have e1 := hP6.c1
      have e2 := hP6.c2
      have e3 := hP6.c3
      have e4 := hP6.c4
      have e5 := hP6.c5
      have e6 := hP6.c6
      have e7 := hP6.c7
      have e8 := hP6.c8
      have e9 := hP6.c9
      have e10 := hP6.c10
      have e11 := hP6.c11
      have e12 := hP6.c12
      have e13 := hP6.c13
      have bm : (md == md) = true := by simp
      go_wp2_with (first
        | (go_at_call 10; have hq := F8; refine (cS _ (hs6.far (F7.trans F8))).mono ?_; rintro e w9 ⟨rfl, F9⟩)
        | (go_at_call 10; have hq := F7; refine (cQ _ (hs6.far F7)).mono ?_; rintro e w8 ⟨rfl, F8⟩; have hS8 := hS.far (F7.trans F8); have v0 : w8.cell? ⟨qs, 0, none⟩ = some (.int .i64 o.id0) := hS8.c0; have v1 : w8.cell? ⟨qs, 1, none⟩ = some (.int .i64 (o.id1 + 1)) := hS8.c1; have v2 : w8.cell? ⟨qs, 2, none⟩ = some (.int .i64 o.time) := hS8.c2; have v3 : w8.cell? ⟨qs, 3, none⟩ = some (.slice a n c) := hS8.c3; have v4 : w8.cell? ⟨qs, 4, none⟩ = some (.int .i64 o.kind) := hS8.c4; have v5 : w8.cell? ⟨qs, 5, none⟩ = some (.int .i64 o.bl0) := hS8.c5; have v6 : w8.cell? ⟨qs, 6, none⟩ = some (.int .i64 o.bl1) := hS8.c6; have v7 : w8.cell? ⟨qs, 7, none⟩ = some (.int .i64 o.at0) := hS8.c7; have v8 : w8.cell? ⟨qs, 8, none⟩ = some (.int .i64 o.at1) := hS8.c8; have v9 : w8.cell? ⟨qs, 9, none⟩ = some (.int .i64 o.side) := hS8.c9; have v10 : w8.cell? ⟨qs, 10, none⟩ = some (.int .i64 o.char) := hS8.c10; have v11 : w8.cell? ⟨qs, 11, none⟩ = some (.int .i64 o.pa0) := hS8.c11; have v12 : w8.cell? ⟨qs, 12, none⟩ = some (.int .i64 o.pa1) := hS8.c12; have v13 : w8.cell? ⟨qs, 13, none⟩ = some (.string o.key) := hS8.c13)
        | (go_at_call 10; refine (cP _).mono ?_; rintro e w7 ⟨rfl, F7⟩; have hQ7 := hQ.far F7; have u0 : w7.cell? ⟨qt, 0, none⟩ = some (.int .i64 o.id0) := hQ7.c0; have u1 : w7.cell? ⟨qt, 1, none⟩ = some (.int .i64 o.id1) := hQ7.c1; have u2 : w7.cell? ⟨qt, 2, none⟩ = some (.int .i64 0) := hQ7.c2; have u3 : w7.cell? ⟨qt, 3, none⟩ = some (.slice a n c) := hQ7.c3; have u4 : w7.cell? ⟨qt, 4, none⟩ = some (.int .i64 o.kind) := hQ7.c4; have u5 : w7.cell? ⟨qt, 5, none⟩ = some (.int .i64 o.bl0) := hQ7.c5; have u6 : w7.cell? ⟨qt, 6, none⟩ = some (.int .i64 o.bl1) := hQ7.c6; have u7 : w7.cell? ⟨qt, 7, none⟩ = some (.int .i64 o.at0) := hQ7.c7; have u8 : w7.cell? ⟨qt, 8, none⟩ = some (.int .i64 o.at1) := hQ7.c8; have u9 : w7.cell? ⟨qt, 9, none⟩ = some (.int .i64 o.side) := hQ7.c9; have u10 : w7.cell? ⟨qt, 10, none⟩ = some (.int .i64 o.char) := hQ7.c10; have u11 : w7.cell? ⟨qt, 11, none⟩ = some (.int .i64 o.pa0) := hQ7.c11; have u12 : w7.cell? ⟨qt, 12, none⟩ = some (.int .i64 o.pa1) := hQ7.c12; have u13 : w7.cell? ⟨qt, 13, none⟩ = some (.string o.key) := hQ7.c13))
      go_ret
      exact ⟨rfl, below2 B6 ((F7.trans F8).trans F9).below⟩

namespace opsLean
open Go.ChangeShapes Go.WideShapes Go.ChangeAt Go.RowKit
open Go.ChangeMaps (open_string shut_string)
set_option linter.unusedVariables false

theorem own : ownKnob Try.prog.godebug = none := by kernel_rfl
theorem laidOut : laidOutB Try.prog = true := by kernel_rfl

set_option maxRecDepth 100000 in
theorem lifted (os : Os) (started : os.Started) (H : Type) (enc : TypeId × Value → H) :
    ReturnsInHanded {} Try.checked os 8 .any (Rows.opsLeanSpec.pre6 enc Try.prog Try.f8 Rows.opsLeanRow.domain false) (Rows.opsLeanSpec.post enc Try.prog Try.f8 false true false false) := by
  refine returnsInHanded_of_change (C := Try.checked) own started (by kernel_rfl) Try.func8
    (ChangeSpec.witness6 (enc := enc) (C := Try.checked) false ⟨#[], #[.agg #[.int .i64 0, .int .i64 0, .int .i64 0, .slice none 0 0, .int .i64 0, .int .i64 0, .int .i64 0, .int .i64 0, .int .i64 0, .int .i64 0, .int .i64 0, .int .i64 0, .int .i64 0, .string ByteArray.empty]], []⟩ 8 (by kernel_rfl) (by kernel_rfl) (by kernel_rfl) (by kernel_rfl)) ?_
  intro W base args ds gs before hval0 hW hcnd _
  have hval : ∀ (j : Nat) t v, Try.f8.params[j]? = some t → args[j]? = some v → Value.okWide Try.prog W .any base t v := hval0
  have hW' := hW
  obtain ⟨p, q, hA0, hV, rfl, hfz, hnd⟩ := hW
  have hA : DataW.TrodAll enc Try.prog W 0 (fun _ => true) true Try.f8.params.toList args.toList ds p := hA0
  rw [Try.params8] at hA hval
  obtain ⟨v0, vs0, d0, ds0, p0, q0, hargs, rfl, rfl, h0, r0⟩ := trodAll_cons hA
  obtain ⟨rfl, rfl, rfl⟩ := trodAll_nil r0
  obtain rfl : args = #[v0] := by cases args; simp_all
  obtain ⟨rfl, rfl⟩ := trodVars_none hV
  have k0 := h0
  have lt0 : ∀ x ∈ p0, x.block < W.heap.size := by obtain ⟨m, hm⟩ := k0; exact DataW.trod_lt m _ _ _ hm
  obtain ⟨o0, a0, n0, c0, z0, rfl, f0, w0, u0⟩ := open_op7 (hval 0 27 v0 rfl rfl) h0
  clear hA0 hval0
  refine (lean_walk o0 a0 n0 c0 z0 W w0 f0.key).mono fun e W' ⟨he, bel⟩ => ?_
  subst he
  exact ⟨_, rfl, _, _, _, [], _, [], hW', trodAll_mk1 (shut_bool Try.underlying4 _),
    (trodAll_cons_mk (Below.trod laidOut (by kernel_rfl) (of_decide_eq_true (by kernel_rfl)) k0 bel lt0) trodAll_mk0), rfl, bel.frame _, fun h => by cases h⟩

theorem over : Rows.opsLeanRow.holds Try.pinned (OpenSpec.ofChange Rows.opsLeanSpec) :=
  OpenClaim.holds_of_wide 8 Try.f8 rfl rfl rfl rfl rfl rfl rfl ⟨rfl, rfl, rfl, rfl, rfl⟩ rfl rfl rfl rfl rfl (by kernel_rfl) Try.func8 (by kernel_rfl)
    (of_decide_eq_true (by kernel_rfl)) (by unfold Func.isWrapper; first | (rw [if_pos (by decide +kernel)]; kernel_rfl) | (rw [if_neg (by decide +kernel)]; exact ⟨rfl, rfl⟩))
    (fun os started H enc _ => lifted os started H enc)

end opsLean

/-- The statement. -/
theorem opsLean_holds : Rows.OpsLeanSaid := opsLean.over
#print axioms opsLean_holds
end Go.Proofs.Ythipadnghdodlaa
