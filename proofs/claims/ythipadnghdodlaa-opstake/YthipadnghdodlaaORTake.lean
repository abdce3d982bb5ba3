/- What the reference's Take does. -/
import Derived.Test.YthipadnghdodlaaOTake
import Derived.Test.YthipadnghdodlaaORCheck
import Derived.Deep.RegionWith
import Derived.Deep.CutBlock
import Derived.Deep.CutRange
namespace Go.Proofs.Ythipadnghdodlaa
section
open Go.RowKit
open Go.Sort (grow)

theorem wflr_any {w : World} {b z : Nat} {L : List Int} {e : Int} (h : Rdr w b z L e) (x : Int) (hx : (x == 0) = false) :
    Calls Try.prog 57 #[.pointer (some ⟨b, 0, none⟩), .int .i64 x] w fun r w' => r = .returned (.tuple #[]) ∧ Rdr w' b z (flr x (L, e)).1 (flr x (L, e)).2 ∧ Only b w w' := by
  by_cases he : e = 0
  · subst he
    exact wrfail_any h x hx
  · obtain ⟨a, len, cap, hr, h2⟩ := id h
    refine (wfail_dead w b _ e x hr (by simpa using he)).mono ?_
    rintro r w' ⟨rfl, rfl⟩
    refine ⟨rfl, ?_, Only.refl _ _⟩
    have : flr x (L, e) = (L, e) := by simp [flr, he]
    rw [this]; exact h

theorem Rdr.err {w : World} {b z : Nat} {L : List Int} {e : Int} (h : Rdr w b z L e) : w.cell? ⟨b, 1, none⟩ = some (.int .i64 e) := by
  obtain ⟨a, len, cap, hr, _⟩ := h
  exact hr.c1

theorem PS.apart' {w w' : World} {a : Option Addr} {n c : Nat} {V : List Dt} (h : PS w a n c V) (he : ∀ ad, 0 < n → a = some ad → ad.block < w.heap.size → w'.heap[ad.block]? = w.heap[ad.block]?) : PS w' a n c V :=
  ⟨h.len, h.cap, h.max, h.nil, fun ad ha j u hj => by
    have hc := h.cells ad ha j u hj
    have hb : (ad.add j).block = ad.block := by unfold Addr.add; split <;> rfl
    have hl := cell_in hc
    have hp : 0 < n := by
      rw [← h.len]
      rcases Nat.eq_zero_or_pos V.length with h0 | h0
      · rw [List.eq_nil_of_length_eq_zero h0] at hj; simp [flat] at hj
      · exact h0
    rw [World.cell?_of_block (w := w) (by rw [hb]; exact he ad hp ha (by rw [hb] at hl; exact hl))]
    exact hc⟩

/-- The reference's Take under way: the reader, the empty operation in the result's block. -/
structure Sr (w wi : World) (b z : Nat) (L : List Int) (e : Int) : Prop where
  r : Rdr wi b z L e
  k : Blk wi w.heap.size (zer.cells (.slice none 0 0))
  g : w.grownBy wi (some b)
  hb : b < w.heap.size
  hz : z < w.heap.size

/-- With the operation in its block. -/
structure So (w wi : World) (b z q : Nat) (o : OpIn) (a : Option Addr) (n c : Nat) (V : List Dt) (L : List Int) (e : Int) : Prop where
  s : Sr w wi b z L e
  o : Blk wi q (o.cells (.slice a n c))
  qlt : w.heap.size < q
  p : PS wi a n c V
  new : ∀ ad, a = some ad → w.heap.size < ad.block ∧ (0 < n → ad.block ≠ q)

section
variable {w wi w' : World} {b z n c q : Nat} {o o' : OpIn} {a : Option Addr} {V : List Dt} {L L' : List Int} {e e' : Int}

theorem Sr.call (h : Sr w wi b z L e) (R : Rdr w' b z L' e') (G : wi.grownBy w' (some b)) : Sr w w' b z L' e' := by
  have hb := h.hb
  exact ⟨R, h.k.same (G.block _ h.k.lt (by simp; omega)), gb_trans h.g G, h.hb, h.hz⟩

theorem Sr.below (h : Sr w wi b z L e) (hB : Below wi.heap.size wi w') : Sr w w' b z L e := h.call (h.r.below hB) (below_grownS hB)

theorem Sr.zlt (h : Sr w wi b z L e) : z < wi.heap.size := Nat.lt_of_lt_of_le h.hz h.g.size

theorem So.call (h : So w wi b z q o a n c V L e) (R : Rdr w' b z L' e') (G : wi.grownBy w' (some b)) : So w w' b z q o a n c V L' e' := by
  have hb := h.s.hb
  have hq := h.qlt
  refine ⟨h.s.call R G, h.o.same (G.block _ h.o.lt (by simp; omega)), h.qlt, h.p.other fun ad ha hl => ?_, h.new⟩
  have := h.new ad ha
  exact G.block _ hl (by simp; omega)

theorem So.far (h : So w wi b z q o a n c V L e) (hF : Far wi w') : So w w' b z q o a n c V L e := h.call (h.s.r.below hF.below) (below_grownS hF.below)

theorem So.upd (h : So w wi b z q o a n c V L e) (hO : Only q wi w') (hB : Blk w' q (o'.cells (.slice a n c))) : So w w' b z q o' a n c V L e := by
  have hb := h.s.hb
  have hz := h.s.hz
  have hq := h.qlt
  refine ⟨⟨h.s.r.only hO (by omega) (by omega), h.s.k.same (hO.block _ (by omega)), ⟨hO.os.trans h.s.g.os, hO.tape.trans h.s.g.tape, hO.output.trans h.s.g.output, by rw [hO.size]; exact h.s.g.size, fun k hk hne => ?_⟩, h.s.hb, h.s.hz⟩, hB, h.qlt, h.p.apart' fun ad hp ha _ => ?_, h.new⟩
  · rw [hO.block k (by omega)]
    exact h.s.g.block k hk hne
  · exact hO.block _ ((h.new ad ha).2 hp)

theorem Sr.only (h : Sr w wi b z L e) (hO : Only q wi w') (hq : w.heap.size < q) : Sr w w' b z L e := by
  have hb := h.hb
  have hz := h.hz
  refine ⟨h.r.only hO (by omega) (by omega), h.k.same (hO.block _ (by omega)), ⟨hO.os.trans h.g.os, hO.tape.trans h.g.tape, hO.output.trans h.g.output, by rw [hO.size]; exact h.g.size, fun k hk hne => ?_⟩, h.hb, h.hz⟩
  rw [hO.block k (by omega)]
  exact h.g.block k hk hne

theorem So.out (h : So w wi b z q o a n c V L e) {a2 : Option Addr} {n2 c2 : Nat} {V2 : List Dt} (hO : Only w.heap.size wi w') (hP : PS wi a2 n2 c2 V2) (hN : ∀ ad, a2 = some ad → w.heap.size < ad.block) : PS w' a2 n2 c2 V2 ∧ Rdr w' b z L e ∧ w.grownBy w' (some b) ∧ (∀ ad, a2 = some ad → w.heap.size ≤ ad.block) := by
  have hb := h.s.hb
  have hz := h.s.hz
  refine ⟨hP.other fun ad ha _ => ?_, h.s.r.only hO (by omega) (by omega), ⟨hO.os.trans h.s.g.os, hO.tape.trans h.s.g.tape, hO.output.trans h.s.g.output, by rw [hO.size]; exact h.s.g.size, fun k hk hne => ?_⟩, fun ad ha => ?_⟩
  · have := hN ad ha
    exact hO.block _ (by omega)
  · rw [hO.block k (by omega)]
    exact h.s.g.block k hk hne
  · have := hN ad ha
    omega

theorem sr_start (h : Rdr w b z L e) (hz : z < w.heap.size) : Sr w (w.alloc (.cells #[.int .i64 0, .int .i64 0, .int .i64 0, .slice none 0 0, .int .i64 0, .int .i64 0, .int .i64 0, .int .i64 0, .int .i64 0, .int .i64 0, .int .i64 0, .int .i64 0, .int .i64 0, .string { data := #[] }] 27)) b z L e := by
  have hB : Below w.heap.size w (w.alloc (.cells #[.int .i64 0, .int .i64 0, .int .i64 0, .slice none 0 0, .int .i64 0, .int .i64 0, .int .i64 0, .int .i64 0, .int .i64 0, .int .i64 0, .int .i64 0, .int .i64 0, .int .i64 0, .string { data := #[] }] 27)) := (Below.refl _ w).alloc (Nat.le_refl _) _
  exact ⟨h.below hB, blk_alloc w #[.int .i64 0, .int .i64 0, .int .i64 0, .slice none 0 0, .int .i64 0, .int .i64 0, .int .i64 0, .int .i64 0, .int .i64 0, .int .i64 0, .int .i64 0, .int .i64 0, .int .i64 0, .string { data := #[] }], ⟨hB.os, hB.tape, hB.output, hB.size, fun k hk _ => hB.block k hk⟩, h.lt, hz⟩
end
end

section
open Go.RowKit
open Go.Sort (grow)

set_option maxRecDepth 100000 in
set_option maxHeartbeats 8000000 in
theorem rtake7_ins (w : World) (b z : Nat) (L : List Int) (e : Int) (h : Rdr w b z L e) (hz : z < w.heap.size) (hl : L.length ≤ 1000000) (k0 : Int) (hk0 : (hd7 L e).1.2.2.2 = k0) (hk : k0 = 1) :
    Calls Try.prog 21 #[.pointer (some ⟨b, 0, none⟩)] w (Takes7 w b z (otk L e)) := by
  have S0 := sr_start h hz
  have hl1 := tk_le L e
  have c1 := fun W (hW : Rdr W b z L e) hz => rtake_any W b z L e hW hz
  unfold hd7 at hk0
  unfold otk hd7
  generalize tk L e = s at c1 hl1 hk0 ⊢
  obtain ⟨⟨x, y⟩, L1, e1⟩ := s
  simp only at c1 hl1 hk0 ⊢
  have hl2 := dec_le L1 e1
  have c2 := fun W (hW : Rdr W b z L1 e1) => wint_any W b z L1 e1 hW
  generalize dec L1 e1 = s at c2 hl2 hk0 ⊢
  obtain ⟨i2, L2, e2⟩ := s
  simp only at c2 hl2 hk0 ⊢
  have hl3 := cnt_le L2 e2 2
  have hl3' := vtk_le L2 e2
  have hB2 := fun W (hW : Rdr W b z L2 e2) => vtk_len L2 e2 hW.bts.1
  have c3 := fun W (hW : Rdr W b z L2 e2) hz => rvtake_any W b z L2 e2 hW hz (by omega)
  generalize vtk L2 e2 = s at c3 hB2 hl3' hk0 ⊢
  obtain ⟨V, L3, e3⟩ := s
  unfold TakesV at c3
  simp only at c3 hB2 hl3' hk0 ⊢
  have hl4 := dec_le L3 e3
  have c4 := fun W (hW : Rdr W b z L3 e3) => wint_any W b z L3 e3 hW
  generalize dec L3 e3 = s at c4 hl4 hk0 ⊢
  obtain ⟨i4, L4, e4⟩ := s
  simp only at c4 hl4 hk0 ⊢
  generalize dint i2 = t at c2 ⊢
  generalize hk4 : dint i4 = k at c4 hk0 ⊢
  clear hl3 hk4
  subst hk0
  rw [kfl_yes (by simp [hk])]
  have k1 : (k == 1) = true := by simp [hk]
  have k2 : (k == 2) = false := by simp [hk]
  have k3 : (k == 3) = false := by simp [hk]
  have m1 : (k != 1) = false := by simp [hk]
  have m2 : (k != 2) = true := by simp [hk]
  have m3 : (k != 3) = true := by simp [hk]
  have hpr := fun L6 e6 => prt_ins (k := k) (L := L6) (e := e6) hk
  have hl6 := tk_le L4 e4
  have c6 := fun W (hW : Rdr W b z L4 e4) hz => rtake_any W b z L4 e4 hW hz
  unfold tl7
  simp only
  generalize tk L4 e4 = s at c6 hl6 ⊢
  obtain ⟨⟨gx, gy⟩, L6, e6⟩ := s
  simp only at c6 hl6 ⊢
  have hl7 := prt_key k L6 e6
  have hpr := hpr L6 e6
  obtain ⟨⟨pp, L7, e7⟩, hpe⟩ : ∃ s, prt k L6 e6 = s := ⟨_, rfl⟩
  rw [hpe] at hl7 hpr ⊢
  simp only at hl7 hpr ⊢
  have hkey : (mko (x, y) t k (gx, gy) pp).key.size ≤ maxLen := by show pp.2.2.2.2.size ≤ maxLen; unfold maxLen; omega
  have c8 := fun W a c (hV : V.length ≤ 1000000) (hP : PS W a V.length c V) => rcheck_any (mko (x, y) t k (gx, gy) pp) a V.length c V W hP (by omega) hkey
  have hb7 := hid (fun h => ofin_ok (o := mko (x, y) t k (gx, gy) pp) (V := V) h L7)
  have hb8 := hid (fun (h : e7 ≠ 0) => ofin_err (mko (x, y) t k (gx, gy) pp) V L7 h)
  have hb9 := hid (fun h => ofin_no (o := mko (x, y) t k (gx, gy) pp) (V := V) h (L7, e7))
  have hVl : Hid (∀ (W : World), Rdr W b z L2 e2 → V.length ≤ 1000000) := hid fun W hW => by have := hB2 W hW; omega
  have HPR := hid hpr
  clear hkey hl6 hl7 hl hl1 hl2 hl3' hl4 hB2 hpe hpr hk
  go_enter Try.func21, Try.ntmps21
  go_upto_region 1 with fail
  generalize w.alloc (.cells #[.int .i64 0, .int .i64 0, .int .i64 0, .slice none 0 0, .int .i64 0, .int .i64 0, .int .i64 0, .int .i64 0, .int .i64 0, .int .i64 0, .int .i64 0, .int .i64 0, .int .i64 0, .string { data := #[] }] 27) = w0 at S0 ⊢
  generalize hq2 : w.heap.size = q2
  clear h
  go_upto_region 2 with (first
    | (go_at_call 54; refine (c1 _ S0.r S0.zlt).mono ?_; rintro r w1 ⟨rfl, R1, G1⟩; have S1 := S0.call R1 G1))
  have S2 := S1.below ((Below.refl w1.heap.size w1).alloc (Nat.le_refl _) (.cells #[.int .i64 x, .int .i64 y] 23))
  have d0 : (w1.alloc (.cells #[.int .i64 x, .int .i64 y] 23)).cell? ⟨w1.heap.size, 0, none⟩ = some (.int .i64 x) := by go_simp
  have d1 : (w1.alloc (.cells #[.int .i64 x, .int .i64 y] 23)).cell? ⟨w1.heap.size, 1, none⟩ = some (.int .i64 y) := by go_simp
  have hbd : b ≠ w1.heap.size := by have h1 := S1.hb; have h2 := S1.g.size; omega
  generalize w1.alloc (.cells #[.int .i64 x, .int .i64 y] 23) = w2 at S2 d0 d1 ⊢
  generalize w1.heap.size = qd at d0 d1 hbd ⊢
  clear S0 S1 R1 G1 c1
  go_upto_region 3 with (first
    | (go_at_call 55; refine (c2 _ S2.r).mono ?_; rintro r w3 ⟨rfl, R3, O3⟩))
  have S3 := S2.call R3 O3.grown
  have d0 := (O3.cell (p := ⟨qd, 0, none⟩) (Ne.symm hbd)).trans d0
  have d1 := (O3.cell (p := ⟨qd, 1, none⟩) (Ne.symm hbd)).trans d1
  have hV6 := hVl.out w3 S3.r
  clear S2 R3 O3 c2 hVl
  go_upto_region 4 with (first
    | (go_at_call 56; refine (c3 _ S3.r S3.zlt).mono ?_; rintro r w4 ⟨a, c, rfl, P4, R4, G4, N4⟩))
  have S4 := S3.call R4 G4
  have hnd : ∀ ad, a = some ad → w.heap.size < ad.block := fun ad ha => by have h1 := N4 ad ha; have h2 := S3.k.lt; omega
  have d0 := (G4.cell_far ⟨qd, 0, none⟩ (cell_in d0) (by simpa using Ne.symm hbd)).trans d0
  have d1 := (G4.cell_far ⟨qd, 1, none⟩ (cell_in d1) (by simpa using Ne.symm hbd)).trans d1
  clear S3 R4 G4 N4 c3
  go_upto_region 5 with (first
    | (go_at_call 55; refine (c4 _ S4.r).mono ?_; rintro r w5 ⟨rfl, R5, O5⟩))
  have S5 := S4.call R5 O5.grown
  have P5 : PS w5 a V.length c V := P4.other fun ad ha _ => O5.block _ (by have h1 := hnd ad ha; have h2 := S4.hb; omega)
  have d0 := (O5.cell (p := ⟨qd, 0, none⟩) (Ne.symm hbd)).trans d0
  have d1 := (O5.cell (p := ⟨qd, 1, none⟩) (Ne.symm hbd)).trans d1
  clear S4 R5 O5 c4 P4
  have hE := S5.r.err
  go_cut [32] from 16 to 32 (fun s wc => s = .bool false ∧ w5 = wc)
  case first =>
    by_cases he4 : e4 = 0
    · have g4 : (e4 == 0) = true := by simp [he4]
      clear he4
      go_wp2_with fail
      go_meet
      exact ⟨rfl, rfl⟩
    · have g4 : (e4 == 0) = false := by simp [he4]
      clear he4
      go_wp2_with fail
      go_meet
      exact ⟨rfl, rfl⟩
  obtain ⟨rfl, hwc⟩ := hcut
  subst hwc
  go_upto_region 7 with fail
  have hbn : w5.heap.size ≠ b := by have h1 := S5.hb; have h2 := S5.g.size; omega
  have hqd : qd < w5.heap.size := cell_in d0
  have hqn : qd ≠ w5.heap.size := Nat.ne_of_lt hqd
  have RA : Rdr w5.drew b z L4 e4 := S5.r.below (Below.refl _ _).drew
  have RB : Rdr (w5.drew.alloc (.cells #[.int .i64 0, .int .i64 0, .int .i64 0, .slice none 0 0, .int .i64 0, .int .i64 0, .int .i64 0, .int .i64 0, .int .i64 0, .int .i64 0, .int .i64 0, .int .i64 0, .int .i64 0, .string { data := #[] }] 27)) b z L4 e4 := S5.r.below ((Below.refl _ _).drew.alloc (by exact Nat.le_refl _) _)
  have zA : z < w5.drew.heap.size := S5.zlt
  have zB : z < (w5.drew.alloc (.cells #[.int .i64 0, .int .i64 0, .int .i64 0, .slice none 0 0, .int .i64 0, .int .i64 0, .int .i64 0, .int .i64 0, .int .i64 0, .int .i64 0, .int .i64 0, .int .i64 0, .int .i64 0, .string { data := #[] }] 27)).heap.size := Nat.lt_of_lt_of_le S5.zlt (by simp)
  go_cut [7] from 35 to 41 (fun s wc => ∃ q, s = .pointer (some ⟨q, 0, none⟩) ∧ So w wc b z q (mko (x, y) t k (gx, gy) np) a V.length c V L6 e6)
  case first =>
    go_region_with (first
      | (go_at_call 54; first
        | (refine (c6 w5.drew RA zA).mono ?_; rintro r w9 ⟨rfl, R9, G9⟩; have x0 := (G9.cell_far ⟨qd, 0, none⟩ (cell_in d0) (by simpa using Ne.symm hbd)).trans d0; have x1 := (G9.cell_far ⟨qd, 1, none⟩ (cell_in d1) (by simpa using Ne.symm hbd)).trans d1; have hq9 : qd < w9.heap.size := cell_in x0; have hq9n : qd ≠ w9.heap.size := Nat.ne_of_lt hq9)
        | (refine (c6 (w5.drew.alloc (.cells #[.int .i64 0, .int .i64 0, .int .i64 0, .slice none 0 0, .int .i64 0, .int .i64 0, .int .i64 0, .int .i64 0, .int .i64 0, .int .i64 0, .int .i64 0, .int .i64 0, .int .i64 0, .string { data := #[] }] 27)) RB zB).mono ?_; rintro r w9 ⟨rfl, R9, G9⟩; have x0 := (G9.cell_far ⟨qd, 0, none⟩ (by simpa using Nat.lt_succ_of_lt hqd) (by simpa using Ne.symm hbd)).trans ((World.cell?_alloc_lt _ _ _ hqd).trans d0); have x1 := (G9.cell_far ⟨qd, 1, none⟩ (by simpa using Nat.lt_succ_of_lt hqd) (by simpa using Ne.symm hbd)).trans ((World.cell?_alloc_lt _ _ _ hqd).trans d1); have B9 : Blk w9 w5.heap.size (zer.cells (.slice none 0 0)) := (blk_alloc w5.drew #[.int .i64 0, .int .i64 0, .int .i64 0, .slice none 0 0, .int .i64 0, .int .i64 0, .int .i64 0, .int .i64 0, .int .i64 0, .int .i64 0, .int .i64 0, .int .i64 0, .int .i64 0, .string { data := #[] }]).same (G9.block w5.heap.size (by simp) (by simpa using hbn)); have z0 := B9.opAt.c0; have y0 := B9.frozen 0; have z1 := B9.opAt.c1; have y1 := B9.frozen 1; have z2 := B9.opAt.c2; have y2 := B9.frozen 2; have z3 := B9.opAt.c3; have y3 := B9.frozen 3; have z4 := B9.opAt.c4; have y4 := B9.frozen 4; have z5 := B9.opAt.c5; have y5 := B9.frozen 5; have z6 := B9.opAt.c6; have y6 := B9.frozen 6; have z7 := B9.opAt.c7; have y7 := B9.frozen 7; have z8 := B9.opAt.c8; have y8 := B9.frozen 8; have z9 := B9.opAt.c9; have y9 := B9.frozen 9; have z10 := B9.opAt.c10; have y10 := B9.frozen 10; have z11 := B9.opAt.c11; have y11 := B9.frozen 11; have z12 := B9.opAt.c12; have y12 := B9.frozen 12; have z13 := B9.opAt.c13; have y13 := B9.frozen 13)))
    all_goals go_wp2_with fail
    all_goals go_meet
    all_goals first
      | (have hq := hq9
         refine ⟨w9.heap.size, rfl, ?_⟩
         have S9 := (S5.below (Below.refl _ _).drew).call R9 G9
         have P9 : PS w9 a V.length c V := (P5.below (Below.refl _ _).drew).other fun ad ha hl => G9.block _ hl (by have h1 := hnd ad ha; have h2 := S5.hb; simp; omega)
         exact ⟨S9.below ((Below.refl _ _).alloc (Nat.le_refl _) _), blk_alloc w9 #[.int .i64 x, .int .i64 y, .int .i64 t, .slice a V.length c, .int .i64 k, .int .i64 gx, .int .i64 gy, .int .i64 0, .int .i64 0, .int .i64 0, .int .i64 0, .int .i64 0, .int .i64 0, .string { data := #[] }], S9.k.lt, P9.below ((Below.refl _ _).alloc (Nat.le_refl _) _), fun ad ha => ⟨hnd ad ha, fun hp => by obtain ⟨g, o, hg, hgl, _⟩ := P9.at hp; rw [hg] at ha; cases ha; exact Nat.ne_of_lt hgl⟩⟩)
      | (have hq := B9
         refine ⟨w5.heap.size, rfl, ?_⟩
         have hBB : Below w5.heap.size w5 (w5.drew.alloc (.cells #[.int .i64 0, .int .i64 0, .int .i64 0, .slice none 0 0, .int .i64 0, .int .i64 0, .int .i64 0, .int .i64 0, .int .i64 0, .int .i64 0, .int .i64 0, .int .i64 0, .int .i64 0, .string { data := #[] }] 27)) := (Below.refl _ _).drew.alloc (by exact Nat.le_refl _) _
         have S9 := (S5.below hBB).call R9 G9
         have P9 : PS w9 a V.length c V := (P5.below hBB).other fun ad ha hl => G9.block _ hl (by have h1 := hnd ad ha; have h2 := S5.hb; simp; omega)
         have hO := put14_only w9 w5.heap.size (mko (x, y) t k (gx, gy) np) (.slice a V.length c)
         have hne : ∀ ad, 0 < V.length → a = some ad → ad.block ≠ w5.heap.size := fun ad hp ha => by obtain ⟨g, o, hg, hgl, _⟩ := P5.at hp; rw [hg] at ha; cases ha; exact Nat.ne_of_lt hgl
         change So w (put14 w9 w5.heap.size (mko (x, y) t k (gx, gy) np) (.slice a V.length c)) b z w5.heap.size (mko (x, y) t k (gx, gy) np) a V.length c V L6 e6
         exact ⟨S9.only hO S5.k.lt, put14_blk B9, S5.k.lt, P9.apart' fun ad hp ha _ => hO.block _ (hne ad hp ha), fun ad ha => ⟨hnd ad ha, fun hp => hne ad hp ha⟩⟩)
  obtain ⟨q, rfl, S10⟩ := hcut
  clear RA RB zA zB d0 d1 hbd hqd hqn hbn hE S5 P5 c6
  have c7 := fun W (hW : Rdr W b z L6 e6) hz => rtake_any W b z L6 e6 hW hz
  have hpp := HPR.out
  generalize tk L6 e6 = s at c7 hpp
  obtain ⟨⟨ax, ay⟩, La, ea⟩ := s
  simp only at c7 hpp
  have cI := fun W (hW : Rdr W b z La ea) => wint_any W b z La ea hW
  generalize dec La ea = s at cI hpp
  obtain ⟨iA, Lb, eb⟩ := s
  simp only at cI hpp
  have cJ := fun W (hW : Rdr W b z Lb eb) => wint_any W b z Lb eb hW
  generalize dec Lb eb = s at cJ hpp
  obtain ⟨iB, Lc, ec⟩ := s
  simp only at cJ hpp
  generalize dint iA = xA at cI hpp
  generalize dint iB = xB at cJ hpp
  simp only [Prod.mk.injEq] at hpp
  obtain ⟨rfl, rfl, rfl⟩ := hpp
  clear HPR
  go_upto_region 11 with (first
    | (go_at_call 54; refine (c7 _ S10.s.r S10.s.zlt).mono ?_; rintro r w11 ⟨rfl, Rw11, Gw11⟩; have Tw11 := S10.call Rw11 Gw11; have va := Tw11.o.opAt.c7; have vb := Tw11.o.opAt.c8; have fa := Tw11.o.frozen 7; have fb := Tw11.o.frozen 8))
  have S11 : So w ((w11.setCell ⟨q, 7, none⟩ (.int .i64 ax)).setCell ⟨q, 8, none⟩ (.int .i64 ay)) b z q (mko (x, y) t k (gx, gy) ((ax, ay), 0, 0, (0, 0), { data := #[] })) a V.length c V La ea := Tw11.upd (only2 _ _ _ _ _ _) (by have := (Tw11.o.set 7 (.int .i64 ax)).set 8 (.int .i64 ay); exact this)
  generalize (w11.setCell ⟨q, 7, none⟩ (.int .i64 ax)).setCell ⟨q, 8, none⟩ (.int .i64 ay) = u11 at S11 ⊢
  clear va vb fa fb S10 Tw11 Rw11 Gw11 c7
  go_upto_region 12 with (first
    | (go_at_call 55; refine (cI _ S11.s.r).mono ?_; rintro r w12 ⟨rfl, Rw12, Ow12⟩; have Tw12 := S11.call Rw12 Ow12.grown; have va := Tw12.o.opAt.c9; have fa := Tw12.o.frozen 9))
  have S12 : So w (w12.setCell ⟨q, 9, none⟩ (.int .i64 xA)) b z q (mko (x, y) t k (gx, gy) ((ax, ay), xA, 0, (0, 0), { data := #[] })) a V.length c V Lb eb := Tw12.upd (only1 _ _ _ _) (by have := Tw12.o.set 9 (.int .i64 xA); exact this)
  generalize w12.setCell ⟨q, 9, none⟩ (.int .i64 xA) = u12 at S12 ⊢
  clear va fa S11 Tw12 Rw12 Ow12 cI
  go_upto_region 18 with (first
    | (go_at_call 55; refine (cJ _ S12.s.r).mono ?_; rintro r w13 ⟨rfl, Rw13, Ow13⟩; have Tw13 := S12.call Rw13 Ow13.grown; have va := Tw13.o.opAt.c10; have fa := Tw13.o.frozen 10))
  have S14 : So w (w13.setCell ⟨q, 10, none⟩ (.int .i64 xB)) b z q (mko (x, y) t k (gx, gy) ((ax, ay), xA, xB, (0, 0), { data := #[] })) a V.length c V L7 e7 := Tw13.upd (only1 _ _ _ _) (by have := Tw13.o.set 10 (.int .i64 xB); exact this)
  generalize w13.setCell ⟨q, 10, none⟩ (.int .i64 xB) = w14 at S14 ⊢
  clear va fa S12 Tw13 Rw13 Ow13 cJ
  obtain ⟨o, ho⟩ : ∃ o, o = mko (x, y) t k (gx, gy) ((ax, ay), xA, xB, (0, 0), { data := #[] }) := ⟨_, rfl⟩
  rw [← ho] at c8 S14 hb7 hb8 hb9
  have HO := hid ho
  clear ho
  have c9 := c8 w14 a c hV6 S14.p
  clear c8
  have hE := S14.s.r.err
  have a0 := S14.o.opAt.c0
  have a1 := S14.o.opAt.c1
  have a2 := S14.o.opAt.c2
  have a3 := S14.o.opAt.c3
  have a4 := S14.o.opAt.c4
  have a5 := S14.o.opAt.c5
  have a6 := S14.o.opAt.c6
  have a7 := S14.o.opAt.c7
  have a8 := S14.o.opAt.c8
  have a9 := S14.o.opAt.c9
  have a10 := S14.o.opAt.c10
  have a11 := S14.o.opAt.c11
  have a12 := S14.o.opAt.c12
  have a13 := S14.o.opAt.c13
  by_cases he : e7 = 0
  · subst he
    cases hr : chk o V with
    | false =>
      rw [hr] at c9
      have hb := hid (hb9.out hr)
      have hne := flr_ne 30 (by decide) (L7, 0)
      have cF := fun W (hW : Rdr W b z L7 0) => wflr_any hW 30 (by decide)
      generalize flr 30 (L7, 0) = s at hb hne cF
      obtain ⟨L8, e8⟩ := s
      simp only at hne cF
      have hne' : (e8 != 0) = true := by simpa using hne
      clear hb7 hb8 hb9 hr
      go_upto_region 21 with (first
        | (go_at_call 11; refine c9.mono ?_; rintro r w15 ⟨rfl, F15⟩; have S15 := S14.far F15)
        | (go_at_call 57; refine (cF _ S15.s.r).mono ?_; rintro r w16 ⟨rfl, R16, O16⟩; have S16 := S15.call R16 O16.grown; have hE16 := S16.s.r.err))
      have z0 := S16.s.k.opAt.c0
      have y0 := S16.s.k.frozen 0
      have z1 := S16.s.k.opAt.c1
      have y1 := S16.s.k.frozen 1
      have z2 := S16.s.k.opAt.c2
      have y2 := S16.s.k.frozen 2
      have z3 := S16.s.k.opAt.c3
      have y3 := S16.s.k.frozen 3
      have z4 := S16.s.k.opAt.c4
      have y4 := S16.s.k.frozen 4
      have z5 := S16.s.k.opAt.c5
      have y5 := S16.s.k.frozen 5
      have z6 := S16.s.k.opAt.c6
      have y6 := S16.s.k.frozen 6
      have z7 := S16.s.k.opAt.c7
      have y7 := S16.s.k.frozen 7
      have z8 := S16.s.k.opAt.c8
      have y8 := S16.s.k.frozen 8
      have z9 := S16.s.k.opAt.c9
      have y9 := S16.s.k.frozen 9
      have z10 := S16.s.k.opAt.c10
      have y10 := S16.s.k.frozen 10
      have z11 := S16.s.k.opAt.c11
      have y11 := S16.s.k.frozen 11
      have z12 := S16.s.k.opAt.c12
      have y12 := S16.s.k.frozen 12
      have z13 := S16.s.k.opAt.c13
      have y13 := S16.s.k.frozen 13
      rw [hq2] at z0 y0 z1 y1 z2 y2 z3 y3 z4 y4 z5 y5 z6 y6 z7 y7 z8 y8 z9 y9 z10 y10 z11 y11 z12 y12 z13 y13
      go_wp2_with fail
      have B : Blk (put14 w16 q2 zer (.slice none 0 0)) q2 (zer.cells (.slice none 0 0)) := put14_blk (by have := S16.s.k; rw [hq2] at this; exact this)
      have hO : Only w.heap.size w16 (put14 w16 q2 zer (.slice none 0 0)) := by rw [hq2]; exact put14_only _ _ _ _
      change bodyPost _ _ _ _ _ (put14 w16 q2 zer (.slice none 0 0))
      generalize put14 w16 q2 zer (.slice none 0 0) = W at B hO ⊢
      obtain ⟨u1, u2, u3, u4⟩ := S16.out hO (PS.none _) (fun ad ha => by cases ha)
      have t0 := B.opAt.c0
      have t1 := B.opAt.c1
      have t2 := B.opAt.c2
      have t3 := B.opAt.c3
      have t4 := B.opAt.c4
      have t5 := B.opAt.c5
      have t6 := B.opAt.c6
      have t7 := B.opAt.c7
      have t8 := B.opAt.c8
      have t9 := B.opAt.c9
      have t10 := B.opAt.c10
      have t11 := B.opAt.c11
      have t12 := B.opAt.c12
      have t13 := B.opAt.c13
      clear B hO z0 y0 z1 y1 z2 y2 z3 y3 z4 y4 z5 y5 z6 y6 z7 y7 z8 y8 z9 y9 z10 y10 z11 y11 z12 y12 z13 y13
      have heq : ofin (mko (x, y) t k (gx, gy) ((ax, ay), xA, xB, (0, 0), { data := #[] })) V (L7, 0) = ((zer, []), (L8, e8)) := by rw [← HO.out]; exact hb.out
      refine bodyPost_ret (v := ov zer (.slice none 0 0)) (by simp [results, Try.results21, go_sem, OpIn.cells, t0, t1, t2, t3, t4, t5, t6, t7, t8, t9, t10, t11, t12, t13]) rfl ?_
      rw [heq]
      exact ⟨none, 0, rfl, u1, u2, u3, u4⟩
    | true =>
      rw [hr] at c9
      have hb := hid (hb7.out hr)
      clear hb7 hb8 hb9 hr
      go_upto_region 22 with (first
        | (go_at_call 11; refine c9.mono ?_; rintro r w15 ⟨rfl, F15⟩; have S15 := S14.far F15; have hE15 := S15.s.r.err))
      have g0 := S15.o.opAt.c0
      have g1 := S15.o.opAt.c1
      have g2 := S15.o.opAt.c2
      have g3 := S15.o.opAt.c3
      have g4 := S15.o.opAt.c4
      have g5 := S15.o.opAt.c5
      have g6 := S15.o.opAt.c6
      have g7 := S15.o.opAt.c7
      have g8 := S15.o.opAt.c8
      have g9 := S15.o.opAt.c9
      have g10 := S15.o.opAt.c10
      have g11 := S15.o.opAt.c11
      have g12 := S15.o.opAt.c12
      have g13 := S15.o.opAt.c13
      have z0 := S15.s.k.opAt.c0
      have y0 := S15.s.k.frozen 0
      have z1 := S15.s.k.opAt.c1
      have y1 := S15.s.k.frozen 1
      have z2 := S15.s.k.opAt.c2
      have y2 := S15.s.k.frozen 2
      have z3 := S15.s.k.opAt.c3
      have y3 := S15.s.k.frozen 3
      have z4 := S15.s.k.opAt.c4
      have y4 := S15.s.k.frozen 4
      have z5 := S15.s.k.opAt.c5
      have y5 := S15.s.k.frozen 5
      have z6 := S15.s.k.opAt.c6
      have y6 := S15.s.k.frozen 6
      have z7 := S15.s.k.opAt.c7
      have y7 := S15.s.k.frozen 7
      have z8 := S15.s.k.opAt.c8
      have y8 := S15.s.k.frozen 8
      have z9 := S15.s.k.opAt.c9
      have y9 := S15.s.k.frozen 9
      have z10 := S15.s.k.opAt.c10
      have y10 := S15.s.k.frozen 10
      have z11 := S15.s.k.opAt.c11
      have y11 := S15.s.k.frozen 11
      have z12 := S15.s.k.opAt.c12
      have y12 := S15.s.k.frozen 12
      have z13 := S15.s.k.opAt.c13
      have y13 := S15.s.k.frozen 13
      rw [hq2] at z0 y0 z1 y1 z2 y2 z3 y3 z4 y4 z5 y5 z6 y6 z7 y7 z8 y8 z9 y9 z10 y10 z11 y11 z12 y12 z13 y13
      go_wp2_with fail
      have B : Blk (put14 w15 q2 o (.slice a V.length c)) q2 (o.cells (.slice a V.length c)) := put14_blk (by have := S15.s.k; rw [hq2] at this; exact this)
      have hO : Only w.heap.size w15 (put14 w15 q2 o (.slice a V.length c)) := by rw [hq2]; exact put14_only _ _ _ _
      change bodyPost _ _ _ _ _ (put14 w15 q2 o (.slice a V.length c))
      generalize put14 w15 q2 o (.slice a V.length c) = W at B hO ⊢
      obtain ⟨u1, u2, u3, u4⟩ := S15.out hO S15.p (fun ad ha => (S15.new ad ha).1)
      have t0 := B.opAt.c0
      have t1 := B.opAt.c1
      have t2 := B.opAt.c2
      have t3 := B.opAt.c3
      have t4 := B.opAt.c4
      have t5 := B.opAt.c5
      have t6 := B.opAt.c6
      have t7 := B.opAt.c7
      have t8 := B.opAt.c8
      have t9 := B.opAt.c9
      have t10 := B.opAt.c10
      have t11 := B.opAt.c11
      have t12 := B.opAt.c12
      have t13 := B.opAt.c13
      clear B hO z0 y0 z1 y1 z2 y2 z3 y3 z4 y4 z5 y5 z6 y6 z7 y7 z8 y8 z9 y9 z10 y10 z11 y11 z12 y12 z13 y13
      have heq : ofin (mko (x, y) t k (gx, gy) ((ax, ay), xA, xB, (0, 0), { data := #[] })) V (L7, 0) = ((o, V), (L7, 0)) := by rw [← HO.out]; exact hb.out
      refine bodyPost_ret (v := ov o (.slice a V.length c)) (by simp [results, Try.results21, go_sem, OpIn.cells, t0, t1, t2, t3, t4, t5, t6, t7, t8, t9, t10, t11, t12, t13]) rfl ?_
      rw [heq]
      exact ⟨a, c, rfl, u1, u2, u3, u4⟩
  · have hb := hid (hb8.out he)
    have hne' : (e7 != 0) = true := by simpa using he
    have hne2 : (e7 == 0) = false := by simpa using he
    clear hb7 hb8 hb9 c9
    go_upto_region 21 with fail
    have z0 := S14.s.k.opAt.c0
    have y0 := S14.s.k.frozen 0
    have z1 := S14.s.k.opAt.c1
    have y1 := S14.s.k.frozen 1
    have z2 := S14.s.k.opAt.c2
    have y2 := S14.s.k.frozen 2
    have z3 := S14.s.k.opAt.c3
    have y3 := S14.s.k.frozen 3
    have z4 := S14.s.k.opAt.c4
    have y4 := S14.s.k.frozen 4
    have z5 := S14.s.k.opAt.c5
    have y5 := S14.s.k.frozen 5
    have z6 := S14.s.k.opAt.c6
    have y6 := S14.s.k.frozen 6
    have z7 := S14.s.k.opAt.c7
    have y7 := S14.s.k.frozen 7
    have z8 := S14.s.k.opAt.c8
    have y8 := S14.s.k.frozen 8
    have z9 := S14.s.k.opAt.c9
    have y9 := S14.s.k.frozen 9
    have z10 := S14.s.k.opAt.c10
    have y10 := S14.s.k.frozen 10
    have z11 := S14.s.k.opAt.c11
    have y11 := S14.s.k.frozen 11
    have z12 := S14.s.k.opAt.c12
    have y12 := S14.s.k.frozen 12
    have z13 := S14.s.k.opAt.c13
    have y13 := S14.s.k.frozen 13
    rw [hq2] at z0 y0 z1 y1 z2 y2 z3 y3 z4 y4 z5 y5 z6 y6 z7 y7 z8 y8 z9 y9 z10 y10 z11 y11 z12 y12 z13 y13
    go_wp2_with fail
    have B : Blk (put14 w14 q2 zer (.slice none 0 0)) q2 (zer.cells (.slice none 0 0)) := put14_blk (by have := S14.s.k; rw [hq2] at this; exact this)
    have hO : Only w.heap.size w14 (put14 w14 q2 zer (.slice none 0 0)) := by rw [hq2]; exact put14_only _ _ _ _
    change bodyPost _ _ _ _ _ (put14 w14 q2 zer (.slice none 0 0))
    generalize put14 w14 q2 zer (.slice none 0 0) = W at B hO ⊢
    obtain ⟨u1, u2, u3, u4⟩ := S14.out hO (PS.none _) (fun ad ha => by cases ha)
    have t0 := B.opAt.c0
    have t1 := B.opAt.c1
    have t2 := B.opAt.c2
    have t3 := B.opAt.c3
    have t4 := B.opAt.c4
    have t5 := B.opAt.c5
    have t6 := B.opAt.c6
    have t7 := B.opAt.c7
    have t8 := B.opAt.c8
    have t9 := B.opAt.c9
    have t10 := B.opAt.c10
    have t11 := B.opAt.c11
    have t12 := B.opAt.c12
    have t13 := B.opAt.c13
    clear B hO z0 y0 z1 y1 z2 y2 z3 y3 z4 y4 z5 y5 z6 y6 z7 y7 z8 y8 z9 y9 z10 y10 z11 y11 z12 y12 z13 y13
    have heq : ofin (mko (x, y) t k (gx, gy) ((ax, ay), xA, xB, (0, 0), { data := #[] })) V (L7, e7) = ((zer, []), (L7, e7)) := by rw [← HO.out]; exact hb.out
    refine bodyPost_ret (v := ov zer (.slice none 0 0)) (by simp [results, Try.results21, go_sem, OpIn.cells, t0, t1, t2, t3, t4, t5, t6, t7, t8, t9, t10, t11, t12, t13]) rfl ?_
    rw [heq]
    exact ⟨none, 0, rfl, u1, u2, u3, u4⟩

end

section
open Go.RowKit
open Go.Sort (grow)

set_option maxRecDepth 100000 in
set_option maxHeartbeats 8000000 in
theorem rtake7_del (w : World) (b z : Nat) (L : List Int) (e : Int) (h : Rdr w b z L e) (hz : z < w.heap.size) (hl : L.length ≤ 1000000) (k0 : Int) (hk0 : (hd7 L e).1.2.2.2 = k0) (hk : k0 = 2) :
    Calls Try.prog 21 #[.pointer (some ⟨b, 0, none⟩)] w (Takes7 w b z (otk L e)) := by
  have S0 := sr_start h hz
  have hl1 := tk_le L e
  have c1 := fun W (hW : Rdr W b z L e) hz => rtake_any W b z L e hW hz
  unfold hd7 at hk0
  unfold otk hd7
  generalize tk L e = s at c1 hl1 hk0 ⊢
  obtain ⟨⟨x, y⟩, L1, e1⟩ := s
  simp only at c1 hl1 hk0 ⊢
  have hl2 := dec_le L1 e1
  have c2 := fun W (hW : Rdr W b z L1 e1) => wint_any W b z L1 e1 hW
  generalize dec L1 e1 = s at c2 hl2 hk0 ⊢
  obtain ⟨i2, L2, e2⟩ := s
  simp only at c2 hl2 hk0 ⊢
  have hl3 := cnt_le L2 e2 2
  have hl3' := vtk_le L2 e2
  have hB2 := fun W (hW : Rdr W b z L2 e2) => vtk_len L2 e2 hW.bts.1
  have c3 := fun W (hW : Rdr W b z L2 e2) hz => rvtake_any W b z L2 e2 hW hz (by omega)
  generalize vtk L2 e2 = s at c3 hB2 hl3' hk0 ⊢
  obtain ⟨V, L3, e3⟩ := s
  unfold TakesV at c3
  simp only at c3 hB2 hl3' hk0 ⊢
  have hl4 := dec_le L3 e3
  have c4 := fun W (hW : Rdr W b z L3 e3) => wint_any W b z L3 e3 hW
  generalize dec L3 e3 = s at c4 hl4 hk0 ⊢
  obtain ⟨i4, L4, e4⟩ := s
  simp only at c4 hl4 hk0 ⊢
  generalize dint i2 = t at c2 ⊢
  generalize hk4 : dint i4 = k at c4 hk0 ⊢
  clear hl3 hk4
  subst hk0
  rw [kfl_yes (by simp [hk])]
  have k1 : (k == 1) = false := by simp [hk]
  have k2 : (k == 2) = true := by simp [hk]
  have k3 : (k == 3) = false := by simp [hk]
  have m1 : (k != 1) = true := by simp [hk]
  have m2 : (k != 2) = false := by simp [hk]
  have m3 : (k != 3) = true := by simp [hk]
  have hpr := fun L6 e6 => prt_del (k := k) (L := L6) (e := e6) hk
  have hl6 := tk_le L4 e4
  have c6 := fun W (hW : Rdr W b z L4 e4) hz => rtake_any W b z L4 e4 hW hz
  unfold tl7
  simp only
  generalize tk L4 e4 = s at c6 hl6 ⊢
  obtain ⟨⟨gx, gy⟩, L6, e6⟩ := s
  simp only at c6 hl6 ⊢
  have hl7 := prt_key k L6 e6
  have hpr := hpr L6 e6
  obtain ⟨⟨pp, L7, e7⟩, hpe⟩ : ∃ s, prt k L6 e6 = s := ⟨_, rfl⟩
  rw [hpe] at hl7 hpr ⊢
  simp only at hl7 hpr ⊢
  have hkey : (mko (x, y) t k (gx, gy) pp).key.size ≤ maxLen := by show pp.2.2.2.2.size ≤ maxLen; unfold maxLen; omega
  have c8 := fun W a c (hV : V.length ≤ 1000000) (hP : PS W a V.length c V) => rcheck_any (mko (x, y) t k (gx, gy) pp) a V.length c V W hP (by omega) hkey
  have hb7 := hid (fun h => ofin_ok (o := mko (x, y) t k (gx, gy) pp) (V := V) h L7)
  have hb8 := hid (fun (h : e7 ≠ 0) => ofin_err (mko (x, y) t k (gx, gy) pp) V L7 h)
  have hb9 := hid (fun h => ofin_no (o := mko (x, y) t k (gx, gy) pp) (V := V) h (L7, e7))
  have hVl : Hid (∀ (W : World), Rdr W b z L2 e2 → V.length ≤ 1000000) := hid fun W hW => by have := hB2 W hW; omega
  have HPR := hid hpr
  clear hkey hl6 hl7 hl hl1 hl2 hl3' hl4 hB2 hpe hpr hk
  go_enter Try.func21, Try.ntmps21
  go_upto_region 1 with fail
  generalize w.alloc (.cells #[.int .i64 0, .int .i64 0, .int .i64 0, .slice none 0 0, .int .i64 0, .int .i64 0, .int .i64 0, .int .i64 0, .int .i64 0, .int .i64 0, .int .i64 0, .int .i64 0, .int .i64 0, .string { data := #[] }] 27) = w0 at S0 ⊢
  generalize hq2 : w.heap.size = q2
  clear h
  go_upto_region 2 with (first
    | (go_at_call 54; refine (c1 _ S0.r S0.zlt).mono ?_; rintro r w1 ⟨rfl, R1, G1⟩; have S1 := S0.call R1 G1))
  have S2 := S1.below ((Below.refl w1.heap.size w1).alloc (Nat.le_refl _) (.cells #[.int .i64 x, .int .i64 y] 23))
  have d0 : (w1.alloc (.cells #[.int .i64 x, .int .i64 y] 23)).cell? ⟨w1.heap.size, 0, none⟩ = some (.int .i64 x) := by go_simp
  have d1 : (w1.alloc (.cells #[.int .i64 x, .int .i64 y] 23)).cell? ⟨w1.heap.size, 1, none⟩ = some (.int .i64 y) := by go_simp
  have hbd : b ≠ w1.heap.size := by have h1 := S1.hb; have h2 := S1.g.size; omega
  generalize w1.alloc (.cells #[.int .i64 x, .int .i64 y] 23) = w2 at S2 d0 d1 ⊢
  generalize w1.heap.size = qd at d0 d1 hbd ⊢
  clear S0 S1 R1 G1 c1
  go_upto_region 3 with (first
    | (go_at_call 55; refine (c2 _ S2.r).mono ?_; rintro r w3 ⟨rfl, R3, O3⟩))
  have S3 := S2.call R3 O3.grown
  have d0 := (O3.cell (p := ⟨qd, 0, none⟩) (Ne.symm hbd)).trans d0
  have d1 := (O3.cell (p := ⟨qd, 1, none⟩) (Ne.symm hbd)).trans d1
  have hV6 := hVl.out w3 S3.r
  clear S2 R3 O3 c2 hVl
  go_upto_region 4 with (first
    | (go_at_call 56; refine (c3 _ S3.r S3.zlt).mono ?_; rintro r w4 ⟨a, c, rfl, P4, R4, G4, N4⟩))
  have S4 := S3.call R4 G4
  have hnd : ∀ ad, a = some ad → w.heap.size < ad.block := fun ad ha => by have h1 := N4 ad ha; have h2 := S3.k.lt; omega
  have d0 := (G4.cell_far ⟨qd, 0, none⟩ (cell_in d0) (by simpa using Ne.symm hbd)).trans d0
  have d1 := (G4.cell_far ⟨qd, 1, none⟩ (cell_in d1) (by simpa using Ne.symm hbd)).trans d1
  clear S3 R4 G4 N4 c3
  go_upto_region 5 with (first
    | (go_at_call 55; refine (c4 _ S4.r).mono ?_; rintro r w5 ⟨rfl, R5, O5⟩))
  have S5 := S4.call R5 O5.grown
  have P5 : PS w5 a V.length c V := P4.other fun ad ha _ => O5.block _ (by have h1 := hnd ad ha; have h2 := S4.hb; omega)
  have d0 := (O5.cell (p := ⟨qd, 0, none⟩) (Ne.symm hbd)).trans d0
  have d1 := (O5.cell (p := ⟨qd, 1, none⟩) (Ne.symm hbd)).trans d1
  clear S4 R5 O5 c4 P4
  have hE := S5.r.err
  go_cut [32] from 16 to 32 (fun s wc => s = .bool false ∧ w5 = wc)
  case first =>
    by_cases he4 : e4 = 0
    · have g4 : (e4 == 0) = true := by simp [he4]
      clear he4
      go_wp2_with fail
      go_meet
      exact ⟨rfl, rfl⟩
    · have g4 : (e4 == 0) = false := by simp [he4]
      clear he4
      go_wp2_with fail
      go_meet
      exact ⟨rfl, rfl⟩
  obtain ⟨rfl, hwc⟩ := hcut
  subst hwc
  go_upto_region 7 with fail
  have hbn : w5.heap.size ≠ b := by have h1 := S5.hb; have h2 := S5.g.size; omega
  have hqd : qd < w5.heap.size := cell_in d0
  have hqn : qd ≠ w5.heap.size := Nat.ne_of_lt hqd
  have RA : Rdr w5.drew b z L4 e4 := S5.r.below (Below.refl _ _).drew
  have RB : Rdr (w5.drew.alloc (.cells #[.int .i64 0, .int .i64 0, .int .i64 0, .slice none 0 0, .int .i64 0, .int .i64 0, .int .i64 0, .int .i64 0, .int .i64 0, .int .i64 0, .int .i64 0, .int .i64 0, .int .i64 0, .string { data := #[] }] 27)) b z L4 e4 := S5.r.below ((Below.refl _ _).drew.alloc (by exact Nat.le_refl _) _)
  have zA : z < w5.drew.heap.size := S5.zlt
  have zB : z < (w5.drew.alloc (.cells #[.int .i64 0, .int .i64 0, .int .i64 0, .slice none 0 0, .int .i64 0, .int .i64 0, .int .i64 0, .int .i64 0, .int .i64 0, .int .i64 0, .int .i64 0, .int .i64 0, .int .i64 0, .string { data := #[] }] 27)).heap.size := Nat.lt_of_lt_of_le S5.zlt (by simp)
  go_cut [7] from 35 to 41 (fun s wc => ∃ q, s = .pointer (some ⟨q, 0, none⟩) ∧ So w wc b z q (mko (x, y) t k (gx, gy) np) a V.length c V L6 e6)
  case first =>
    go_region_with (first
      | (go_at_call 54; first
        | (refine (c6 w5.drew RA zA).mono ?_; rintro r w9 ⟨rfl, R9, G9⟩; have x0 := (G9.cell_far ⟨qd, 0, none⟩ (cell_in d0) (by simpa using Ne.symm hbd)).trans d0; have x1 := (G9.cell_far ⟨qd, 1, none⟩ (cell_in d1) (by simpa using Ne.symm hbd)).trans d1; have hq9 : qd < w9.heap.size := cell_in x0; have hq9n : qd ≠ w9.heap.size := Nat.ne_of_lt hq9)
        | (refine (c6 (w5.drew.alloc (.cells #[.int .i64 0, .int .i64 0, .int .i64 0, .slice none 0 0, .int .i64 0, .int .i64 0, .int .i64 0, .int .i64 0, .int .i64 0, .int .i64 0, .int .i64 0, .int .i64 0, .int .i64 0, .string { data := #[] }] 27)) RB zB).mono ?_; rintro r w9 ⟨rfl, R9, G9⟩; have x0 := (G9.cell_far ⟨qd, 0, none⟩ (by simpa using Nat.lt_succ_of_lt hqd) (by simpa using Ne.symm hbd)).trans ((World.cell?_alloc_lt _ _ _ hqd).trans d0); have x1 := (G9.cell_far ⟨qd, 1, none⟩ (by simpa using Nat.lt_succ_of_lt hqd) (by simpa using Ne.symm hbd)).trans ((World.cell?_alloc_lt _ _ _ hqd).trans d1); have B9 : Blk w9 w5.heap.size (zer.cells (.slice none 0 0)) := (blk_alloc w5.drew #[.int .i64 0, .int .i64 0, .int .i64 0, .slice none 0 0, .int .i64 0, .int .i64 0, .int .i64 0, .int .i64 0, .int .i64 0, .int .i64 0, .int .i64 0, .int .i64 0, .int .i64 0, .string { data := #[] }]).same (G9.block w5.heap.size (by simp) (by simpa using hbn)); have z0 := B9.opAt.c0; have y0 := B9.frozen 0; have z1 := B9.opAt.c1; have y1 := B9.frozen 1; have z2 := B9.opAt.c2; have y2 := B9.frozen 2; have z3 := B9.opAt.c3; have y3 := B9.frozen 3; have z4 := B9.opAt.c4; have y4 := B9.frozen 4; have z5 := B9.opAt.c5; have y5 := B9.frozen 5; have z6 := B9.opAt.c6; have y6 := B9.frozen 6; have z7 := B9.opAt.c7; have y7 := B9.frozen 7; have z8 := B9.opAt.c8; have y8 := B9.frozen 8; have z9 := B9.opAt.c9; have y9 := B9.frozen 9; have z10 := B9.opAt.c10; have y10 := B9.frozen 10; have z11 := B9.opAt.c11; have y11 := B9.frozen 11; have z12 := B9.opAt.c12; have y12 := B9.frozen 12; have z13 := B9.opAt.c13; have y13 := B9.frozen 13)))
    all_goals go_wp2_with fail
    all_goals go_meet
    all_goals first
      | (have hq := hq9
         refine ⟨w9.heap.size, rfl, ?_⟩
         have S9 := (S5.below (Below.refl _ _).drew).call R9 G9
         have P9 : PS w9 a V.length c V := (P5.below (Below.refl _ _).drew).other fun ad ha hl => G9.block _ hl (by have h1 := hnd ad ha; have h2 := S5.hb; simp; omega)
         exact ⟨S9.below ((Below.refl _ _).alloc (Nat.le_refl _) _), blk_alloc w9 #[.int .i64 x, .int .i64 y, .int .i64 t, .slice a V.length c, .int .i64 k, .int .i64 gx, .int .i64 gy, .int .i64 0, .int .i64 0, .int .i64 0, .int .i64 0, .int .i64 0, .int .i64 0, .string { data := #[] }], S9.k.lt, P9.below ((Below.refl _ _).alloc (Nat.le_refl _) _), fun ad ha => ⟨hnd ad ha, fun hp => by obtain ⟨g, o, hg, hgl, _⟩ := P9.at hp; rw [hg] at ha; cases ha; exact Nat.ne_of_lt hgl⟩⟩)
      | (have hq := B9
         refine ⟨w5.heap.size, rfl, ?_⟩
         have hBB : Below w5.heap.size w5 (w5.drew.alloc (.cells #[.int .i64 0, .int .i64 0, .int .i64 0, .slice none 0 0, .int .i64 0, .int .i64 0, .int .i64 0, .int .i64 0, .int .i64 0, .int .i64 0, .int .i64 0, .int .i64 0, .int .i64 0, .string { data := #[] }] 27)) := (Below.refl _ _).drew.alloc (by exact Nat.le_refl _) _
         have S9 := (S5.below hBB).call R9 G9
         have P9 : PS w9 a V.length c V := (P5.below hBB).other fun ad ha hl => G9.block _ hl (by have h1 := hnd ad ha; have h2 := S5.hb; simp; omega)
         have hO := put14_only w9 w5.heap.size (mko (x, y) t k (gx, gy) np) (.slice a V.length c)
         have hne : ∀ ad, 0 < V.length → a = some ad → ad.block ≠ w5.heap.size := fun ad hp ha => by obtain ⟨g, o, hg, hgl, _⟩ := P5.at hp; rw [hg] at ha; cases ha; exact Nat.ne_of_lt hgl
         change So w (put14 w9 w5.heap.size (mko (x, y) t k (gx, gy) np) (.slice a V.length c)) b z w5.heap.size (mko (x, y) t k (gx, gy) np) a V.length c V L6 e6
         exact ⟨S9.only hO S5.k.lt, put14_blk B9, S5.k.lt, P9.apart' fun ad hp ha _ => hO.block _ (hne ad hp ha), fun ad ha => ⟨hnd ad ha, fun hp => hne ad hp ha⟩⟩)
  obtain ⟨q, rfl, S10⟩ := hcut
  clear RA RB zA zB d0 d1 hbd hqd hqn hbn hE S5 P5 c6
  have c7 := fun W (hW : Rdr W b z L6 e6) hz => rtake_any W b z L6 e6 hW hz
  have hpp := HPR.out
  generalize tk L6 e6 = s at c7 hpp
  obtain ⟨⟨ax, ay⟩, La, ea⟩ := s
  simp only [Prod.mk.injEq] at hpp
  obtain ⟨rfl, rfl, rfl⟩ := hpp
  simp only at c7
  clear HPR
  go_upto_region 18 with (first
    | (go_at_call 54; refine (c7 _ S10.s.r S10.s.zlt).mono ?_; rintro r w11 ⟨rfl, Rw11, Gw11⟩; have Tw11 := S10.call Rw11 Gw11; have va := Tw11.o.opAt.c7; have vb := Tw11.o.opAt.c8; have fa := Tw11.o.frozen 7; have fb := Tw11.o.frozen 8))
  have S14 : So w ((w11.setCell ⟨q, 7, none⟩ (.int .i64 ax)).setCell ⟨q, 8, none⟩ (.int .i64 ay)) b z q (mko (x, y) t k (gx, gy) ((ax, ay), 0, 0, (0, 0), { data := #[] })) a V.length c V L7 e7 := Tw11.upd (only2 _ _ _ _ _ _) (by have := (Tw11.o.set 7 (.int .i64 ax)).set 8 (.int .i64 ay); exact this)
  generalize (w11.setCell ⟨q, 7, none⟩ (.int .i64 ax)).setCell ⟨q, 8, none⟩ (.int .i64 ay) = w14 at S14 ⊢
  clear va vb fa fb S10 Tw11 Rw11 Gw11 c7
  obtain ⟨o, ho⟩ : ∃ o, o = mko (x, y) t k (gx, gy) ((ax, ay), 0, 0, (0, 0), { data := #[] }) := ⟨_, rfl⟩
  rw [← ho] at c8 S14 hb7 hb8 hb9
  have HO := hid ho
  clear ho
  have c9 := c8 w14 a c hV6 S14.p
  clear c8
  have hE := S14.s.r.err
  have a0 := S14.o.opAt.c0
  have a1 := S14.o.opAt.c1
  have a2 := S14.o.opAt.c2
  have a3 := S14.o.opAt.c3
  have a4 := S14.o.opAt.c4
  have a5 := S14.o.opAt.c5
  have a6 := S14.o.opAt.c6
  have a7 := S14.o.opAt.c7
  have a8 := S14.o.opAt.c8
  have a9 := S14.o.opAt.c9
  have a10 := S14.o.opAt.c10
  have a11 := S14.o.opAt.c11
  have a12 := S14.o.opAt.c12
  have a13 := S14.o.opAt.c13
  by_cases he : e7 = 0
  · subst he
    cases hr : chk o V with
    | false =>
      rw [hr] at c9
      have hb := hid (hb9.out hr)
      have hne := flr_ne 30 (by decide) (L7, 0)
      have cF := fun W (hW : Rdr W b z L7 0) => wflr_any hW 30 (by decide)
      generalize flr 30 (L7, 0) = s at hb hne cF
      obtain ⟨L8, e8⟩ := s
      simp only at hne cF
      have hne' : (e8 != 0) = true := by simpa using hne
      clear hb7 hb8 hb9 hr
      go_upto_region 21 with (first
        | (go_at_call 11; refine c9.mono ?_; rintro r w15 ⟨rfl, F15⟩; have S15 := S14.far F15)
        | (go_at_call 57; refine (cF _ S15.s.r).mono ?_; rintro r w16 ⟨rfl, R16, O16⟩; have S16 := S15.call R16 O16.grown; have hE16 := S16.s.r.err))
      have z0 := S16.s.k.opAt.c0
      have y0 := S16.s.k.frozen 0
      have z1 := S16.s.k.opAt.c1
      have y1 := S16.s.k.frozen 1
      have z2 := S16.s.k.opAt.c2
      have y2 := S16.s.k.frozen 2
      have z3 := S16.s.k.opAt.c3
      have y3 := S16.s.k.frozen 3
      have z4 := S16.s.k.opAt.c4
      have y4 := S16.s.k.frozen 4
      have z5 := S16.s.k.opAt.c5
      have y5 := S16.s.k.frozen 5
      have z6 := S16.s.k.opAt.c6
      have y6 := S16.s.k.frozen 6
      have z7 := S16.s.k.opAt.c7
      have y7 := S16.s.k.frozen 7
      have z8 := S16.s.k.opAt.c8
      have y8 := S16.s.k.frozen 8
      have z9 := S16.s.k.opAt.c9
      have y9 := S16.s.k.frozen 9
      have z10 := S16.s.k.opAt.c10
      have y10 := S16.s.k.frozen 10
      have z11 := S16.s.k.opAt.c11
      have y11 := S16.s.k.frozen 11
      have z12 := S16.s.k.opAt.c12
      have y12 := S16.s.k.frozen 12
      have z13 := S16.s.k.opAt.c13
      have y13 := S16.s.k.frozen 13
      rw [hq2] at z0 y0 z1 y1 z2 y2 z3 y3 z4 y4 z5 y5 z6 y6 z7 y7 z8 y8 z9 y9 z10 y10 z11 y11 z12 y12 z13 y13
      go_wp2_with fail
      have B : Blk (put14 w16 q2 zer (.slice none 0 0)) q2 (zer.cells (.slice none 0 0)) := put14_blk (by have := S16.s.k; rw [hq2] at this; exact this)
      have hO : Only w.heap.size w16 (put14 w16 q2 zer (.slice none 0 0)) := by rw [hq2]; exact put14_only _ _ _ _
      change bodyPost _ _ _ _ _ (put14 w16 q2 zer (.slice none 0 0))
      generalize put14 w16 q2 zer (.slice none 0 0) = W at B hO ⊢
      obtain ⟨u1, u2, u3, u4⟩ := S16.out hO (PS.none _) (fun ad ha => by cases ha)
      have t0 := B.opAt.c0
      have t1 := B.opAt.c1
      have t2 := B.opAt.c2
      have t3 := B.opAt.c3
      have t4 := B.opAt.c4
      have t5 := B.opAt.c5
      have t6 := B.opAt.c6
      have t7 := B.opAt.c7
      have t8 := B.opAt.c8
      have t9 := B.opAt.c9
      have t10 := B.opAt.c10
      have t11 := B.opAt.c11
      have t12 := B.opAt.c12
      have t13 := B.opAt.c13
      clear B hO z0 y0 z1 y1 z2 y2 z3 y3 z4 y4 z5 y5 z6 y6 z7 y7 z8 y8 z9 y9 z10 y10 z11 y11 z12 y12 z13 y13
      have heq : ofin (mko (x, y) t k (gx, gy) ((ax, ay), 0, 0, (0, 0), { data := #[] })) V (L7, 0) = ((zer, []), (L8, e8)) := by rw [← HO.out]; exact hb.out
      refine bodyPost_ret (v := ov zer (.slice none 0 0)) (by simp [results, Try.results21, go_sem, OpIn.cells, t0, t1, t2, t3, t4, t5, t6, t7, t8, t9, t10, t11, t12, t13]) rfl ?_
      rw [heq]
      exact ⟨none, 0, rfl, u1, u2, u3, u4⟩
    | true =>
      rw [hr] at c9
      have hb := hid (hb7.out hr)
      clear hb7 hb8 hb9 hr
      go_upto_region 22 with (first
        | (go_at_call 11; refine c9.mono ?_; rintro r w15 ⟨rfl, F15⟩; have S15 := S14.far F15; have hE15 := S15.s.r.err))
      have g0 := S15.o.opAt.c0
      have g1 := S15.o.opAt.c1
      have g2 := S15.o.opAt.c2
      have g3 := S15.o.opAt.c3
      have g4 := S15.o.opAt.c4
      have g5 := S15.o.opAt.c5
      have g6 := S15.o.opAt.c6
      have g7 := S15.o.opAt.c7
      have g8 := S15.o.opAt.c8
      have g9 := S15.o.opAt.c9
      have g10 := S15.o.opAt.c10
      have g11 := S15.o.opAt.c11
      have g12 := S15.o.opAt.c12
      have g13 := S15.o.opAt.c13
      have z0 := S15.s.k.opAt.c0
      have y0 := S15.s.k.frozen 0
      have z1 := S15.s.k.opAt.c1
      have y1 := S15.s.k.frozen 1
      have z2 := S15.s.k.opAt.c2
      have y2 := S15.s.k.frozen 2
      have z3 := S15.s.k.opAt.c3
      have y3 := S15.s.k.frozen 3
      have z4 := S15.s.k.opAt.c4
      have y4 := S15.s.k.frozen 4
      have z5 := S15.s.k.opAt.c5
      have y5 := S15.s.k.frozen 5
      have z6 := S15.s.k.opAt.c6
      have y6 := S15.s.k.frozen 6
      have z7 := S15.s.k.opAt.c7
      have y7 := S15.s.k.frozen 7
      have z8 := S15.s.k.opAt.c8
      have y8 := S15.s.k.frozen 8
      have z9 := S15.s.k.opAt.c9
      have y9 := S15.s.k.frozen 9
      have z10 := S15.s.k.opAt.c10
      have y10 := S15.s.k.frozen 10
      have z11 := S15.s.k.opAt.c11
      have y11 := S15.s.k.frozen 11
      have z12 := S15.s.k.opAt.c12
      have y12 := S15.s.k.frozen 12
      have z13 := S15.s.k.opAt.c13
      have y13 := S15.s.k.frozen 13
      rw [hq2] at z0 y0 z1 y1 z2 y2 z3 y3 z4 y4 z5 y5 z6 y6 z7 y7 z8 y8 z9 y9 z10 y10 z11 y11 z12 y12 z13 y13
      go_wp2_with fail
      have B : Blk (put14 w15 q2 o (.slice a V.length c)) q2 (o.cells (.slice a V.length c)) := put14_blk (by have := S15.s.k; rw [hq2] at this; exact this)
      have hO : Only w.heap.size w15 (put14 w15 q2 o (.slice a V.length c)) := by rw [hq2]; exact put14_only _ _ _ _
      change bodyPost _ _ _ _ _ (put14 w15 q2 o (.slice a V.length c))
      generalize put14 w15 q2 o (.slice a V.length c) = W at B hO ⊢
      obtain ⟨u1, u2, u3, u4⟩ := S15.out hO S15.p (fun ad ha => (S15.new ad ha).1)
      have t0 := B.opAt.c0
      have t1 := B.opAt.c1
      have t2 := B.opAt.c2
      have t3 := B.opAt.c3
      have t4 := B.opAt.c4
      have t5 := B.opAt.c5
      have t6 := B.opAt.c6
      have t7 := B.opAt.c7
      have t8 := B.opAt.c8
      have t9 := B.opAt.c9
      have t10 := B.opAt.c10
      have t11 := B.opAt.c11
      have t12 := B.opAt.c12
      have t13 := B.opAt.c13
      clear B hO z0 y0 z1 y1 z2 y2 z3 y3 z4 y4 z5 y5 z6 y6 z7 y7 z8 y8 z9 y9 z10 y10 z11 y11 z12 y12 z13 y13
      have heq : ofin (mko (x, y) t k (gx, gy) ((ax, ay), 0, 0, (0, 0), { data := #[] })) V (L7, 0) = ((o, V), (L7, 0)) := by rw [← HO.out]; exact hb.out
      refine bodyPost_ret (v := ov o (.slice a V.length c)) (by simp [results, Try.results21, go_sem, OpIn.cells, t0, t1, t2, t3, t4, t5, t6, t7, t8, t9, t10, t11, t12, t13]) rfl ?_
      rw [heq]
      exact ⟨a, c, rfl, u1, u2, u3, u4⟩
  · have hb := hid (hb8.out he)
    have hne' : (e7 != 0) = true := by simpa using he
    have hne2 : (e7 == 0) = false := by simpa using he
    clear hb7 hb8 hb9 c9
    go_upto_region 21 with fail
    have z0 := S14.s.k.opAt.c0
    have y0 := S14.s.k.frozen 0
    have z1 := S14.s.k.opAt.c1
    have y1 := S14.s.k.frozen 1
    have z2 := S14.s.k.opAt.c2
    have y2 := S14.s.k.frozen 2
    have z3 := S14.s.k.opAt.c3
    have y3 := S14.s.k.frozen 3
    have z4 := S14.s.k.opAt.c4
    have y4 := S14.s.k.frozen 4
    have z5 := S14.s.k.opAt.c5
    have y5 := S14.s.k.frozen 5
    have z6 := S14.s.k.opAt.c6
    have y6 := S14.s.k.frozen 6
    have z7 := S14.s.k.opAt.c7
    have y7 := S14.s.k.frozen 7
    have z8 := S14.s.k.opAt.c8
    have y8 := S14.s.k.frozen 8
    have z9 := S14.s.k.opAt.c9
    have y9 := S14.s.k.frozen 9
    have z10 := S14.s.k.opAt.c10
    have y10 := S14.s.k.frozen 10
    have z11 := S14.s.k.opAt.c11
    have y11 := S14.s.k.frozen 11
    have z12 := S14.s.k.opAt.c12
    have y12 := S14.s.k.frozen 12
    have z13 := S14.s.k.opAt.c13
    have y13 := S14.s.k.frozen 13
    rw [hq2] at z0 y0 z1 y1 z2 y2 z3 y3 z4 y4 z5 y5 z6 y6 z7 y7 z8 y8 z9 y9 z10 y10 z11 y11 z12 y12 z13 y13
    go_wp2_with fail
    have B : Blk (put14 w14 q2 zer (.slice none 0 0)) q2 (zer.cells (.slice none 0 0)) := put14_blk (by have := S14.s.k; rw [hq2] at this; exact this)
    have hO : Only w.heap.size w14 (put14 w14 q2 zer (.slice none 0 0)) := by rw [hq2]; exact put14_only _ _ _ _
    change bodyPost _ _ _ _ _ (put14 w14 q2 zer (.slice none 0 0))
    generalize put14 w14 q2 zer (.slice none 0 0) = W at B hO ⊢
    obtain ⟨u1, u2, u3, u4⟩ := S14.out hO (PS.none _) (fun ad ha => by cases ha)
    have t0 := B.opAt.c0
    have t1 := B.opAt.c1
    have t2 := B.opAt.c2
    have t3 := B.opAt.c3
    have t4 := B.opAt.c4
    have t5 := B.opAt.c5
    have t6 := B.opAt.c6
    have t7 := B.opAt.c7
    have t8 := B.opAt.c8
    have t9 := B.opAt.c9
    have t10 := B.opAt.c10
    have t11 := B.opAt.c11
    have t12 := B.opAt.c12
    have t13 := B.opAt.c13
    clear B hO z0 y0 z1 y1 z2 y2 z3 y3 z4 y4 z5 y5 z6 y6 z7 y7 z8 y8 z9 y9 z10 y10 z11 y11 z12 y12 z13 y13
    have heq : ofin (mko (x, y) t k (gx, gy) ((ax, ay), 0, 0, (0, 0), { data := #[] })) V (L7, e7) = ((zer, []), (L7, e7)) := by rw [← HO.out]; exact hb.out
    refine bodyPost_ret (v := ov zer (.slice none 0 0)) (by simp [results, Try.results21, go_sem, OpIn.cells, t0, t1, t2, t3, t4, t5, t6, t7, t8, t9, t10, t11, t12, t13]) rfl ?_
    rw [heq]
    exact ⟨none, 0, rfl, u1, u2, u3, u4⟩

end

section
open Go.RowKit
open Go.Sort (grow)

set_option maxRecDepth 100000 in
set_option maxHeartbeats 8000000 in
theorem rtake7_mov (w : World) (b z : Nat) (L : List Int) (e : Int) (h : Rdr w b z L e) (hz : z < w.heap.size) (hl : L.length ≤ 1000000) (k0 : Int) (hk0 : (hd7 L e).1.2.2.2 = k0) (hk : k0 = 3) :
    Calls Try.prog 21 #[.pointer (some ⟨b, 0, none⟩)] w (Takes7 w b z (otk L e)) := by
  have S0 := sr_start h hz
  have hl1 := tk_le L e
  have c1 := fun W (hW : Rdr W b z L e) hz => rtake_any W b z L e hW hz
  unfold hd7 at hk0
  unfold otk hd7
  generalize tk L e = s at c1 hl1 hk0 ⊢
  obtain ⟨⟨x, y⟩, L1, e1⟩ := s
  simp only at c1 hl1 hk0 ⊢
  have hl2 := dec_le L1 e1
  have c2 := fun W (hW : Rdr W b z L1 e1) => wint_any W b z L1 e1 hW
  generalize dec L1 e1 = s at c2 hl2 hk0 ⊢
  obtain ⟨i2, L2, e2⟩ := s
  simp only at c2 hl2 hk0 ⊢
  have hl3 := cnt_le L2 e2 2
  have hl3' := vtk_le L2 e2
  have hB2 := fun W (hW : Rdr W b z L2 e2) => vtk_len L2 e2 hW.bts.1
  have c3 := fun W (hW : Rdr W b z L2 e2) hz => rvtake_any W b z L2 e2 hW hz (by omega)
  generalize vtk L2 e2 = s at c3 hB2 hl3' hk0 ⊢
  obtain ⟨V, L3, e3⟩ := s
  unfold TakesV at c3
  simp only at c3 hB2 hl3' hk0 ⊢
  have hl4 := dec_le L3 e3
  have c4 := fun W (hW : Rdr W b z L3 e3) => wint_any W b z L3 e3 hW
  generalize dec L3 e3 = s at c4 hl4 hk0 ⊢
  obtain ⟨i4, L4, e4⟩ := s
  simp only at c4 hl4 hk0 ⊢
  generalize dint i2 = t at c2 ⊢
  generalize hk4 : dint i4 = k at c4 hk0 ⊢
  clear hl3 hk4
  subst hk0
  rw [kfl_yes (by simp [hk])]
  have k1 : (k == 1) = false := by simp [hk]
  have k2 : (k == 2) = false := by simp [hk]
  have k3 : (k == 3) = true := by simp [hk]
  have m1 : (k != 1) = true := by simp [hk]
  have m2 : (k != 2) = true := by simp [hk]
  have m3 : (k != 3) = false := by simp [hk]
  have hpr := fun L6 e6 => prt_mov (k := k) (L := L6) (e := e6) hk
  have hl6 := tk_le L4 e4
  have c6 := fun W (hW : Rdr W b z L4 e4) hz => rtake_any W b z L4 e4 hW hz
  unfold tl7
  simp only
  generalize tk L4 e4 = s at c6 hl6 ⊢
  obtain ⟨⟨gx, gy⟩, L6, e6⟩ := s
  simp only at c6 hl6 ⊢
  have hl7 := prt_key k L6 e6
  have hpr := hpr L6 e6
  obtain ⟨⟨pp, L7, e7⟩, hpe⟩ : ∃ s, prt k L6 e6 = s := ⟨_, rfl⟩
  rw [hpe] at hl7 hpr ⊢
  simp only at hl7 hpr ⊢
  have hkey : (mko (x, y) t k (gx, gy) pp).key.size ≤ maxLen := by show pp.2.2.2.2.size ≤ maxLen; unfold maxLen; omega
  have c8 := fun W a c (hV : V.length ≤ 1000000) (hP : PS W a V.length c V) => rcheck_any (mko (x, y) t k (gx, gy) pp) a V.length c V W hP (by omega) hkey
  have hb7 := hid (fun h => ofin_ok (o := mko (x, y) t k (gx, gy) pp) (V := V) h L7)
  have hb8 := hid (fun (h : e7 ≠ 0) => ofin_err (mko (x, y) t k (gx, gy) pp) V L7 h)
  have hb9 := hid (fun h => ofin_no (o := mko (x, y) t k (gx, gy) pp) (V := V) h (L7, e7))
  have hVl : Hid (∀ (W : World), Rdr W b z L2 e2 → V.length ≤ 1000000) := hid fun W hW => by have := hB2 W hW; omega
  have HPR := hid hpr
  clear hkey hl6 hl7 hl hl1 hl2 hl3' hl4 hB2 hpe hpr hk
  go_enter Try.func21, Try.ntmps21
  go_upto_region 1 with fail
  generalize w.alloc (.cells #[.int .i64 0, .int .i64 0, .int .i64 0, .slice none 0 0, .int .i64 0, .int .i64 0, .int .i64 0, .int .i64 0, .int .i64 0, .int .i64 0, .int .i64 0, .int .i64 0, .int .i64 0, .string { data := #[] }] 27) = w0 at S0 ⊢
  generalize hq2 : w.heap.size = q2
  clear h
  go_upto_region 2 with (first
    | (go_at_call 54; refine (c1 _ S0.r S0.zlt).mono ?_; rintro r w1 ⟨rfl, R1, G1⟩; have S1 := S0.call R1 G1))
  have S2 := S1.below ((Below.refl w1.heap.size w1).alloc (Nat.le_refl _) (.cells #[.int .i64 x, .int .i64 y] 23))
  have d0 : (w1.alloc (.cells #[.int .i64 x, .int .i64 y] 23)).cell? ⟨w1.heap.size, 0, none⟩ = some (.int .i64 x) := by go_simp
  have d1 : (w1.alloc (.cells #[.int .i64 x, .int .i64 y] 23)).cell? ⟨w1.heap.size, 1, none⟩ = some (.int .i64 y) := by go_simp
  have hbd : b ≠ w1.heap.size := by have h1 := S1.hb; have h2 := S1.g.size; omega
  generalize w1.alloc (.cells #[.int .i64 x, .int .i64 y] 23) = w2 at S2 d0 d1 ⊢
  generalize w1.heap.size = qd at d0 d1 hbd ⊢
  clear S0 S1 R1 G1 c1
  go_upto_region 3 with (first
    | (go_at_call 55; refine (c2 _ S2.r).mono ?_; rintro r w3 ⟨rfl, R3, O3⟩))
  have S3 := S2.call R3 O3.grown
  have d0 := (O3.cell (p := ⟨qd, 0, none⟩) (Ne.symm hbd)).trans d0
  have d1 := (O3.cell (p := ⟨qd, 1, none⟩) (Ne.symm hbd)).trans d1
  have hV6 := hVl.out w3 S3.r
  clear S2 R3 O3 c2 hVl
  go_upto_region 4 with (first
    | (go_at_call 56; refine (c3 _ S3.r S3.zlt).mono ?_; rintro r w4 ⟨a, c, rfl, P4, R4, G4, N4⟩))
  have S4 := S3.call R4 G4
  have hnd : ∀ ad, a = some ad → w.heap.size < ad.block := fun ad ha => by have h1 := N4 ad ha; have h2 := S3.k.lt; omega
  have d0 := (G4.cell_far ⟨qd, 0, none⟩ (cell_in d0) (by simpa using Ne.symm hbd)).trans d0
  have d1 := (G4.cell_far ⟨qd, 1, none⟩ (cell_in d1) (by simpa using Ne.symm hbd)).trans d1
  clear S3 R4 G4 N4 c3
  go_upto_region 5 with (first
    | (go_at_call 55; refine (c4 _ S4.r).mono ?_; rintro r w5 ⟨rfl, R5, O5⟩))
  have S5 := S4.call R5 O5.grown
  have P5 : PS w5 a V.length c V := P4.other fun ad ha _ => O5.block _ (by have h1 := hnd ad ha; have h2 := S4.hb; omega)
  have d0 := (O5.cell (p := ⟨qd, 0, none⟩) (Ne.symm hbd)).trans d0
  have d1 := (O5.cell (p := ⟨qd, 1, none⟩) (Ne.symm hbd)).trans d1
  clear S4 R5 O5 c4 P4
  have hE := S5.r.err
  go_cut [32] from 16 to 32 (fun s wc => s = .bool false ∧ w5 = wc)
  case first =>
    by_cases he4 : e4 = 0
    · have g4 : (e4 == 0) = true := by simp [he4]
      clear he4
      go_wp2_with fail
      go_meet
      exact ⟨rfl, rfl⟩
    · have g4 : (e4 == 0) = false := by simp [he4]
      clear he4
      go_wp2_with fail
      go_meet
      exact ⟨rfl, rfl⟩
  obtain ⟨rfl, hwc⟩ := hcut
  subst hwc
  go_upto_region 7 with fail
  have hbn : w5.heap.size ≠ b := by have h1 := S5.hb; have h2 := S5.g.size; omega
  have hqd : qd < w5.heap.size := cell_in d0
  have hqn : qd ≠ w5.heap.size := Nat.ne_of_lt hqd
  have RA : Rdr w5.drew b z L4 e4 := S5.r.below (Below.refl _ _).drew
  have RB : Rdr (w5.drew.alloc (.cells #[.int .i64 0, .int .i64 0, .int .i64 0, .slice none 0 0, .int .i64 0, .int .i64 0, .int .i64 0, .int .i64 0, .int .i64 0, .int .i64 0, .int .i64 0, .int .i64 0, .int .i64 0, .string { data := #[] }] 27)) b z L4 e4 := S5.r.below ((Below.refl _ _).drew.alloc (by exact Nat.le_refl _) _)
  have zA : z < w5.drew.heap.size := S5.zlt
  have zB : z < (w5.drew.alloc (.cells #[.int .i64 0, .int .i64 0, .int .i64 0, .slice none 0 0, .int .i64 0, .int .i64 0, .int .i64 0, .int .i64 0, .int .i64 0, .int .i64 0, .int .i64 0, .int .i64 0, .int .i64 0, .string { data := #[] }] 27)).heap.size := Nat.lt_of_lt_of_le S5.zlt (by simp)
  go_cut [7] from 35 to 41 (fun s wc => ∃ q, s = .pointer (some ⟨q, 0, none⟩) ∧ So w wc b z q (mko (x, y) t k (gx, gy) np) a V.length c V L6 e6)
  case first =>
    go_region_with (first
      | (go_at_call 54; first
        | (refine (c6 w5.drew RA zA).mono ?_; rintro r w9 ⟨rfl, R9, G9⟩; have x0 := (G9.cell_far ⟨qd, 0, none⟩ (cell_in d0) (by simpa using Ne.symm hbd)).trans d0; have x1 := (G9.cell_far ⟨qd, 1, none⟩ (cell_in d1) (by simpa using Ne.symm hbd)).trans d1; have hq9 : qd < w9.heap.size := cell_in x0; have hq9n : qd ≠ w9.heap.size := Nat.ne_of_lt hq9)
        | (refine (c6 (w5.drew.alloc (.cells #[.int .i64 0, .int .i64 0, .int .i64 0, .slice none 0 0, .int .i64 0, .int .i64 0, .int .i64 0, .int .i64 0, .int .i64 0, .int .i64 0, .int .i64 0, .int .i64 0, .int .i64 0, .string { data := #[] }] 27)) RB zB).mono ?_; rintro r w9 ⟨rfl, R9, G9⟩; have x0 := (G9.cell_far ⟨qd, 0, none⟩ (by simpa using Nat.lt_succ_of_lt hqd) (by simpa using Ne.symm hbd)).trans ((World.cell?_alloc_lt _ _ _ hqd).trans d0); have x1 := (G9.cell_far ⟨qd, 1, none⟩ (by simpa using Nat.lt_succ_of_lt hqd) (by simpa using Ne.symm hbd)).trans ((World.cell?_alloc_lt _ _ _ hqd).trans d1); have B9 : Blk w9 w5.heap.size (zer.cells (.slice none 0 0)) := (blk_alloc w5.drew #[.int .i64 0, .int .i64 0, .int .i64 0, .slice none 0 0, .int .i64 0, .int .i64 0, .int .i64 0, .int .i64 0, .int .i64 0, .int .i64 0, .int .i64 0, .int .i64 0, .int .i64 0, .string { data := #[] }]).same (G9.block w5.heap.size (by simp) (by simpa using hbn)); have z0 := B9.opAt.c0; have y0 := B9.frozen 0; have z1 := B9.opAt.c1; have y1 := B9.frozen 1; have z2 := B9.opAt.c2; have y2 := B9.frozen 2; have z3 := B9.opAt.c3; have y3 := B9.frozen 3; have z4 := B9.opAt.c4; have y4 := B9.frozen 4; have z5 := B9.opAt.c5; have y5 := B9.frozen 5; have z6 := B9.opAt.c6; have y6 := B9.frozen 6; have z7 := B9.opAt.c7; have y7 := B9.frozen 7; have z8 := B9.opAt.c8; have y8 := B9.frozen 8; have z9 := B9.opAt.c9; have y9 := B9.frozen 9; have z10 := B9.opAt.c10; have y10 := B9.frozen 10; have z11 := B9.opAt.c11; have y11 := B9.frozen 11; have z12 := B9.opAt.c12; have y12 := B9.frozen 12; have z13 := B9.opAt.c13; have y13 := B9.frozen 13)))
    all_goals go_wp2_with fail
    all_goals go_meet
    all_goals first
      | (have hq := hq9
         refine ⟨w9.heap.size, rfl, ?_⟩
         have S9 := (S5.below (Below.refl _ _).drew).call R9 G9
         have P9 : PS w9 a V.length c V := (P5.below (Below.refl _ _).drew).other fun ad ha hl => G9.block _ hl (by have h1 := hnd ad ha; have h2 := S5.hb; simp; omega)
         exact ⟨S9.below ((Below.refl _ _).alloc (Nat.le_refl _) _), blk_alloc w9 #[.int .i64 x, .int .i64 y, .int .i64 t, .slice a V.length c, .int .i64 k, .int .i64 gx, .int .i64 gy, .int .i64 0, .int .i64 0, .int .i64 0, .int .i64 0, .int .i64 0, .int .i64 0, .string { data := #[] }], S9.k.lt, P9.below ((Below.refl _ _).alloc (Nat.le_refl _) _), fun ad ha => ⟨hnd ad ha, fun hp => by obtain ⟨g, o, hg, hgl, _⟩ := P9.at hp; rw [hg] at ha; cases ha; exact Nat.ne_of_lt hgl⟩⟩)
      | (have hq := B9
         refine ⟨w5.heap.size, rfl, ?_⟩
         have hBB : Below w5.heap.size w5 (w5.drew.alloc (.cells #[.int .i64 0, .int .i64 0, .int .i64 0, .slice none 0 0, .int .i64 0, .int .i64 0, .int .i64 0, .int .i64 0, .int .i64 0, .int .i64 0, .int .i64 0, .int .i64 0, .int .i64 0, .string { data := #[] }] 27)) := (Below.refl _ _).drew.alloc (by exact Nat.le_refl _) _
         have S9 := (S5.below hBB).call R9 G9
         have P9 : PS w9 a V.length c V := (P5.below hBB).other fun ad ha hl => G9.block _ hl (by have h1 := hnd ad ha; have h2 := S5.hb; simp; omega)
         have hO := put14_only w9 w5.heap.size (mko (x, y) t k (gx, gy) np) (.slice a V.length c)
         have hne : ∀ ad, 0 < V.length → a = some ad → ad.block ≠ w5.heap.size := fun ad hp ha => by obtain ⟨g, o, hg, hgl, _⟩ := P5.at hp; rw [hg] at ha; cases ha; exact Nat.ne_of_lt hgl
         change So w (put14 w9 w5.heap.size (mko (x, y) t k (gx, gy) np) (.slice a V.length c)) b z w5.heap.size (mko (x, y) t k (gx, gy) np) a V.length c V L6 e6
         exact ⟨S9.only hO S5.k.lt, put14_blk B9, S5.k.lt, P9.apart' fun ad hp ha _ => hO.block _ (hne ad hp ha), fun ad ha => ⟨hnd ad ha, fun hp => hne ad hp ha⟩⟩)
  obtain ⟨q, rfl, S10⟩ := hcut
  clear RA RB zA zB d0 d1 hbd hqd hqn hbn hE S5 P5 c6
  have c7 := fun W (hW : Rdr W b z L6 e6) hz => rtake_any W b z L6 e6 hW hz
  have hpp := HPR.out
  generalize tk L6 e6 = s at c7 hpp
  obtain ⟨⟨ax, ay⟩, La, ea⟩ := s
  simp only at c7 hpp
  have cI := fun W (hW : Rdr W b z La ea) => wtext_any W b z La ea hW
  generalize rtx La ea = s at cI hpp
  obtain ⟨iA, Lb, eb⟩ := s
  simp only at cI hpp
  generalize strOfNums iA = ks at cI hpp
  simp only [Prod.mk.injEq] at hpp
  obtain ⟨rfl, rfl, rfl⟩ := hpp
  clear HPR
  go_upto_region 17 with (first
    | (go_at_call 54; refine (c7 _ S10.s.r S10.s.zlt).mono ?_; rintro r w11 ⟨rfl, Rw11, Gw11⟩; have Tw11 := S10.call Rw11 Gw11; have va := Tw11.o.opAt.c11; have vb := Tw11.o.opAt.c12; have fa := Tw11.o.frozen 11; have fb := Tw11.o.frozen 12))
  have S11 : So w ((w11.setCell ⟨q, 11, none⟩ (.int .i64 ax)).setCell ⟨q, 12, none⟩ (.int .i64 ay)) b z q (mko (x, y) t k (gx, gy) ((0, 0), 0, 0, (ax, ay), { data := #[] })) a V.length c V La ea := Tw11.upd (only2 _ _ _ _ _ _) (by have := (Tw11.o.set 11 (.int .i64 ax)).set 12 (.int .i64 ay); exact this)
  generalize (w11.setCell ⟨q, 11, none⟩ (.int .i64 ax)).setCell ⟨q, 12, none⟩ (.int .i64 ay) = u11 at S11 ⊢
  clear va vb fa fb S10 Tw11 Rw11 Gw11 c7
  go_upto_region 18 with (first
    | (go_at_call 58; refine (cI _ S11.s.r).mono ?_; rintro r w12 ⟨rfl, Rw12, Ow12⟩; have Tw12 := S11.call Rw12 Ow12.grown; have va := Tw12.o.opAt.c13; have fa := Tw12.o.frozen 13))
  have S14 : So w (w12.setCell ⟨q, 13, none⟩ (.string ks)) b z q (mko (x, y) t k (gx, gy) ((0, 0), 0, 0, (ax, ay), ks)) a V.length c V L7 e7 := Tw12.upd (only1 _ _ _ _) (by have := Tw12.o.set 13 (.string ks); exact this)
  generalize w12.setCell ⟨q, 13, none⟩ (.string ks) = w14 at S14 ⊢
  clear va fa S11 Tw12 Rw12 Ow12 cI
  obtain ⟨o, ho⟩ : ∃ o, o = mko (x, y) t k (gx, gy) ((0, 0), 0, 0, (ax, ay), ks) := ⟨_, rfl⟩
  rw [← ho] at c8 S14 hb7 hb8 hb9
  have HO := hid ho
  clear ho
  have c9 := c8 w14 a c hV6 S14.p
  clear c8
  have hE := S14.s.r.err
  have a0 := S14.o.opAt.c0
  have a1 := S14.o.opAt.c1
  have a2 := S14.o.opAt.c2
  have a3 := S14.o.opAt.c3
  have a4 := S14.o.opAt.c4
  have a5 := S14.o.opAt.c5
  have a6 := S14.o.opAt.c6
  have a7 := S14.o.opAt.c7
  have a8 := S14.o.opAt.c8
  have a9 := S14.o.opAt.c9
  have a10 := S14.o.opAt.c10
  have a11 := S14.o.opAt.c11
  have a12 := S14.o.opAt.c12
  have a13 := S14.o.opAt.c13
  by_cases he : e7 = 0
  · subst he
    cases hr : chk o V with
    | false =>
      rw [hr] at c9
      have hb := hid (hb9.out hr)
      have hne := flr_ne 30 (by decide) (L7, 0)
      have cF := fun W (hW : Rdr W b z L7 0) => wflr_any hW 30 (by decide)
      generalize flr 30 (L7, 0) = s at hb hne cF
      obtain ⟨L8, e8⟩ := s
      simp only at hne cF
      have hne' : (e8 != 0) = true := by simpa using hne
      clear hb7 hb8 hb9 hr
      go_upto_region 21 with (first
        | (go_at_call 11; refine c9.mono ?_; rintro r w15 ⟨rfl, F15⟩; have S15 := S14.far F15)
        | (go_at_call 57; refine (cF _ S15.s.r).mono ?_; rintro r w16 ⟨rfl, R16, O16⟩; have S16 := S15.call R16 O16.grown; have hE16 := S16.s.r.err))
      have z0 := S16.s.k.opAt.c0
      have y0 := S16.s.k.frozen 0
      have z1 := S16.s.k.opAt.c1
      have y1 := S16.s.k.frozen 1
      have z2 := S16.s.k.opAt.c2
      have y2 := S16.s.k.frozen 2
      have z3 := S16.s.k.opAt.c3
      have y3 := S16.s.k.frozen 3
      have z4 := S16.s.k.opAt.c4
      have y4 := S16.s.k.frozen 4
      have z5 := S16.s.k.opAt.c5
      have y5 := S16.s.k.frozen 5
      have z6 := S16.s.k.opAt.c6
      have y6 := S16.s.k.frozen 6
      have z7 := S16.s.k.opAt.c7
      have y7 := S16.s.k.frozen 7
      have z8 := S16.s.k.opAt.c8
      have y8 := S16.s.k.frozen 8
      have z9 := S16.s.k.opAt.c9
      have y9 := S16.s.k.frozen 9
      have z10 := S16.s.k.opAt.c10
      have y10 := S16.s.k.frozen 10
      have z11 := S16.s.k.opAt.c11
      have y11 := S16.s.k.frozen 11
      have z12 := S16.s.k.opAt.c12
      have y12 := S16.s.k.frozen 12
      have z13 := S16.s.k.opAt.c13
      have y13 := S16.s.k.frozen 13
      rw [hq2] at z0 y0 z1 y1 z2 y2 z3 y3 z4 y4 z5 y5 z6 y6 z7 y7 z8 y8 z9 y9 z10 y10 z11 y11 z12 y12 z13 y13
      go_wp2_with fail
      have B : Blk (put14 w16 q2 zer (.slice none 0 0)) q2 (zer.cells (.slice none 0 0)) := put14_blk (by have := S16.s.k; rw [hq2] at this; exact this)
      have hO : Only w.heap.size w16 (put14 w16 q2 zer (.slice none 0 0)) := by rw [hq2]; exact put14_only _ _ _ _
      change bodyPost _ _ _ _ _ (put14 w16 q2 zer (.slice none 0 0))
      generalize put14 w16 q2 zer (.slice none 0 0) = W at B hO ⊢
      obtain ⟨u1, u2, u3, u4⟩ := S16.out hO (PS.none _) (fun ad ha => by cases ha)
      have t0 := B.opAt.c0
      have t1 := B.opAt.c1
      have t2 := B.opAt.c2
      have t3 := B.opAt.c3
      have t4 := B.opAt.c4
      have t5 := B.opAt.c5
      have t6 := B.opAt.c6
      have t7 := B.opAt.c7
      have t8 := B.opAt.c8
      have t9 := B.opAt.c9
      have t10 := B.opAt.c10
      have t11 := B.opAt.c11
      have t12 := B.opAt.c12
      have t13 := B.opAt.c13
      clear B hO z0 y0 z1 y1 z2 y2 z3 y3 z4 y4 z5 y5 z6 y6 z7 y7 z8 y8 z9 y9 z10 y10 z11 y11 z12 y12 z13 y13
      have heq : ofin (mko (x, y) t k (gx, gy) ((0, 0), 0, 0, (ax, ay), ks)) V (L7, 0) = ((zer, []), (L8, e8)) := by rw [← HO.out]; exact hb.out
      refine bodyPost_ret (v := ov zer (.slice none 0 0)) (by simp [results, Try.results21, go_sem, OpIn.cells, t0, t1, t2, t3, t4, t5, t6, t7, t8, t9, t10, t11, t12, t13]) rfl ?_
      rw [heq]
      exact ⟨none, 0, rfl, u1, u2, u3, u4⟩
    | true =>
      rw [hr] at c9
      have hb := hid (hb7.out hr)
      clear hb7 hb8 hb9 hr
      go_upto_region 22 with (first
        | (go_at_call 11; refine c9.mono ?_; rintro r w15 ⟨rfl, F15⟩; have S15 := S14.far F15; have hE15 := S15.s.r.err))
      have g0 := S15.o.opAt.c0
      have g1 := S15.o.opAt.c1
      have g2 := S15.o.opAt.c2
      have g3 := S15.o.opAt.c3
      have g4 := S15.o.opAt.c4
      have g5 := S15.o.opAt.c5
      have g6 := S15.o.opAt.c6
      have g7 := S15.o.opAt.c7
      have g8 := S15.o.opAt.c8
      have g9 := S15.o.opAt.c9
      have g10 := S15.o.opAt.c10
      have g11 := S15.o.opAt.c11
      have g12 := S15.o.opAt.c12
      have g13 := S15.o.opAt.c13
      have z0 := S15.s.k.opAt.c0
      have y0 := S15.s.k.frozen 0
      have z1 := S15.s.k.opAt.c1
      have y1 := S15.s.k.frozen 1
      have z2 := S15.s.k.opAt.c2
      have y2 := S15.s.k.frozen 2
      have z3 := S15.s.k.opAt.c3
      have y3 := S15.s.k.frozen 3
      have z4 := S15.s.k.opAt.c4
      have y4 := S15.s.k.frozen 4
      have z5 := S15.s.k.opAt.c5
      have y5 := S15.s.k.frozen 5
      have z6 := S15.s.k.opAt.c6
      have y6 := S15.s.k.frozen 6
      have z7 := S15.s.k.opAt.c7
      have y7 := S15.s.k.frozen 7
      have z8 := S15.s.k.opAt.c8
      have y8 := S15.s.k.frozen 8
      have z9 := S15.s.k.opAt.c9
      have y9 := S15.s.k.frozen 9
      have z10 := S15.s.k.opAt.c10
      have y10 := S15.s.k.frozen 10
      have z11 := S15.s.k.opAt.c11
      have y11 := S15.s.k.frozen 11
      have z12 := S15.s.k.opAt.c12
      have y12 := S15.s.k.frozen 12
      have z13 := S15.s.k.opAt.c13
      have y13 := S15.s.k.frozen 13
      rw [hq2] at z0 y0 z1 y1 z2 y2 z3 y3 z4 y4 z5 y5 z6 y6 z7 y7 z8 y8 z9 y9 z10 y10 z11 y11 z12 y12 z13 y13
      go_wp2_with fail
      have B : Blk (put14 w15 q2 o (.slice a V.length c)) q2 (o.cells (.slice a V.length c)) := put14_blk (by have := S15.s.k; rw [hq2] at this; exact this)
      have hO : Only w.heap.size w15 (put14 w15 q2 o (.slice a V.length c)) := by rw [hq2]; exact put14_only _ _ _ _
      change bodyPost _ _ _ _ _ (put14 w15 q2 o (.slice a V.length c))
      generalize put14 w15 q2 o (.slice a V.length c) = W at B hO ⊢
      obtain ⟨u1, u2, u3, u4⟩ := S15.out hO S15.p (fun ad ha => (S15.new ad ha).1)
      have t0 := B.opAt.c0
      have t1 := B.opAt.c1
      have t2 := B.opAt.c2
      have t3 := B.opAt.c3
      have t4 := B.opAt.c4
      have t5 := B.opAt.c5
      have t6 := B.opAt.c6
      have t7 := B.opAt.c7
      have t8 := B.opAt.c8
      have t9 := B.opAt.c9
      have t10 := B.opAt.c10
      have t11 := B.opAt.c11
      have t12 := B.opAt.c12
      have t13 := B.opAt.c13
      clear B hO z0 y0 z1 y1 z2 y2 z3 y3 z4 y4 z5 y5 z6 y6 z7 y7 z8 y8 z9 y9 z10 y10 z11 y11 z12 y12 z13 y13
      have heq : ofin (mko (x, y) t k (gx, gy) ((0, 0), 0, 0, (ax, ay), ks)) V (L7, 0) = ((o, V), (L7, 0)) := by rw [← HO.out]; exact hb.out
      refine bodyPost_ret (v := ov o (.slice a V.length c)) (by simp [results, Try.results21, go_sem, OpIn.cells, t0, t1, t2, t3, t4, t5, t6, t7, t8, t9, t10, t11, t12, t13]) rfl ?_
      rw [heq]
      exact ⟨a, c, rfl, u1, u2, u3, u4⟩
  · have hb := hid (hb8.out he)
    have hne' : (e7 != 0) = true := by simpa using he
    have hne2 : (e7 == 0) = false := by simpa using he
    clear hb7 hb8 hb9 c9
    go_upto_region 21 with fail
    have z0 := S14.s.k.opAt.c0
    have y0 := S14.s.k.frozen 0
    have z1 := S14.s.k.opAt.c1
    have y1 := S14.s.k.frozen 1
    have z2 := S14.s.k.opAt.c2
    have y2 := S14.s.k.frozen 2
    have z3 := S14.s.k.opAt.c3
    have y3 := S14.s.k.frozen 3
    have z4 := S14.s.k.opAt.c4
    have y4 := S14.s.k.frozen 4
    have z5 := S14.s.k.opAt.c5
    have y5 := S14.s.k.frozen 5
    have z6 := S14.s.k.opAt.c6
    have y6 := S14.s.k.frozen 6
    have z7 := S14.s.k.opAt.c7
    have y7 := S14.s.k.frozen 7
    have z8 := S14.s.k.opAt.c8
    have y8 := S14.s.k.frozen 8
    have z9 := S14.s.k.opAt.c9
    have y9 := S14.s.k.frozen 9
    have z10 := S14.s.k.opAt.c10
    have y10 := S14.s.k.frozen 10
    have z11 := S14.s.k.opAt.c11
    have y11 := S14.s.k.frozen 11
    have z12 := S14.s.k.opAt.c12
    have y12 := S14.s.k.frozen 12
    have z13 := S14.s.k.opAt.c13
    have y13 := S14.s.k.frozen 13
    rw [hq2] at z0 y0 z1 y1 z2 y2 z3 y3 z4 y4 z5 y5 z6 y6 z7 y7 z8 y8 z9 y9 z10 y10 z11 y11 z12 y12 z13 y13
    go_wp2_with fail
    have B : Blk (put14 w14 q2 zer (.slice none 0 0)) q2 (zer.cells (.slice none 0 0)) := put14_blk (by have := S14.s.k; rw [hq2] at this; exact this)
    have hO : Only w.heap.size w14 (put14 w14 q2 zer (.slice none 0 0)) := by rw [hq2]; exact put14_only _ _ _ _
    change bodyPost _ _ _ _ _ (put14 w14 q2 zer (.slice none 0 0))
    generalize put14 w14 q2 zer (.slice none 0 0) = W at B hO ⊢
    obtain ⟨u1, u2, u3, u4⟩ := S14.out hO (PS.none _) (fun ad ha => by cases ha)
    have t0 := B.opAt.c0
    have t1 := B.opAt.c1
    have t2 := B.opAt.c2
    have t3 := B.opAt.c3
    have t4 := B.opAt.c4
    have t5 := B.opAt.c5
    have t6 := B.opAt.c6
    have t7 := B.opAt.c7
    have t8 := B.opAt.c8
    have t9 := B.opAt.c9
    have t10 := B.opAt.c10
    have t11 := B.opAt.c11
    have t12 := B.opAt.c12
    have t13 := B.opAt.c13
    clear B hO z0 y0 z1 y1 z2 y2 z3 y3 z4 y4 z5 y5 z6 y6 z7 y7 z8 y8 z9 y9 z10 y10 z11 y11 z12 y12 z13 y13
    have heq : ofin (mko (x, y) t k (gx, gy) ((0, 0), 0, 0, (ax, ay), ks)) V (L7, e7) = ((zer, []), (L7, e7)) := by rw [← HO.out]; exact hb.out
    refine bodyPost_ret (v := ov zer (.slice none 0 0)) (by simp [results, Try.results21, go_sem, OpIn.cells, t0, t1, t2, t3, t4, t5, t6, t7, t8, t9, t10, t11, t12, t13]) rfl ?_
    rw [heq]
    exact ⟨none, 0, rfl, u1, u2, u3, u4⟩

end

section
open Go.RowKit
open Go.Sort (grow)

/-- The error behind the Kind. -/
def kerr (L : List Int) (e : Int) : Int := (dec (vtk (dec (tk L e).2.1 (tk L e).2.2).2.1 (dec (tk L e).2.1 (tk L e).2.2).2.2).2.1 (vtk (dec (tk L e).2.1 (tk L e).2.2).2.1 (dec (tk L e).2.1 (tk L e).2.2).2.2).2.2).2.2

end

section
open Go.RowKit
open Go.Sort (grow)

set_option maxRecDepth 100000 in
set_option maxHeartbeats 8000000 in
theorem rtake7_no1 (w : World) (b z : Nat) (L : List Int) (e : Int) (h : Rdr w b z L e) (hz : z < w.heap.size) (hl : L.length ≤ 1000000) (k0 : Int) (hk0 : (hd7 L e).1.2.2.2 = k0) (h1 : k0 ≠ 1) (h2 : k0 ≠ 2) (h3 : k0 ≠ 3) (he0 : kerr L e = 0) :
    Calls Try.prog 21 #[.pointer (some ⟨b, 0, none⟩)] w (Takes7 w b z (otk L e)) := by
  have S0 := sr_start h hz
  have hl1 := tk_le L e
  have c1 := fun W (hW : Rdr W b z L e) hz => rtake_any W b z L e hW hz
  unfold hd7 at hk0
  unfold kerr at he0
  unfold otk hd7
  generalize tk L e = s at c1 hl1 hk0 he0 ⊢
  obtain ⟨⟨x, y⟩, L1, e1⟩ := s
  simp only at c1 hl1 hk0 he0 ⊢
  have hl2 := dec_le L1 e1
  have c2 := fun W (hW : Rdr W b z L1 e1) => wint_any W b z L1 e1 hW
  generalize dec L1 e1 = s at c2 hl2 hk0 he0 ⊢
  obtain ⟨i2, L2, e2⟩ := s
  simp only at c2 hl2 hk0 he0 ⊢
  have hl3 := cnt_le L2 e2 2
  have hl3' := vtk_le L2 e2
  have hB2 := fun W (hW : Rdr W b z L2 e2) => vtk_len L2 e2 hW.bts.1
  have c3 := fun W (hW : Rdr W b z L2 e2) hz => rvtake_any W b z L2 e2 hW hz (by omega)
  generalize vtk L2 e2 = s at c3 hB2 hl3' hk0 he0 ⊢
  obtain ⟨V, L3, e3⟩ := s
  unfold TakesV at c3
  simp only at c3 hB2 hl3' hk0 he0 ⊢
  have hl4 := dec_le L3 e3
  have c4 := fun W (hW : Rdr W b z L3 e3) => wint_any W b z L3 e3 hW
  generalize dec L3 e3 = s at c4 hl4 hk0 he0 ⊢
  obtain ⟨i4, L4, e4⟩ := s
  simp only at c4 hl4 hk0 he0 ⊢
  generalize dint i2 = t at c2 ⊢
  generalize hk4 : dint i4 = k at c4 hk0 ⊢
  clear hl3 hk4
  subst hk0
  rw [kfl_no h1 h2 h3]
  have hl5 := flr_le 11 (L4, e4)
  have c5 := fun W (hW : Rdr W b z L4 e4) => wflr_any hW 11 (by decide)
  have hdead := hid (fun (he : e4 ≠ 0) => show flr 11 (L4, e4) = (L4, e4) by simp [flr, he])
  generalize flr 11 (L4, e4) = s at hl5 c5 hdead ⊢
  obtain ⟨L5, e5⟩ := s
  simp only at hl5 c5 ⊢
  have k1 : (k == 1) = false := by simp [h1]
  have k2 : (k == 2) = false := by simp [h2]
  have k3 : (k == 3) = false := by simp [h3]
  have m1 : (k != 1) = true := by simp [h1]
  have m2 : (k != 2) = true := by simp [h2]
  have m3 : (k != 3) = true := by simp [h3]
  have hpr := fun L6 e6 => prt_no (k := k) (L := L6) (e := e6) h1 h2 h3
  have hl6 := tk_le L5 e5
  have c6 := fun W (hW : Rdr W b z L5 e5) hz => rtake_any W b z L5 e5 hW hz
  unfold tl7
  simp only
  generalize tk L5 e5 = s at c6 hl6 ⊢
  obtain ⟨⟨gx, gy⟩, L6, e6⟩ := s
  simp only at c6 hl6 ⊢
  have hl7 := prt_key k L6 e6
  have hpr := hpr L6 e6
  obtain ⟨⟨pp, L7, e7⟩, hpe⟩ : ∃ s, prt k L6 e6 = s := ⟨_, rfl⟩
  rw [hpe] at hl7 hpr ⊢
  simp only at hl7 hpr ⊢
  have hkey : (mko (x, y) t k (gx, gy) pp).key.size ≤ maxLen := by show pp.2.2.2.2.size ≤ maxLen; unfold maxLen; omega
  have c8 := fun W a c (hV : V.length ≤ 1000000) (hP : PS W a V.length c V) => rcheck_any (mko (x, y) t k (gx, gy) pp) a V.length c V W hP (by omega) hkey
  have hb7 := hid (fun h => ofin_ok (o := mko (x, y) t k (gx, gy) pp) (V := V) h L7)
  have hb8 := hid (fun (h : e7 ≠ 0) => ofin_err (mko (x, y) t k (gx, gy) pp) V L7 h)
  have hb9 := hid (fun h => ofin_no (o := mko (x, y) t k (gx, gy) pp) (V := V) h (L7, e7))
  have hVl : Hid (∀ (W : World), Rdr W b z L2 e2 → V.length ≤ 1000000) := hid fun W hW => by have := hB2 W hW; omega
  have HPR := hid hpr
  clear hkey hl6 hl7 hl hl1 hl2 hl3' hl4 hB2 hpe hpr h1 h2 h3
  go_enter Try.func21, Try.ntmps21
  go_upto_region 1 with fail
  generalize w.alloc (.cells #[.int .i64 0, .int .i64 0, .int .i64 0, .slice none 0 0, .int .i64 0, .int .i64 0, .int .i64 0, .int .i64 0, .int .i64 0, .int .i64 0, .int .i64 0, .int .i64 0, .int .i64 0, .string { data := #[] }] 27) = w0 at S0 ⊢
  generalize hq2 : w.heap.size = q2
  clear h
  go_upto_region 2 with (first
    | (go_at_call 54; refine (c1 _ S0.r S0.zlt).mono ?_; rintro r w1 ⟨rfl, R1, G1⟩; have S1 := S0.call R1 G1))
  have S2 := S1.below ((Below.refl w1.heap.size w1).alloc (Nat.le_refl _) (.cells #[.int .i64 x, .int .i64 y] 23))
  have d0 : (w1.alloc (.cells #[.int .i64 x, .int .i64 y] 23)).cell? ⟨w1.heap.size, 0, none⟩ = some (.int .i64 x) := by go_simp
  have d1 : (w1.alloc (.cells #[.int .i64 x, .int .i64 y] 23)).cell? ⟨w1.heap.size, 1, none⟩ = some (.int .i64 y) := by go_simp
  have hbd : b ≠ w1.heap.size := by have h1 := S1.hb; have h2 := S1.g.size; omega
  generalize w1.alloc (.cells #[.int .i64 x, .int .i64 y] 23) = w2 at S2 d0 d1 ⊢
  generalize w1.heap.size = qd at d0 d1 hbd ⊢
  clear S0 S1 R1 G1 c1
  go_upto_region 3 with (first
    | (go_at_call 55; refine (c2 _ S2.r).mono ?_; rintro r w3 ⟨rfl, R3, O3⟩))
  have S3 := S2.call R3 O3.grown
  have d0 := (O3.cell (p := ⟨qd, 0, none⟩) (Ne.symm hbd)).trans d0
  have d1 := (O3.cell (p := ⟨qd, 1, none⟩) (Ne.symm hbd)).trans d1
  have hV6 := hVl.out w3 S3.r
  clear S2 R3 O3 c2 hVl
  go_upto_region 4 with (first
    | (go_at_call 56; refine (c3 _ S3.r S3.zlt).mono ?_; rintro r w4 ⟨a, c, rfl, P4, R4, G4, N4⟩))
  have S4 := S3.call R4 G4
  have hnd : ∀ ad, a = some ad → w.heap.size < ad.block := fun ad ha => by have h1 := N4 ad ha; have h2 := S3.k.lt; omega
  have d0 := (G4.cell_far ⟨qd, 0, none⟩ (cell_in d0) (by simpa using Ne.symm hbd)).trans d0
  have d1 := (G4.cell_far ⟨qd, 1, none⟩ (cell_in d1) (by simpa using Ne.symm hbd)).trans d1
  clear S3 R4 G4 N4 c3
  go_upto_region 5 with (first
    | (go_at_call 55; refine (c4 _ S4.r).mono ?_; rintro r w5 ⟨rfl, R5, O5⟩))
  have S5 := S4.call R5 O5.grown
  have P5 : PS w5 a V.length c V := P4.other fun ad ha _ => O5.block _ (by have h1 := hnd ad ha; have h2 := S4.hb; omega)
  have d0 := (O5.cell (p := ⟨qd, 0, none⟩) (Ne.symm hbd)).trans d0
  have d1 := (O5.cell (p := ⟨qd, 1, none⟩) (Ne.symm hbd)).trans d1
  clear S4 R5 O5 c4 P4
  have hE := S5.r.err
  have g4 : (e4 == 0) = true := by simp [he0]
  clear he0 hdead
  go_upto_region 7 with (first
    | (go_at_call 57; refine (c5 _ S5.r).mono ?_; rintro r w6 ⟨rfl, R6, O6⟩))
  have S6 := S5.call R6 O6.grown
  have P6 : PS w6 a V.length c V := P5.other fun ad ha _ => O6.block _ (by have h1 := hnd ad ha; have h2 := S5.hb; omega)
  have d0 := (O6.cell (p := ⟨qd, 0, none⟩) (Ne.symm hbd)).trans d0
  have d1 := (O6.cell (p := ⟨qd, 1, none⟩) (Ne.symm hbd)).trans d1
  clear S5 P5 R6 O6 c5 g4
  have hbn : w6.heap.size ≠ b := by have h1 := S6.hb; have h2 := S6.g.size; omega
  have hqd : qd < w6.heap.size := cell_in d0
  have hqn : qd ≠ w6.heap.size := Nat.ne_of_lt hqd
  have RA : Rdr w6.drew b z L5 e5 := S6.r.below (Below.refl _ _).drew
  have RB : Rdr (w6.drew.alloc (.cells #[.int .i64 0, .int .i64 0, .int .i64 0, .slice none 0 0, .int .i64 0, .int .i64 0, .int .i64 0, .int .i64 0, .int .i64 0, .int .i64 0, .int .i64 0, .int .i64 0, .int .i64 0, .string { data := #[] }] 27)) b z L5 e5 := S6.r.below ((Below.refl _ _).drew.alloc (by exact Nat.le_refl _) _)
  have zA : z < w6.drew.heap.size := S6.zlt
  have zB : z < (w6.drew.alloc (.cells #[.int .i64 0, .int .i64 0, .int .i64 0, .slice none 0 0, .int .i64 0, .int .i64 0, .int .i64 0, .int .i64 0, .int .i64 0, .int .i64 0, .int .i64 0, .int .i64 0, .int .i64 0, .string { data := #[] }] 27)).heap.size := Nat.lt_of_lt_of_le S6.zlt (by simp)
  go_cut [7] from 35 to 41 (fun s wc => ∃ q, s = .pointer (some ⟨q, 0, none⟩) ∧ So w wc b z q (mko (x, y) t k (gx, gy) np) a V.length c V L6 e6)
  case first =>
    go_region_with (first
      | (go_at_call 54; first
        | (refine (c6 w6.drew RA zA).mono ?_; rintro r w9 ⟨rfl, R9, G9⟩; have x0 := (G9.cell_far ⟨qd, 0, none⟩ (cell_in d0) (by simpa using Ne.symm hbd)).trans d0; have x1 := (G9.cell_far ⟨qd, 1, none⟩ (cell_in d1) (by simpa using Ne.symm hbd)).trans d1; have hq9 : qd < w9.heap.size := cell_in x0; have hq9n : qd ≠ w9.heap.size := Nat.ne_of_lt hq9)
        | (refine (c6 (w6.drew.alloc (.cells #[.int .i64 0, .int .i64 0, .int .i64 0, .slice none 0 0, .int .i64 0, .int .i64 0, .int .i64 0, .int .i64 0, .int .i64 0, .int .i64 0, .int .i64 0, .int .i64 0, .int .i64 0, .string { data := #[] }] 27)) RB zB).mono ?_; rintro r w9 ⟨rfl, R9, G9⟩; have x0 := (G9.cell_far ⟨qd, 0, none⟩ (by simpa using Nat.lt_succ_of_lt hqd) (by simpa using Ne.symm hbd)).trans ((World.cell?_alloc_lt _ _ _ hqd).trans d0); have x1 := (G9.cell_far ⟨qd, 1, none⟩ (by simpa using Nat.lt_succ_of_lt hqd) (by simpa using Ne.symm hbd)).trans ((World.cell?_alloc_lt _ _ _ hqd).trans d1); have B9 : Blk w9 w6.heap.size (zer.cells (.slice none 0 0)) := (blk_alloc w6.drew #[.int .i64 0, .int .i64 0, .int .i64 0, .slice none 0 0, .int .i64 0, .int .i64 0, .int .i64 0, .int .i64 0, .int .i64 0, .int .i64 0, .int .i64 0, .int .i64 0, .int .i64 0, .string { data := #[] }]).same (G9.block w6.heap.size (by simp) (by simpa using hbn)); have z0 := B9.opAt.c0; have y0 := B9.frozen 0; have z1 := B9.opAt.c1; have y1 := B9.frozen 1; have z2 := B9.opAt.c2; have y2 := B9.frozen 2; have z3 := B9.opAt.c3; have y3 := B9.frozen 3; have z4 := B9.opAt.c4; have y4 := B9.frozen 4; have z5 := B9.opAt.c5; have y5 := B9.frozen 5; have z6 := B9.opAt.c6; have y6 := B9.frozen 6; have z7 := B9.opAt.c7; have y7 := B9.frozen 7; have z8 := B9.opAt.c8; have y8 := B9.frozen 8; have z9 := B9.opAt.c9; have y9 := B9.frozen 9; have z10 := B9.opAt.c10; have y10 := B9.frozen 10; have z11 := B9.opAt.c11; have y11 := B9.frozen 11; have z12 := B9.opAt.c12; have y12 := B9.frozen 12; have z13 := B9.opAt.c13; have y13 := B9.frozen 13)))
    all_goals go_wp2_with fail
    all_goals go_meet
    all_goals first
      | (have hq := hq9
         refine ⟨w9.heap.size, rfl, ?_⟩
         have S9 := (S6.below (Below.refl _ _).drew).call R9 G9
         have P9 : PS w9 a V.length c V := (P6.below (Below.refl _ _).drew).other fun ad ha hl => G9.block _ hl (by have h1 := hnd ad ha; have h2 := S6.hb; simp; omega)
         exact ⟨S9.below ((Below.refl _ _).alloc (Nat.le_refl _) _), blk_alloc w9 #[.int .i64 x, .int .i64 y, .int .i64 t, .slice a V.length c, .int .i64 k, .int .i64 gx, .int .i64 gy, .int .i64 0, .int .i64 0, .int .i64 0, .int .i64 0, .int .i64 0, .int .i64 0, .string { data := #[] }], S9.k.lt, P9.below ((Below.refl _ _).alloc (Nat.le_refl _) _), fun ad ha => ⟨hnd ad ha, fun hp => by obtain ⟨g, o, hg, hgl, _⟩ := P9.at hp; rw [hg] at ha; cases ha; exact Nat.ne_of_lt hgl⟩⟩)
      | (have hq := B9
         refine ⟨w6.heap.size, rfl, ?_⟩
         have hBB : Below w6.heap.size w6 (w6.drew.alloc (.cells #[.int .i64 0, .int .i64 0, .int .i64 0, .slice none 0 0, .int .i64 0, .int .i64 0, .int .i64 0, .int .i64 0, .int .i64 0, .int .i64 0, .int .i64 0, .int .i64 0, .int .i64 0, .string { data := #[] }] 27)) := (Below.refl _ _).drew.alloc (by exact Nat.le_refl _) _
         have S9 := (S6.below hBB).call R9 G9
         have P9 : PS w9 a V.length c V := (P6.below hBB).other fun ad ha hl => G9.block _ hl (by have h1 := hnd ad ha; have h2 := S6.hb; simp; omega)
         have hO := put14_only w9 w6.heap.size (mko (x, y) t k (gx, gy) np) (.slice a V.length c)
         have hne : ∀ ad, 0 < V.length → a = some ad → ad.block ≠ w6.heap.size := fun ad hp ha => by obtain ⟨g, o, hg, hgl, _⟩ := P6.at hp; rw [hg] at ha; cases ha; exact Nat.ne_of_lt hgl
         change So w (put14 w9 w6.heap.size (mko (x, y) t k (gx, gy) np) (.slice a V.length c)) b z w6.heap.size (mko (x, y) t k (gx, gy) np) a V.length c V L6 e6
         exact ⟨S9.only hO S6.k.lt, put14_blk B9, S6.k.lt, P9.apart' fun ad hp ha _ => hO.block _ (hne ad hp ha), fun ad ha => ⟨hnd ad ha, fun hp => hne ad hp ha⟩⟩)
  obtain ⟨q, rfl, S10⟩ := hcut
  clear RA RB zA zB d0 d1 hbd hqd hqn hbn hE S6 P6 c6
  have hpp := HPR.out
  simp only [Prod.mk.injEq] at hpp
  obtain ⟨rfl, rfl, rfl⟩ := hpp
  clear HPR
  have S14 := S10
  go_upto_region 18 with fail
  generalize wc = w14 at S14 ⊢
  clear S10
  obtain ⟨o, ho⟩ : ∃ o, o = mko (x, y) t k (gx, gy) np := ⟨_, rfl⟩
  rw [← ho] at c8 S14 hb7 hb8 hb9
  have HO := hid ho
  clear ho
  have c9 := c8 w14 a c hV6 S14.p
  clear c8
  have hE := S14.s.r.err
  have a0 := S14.o.opAt.c0
  have a1 := S14.o.opAt.c1
  have a2 := S14.o.opAt.c2
  have a3 := S14.o.opAt.c3
  have a4 := S14.o.opAt.c4
  have a5 := S14.o.opAt.c5
  have a6 := S14.o.opAt.c6
  have a7 := S14.o.opAt.c7
  have a8 := S14.o.opAt.c8
  have a9 := S14.o.opAt.c9
  have a10 := S14.o.opAt.c10
  have a11 := S14.o.opAt.c11
  have a12 := S14.o.opAt.c12
  have a13 := S14.o.opAt.c13
  by_cases he : e7 = 0
  · subst he
    cases hr : chk o V with
    | false =>
      rw [hr] at c9
      have hb := hid (hb9.out hr)
      have hne := flr_ne 30 (by decide) (L7, 0)
      have cF := fun W (hW : Rdr W b z L7 0) => wflr_any hW 30 (by decide)
      generalize flr 30 (L7, 0) = s at hb hne cF
      obtain ⟨L8, e8⟩ := s
      simp only at hne cF
      have hne' : (e8 != 0) = true := by simpa using hne
      clear hb7 hb8 hb9 hr
      go_upto_region 21 with (first
        | (go_at_call 11; refine c9.mono ?_; rintro r w15 ⟨rfl, F15⟩; have S15 := S14.far F15)
        | (go_at_call 57; refine (cF _ S15.s.r).mono ?_; rintro r w16 ⟨rfl, R16, O16⟩; have S16 := S15.call R16 O16.grown; have hE16 := S16.s.r.err))
      have z0 := S16.s.k.opAt.c0
      have y0 := S16.s.k.frozen 0
      have z1 := S16.s.k.opAt.c1
      have y1 := S16.s.k.frozen 1
      have z2 := S16.s.k.opAt.c2
      have y2 := S16.s.k.frozen 2
      have z3 := S16.s.k.opAt.c3
      have y3 := S16.s.k.frozen 3
      have z4 := S16.s.k.opAt.c4
      have y4 := S16.s.k.frozen 4
      have z5 := S16.s.k.opAt.c5
      have y5 := S16.s.k.frozen 5
      have z6 := S16.s.k.opAt.c6
      have y6 := S16.s.k.frozen 6
      have z7 := S16.s.k.opAt.c7
      have y7 := S16.s.k.frozen 7
      have z8 := S16.s.k.opAt.c8
      have y8 := S16.s.k.frozen 8
      have z9 := S16.s.k.opAt.c9
      have y9 := S16.s.k.frozen 9
      have z10 := S16.s.k.opAt.c10
      have y10 := S16.s.k.frozen 10
      have z11 := S16.s.k.opAt.c11
      have y11 := S16.s.k.frozen 11
      have z12 := S16.s.k.opAt.c12
      have y12 := S16.s.k.frozen 12
      have z13 := S16.s.k.opAt.c13
      have y13 := S16.s.k.frozen 13
      rw [hq2] at z0 y0 z1 y1 z2 y2 z3 y3 z4 y4 z5 y5 z6 y6 z7 y7 z8 y8 z9 y9 z10 y10 z11 y11 z12 y12 z13 y13
      go_wp2_with fail
      have B : Blk (put14 w16 q2 zer (.slice none 0 0)) q2 (zer.cells (.slice none 0 0)) := put14_blk (by have := S16.s.k; rw [hq2] at this; exact this)
      have hO : Only w.heap.size w16 (put14 w16 q2 zer (.slice none 0 0)) := by rw [hq2]; exact put14_only _ _ _ _
      change bodyPost _ _ _ _ _ (put14 w16 q2 zer (.slice none 0 0))
      generalize put14 w16 q2 zer (.slice none 0 0) = W at B hO ⊢
      obtain ⟨u1, u2, u3, u4⟩ := S16.out hO (PS.none _) (fun ad ha => by cases ha)
      have t0 := B.opAt.c0
      have t1 := B.opAt.c1
      have t2 := B.opAt.c2
      have t3 := B.opAt.c3
      have t4 := B.opAt.c4
      have t5 := B.opAt.c5
      have t6 := B.opAt.c6
      have t7 := B.opAt.c7
      have t8 := B.opAt.c8
      have t9 := B.opAt.c9
      have t10 := B.opAt.c10
      have t11 := B.opAt.c11
      have t12 := B.opAt.c12
      have t13 := B.opAt.c13
      clear B hO z0 y0 z1 y1 z2 y2 z3 y3 z4 y4 z5 y5 z6 y6 z7 y7 z8 y8 z9 y9 z10 y10 z11 y11 z12 y12 z13 y13
      have heq : ofin (mko (x, y) t k (gx, gy) np) V (L7, 0) = ((zer, []), (L8, e8)) := by rw [← HO.out]; exact hb.out
      refine bodyPost_ret (v := ov zer (.slice none 0 0)) (by simp [results, Try.results21, go_sem, OpIn.cells, t0, t1, t2, t3, t4, t5, t6, t7, t8, t9, t10, t11, t12, t13]) rfl ?_
      rw [heq]
      exact ⟨none, 0, rfl, u1, u2, u3, u4⟩
    | true =>
      rw [hr] at c9
      have hb := hid (hb7.out hr)
      clear hb7 hb8 hb9 hr
      go_upto_region 22 with (first
        | (go_at_call 11; refine c9.mono ?_; rintro r w15 ⟨rfl, F15⟩; have S15 := S14.far F15; have hE15 := S15.s.r.err))
      have g0 := S15.o.opAt.c0
      have g1 := S15.o.opAt.c1
      have g2 := S15.o.opAt.c2
      have g3 := S15.o.opAt.c3
      have g4 := S15.o.opAt.c4
      have g5 := S15.o.opAt.c5
      have g6 := S15.o.opAt.c6
      have g7 := S15.o.opAt.c7
      have g8 := S15.o.opAt.c8
      have g9 := S15.o.opAt.c9
      have g10 := S15.o.opAt.c10
      have g11 := S15.o.opAt.c11
      have g12 := S15.o.opAt.c12
      have g13 := S15.o.opAt.c13
      have z0 := S15.s.k.opAt.c0
      have y0 := S15.s.k.frozen 0
      have z1 := S15.s.k.opAt.c1
      have y1 := S15.s.k.frozen 1
      have z2 := S15.s.k.opAt.c2
      have y2 := S15.s.k.frozen 2
      have z3 := S15.s.k.opAt.c3
      have y3 := S15.s.k.frozen 3
      have z4 := S15.s.k.opAt.c4
      have y4 := S15.s.k.frozen 4
      have z5 := S15.s.k.opAt.c5
      have y5 := S15.s.k.frozen 5
      have z6 := S15.s.k.opAt.c6
      have y6 := S15.s.k.frozen 6
      have z7 := S15.s.k.opAt.c7
      have y7 := S15.s.k.frozen 7
      have z8 := S15.s.k.opAt.c8
      have y8 := S15.s.k.frozen 8
      have z9 := S15.s.k.opAt.c9
      have y9 := S15.s.k.frozen 9
      have z10 := S15.s.k.opAt.c10
      have y10 := S15.s.k.frozen 10
      have z11 := S15.s.k.opAt.c11
      have y11 := S15.s.k.frozen 11
      have z12 := S15.s.k.opAt.c12
      have y12 := S15.s.k.frozen 12
      have z13 := S15.s.k.opAt.c13
      have y13 := S15.s.k.frozen 13
      rw [hq2] at z0 y0 z1 y1 z2 y2 z3 y3 z4 y4 z5 y5 z6 y6 z7 y7 z8 y8 z9 y9 z10 y10 z11 y11 z12 y12 z13 y13
      go_wp2_with fail
      have B : Blk (put14 w15 q2 o (.slice a V.length c)) q2 (o.cells (.slice a V.length c)) := put14_blk (by have := S15.s.k; rw [hq2] at this; exact this)
      have hO : Only w.heap.size w15 (put14 w15 q2 o (.slice a V.length c)) := by rw [hq2]; exact put14_only _ _ _ _
      change bodyPost _ _ _ _ _ (put14 w15 q2 o (.slice a V.length c))
      generalize put14 w15 q2 o (.slice a V.length c) = W at B hO ⊢
      obtain ⟨u1, u2, u3, u4⟩ := S15.out hO S15.p (fun ad ha => (S15.new ad ha).1)
      have t0 := B.opAt.c0
      have t1 := B.opAt.c1
      have t2 := B.opAt.c2
      have t3 := B.opAt.c3
      have t4 := B.opAt.c4
      have t5 := B.opAt.c5
      have t6 := B.opAt.c6
      have t7 := B.opAt.c7
      have t8 := B.opAt.c8
      have t9 := B.opAt.c9
      have t10 := B.opAt.c10
      have t11 := B.opAt.c11
      have t12 := B.opAt.c12
      have t13 := B.opAt.c13
      clear B hO z0 y0 z1 y1 z2 y2 z3 y3 z4 y4 z5 y5 z6 y6 z7 y7 z8 y8 z9 y9 z10 y10 z11 y11 z12 y12 z13 y13
      have heq : ofin (mko (x, y) t k (gx, gy) np) V (L7, 0) = ((o, V), (L7, 0)) := by rw [← HO.out]; exact hb.out
      refine bodyPost_ret (v := ov o (.slice a V.length c)) (by simp [results, Try.results21, go_sem, OpIn.cells, t0, t1, t2, t3, t4, t5, t6, t7, t8, t9, t10, t11, t12, t13]) rfl ?_
      rw [heq]
      exact ⟨a, c, rfl, u1, u2, u3, u4⟩
  · have hb := hid (hb8.out he)
    have hne' : (e7 != 0) = true := by simpa using he
    have hne2 : (e7 == 0) = false := by simpa using he
    clear hb7 hb8 hb9 c9
    go_upto_region 21 with fail
    have z0 := S14.s.k.opAt.c0
    have y0 := S14.s.k.frozen 0
    have z1 := S14.s.k.opAt.c1
    have y1 := S14.s.k.frozen 1
    have z2 := S14.s.k.opAt.c2
    have y2 := S14.s.k.frozen 2
    have z3 := S14.s.k.opAt.c3
    have y3 := S14.s.k.frozen 3
    have z4 := S14.s.k.opAt.c4
    have y4 := S14.s.k.frozen 4
    have z5 := S14.s.k.opAt.c5
    have y5 := S14.s.k.frozen 5
    have z6 := S14.s.k.opAt.c6
    have y6 := S14.s.k.frozen 6
    have z7 := S14.s.k.opAt.c7
    have y7 := S14.s.k.frozen 7
    have z8 := S14.s.k.opAt.c8
    have y8 := S14.s.k.frozen 8
    have z9 := S14.s.k.opAt.c9
    have y9 := S14.s.k.frozen 9
    have z10 := S14.s.k.opAt.c10
    have y10 := S14.s.k.frozen 10
    have z11 := S14.s.k.opAt.c11
    have y11 := S14.s.k.frozen 11
    have z12 := S14.s.k.opAt.c12
    have y12 := S14.s.k.frozen 12
    have z13 := S14.s.k.opAt.c13
    have y13 := S14.s.k.frozen 13
    rw [hq2] at z0 y0 z1 y1 z2 y2 z3 y3 z4 y4 z5 y5 z6 y6 z7 y7 z8 y8 z9 y9 z10 y10 z11 y11 z12 y12 z13 y13
    go_wp2_with fail
    have B : Blk (put14 w14 q2 zer (.slice none 0 0)) q2 (zer.cells (.slice none 0 0)) := put14_blk (by have := S14.s.k; rw [hq2] at this; exact this)
    have hO : Only w.heap.size w14 (put14 w14 q2 zer (.slice none 0 0)) := by rw [hq2]; exact put14_only _ _ _ _
    change bodyPost _ _ _ _ _ (put14 w14 q2 zer (.slice none 0 0))
    generalize put14 w14 q2 zer (.slice none 0 0) = W at B hO ⊢
    obtain ⟨u1, u2, u3, u4⟩ := S14.out hO (PS.none _) (fun ad ha => by cases ha)
    have t0 := B.opAt.c0
    have t1 := B.opAt.c1
    have t2 := B.opAt.c2
    have t3 := B.opAt.c3
    have t4 := B.opAt.c4
    have t5 := B.opAt.c5
    have t6 := B.opAt.c6
    have t7 := B.opAt.c7
    have t8 := B.opAt.c8
    have t9 := B.opAt.c9
    have t10 := B.opAt.c10
    have t11 := B.opAt.c11
    have t12 := B.opAt.c12
    have t13 := B.opAt.c13
    clear B hO z0 y0 z1 y1 z2 y2 z3 y3 z4 y4 z5 y5 z6 y6 z7 y7 z8 y8 z9 y9 z10 y10 z11 y11 z12 y12 z13 y13
    have heq : ofin (mko (x, y) t k (gx, gy) np) V (L7, e7) = ((zer, []), (L7, e7)) := by rw [← HO.out]; exact hb.out
    refine bodyPost_ret (v := ov zer (.slice none 0 0)) (by simp [results, Try.results21, go_sem, OpIn.cells, t0, t1, t2, t3, t4, t5, t6, t7, t8, t9, t10, t11, t12, t13]) rfl ?_
    rw [heq]
    exact ⟨none, 0, rfl, u1, u2, u3, u4⟩

end

section
open Go.RowKit
open Go.Sort (grow)

set_option maxRecDepth 100000 in
set_option maxHeartbeats 8000000 in
theorem rtake7_no2 (w : World) (b z : Nat) (L : List Int) (e : Int) (h : Rdr w b z L e) (hz : z < w.heap.size) (hl : L.length ≤ 1000000) (k0 : Int) (hk0 : (hd7 L e).1.2.2.2 = k0) (h1 : k0 ≠ 1) (h2 : k0 ≠ 2) (h3 : k0 ≠ 3) (he0 : kerr L e ≠ 0) :
    Calls Try.prog 21 #[.pointer (some ⟨b, 0, none⟩)] w (Takes7 w b z (otk L e)) := by
  have S0 := sr_start h hz
  have hl1 := tk_le L e
  have c1 := fun W (hW : Rdr W b z L e) hz => rtake_any W b z L e hW hz
  unfold hd7 at hk0
  unfold kerr at he0
  unfold otk hd7
  generalize tk L e = s at c1 hl1 hk0 he0 ⊢
  obtain ⟨⟨x, y⟩, L1, e1⟩ := s
  simp only at c1 hl1 hk0 he0 ⊢
  have hl2 := dec_le L1 e1
  have c2 := fun W (hW : Rdr W b z L1 e1) => wint_any W b z L1 e1 hW
  generalize dec L1 e1 = s at c2 hl2 hk0 he0 ⊢
  obtain ⟨i2, L2, e2⟩ := s
  simp only at c2 hl2 hk0 he0 ⊢
  have hl3 := cnt_le L2 e2 2
  have hl3' := vtk_le L2 e2
  have hB2 := fun W (hW : Rdr W b z L2 e2) => vtk_len L2 e2 hW.bts.1
  have c3 := fun W (hW : Rdr W b z L2 e2) hz => rvtake_any W b z L2 e2 hW hz (by omega)
  generalize vtk L2 e2 = s at c3 hB2 hl3' hk0 he0 ⊢
  obtain ⟨V, L3, e3⟩ := s
  unfold TakesV at c3
  simp only at c3 hB2 hl3' hk0 he0 ⊢
  have hl4 := dec_le L3 e3
  have c4 := fun W (hW : Rdr W b z L3 e3) => wint_any W b z L3 e3 hW
  generalize dec L3 e3 = s at c4 hl4 hk0 he0 ⊢
  obtain ⟨i4, L4, e4⟩ := s
  simp only at c4 hl4 hk0 he0 ⊢
  generalize dint i2 = t at c2 ⊢
  generalize hk4 : dint i4 = k at c4 hk0 ⊢
  clear hl3 hk4
  subst hk0
  rw [kfl_no h1 h2 h3]
  have hl5 := flr_le 11 (L4, e4)
  have c5 := fun W (hW : Rdr W b z L4 e4) => wflr_any hW 11 (by decide)
  have hdead := hid (fun (he : e4 ≠ 0) => show flr 11 (L4, e4) = (L4, e4) by simp [flr, he])
  generalize flr 11 (L4, e4) = s at hl5 c5 hdead ⊢
  obtain ⟨L5, e5⟩ := s
  simp only at hl5 c5 ⊢
  have k1 : (k == 1) = false := by simp [h1]
  have k2 : (k == 2) = false := by simp [h2]
  have k3 : (k == 3) = false := by simp [h3]
  have m1 : (k != 1) = true := by simp [h1]
  have m2 : (k != 2) = true := by simp [h2]
  have m3 : (k != 3) = true := by simp [h3]
  have hpr := fun L6 e6 => prt_no (k := k) (L := L6) (e := e6) h1 h2 h3
  have hl6 := tk_le L5 e5
  have c6 := fun W (hW : Rdr W b z L5 e5) hz => rtake_any W b z L5 e5 hW hz
  unfold tl7
  simp only
  generalize tk L5 e5 = s at c6 hl6 ⊢
  obtain ⟨⟨gx, gy⟩, L6, e6⟩ := s
  simp only at c6 hl6 ⊢
  have hl7 := prt_key k L6 e6
  have hpr := hpr L6 e6
  obtain ⟨⟨pp, L7, e7⟩, hpe⟩ : ∃ s, prt k L6 e6 = s := ⟨_, rfl⟩
  rw [hpe] at hl7 hpr ⊢
  simp only at hl7 hpr ⊢
  have hkey : (mko (x, y) t k (gx, gy) pp).key.size ≤ maxLen := by show pp.2.2.2.2.size ≤ maxLen; unfold maxLen; omega
  have c8 := fun W a c (hV : V.length ≤ 1000000) (hP : PS W a V.length c V) => rcheck_any (mko (x, y) t k (gx, gy) pp) a V.length c V W hP (by omega) hkey
  have hb7 := hid (fun h => ofin_ok (o := mko (x, y) t k (gx, gy) pp) (V := V) h L7)
  have hb8 := hid (fun (h : e7 ≠ 0) => ofin_err (mko (x, y) t k (gx, gy) pp) V L7 h)
  have hb9 := hid (fun h => ofin_no (o := mko (x, y) t k (gx, gy) pp) (V := V) h (L7, e7))
  have hVl : Hid (∀ (W : World), Rdr W b z L2 e2 → V.length ≤ 1000000) := hid fun W hW => by have := hB2 W hW; omega
  have HPR := hid hpr
  clear hkey hl6 hl7 hl hl1 hl2 hl3' hl4 hB2 hpe hpr h1 h2 h3
  go_enter Try.func21, Try.ntmps21
  go_upto_region 1 with fail
  generalize w.alloc (.cells #[.int .i64 0, .int .i64 0, .int .i64 0, .slice none 0 0, .int .i64 0, .int .i64 0, .int .i64 0, .int .i64 0, .int .i64 0, .int .i64 0, .int .i64 0, .int .i64 0, .int .i64 0, .string { data := #[] }] 27) = w0 at S0 ⊢
  generalize hq2 : w.heap.size = q2
  clear h
  go_upto_region 2 with (first
    | (go_at_call 54; refine (c1 _ S0.r S0.zlt).mono ?_; rintro r w1 ⟨rfl, R1, G1⟩; have S1 := S0.call R1 G1))
  have S2 := S1.below ((Below.refl w1.heap.size w1).alloc (Nat.le_refl _) (.cells #[.int .i64 x, .int .i64 y] 23))
  have d0 : (w1.alloc (.cells #[.int .i64 x, .int .i64 y] 23)).cell? ⟨w1.heap.size, 0, none⟩ = some (.int .i64 x) := by go_simp
  have d1 : (w1.alloc (.cells #[.int .i64 x, .int .i64 y] 23)).cell? ⟨w1.heap.size, 1, none⟩ = some (.int .i64 y) := by go_simp
  have hbd : b ≠ w1.heap.size := by have h1 := S1.hb; have h2 := S1.g.size; omega
  generalize w1.alloc (.cells #[.int .i64 x, .int .i64 y] 23) = w2 at S2 d0 d1 ⊢
  generalize w1.heap.size = qd at d0 d1 hbd ⊢
  clear S0 S1 R1 G1 c1
  go_upto_region 3 with (first
    | (go_at_call 55; refine (c2 _ S2.r).mono ?_; rintro r w3 ⟨rfl, R3, O3⟩))
  have S3 := S2.call R3 O3.grown
  have d0 := (O3.cell (p := ⟨qd, 0, none⟩) (Ne.symm hbd)).trans d0
  have d1 := (O3.cell (p := ⟨qd, 1, none⟩) (Ne.symm hbd)).trans d1
  have hV6 := hVl.out w3 S3.r
  clear S2 R3 O3 c2 hVl
  go_upto_region 4 with (first
    | (go_at_call 56; refine (c3 _ S3.r S3.zlt).mono ?_; rintro r w4 ⟨a, c, rfl, P4, R4, G4, N4⟩))
  have S4 := S3.call R4 G4
  have hnd : ∀ ad, a = some ad → w.heap.size < ad.block := fun ad ha => by have h1 := N4 ad ha; have h2 := S3.k.lt; omega
  have d0 := (G4.cell_far ⟨qd, 0, none⟩ (cell_in d0) (by simpa using Ne.symm hbd)).trans d0
  have d1 := (G4.cell_far ⟨qd, 1, none⟩ (cell_in d1) (by simpa using Ne.symm hbd)).trans d1
  clear S3 R4 G4 N4 c3
  go_upto_region 5 with (first
    | (go_at_call 55; refine (c4 _ S4.r).mono ?_; rintro r w5 ⟨rfl, R5, O5⟩))
  have S5 := S4.call R5 O5.grown
  have P5 : PS w5 a V.length c V := P4.other fun ad ha _ => O5.block _ (by have h1 := hnd ad ha; have h2 := S4.hb; omega)
  have d0 := (O5.cell (p := ⟨qd, 0, none⟩) (Ne.symm hbd)).trans d0
  have d1 := (O5.cell (p := ⟨qd, 1, none⟩) (Ne.symm hbd)).trans d1
  clear S4 R5 O5 c4 P4
  have hE := S5.r.err
  have g4 : (e4 == 0) = false := by simp [he0]
  have hd := hdead.out he0
  simp only [Prod.mk.injEq] at hd
  obtain ⟨rfl, rfl⟩ := hd
  clear he0 hdead c5
  go_upto_region 7 with fail
  clear g4
  have hbn : w5.heap.size ≠ b := by have h1 := S5.hb; have h2 := S5.g.size; omega
  have hqd : qd < w5.heap.size := cell_in d0
  have hqn : qd ≠ w5.heap.size := Nat.ne_of_lt hqd
  have RA : Rdr w5.drew b z L5 e5 := S5.r.below (Below.refl _ _).drew
  have RB : Rdr (w5.drew.alloc (.cells #[.int .i64 0, .int .i64 0, .int .i64 0, .slice none 0 0, .int .i64 0, .int .i64 0, .int .i64 0, .int .i64 0, .int .i64 0, .int .i64 0, .int .i64 0, .int .i64 0, .int .i64 0, .string { data := #[] }] 27)) b z L5 e5 := S5.r.below ((Below.refl _ _).drew.alloc (by exact Nat.le_refl _) _)
  have zA : z < w5.drew.heap.size := S5.zlt
  have zB : z < (w5.drew.alloc (.cells #[.int .i64 0, .int .i64 0, .int .i64 0, .slice none 0 0, .int .i64 0, .int .i64 0, .int .i64 0, .int .i64 0, .int .i64 0, .int .i64 0, .int .i64 0, .int .i64 0, .int .i64 0, .string { data := #[] }] 27)).heap.size := Nat.lt_of_lt_of_le S5.zlt (by simp)
  go_cut [7] from 35 to 41 (fun s wc => ∃ q, s = .pointer (some ⟨q, 0, none⟩) ∧ So w wc b z q (mko (x, y) t k (gx, gy) np) a V.length c V L6 e6)
  case first =>
    go_region_with (first
      | (go_at_call 54; first
        | (refine (c6 w5.drew RA zA).mono ?_; rintro r w9 ⟨rfl, R9, G9⟩; have x0 := (G9.cell_far ⟨qd, 0, none⟩ (cell_in d0) (by simpa using Ne.symm hbd)).trans d0; have x1 := (G9.cell_far ⟨qd, 1, none⟩ (cell_in d1) (by simpa using Ne.symm hbd)).trans d1; have hq9 : qd < w9.heap.size := cell_in x0; have hq9n : qd ≠ w9.heap.size := Nat.ne_of_lt hq9)
        | (refine (c6 (w5.drew.alloc (.cells #[.int .i64 0, .int .i64 0, .int .i64 0, .slice none 0 0, .int .i64 0, .int .i64 0, .int .i64 0, .int .i64 0, .int .i64 0, .int .i64 0, .int .i64 0, .int .i64 0, .int .i64 0, .string { data := #[] }] 27)) RB zB).mono ?_; rintro r w9 ⟨rfl, R9, G9⟩; have x0 := (G9.cell_far ⟨qd, 0, none⟩ (by simpa using Nat.lt_succ_of_lt hqd) (by simpa using Ne.symm hbd)).trans ((World.cell?_alloc_lt _ _ _ hqd).trans d0); have x1 := (G9.cell_far ⟨qd, 1, none⟩ (by simpa using Nat.lt_succ_of_lt hqd) (by simpa using Ne.symm hbd)).trans ((World.cell?_alloc_lt _ _ _ hqd).trans d1); have B9 : Blk w9 w5.heap.size (zer.cells (.slice none 0 0)) := (blk_alloc w5.drew #[.int .i64 0, .int .i64 0, .int .i64 0, .slice none 0 0, .int .i64 0, .int .i64 0, .int .i64 0, .int .i64 0, .int .i64 0, .int .i64 0, .int .i64 0, .int .i64 0, .int .i64 0, .string { data := #[] }]).same (G9.block w5.heap.size (by simp) (by simpa using hbn)); have z0 := B9.opAt.c0; have y0 := B9.frozen 0; have z1 := B9.opAt.c1; have y1 := B9.frozen 1; have z2 := B9.opAt.c2; have y2 := B9.frozen 2; have z3 := B9.opAt.c3; have y3 := B9.frozen 3; have z4 := B9.opAt.c4; have y4 := B9.frozen 4; have z5 := B9.opAt.c5; have y5 := B9.frozen 5; have z6 := B9.opAt.c6; have y6 := B9.frozen 6; have z7 := B9.opAt.c7; have y7 := B9.frozen 7; have z8 := B9.opAt.c8; have y8 := B9.frozen 8; have z9 := B9.opAt.c9; have y9 := B9.frozen 9; have z10 := B9.opAt.c10; have y10 := B9.frozen 10; have z11 := B9.opAt.c11; have y11 := B9.frozen 11; have z12 := B9.opAt.c12; have y12 := B9.frozen 12; have z13 := B9.opAt.c13; have y13 := B9.frozen 13)))
    all_goals go_wp2_with fail
    all_goals go_meet
    all_goals first
      | (have hq := hq9
         refine ⟨w9.heap.size, rfl, ?_⟩
         have S9 := (S5.below (Below.refl _ _).drew).call R9 G9
         have P9 : PS w9 a V.length c V := (P5.below (Below.refl _ _).drew).other fun ad ha hl => G9.block _ hl (by have h1 := hnd ad ha; have h2 := S5.hb; simp; omega)
         exact ⟨S9.below ((Below.refl _ _).alloc (Nat.le_refl _) _), blk_alloc w9 #[.int .i64 x, .int .i64 y, .int .i64 t, .slice a V.length c, .int .i64 k, .int .i64 gx, .int .i64 gy, .int .i64 0, .int .i64 0, .int .i64 0, .int .i64 0, .int .i64 0, .int .i64 0, .string { data := #[] }], S9.k.lt, P9.below ((Below.refl _ _).alloc (Nat.le_refl _) _), fun ad ha => ⟨hnd ad ha, fun hp => by obtain ⟨g, o, hg, hgl, _⟩ := P9.at hp; rw [hg] at ha; cases ha; exact Nat.ne_of_lt hgl⟩⟩)
      | (have hq := B9
         refine ⟨w5.heap.size, rfl, ?_⟩
         have hBB : Below w5.heap.size w5 (w5.drew.alloc (.cells #[.int .i64 0, .int .i64 0, .int .i64 0, .slice none 0 0, .int .i64 0, .int .i64 0, .int .i64 0, .int .i64 0, .int .i64 0, .int .i64 0, .int .i64 0, .int .i64 0, .int .i64 0, .string { data := #[] }] 27)) := (Below.refl _ _).drew.alloc (by exact Nat.le_refl _) _
         have S9 := (S5.below hBB).call R9 G9
         have P9 : PS w9 a V.length c V := (P5.below hBB).other fun ad ha hl => G9.block _ hl (by have h1 := hnd ad ha; have h2 := S5.hb; simp; omega)
         have hO := put14_only w9 w5.heap.size (mko (x, y) t k (gx, gy) np) (.slice a V.length c)
         have hne : ∀ ad, 0 < V.length → a = some ad → ad.block ≠ w5.heap.size := fun ad hp ha => by obtain ⟨g, o, hg, hgl, _⟩ := P5.at hp; rw [hg] at ha; cases ha; exact Nat.ne_of_lt hgl
         change So w (put14 w9 w5.heap.size (mko (x, y) t k (gx, gy) np) (.slice a V.length c)) b z w5.heap.size (mko (x, y) t k (gx, gy) np) a V.length c V L6 e6
         exact ⟨S9.only hO S5.k.lt, put14_blk B9, S5.k.lt, P9.apart' fun ad hp ha _ => hO.block _ (hne ad hp ha), fun ad ha => ⟨hnd ad ha, fun hp => hne ad hp ha⟩⟩)
  obtain ⟨q, rfl, S10⟩ := hcut
  clear RA RB zA zB d0 d1 hbd hqd hqn hbn hE S5 P5 c6
  have hpp := HPR.out
  simp only [Prod.mk.injEq] at hpp
  obtain ⟨rfl, rfl, rfl⟩ := hpp
  clear HPR
  have S14 := S10
  go_upto_region 18 with fail
  generalize wc = w14 at S14 ⊢
  clear S10
  obtain ⟨o, ho⟩ : ∃ o, o = mko (x, y) t k (gx, gy) np := ⟨_, rfl⟩
  rw [← ho] at c8 S14 hb7 hb8 hb9
  have HO := hid ho
  clear ho
  have c9 := c8 w14 a c hV6 S14.p
  clear c8
  have hE := S14.s.r.err
  have a0 := S14.o.opAt.c0
  have a1 := S14.o.opAt.c1
  have a2 := S14.o.opAt.c2
  have a3 := S14.o.opAt.c3
  have a4 := S14.o.opAt.c4
  have a5 := S14.o.opAt.c5
  have a6 := S14.o.opAt.c6
  have a7 := S14.o.opAt.c7
  have a8 := S14.o.opAt.c8
  have a9 := S14.o.opAt.c9
  have a10 := S14.o.opAt.c10
  have a11 := S14.o.opAt.c11
  have a12 := S14.o.opAt.c12
  have a13 := S14.o.opAt.c13
  by_cases he : e7 = 0
  · subst he
    cases hr : chk o V with
    | false =>
      rw [hr] at c9
      have hb := hid (hb9.out hr)
      have hne := flr_ne 30 (by decide) (L7, 0)
      have cF := fun W (hW : Rdr W b z L7 0) => wflr_any hW 30 (by decide)
      generalize flr 30 (L7, 0) = s at hb hne cF
      obtain ⟨L8, e8⟩ := s
      simp only at hne cF
      have hne' : (e8 != 0) = true := by simpa using hne
      clear hb7 hb8 hb9 hr
      go_upto_region 21 with (first
        | (go_at_call 11; refine c9.mono ?_; rintro r w15 ⟨rfl, F15⟩; have S15 := S14.far F15)
        | (go_at_call 57; refine (cF _ S15.s.r).mono ?_; rintro r w16 ⟨rfl, R16, O16⟩; have S16 := S15.call R16 O16.grown; have hE16 := S16.s.r.err))
      have z0 := S16.s.k.opAt.c0
      have y0 := S16.s.k.frozen 0
      have z1 := S16.s.k.opAt.c1
      have y1 := S16.s.k.frozen 1
      have z2 := S16.s.k.opAt.c2
      have y2 := S16.s.k.frozen 2
      have z3 := S16.s.k.opAt.c3
      have y3 := S16.s.k.frozen 3
      have z4 := S16.s.k.opAt.c4
      have y4 := S16.s.k.frozen 4
      have z5 := S16.s.k.opAt.c5
      have y5 := S16.s.k.frozen 5
      have z6 := S16.s.k.opAt.c6
      have y6 := S16.s.k.frozen 6
      have z7 := S16.s.k.opAt.c7
      have y7 := S16.s.k.frozen 7
      have z8 := S16.s.k.opAt.c8
      have y8 := S16.s.k.frozen 8
      have z9 := S16.s.k.opAt.c9
      have y9 := S16.s.k.frozen 9
      have z10 := S16.s.k.opAt.c10
      have y10 := S16.s.k.frozen 10
      have z11 := S16.s.k.opAt.c11
      have y11 := S16.s.k.frozen 11
      have z12 := S16.s.k.opAt.c12
      have y12 := S16.s.k.frozen 12
      have z13 := S16.s.k.opAt.c13
      have y13 := S16.s.k.frozen 13
      rw [hq2] at z0 y0 z1 y1 z2 y2 z3 y3 z4 y4 z5 y5 z6 y6 z7 y7 z8 y8 z9 y9 z10 y10 z11 y11 z12 y12 z13 y13
      go_wp2_with fail
      have B : Blk (put14 w16 q2 zer (.slice none 0 0)) q2 (zer.cells (.slice none 0 0)) := put14_blk (by have := S16.s.k; rw [hq2] at this; exact this)
      have hO : Only w.heap.size w16 (put14 w16 q2 zer (.slice none 0 0)) := by rw [hq2]; exact put14_only _ _ _ _
      change bodyPost _ _ _ _ _ (put14 w16 q2 zer (.slice none 0 0))
      generalize put14 w16 q2 zer (.slice none 0 0) = W at B hO ⊢
      obtain ⟨u1, u2, u3, u4⟩ := S16.out hO (PS.none _) (fun ad ha => by cases ha)
      have t0 := B.opAt.c0
      have t1 := B.opAt.c1
      have t2 := B.opAt.c2
      have t3 := B.opAt.c3
      have t4 := B.opAt.c4
      have t5 := B.opAt.c5
      have t6 := B.opAt.c6
      have t7 := B.opAt.c7
      have t8 := B.opAt.c8
      have t9 := B.opAt.c9
      have t10 := B.opAt.c10
      have t11 := B.opAt.c11
      have t12 := B.opAt.c12
      have t13 := B.opAt.c13
      clear B hO z0 y0 z1 y1 z2 y2 z3 y3 z4 y4 z5 y5 z6 y6 z7 y7 z8 y8 z9 y9 z10 y10 z11 y11 z12 y12 z13 y13
      have heq : ofin (mko (x, y) t k (gx, gy) np) V (L7, 0) = ((zer, []), (L8, e8)) := by rw [← HO.out]; exact hb.out
      refine bodyPost_ret (v := ov zer (.slice none 0 0)) (by simp [results, Try.results21, go_sem, OpIn.cells, t0, t1, t2, t3, t4, t5, t6, t7, t8, t9, t10, t11, t12, t13]) rfl ?_
      rw [heq]
      exact ⟨none, 0, rfl, u1, u2, u3, u4⟩
    | true =>
      rw [hr] at c9
      have hb := hid (hb7.out hr)
      clear hb7 hb8 hb9 hr
      go_upto_region 22 with (first
        | (go_at_call 11; refine c9.mono ?_; rintro r w15 ⟨rfl, F15⟩; have S15 := S14.far F15; have hE15 := S15.s.r.err))
      have g0 := S15.o.opAt.c0
      have g1 := S15.o.opAt.c1
      have g2 := S15.o.opAt.c2
      have g3 := S15.o.opAt.c3
      have g4 := S15.o.opAt.c4
      have g5 := S15.o.opAt.c5
      have g6 := S15.o.opAt.c6
      have g7 := S15.o.opAt.c7
      have g8 := S15.o.opAt.c8
      have g9 := S15.o.opAt.c9
      have g10 := S15.o.opAt.c10
      have g11 := S15.o.opAt.c11
      have g12 := S15.o.opAt.c12
      have g13 := S15.o.opAt.c13
      have z0 := S15.s.k.opAt.c0
      have y0 := S15.s.k.frozen 0
      have z1 := S15.s.k.opAt.c1
      have y1 := S15.s.k.frozen 1
      have z2 := S15.s.k.opAt.c2
      have y2 := S15.s.k.frozen 2
      have z3 := S15.s.k.opAt.c3
      have y3 := S15.s.k.frozen 3
      have z4 := S15.s.k.opAt.c4
      have y4 := S15.s.k.frozen 4
      have z5 := S15.s.k.opAt.c5
      have y5 := S15.s.k.frozen 5
      have z6 := S15.s.k.opAt.c6
      have y6 := S15.s.k.frozen 6
      have z7 := S15.s.k.opAt.c7
      have y7 := S15.s.k.frozen 7
      have z8 := S15.s.k.opAt.c8
      have y8 := S15.s.k.frozen 8
      have z9 := S15.s.k.opAt.c9
      have y9 := S15.s.k.frozen 9
      have z10 := S15.s.k.opAt.c10
      have y10 := S15.s.k.frozen 10
      have z11 := S15.s.k.opAt.c11
      have y11 := S15.s.k.frozen 11
      have z12 := S15.s.k.opAt.c12
      have y12 := S15.s.k.frozen 12
      have z13 := S15.s.k.opAt.c13
      have y13 := S15.s.k.frozen 13
      rw [hq2] at z0 y0 z1 y1 z2 y2 z3 y3 z4 y4 z5 y5 z6 y6 z7 y7 z8 y8 z9 y9 z10 y10 z11 y11 z12 y12 z13 y13
      go_wp2_with fail
      have B : Blk (put14 w15 q2 o (.slice a V.length c)) q2 (o.cells (.slice a V.length c)) := put14_blk (by have := S15.s.k; rw [hq2] at this; exact this)
      have hO : Only w.heap.size w15 (put14 w15 q2 o (.slice a V.length c)) := by rw [hq2]; exact put14_only _ _ _ _
      change bodyPost _ _ _ _ _ (put14 w15 q2 o (.slice a V.length c))
      generalize put14 w15 q2 o (.slice a V.length c) = W at B hO ⊢
      obtain ⟨u1, u2, u3, u4⟩ := S15.out hO S15.p (fun ad ha => (S15.new ad ha).1)
      have t0 := B.opAt.c0
      have t1 := B.opAt.c1
      have t2 := B.opAt.c2
      have t3 := B.opAt.c3
      have t4 := B.opAt.c4
      have t5 := B.opAt.c5
      have t6 := B.opAt.c6
      have t7 := B.opAt.c7
      have t8 := B.opAt.c8
      have t9 := B.opAt.c9
      have t10 := B.opAt.c10
      have t11 := B.opAt.c11
      have t12 := B.opAt.c12
      have t13 := B.opAt.c13
      clear B hO z0 y0 z1 y1 z2 y2 z3 y3 z4 y4 z5 y5 z6 y6 z7 y7 z8 y8 z9 y9 z10 y10 z11 y11 z12 y12 z13 y13
      have heq : ofin (mko (x, y) t k (gx, gy) np) V (L7, 0) = ((o, V), (L7, 0)) := by rw [← HO.out]; exact hb.out
      refine bodyPost_ret (v := ov o (.slice a V.length c)) (by simp [results, Try.results21, go_sem, OpIn.cells, t0, t1, t2, t3, t4, t5, t6, t7, t8, t9, t10, t11, t12, t13]) rfl ?_
      rw [heq]
      exact ⟨a, c, rfl, u1, u2, u3, u4⟩
  · have hb := hid (hb8.out he)
    have hne' : (e7 != 0) = true := by simpa using he
    have hne2 : (e7 == 0) = false := by simpa using he
    clear hb7 hb8 hb9 c9
    go_upto_region 21 with fail
    have z0 := S14.s.k.opAt.c0
    have y0 := S14.s.k.frozen 0
    have z1 := S14.s.k.opAt.c1
    have y1 := S14.s.k.frozen 1
    have z2 := S14.s.k.opAt.c2
    have y2 := S14.s.k.frozen 2
    have z3 := S14.s.k.opAt.c3
    have y3 := S14.s.k.frozen 3
    have z4 := S14.s.k.opAt.c4
    have y4 := S14.s.k.frozen 4
    have z5 := S14.s.k.opAt.c5
    have y5 := S14.s.k.frozen 5
    have z6 := S14.s.k.opAt.c6
    have y6 := S14.s.k.frozen 6
    have z7 := S14.s.k.opAt.c7
    have y7 := S14.s.k.frozen 7
    have z8 := S14.s.k.opAt.c8
    have y8 := S14.s.k.frozen 8
    have z9 := S14.s.k.opAt.c9
    have y9 := S14.s.k.frozen 9
    have z10 := S14.s.k.opAt.c10
    have y10 := S14.s.k.frozen 10
    have z11 := S14.s.k.opAt.c11
    have y11 := S14.s.k.frozen 11
    have z12 := S14.s.k.opAt.c12
    have y12 := S14.s.k.frozen 12
    have z13 := S14.s.k.opAt.c13
    have y13 := S14.s.k.frozen 13
    rw [hq2] at z0 y0 z1 y1 z2 y2 z3 y3 z4 y4 z5 y5 z6 y6 z7 y7 z8 y8 z9 y9 z10 y10 z11 y11 z12 y12 z13 y13
    go_wp2_with fail
    have B : Blk (put14 w14 q2 zer (.slice none 0 0)) q2 (zer.cells (.slice none 0 0)) := put14_blk (by have := S14.s.k; rw [hq2] at this; exact this)
    have hO : Only w.heap.size w14 (put14 w14 q2 zer (.slice none 0 0)) := by rw [hq2]; exact put14_only _ _ _ _
    change bodyPost _ _ _ _ _ (put14 w14 q2 zer (.slice none 0 0))
    generalize put14 w14 q2 zer (.slice none 0 0) = W at B hO ⊢
    obtain ⟨u1, u2, u3, u4⟩ := S14.out hO (PS.none _) (fun ad ha => by cases ha)
    have t0 := B.opAt.c0
    have t1 := B.opAt.c1
    have t2 := B.opAt.c2
    have t3 := B.opAt.c3
    have t4 := B.opAt.c4
    have t5 := B.opAt.c5
    have t6 := B.opAt.c6
    have t7 := B.opAt.c7
    have t8 := B.opAt.c8
    have t9 := B.opAt.c9
    have t10 := B.opAt.c10
    have t11 := B.opAt.c11
    have t12 := B.opAt.c12
    have t13 := B.opAt.c13
    clear B hO z0 y0 z1 y1 z2 y2 z3 y3 z4 y4 z5 y5 z6 y6 z7 y7 z8 y8 z9 y9 z10 y10 z11 y11 z12 y12 z13 y13
    have heq : ofin (mko (x, y) t k (gx, gy) np) V (L7, e7) = ((zer, []), (L7, e7)) := by rw [← HO.out]; exact hb.out
    refine bodyPost_ret (v := ov zer (.slice none 0 0)) (by simp [results, Try.results21, go_sem, OpIn.cells, t0, t1, t2, t3, t4, t5, t6, t7, t8, t9, t10, t11, t12, t13]) rfl ?_
    rw [heq]
    exact ⟨none, 0, rfl, u1, u2, u3, u4⟩

end

section
open Go.RowKit
open Go.Sort (grow)

theorem rtake7_any (w : World) (b z : Nat) (L : List Int) (e : Int) (h : Rdr w b z L e) (hz : z < w.heap.size) (hl : L.length ≤ 1000000) :
    Calls Try.prog 21 #[.pointer (some ⟨b, 0, none⟩)] w (Takes7 w b z (otk L e)) := by
  by_cases h1 : (hd7 L e).1.2.2.2 = 1
  · exact rtake7_ins w b z L e h hz hl _ rfl h1
  by_cases h2 : (hd7 L e).1.2.2.2 = 2
  · exact rtake7_del w b z L e h hz hl _ rfl h2
  by_cases h3 : (hd7 L e).1.2.2.2 = 3
  · exact rtake7_mov w b z L e h hz hl _ rfl h3
  by_cases h0 : kerr L e = 0
  · exact rtake7_no1 w b z L e h hz hl _ rfl h1 h2 h3 h0
  · exact rtake7_no2 w b z L e h hz hl _ rfl h1 h2 h3 h0
end
end Go.Proofs.Ythipadnghdodlaa
