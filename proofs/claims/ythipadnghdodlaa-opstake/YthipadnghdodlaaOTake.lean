/- What Take does. -/
import Derived.Test.YthipadnghdodlaaOTakeA
namespace Go.Proofs.Ythipadnghdodlaa
open Go.RowKit
open Go.Sort (grow)

/-- A reader that is told of an error. -/
def flr (x : Int) (s : List Int × Int) : List Int × Int := if s.2 = 0 then ([], x) else s

/-- Where the kind is none of the three. -/
def kfl (k : Int) (s : List Int × Int) : List Int × Int := if k = 1 ∨ k = 2 ∨ k = 3 then s else flr 11 s

/-- Id, Time, Deps and Kind; what is left, the error. -/
def hd7 (L : List Int) (e : Int) : (Dt × Int × List Dt × Int) × List Int × Int :=
  (((tk L e).1, dint (dec (tk L e).2.1 (tk L e).2.2).1, (vtk (dec (tk L e).2.1 (tk L e).2.2).2.1 (dec (tk L e).2.1 (tk L e).2.2).2.2).1, dint (dec (vtk (dec (tk L e).2.1 (tk L e).2.2).2.1 (dec (tk L e).2.1 (tk L e).2.2).2.2).2.1 (vtk (dec (tk L e).2.1 (tk L e).2.2).2.1 (dec (tk L e).2.1 (tk L e).2.2).2.2).2.2).1),
    kfl (dint (dec (vtk (dec (tk L e).2.1 (tk L e).2.2).2.1 (dec (tk L e).2.1 (tk L e).2.2).2.2).2.1 (vtk (dec (tk L e).2.1 (tk L e).2.2).2.1 (dec (tk L e).2.1 (tk L e).2.2).2.2).2.2).1) (dec (vtk (dec (tk L e).2.1 (tk L e).2.2).2.1 (dec (tk L e).2.1 (tk L e).2.2).2.2).2.1 (vtk (dec (tk L e).2.1 (tk L e).2.2).2.1 (dec (tk L e).2.1 (tk L e).2.2).2.2).2.2).2)

/-- What is told, where all was read. -/
def ofin (o : OpIn) (V : List Dt) (s : List Int × Int) : (OpIn × List Dt) × List Int × Int :=
  if s.2 = 0 then (if chk o V = true then ((o, V), s) else ((zer, []), ([], 30))) else ((zer, []), s)

/-- The parts behind the head. -/
def tl7 (h : (Dt × Int × List Dt × Int) × List Int × Int) : (OpIn × List Dt) × List Int × Int :=
  ofin (mko h.1.1 h.1.2.1 h.1.2.2.2 (tk h.2.1 h.2.2).1 (prt h.1.2.2.2 (tk h.2.1 h.2.2).2.1 (tk h.2.1 h.2.2).2.2).1) h.1.2.2.1 (prt h.1.2.2.2 (tk h.2.1 h.2.2).2.1 (tk h.2.1 h.2.2).2.2).2

/-- The next operation, what is left, the error. -/
def otk (L : List Int) (e : Int) : (OpIn × List Dt) × List Int × Int := tl7 (hd7 L e)

theorem rflr_any {w : World} {b z : Nat} {L : List Int} {e : Int} (h : Rdr w b z L e) (x : Int) (hx : (x == 0) = false) :
    Calls Try.prog 52 #[.pointer (some ⟨b, 0, none⟩), .int .i64 x] w fun r w' => r = .returned (.tuple #[]) ∧ Rdr w' b z (flr x (L, e)).1 (flr x (L, e)).2 ∧ Only b w w' := by
  by_cases he : e = 0
  · subst he
    exact rfail_any h x hx
  · obtain ⟨a, len, cap, hr, h2⟩ := id h
    refine (fail_dead w b _ e x hr (by simpa using he)).mono ?_
    rintro r w' ⟨rfl, rfl⟩
    refine ⟨rfl, ?_, Only.refl _ _⟩
    have : flr x (L, e) = (L, e) := by simp [flr, he]
    rw [this]; exact h

theorem rerr_any {w : World} {b z : Nat} {L : List Int} {e : Int} (h : Rdr w b z L e) : Calls Try.prog 23 #[.pointer (some ⟨b, 0, none⟩)] w fun r w' => r = .returned (.int .i64 e) ∧ w = w' := by
  obtain ⟨a, len, cap, hr, _⟩ := h
  exact err_any w b _ e hr

/-- A call answers an operation that lies in the world, and the reader has gone on. -/
def Takes7 (w : World) (b z : Nat) (s : (OpIn × List Dt) × List Int × Int) (r : Ending) (w' : World) : Prop :=
  ∃ a c, r = .returned (ov s.1.1 (.slice a s.1.2.length c)) ∧ PS w' a s.1.2.length c s.1.2 ∧ Rdr w' b z s.2.1 s.2.2 ∧ w.grownBy w' (some b) ∧ (∀ ad, a = some ad → w.heap.size ≤ ad.block)

section
variable {w wi w' : World} {b z n c n' c' : Nat} {o o' : OpIn} {a a' : Option Addr} {V V' : List Dt} {L L' : List Int} {e e' : Int}

/-- Its Deps are written. -/
theorem St.dep (h : St w wi b z o a n c V L e) (hO : Only (w.heap.size + 1) wi w') (hB : Blk w' (w.heap.size + 1) (o'.cells (.slice a' n' c'))) (hP : PS wi a' n' c' V') (hN : ∀ ad, a' = some ad → w.heap.size + 1 < ad.block) : St w w' b z o' a' n' c' V' L e := by
  have hb := h.hb
  have hz := h.hz
  refine ⟨h.r.only hO (by omega) (by omega), hB, h.k.same (hO.block _ (by omega)), ⟨hO.os.trans h.g.os, hO.tape.trans h.g.tape, hO.output.trans h.g.output, by rw [hO.size]; exact h.g.size, fun k hk hne => ?_⟩, h.hb, h.hz, hP.other fun ad ha _ => ?_, hN⟩
  · rw [hO.block k (by omega)]
    exact h.g.block k hk hne
  · have := hN ad ha
    exact hO.block _ (by omega)

theorem St.zlt (h : St w wi b z o a n c V L e) : z < wi.heap.size := Nat.lt_of_lt_of_le h.hz h.g.size

/-- The result's block is written. -/
theorem St.out (h : St w wi b z o a n c V L e) {a2 : Option Addr} {n2 c2 : Nat} {V2 : List Dt} (hO : Only w.heap.size wi w') (hP : PS wi a2 n2 c2 V2) (hN : ∀ ad, a2 = some ad → w.heap.size < ad.block) : PS w' a2 n2 c2 V2 ∧ Rdr w' b z L e ∧ w.grownBy w' (some b) ∧ (∀ ad, a2 = some ad → w.heap.size ≤ ad.block) := by
  have hb := h.hb
  have hz := h.hz
  refine ⟨hP.other fun ad ha _ => ?_, h.r.only hO (by omega) (by omega), ⟨hO.os.trans h.g.os, hO.tape.trans h.g.tape, hO.output.trans h.g.output, by rw [hO.size]; exact h.g.size, fun k hk hne => ?_⟩, fun ad ha => ?_⟩
  · have := hN ad ha
    exact hO.block _ (by omega)
  · rw [hO.block k (by omega)]
    exact h.g.block k hk hne
  · have := hN ad ha
    omega
end


/-- An operation is written, cell by cell. -/
def put14 (w : World) (q : Nat) (o : OpIn) (v : Value) : World := (((((((((((((w.setCell ⟨q, 0, none⟩ (.int .i64 o.id0)).setCell ⟨q, 1, none⟩ (.int .i64 o.id1)).setCell ⟨q, 2, none⟩ (.int .i64 o.time)).setCell ⟨q, 3, none⟩ v).setCell ⟨q, 4, none⟩ (.int .i64 o.kind)).setCell ⟨q, 5, none⟩ (.int .i64 o.bl0)).setCell ⟨q, 6, none⟩ (.int .i64 o.bl1)).setCell ⟨q, 7, none⟩ (.int .i64 o.at0)).setCell ⟨q, 8, none⟩ (.int .i64 o.at1)).setCell ⟨q, 9, none⟩ (.int .i64 o.side)).setCell ⟨q, 10, none⟩ (.int .i64 o.char)).setCell ⟨q, 11, none⟩ (.int .i64 o.pa0)).setCell ⟨q, 12, none⟩ (.int .i64 o.pa1)).setCell ⟨q, 13, none⟩ (.string o.key)

theorem set14 (x0 x1 x2 x3 x4 x5 x6 x7 x8 x9 x10 x11 x12 x13 y0 y1 y2 y3 y4 y5 y6 y7 y8 y9 y10 y11 y12 y13 : Value) :
    ((((((((((((((#[x0, x1, x2, x3, x4, x5, x6, x7, x8, x9, x10, x11, x12, x13] : Array Value).setIfInBounds 0 y0).setIfInBounds 1 y1).setIfInBounds 2 y2).setIfInBounds 3 y3).setIfInBounds 4 y4).setIfInBounds 5 y5).setIfInBounds 6 y6).setIfInBounds 7 y7).setIfInBounds 8 y8).setIfInBounds 9 y9).setIfInBounds 10 y10).setIfInBounds 11 y11).setIfInBounds 12 y12).setIfInBounds 13 y13 = #[y0, y1, y2, y3, y4, y5, y6, y7, y8, y9, y10, y11, y12, y13] := by
  simp

theorem put14_blk {w : World} {q : Nat} {o1 o : OpIn} {v1 v : Value} (h : Blk w q (o1.cells v1)) : Blk (put14 w q o v) q (o.cells v) := by
  have h1 := (((((((((((((h.set 0 (.int .i64 o.id0)).set 1 (.int .i64 o.id1)).set 2 (.int .i64 o.time)).set 3 v).set 4 (.int .i64 o.kind)).set 5 (.int .i64 o.bl0)).set 6 (.int .i64 o.bl1)).set 7 (.int .i64 o.at0)).set 8 (.int .i64 o.at1)).set 9 (.int .i64 o.side)).set 10 (.int .i64 o.char)).set 11 (.int .i64 o.pa0)).set 12 (.int .i64 o.pa1)).set 13 (.string o.key)
  unfold OpIn.cells at h1
  rw [set14] at h1
  exact h1

theorem put14_only (w : World) (q : Nat) (o : OpIn) (v : Value) : Only q w (put14 w q o v) := ((((((((((((((Only.refl q w).setCell 0 _).setCell 1 _).setCell 2 _).setCell 3 _).setCell 4 _).setCell 5 _).setCell 6 _).setCell 7 _).setCell 8 _).setCell 9 _).setCell 10 _).setCell 11 _).setCell 12 _).setCell 13 _

theorem str_size (l : List Int) : (strOfNums l).size = l.length := by
  have := congrArg List.length (strOfNums_data l)
  rw [List.length_map] at this
  exact this

theorem rtx_le (L : List Int) (e : Int) : (rtx L e).1.length ≤ L.length := by
  unfold rtx
  simp only
  rw [List.length_take]
  exact Nat.le_trans (Nat.min_le_right _ _) (cnt_le L e 1)

theorem prt_key (k : Int) (L : List Int) (e : Int) : (prt k L e).1.2.2.2.2.size ≤ L.length := by
  unfold prt
  split
  · exact Nat.zero_le _
  · split
    · exact Nat.zero_le _
    · split
      · simp only
        rw [str_size]
        exact Nat.le_trans (rtx_le _ _) (tk_le L e)
      · exact Nat.zero_le _

theorem kfl_yes {k : Int} (h : k = 1 ∨ k = 2 ∨ k = 3) (s : List Int × Int) : kfl k s = s := by simp [kfl, h]
theorem kfl_no {k : Int} (h1 : k ≠ 1) (h2 : k ≠ 2) (h3 : k ≠ 3) (s : List Int × Int) : kfl k s = flr 11 s := by simp [kfl, h1, h2, h3]
theorem flr_le (x : Int) (s : List Int × Int) : (flr x s).1.length ≤ s.1.length := by unfold flr; split <;> simp
theorem ofin_ok {o : OpIn} {V : List Dt} (h : chk o V = true) (L : List Int) : ofin o V (L, 0) = ((o, V), (L, 0)) := by simp [ofin, h]
theorem ofin_err (o : OpIn) (V : List Dt) (L : List Int) {e : Int} (h : e ≠ 0) : ofin o V (L, e) = ((zer, []), (L, e)) := by simp [ofin, h]
theorem ofin_no {o : OpIn} {V : List Dt} (h : chk o V = false) (s : List Int × Int) : ofin o V s = ((zer, []), flr 30 s) := by
  unfold ofin flr
  by_cases he : s.2 = 0 <;> simp [h, he]
theorem flr_ne (x : Int) (hx : x ≠ 0) (s : List Int × Int) : (flr x s).2 ≠ 0 := by unfold flr; split <;> assumption

set_option maxRecDepth 100000 in
set_option maxHeartbeats 8000000 in
theorem take7_ins (w : World) (b z : Nat) (L : List Int) (e : Int) (h : Rdr w b z L e) (hz : z < w.heap.size) (hl : L.length ≤ 1000000) (k0 : Int) (hk0 : (hd7 L e).1.2.2.2 = k0) (hk : k0 = 1) :
    Calls Try.prog 19 #[.pointer (some ⟨b, 0, none⟩)] w (Takes7 w b z (otk L e)) := by
  have S0 := st_start h hz
  have hl1 := tk_le L e
  have c1 := fun W (hW : Rdr W b z L e) hz => take_any W b z L e hW hz
  unfold hd7 at hk0
  unfold otk hd7
  generalize tk L e = s at c1 hl1 hk0 ⊢
  obtain ⟨⟨x, y⟩, L1, e1⟩ := s
  simp only at c1 hl1 hk0 ⊢
  have hl2 := dec_le L1 e1
  have c2 := fun W (hW : Rdr W b z L1 e1) => rint_any W b z L1 e1 hW
  generalize dec L1 e1 = s at c2 hl2 hk0 ⊢
  obtain ⟨i2, L2, e2⟩ := s
  simp only at c2 hl2 hk0 ⊢
  have hl3 := cnt_le L2 e2 2
  have hl3' := vtk_le L2 e2
  have hB2 := fun W (hW : Rdr W b z L2 e2) => vtk_len L2 e2 hW.bts.1
  have c3 := fun W (hW : Rdr W b z L2 e2) hz => vtake_any W b z L2 e2 hW hz (by omega)
  generalize vtk L2 e2 = s at c3 hB2 hl3' hk0 ⊢
  obtain ⟨V, L3, e3⟩ := s
  unfold TakesV at c3
  simp only at c3 hB2 hl3' hk0 ⊢
  have hl4 := dec_le L3 e3
  have c4 := fun W (hW : Rdr W b z L3 e3) => rint_any W b z L3 e3 hW
  generalize dec L3 e3 = s at c4 hl4 hk0 ⊢
  obtain ⟨i4, L4, e4⟩ := s
  simp only at c4 hl4 hk0 ⊢
  generalize dint i2 = t at c2 ⊢
  generalize hk4 : dint i4 = k at c4 hk0 ⊢
  clear hl3 hk4
  subst hk0
  have p1 : pat k = true := by simp [pat, hk]
  have p2 : pch k = true := by simp [pch, hk]
  have p3 : ppl k = false := by simp [ppl, hk]
  rw [kfl_yes (by simp [hk])]
  have hl6 := tk_le L4 e4
  have c6 := fun W (hW : Rdr W b z L4 e4) hz => take_any W b z L4 e4 hW hz
  unfold tl7
  simp only
  generalize tk L4 e4 = s at c6 hl6 ⊢
  obtain ⟨⟨gx, gy⟩, L6, e6⟩ := s
  simp only at c6 hl6 ⊢
  have hl7 := prt_key k L6 e6
  have c7 := fun W a n c (h : St w W b z (mko (x, y) t k (gx, gy) np) a n c V L6 e6) => takeParts_any h
  generalize prt k L6 e6 = s at c7 hl7 ⊢
  obtain ⟨pp, L7, e7⟩ := s
  simp only at c7 hl7 ⊢
  have hkey : (mko (x, y) t k (gx, gy) pp).key.size ≤ maxLen := by show pp.2.2.2.2.size ≤ maxLen; unfold maxLen; omega
  have c8 := fun W a c (hV : V.length ≤ 1000000) (hP : PS W a V.length c V) => check_any (mko (x, y) t k (gx, gy) pp) a V.length c V W hP hV hkey
  have hb7 := hid (fun h => ofin_ok (o := mko (x, y) t k (gx, gy) pp) (V := V) h L7)
  have hb8 := hid (fun (h : e7 ≠ 0) => ofin_err (mko (x, y) t k (gx, gy) pp) V L7 h)
  have hb9 := hid (fun h => ofin_no (o := mko (x, y) t k (gx, gy) pp) (V := V) h (L7, e7))
  have cP := fun W => partsOf_any k W
  unfold pv at cP c7
  rw [p1, p2, p3] at cP
  simp only [p1, p2, p3] at c7
  have hVl : Hid (∀ (W : World), Rdr W b z L2 e2 → V.length ≤ 1000000) := hid fun W hW => by have := hB2 W hW; omega
  clear hkey hl6 hl7 hl hl1 hl2 hl3' hl4 hB2 p1 p2 p3 hk
  go_enter Try.func19, Try.ntmps19
  go_upto_region 2 with fail
  generalize (w.alloc (.cells #[.int .i64 0, .int .i64 0, .int .i64 0, .slice none 0 0, .int .i64 0, .int .i64 0, .int .i64 0, .int .i64 0, .int .i64 0, .int .i64 0, .int .i64 0, .int .i64 0, .int .i64 0, .string { data := #[] }] 27)).alloc (.cells #[.int .i64 0, .int .i64 0, .int .i64 0, .slice none 0 0, .int .i64 0, .int .i64 0, .int .i64 0, .int .i64 0, .int .i64 0, .int .i64 0, .int .i64 0, .int .i64 0, .int .i64 0, .string { data := #[] }] 27) = w0 at S0 ⊢
  generalize hq : w.heap.size + 1 = q at c7 ⊢
  generalize hq2 : w.heap.size = q2
  clear h
  go_upto_region 3 with (first
    | (go_at_call 48; refine (c1 _ S0.r S0.zlt).mono ?_; rintro r w1 ⟨rfl, R1, G1⟩; have S1 := S0.call R1 G1; have v0 := S1.o.opAt.c0; have v1 := S1.o.opAt.c1; have f0 := S1.o.frozen 0; have f1 := S1.o.frozen 1; rw [hq] at v0 v1 f0 f1))
  have S2 : St w ((w1.setCell ⟨q, 0, none⟩ (.int .i64 x)).setCell ⟨q, 1, none⟩ (.int .i64 y)) b z (mko (x, y) 0 0 (0, 0) np) none 0 0 [] L1 e1 := S1.upd (by rw [hq]; exact only2 _ _ _ _ _ _) (by have := (S1.o.set 0 (.int .i64 x)).set 1 (.int .i64 y); rw [hq] at this ⊢; exact this)
  generalize (w1.setCell ⟨q, 0, none⟩ (.int .i64 x)).setCell ⟨q, 1, none⟩ (.int .i64 y) = w2 at S2 ⊢
  clear S0 S1 R1 G1 c1 v0 v1 f0 f1
  go_upto_region 4 with (first
    | (go_at_call 49; refine (c2 _ S2.r).mono ?_; rintro r w3 ⟨rfl, R3, O3⟩; have S3 := S2.call R3 O3.grown; have v2 := S3.o.opAt.c2; have f2 := S3.o.frozen 2; rw [hq] at v2 f2))
  have S4 : St w (w3.setCell ⟨q, 2, none⟩ (.int .i64 t)) b z (mko (x, y) t 0 (0, 0) np) none 0 0 [] L2 e2 := S3.upd (by rw [hq]; exact only1 _ _ _ _) (by have := S3.o.set 2 (.int .i64 t); rw [hq] at this ⊢; exact this)
  generalize w3.setCell ⟨q, 2, none⟩ (.int .i64 t) = w4 at S4 ⊢
  have hV6 := hVl.out w4 S4.r
  clear S2 S3 R3 O3 c2 v2 f2 hVl
  go_upto_region 5 with (first
    | (go_at_call 50; refine (c3 _ S4.r S4.zlt).mono ?_; rintro r w5 ⟨a, c, rfl, P5, R5, G5, N5⟩; have S5 := S4.call R5 G5; have v3 := S5.o.opAt.c3; have f3 := S5.o.frozen 3; rw [hq] at v3 f3))
  have S6 : St w (w5.setCell ⟨q, 3, none⟩ (.slice a V.length c)) b z (mko (x, y) t 0 (0, 0) np) a V.length c V L3 e3 := S5.dep (by rw [hq]; exact only1 _ _ _ _) (by have := S5.o.set 3 (.slice a V.length c); rw [hq] at this ⊢; exact this) P5 (fun ad ha => by have h1 := N5 ad ha; have h2 := S4.o.lt; omega)
  generalize w5.setCell ⟨q, 3, none⟩ (.slice a V.length c) = w6 at S6 ⊢
  clear S4 S5 R5 G5 c3 v3 f3 P5 N5
  go_upto_region 6 with (first
    | (go_at_call 49; refine (c4 _ S6.r).mono ?_; rintro r w7 ⟨rfl, R7, O7⟩; have S7 := S6.call R7 O7.grown; have v4 := S7.o.opAt.c4; have f4 := S7.o.frozen 4; rw [hq] at v4 f4))
  have S8 : St w (w7.setCell ⟨q, 4, none⟩ (.int .i64 k)) b z (mko (x, y) t k (0, 0) np) a V.length c V L4 e4 := S7.upd (by rw [hq]; exact only1 _ _ _ _) (by have := S7.o.set 4 (.int .i64 k); rw [hq] at this ⊢; exact this)
  generalize w7.setCell ⟨q, 4, none⟩ (.int .i64 k) = w8 at S8 ⊢
  clear S6 S7 R7 O7 c4 v4 f4
  have v4 := S8.o.opAt.c4
  rw [hq] at v4
  go_upto_region 7 with (first
    | (go_at_call 51; refine (cP _).mono ?_; rintro r w9 ⟨rfl, F9⟩; have S9 := S8.call (S8.r.below F9.below) (below_grownS F9.below)))
  have S10 : St w (w9.alloc (.cells #[.bool true, .bool true, .bool false] 69)) b z (mko (x, y) t k (0, 0) np) a V.length c V L4 e4 := S9.call (S9.r.below ((Below.refl _ _).alloc (Nat.le_refl _) _)) (below_grownS ((Below.refl _ _).alloc (Nat.le_refl _) _))
  have hbp : b ≠ w9.heap.size := by have h1 := S9.hb; have h2 := S9.g.size; omega
  have hqp : q ≠ w9.heap.size := by have h1 := S9.o.lt; omega
  obtain ⟨m0, m1, m2⟩ := pcells (wi := w9) (World.grownBy.refl (w9.alloc (.cells #[.bool true, .bool true, .bool false] 69)) (some b)) hbp
  generalize w9.alloc (.cells #[.bool true, .bool true, .bool false] 69) = w10 at S10 m0 m1 m2 ⊢
  generalize w9.heap.size = qp at hbp hqp m0 m1 m2 ⊢
  clear S8 S9 F9 cP v4
  go_upto_region 10 with (first
    | (go_at_call 48; refine (c6 _ S10.r S10.zlt).mono ?_; rintro r w12 ⟨rfl, R12, G12⟩; have S12 := S10.call R12 G12; have v5 := S12.o.opAt.c5; have v6 := S12.o.opAt.c6; have f5 := S12.o.frozen 5; have f6 := S12.o.frozen 6; rw [hq] at v5 v6 f5 f6; have q0 := (G12.cell_far ⟨qp, 0, none⟩ (cell_in m0) (by simpa using Ne.symm hbp)).trans m0; have q1 := (G12.cell_far ⟨qp, 1, none⟩ (cell_in m1) (by simpa using Ne.symm hbp)).trans m1; have q2' := (G12.cell_far ⟨qp, 2, none⟩ (cell_in m2) (by simpa using Ne.symm hbp)).trans m2))
  have S13 : St w ((w12.setCell ⟨q, 5, none⟩ (.int .i64 gx)).setCell ⟨q, 6, none⟩ (.int .i64 gy)) b z (mko (x, y) t k (gx, gy) np) a V.length c V L6 e6 := S12.upd (by rw [hq]; exact only2 _ _ _ _ _ _) (by have := (S12.o.set 5 (.int .i64 gx)).set 6 (.int .i64 gy); rw [hq] at this ⊢; exact this)
  have t0 := ((only2 w12 q 5 6 (.int .i64 gx) (.int .i64 gy)).cell (p := ⟨qp, 0, none⟩) (Ne.symm hqp)).trans q0
  have t1 := ((only2 w12 q 5 6 (.int .i64 gx) (.int .i64 gy)).cell (p := ⟨qp, 1, none⟩) (Ne.symm hqp)).trans q1
  have t2 := ((only2 w12 q 5 6 (.int .i64 gx) (.int .i64 gy)).cell (p := ⟨qp, 2, none⟩) (Ne.symm hqp)).trans q2'
  generalize (w12.setCell ⟨q, 5, none⟩ (.int .i64 gx)).setCell ⟨q, 6, none⟩ (.int .i64 gy) = w13 at S13 t0 t1 t2 ⊢
  clear v5 v6 f5 f6 m0 m1 m2 q0 q1 q2' S10 S12 R12 G12 c6
  go_upto_region 11 with (first
    | (go_at_call 53; refine (c7 _ _ _ _ S13).mono ?_; rintro r w14 ⟨rfl, S14⟩))
  clear S13 t0 t1 t2 c7
  obtain ⟨o, ho⟩ : ∃ o, o = mko (x, y) t k (gx, gy) pp := ⟨_, rfl⟩
  rw [← ho] at c8 S14 hb7 hb8 hb9
  have HO := hid ho
  clear ho
  have c9 := c8 w14 a c hV6 S14.p
  clear c8
  have a0 := S14.o.opAt.c0
  have a1 := S14.o.opAt.c1
  have a2 := S14.o.opAt.c2
  have a3 := S14.o.opAt.c3
  have a4 := S14.o.opAt.c4
  have a5 := S14.o.opAt.c5
  have a6 := S14.o.opAt.c6
  have a7 := S14.o.opAt.c7
  have a8 := S14.o.opAt.c8
  have a9 := S14.o.opAt.c9
  have a10 := S14.o.opAt.c10
  have a11 := S14.o.opAt.c11
  have a12 := S14.o.opAt.c12
  have a13 := S14.o.opAt.c13
  rw [hq] at a0 a1 a2 a3 a4 a5 a6 a7 a8 a9 a10 a11 a12 a13
  cases hr : chk o V with
  | false =>
    rw [hr] at c9
    have hb := hid (hb9.out hr)
    have hne := flr_ne 30 (by decide) (L7, e7)
    have cF := fun W (hW : Rdr W b z L7 e7) => rflr_any hW 30 (by decide)
    generalize flr 30 (L7, e7) = s at hb hne cF
    obtain ⟨L8, e8⟩ := s
    simp only at hne cF
    have hne' : (e8 != 0) = true := by simpa using hne
    clear hb7 hb8 hb9 hr
    go_upto_region 14 with (first
      | (go_at_call 10; refine c9.mono ?_; rintro r w15 ⟨rfl, F15⟩; have S15 := S14.call (S14.r.below F15.below) (below_grownS F15.below))
      | (go_at_call 52; refine (cF _ S15.r).mono ?_; rintro r w16 ⟨rfl, R16, O16⟩; have S16 := S15.call R16 O16.grown)
      | (go_at_call 23; refine (rerr_any S16.r).mono ?_; rintro r w17 ⟨rfl, rfl⟩))
    have z0 := S16.k.opAt.c0
    have y0 := S16.k.frozen 0
    have z1 := S16.k.opAt.c1
    have y1 := S16.k.frozen 1
    have z2 := S16.k.opAt.c2
    have y2 := S16.k.frozen 2
    have z3 := S16.k.opAt.c3
    have y3 := S16.k.frozen 3
    have z4 := S16.k.opAt.c4
    have y4 := S16.k.frozen 4
    have z5 := S16.k.opAt.c5
    have y5 := S16.k.frozen 5
    have z6 := S16.k.opAt.c6
    have y6 := S16.k.frozen 6
    have z7 := S16.k.opAt.c7
    have y7 := S16.k.frozen 7
    have z8 := S16.k.opAt.c8
    have y8 := S16.k.frozen 8
    have z9 := S16.k.opAt.c9
    have y9 := S16.k.frozen 9
    have z10 := S16.k.opAt.c10
    have y10 := S16.k.frozen 10
    have z11 := S16.k.opAt.c11
    have y11 := S16.k.frozen 11
    have z12 := S16.k.opAt.c12
    have y12 := S16.k.frozen 12
    have z13 := S16.k.opAt.c13
    have y13 := S16.k.frozen 13
    rw [hq2] at z0 y0 z1 y1 z2 y2 z3 y3 z4 y4 z5 y5 z6 y6 z7 y7 z8 y8 z9 y9 z10 y10 z11 y11 z12 y12 z13 y13
    go_wp2_with fail
    have B : Blk (put14 w16 q2 zer (.slice none 0 0)) q2 (zer.cells (.slice none 0 0)) := put14_blk (by have := S16.k; rw [hq2] at this; exact this)
    have hO : Only w.heap.size w16 (put14 w16 q2 zer (.slice none 0 0)) := by rw [hq2]; exact put14_only _ _ _ _
    change bodyPost _ _ _ _ _ (put14 w16 q2 zer (.slice none 0 0))
    generalize put14 w16 q2 zer (.slice none 0 0) = W at B hO ⊢
    obtain ⟨u1, u2, u3, u4⟩ := S16.out hO (PS.none _) (fun ad ha => by cases ha)
    have t0 := B.opAt.c0
    have t1 := B.opAt.c1
    have t2 := B.opAt.c2
    have t3 := B.opAt.c3
    have t4 := B.opAt.c4
    have t5 := B.opAt.c5
    have t6 := B.opAt.c6
    have t7 := B.opAt.c7
    have t8 := B.opAt.c8
    have t9 := B.opAt.c9
    have t10 := B.opAt.c10
    have t11 := B.opAt.c11
    have t12 := B.opAt.c12
    have t13 := B.opAt.c13
    clear B hO z0 y0 z1 y1 z2 y2 z3 y3 z4 y4 z5 y5 z6 y6 z7 y7 z8 y8 z9 y9 z10 y10 z11 y11 z12 y12 z13 y13 a0 a1 a2 a3 a4 a5 a6 a7 a8 a9 a10 a11 a12 a13
    have heq : ofin (mko (x, y) t k (gx, gy) pp) V (L7, e7) = ((zer, []), (L8, e8)) := by rw [← HO.out]; exact hb.out
    refine bodyPost_ret (v := ov zer (.slice none 0 0)) (by simp [results, Try.results19, go_sem, OpIn.cells, t0, t1, t2, t3, t4, t5, t6, t7, t8, t9, t10, t11, t12, t13]) rfl ?_
    rw [heq]
    exact ⟨none, 0, rfl, u1, u2, u3, u4⟩
  | true =>
    rw [hr] at c9
    clear hb9
    by_cases he : e7 = 0
    · subst he
      have hb := hid (hb7.out hr)
      clear hb7 hb8 hr
      go_upto_region 15 with (first
        | (go_at_call 10; refine c9.mono ?_; rintro r w15 ⟨rfl, F15⟩; have S15 := S14.call (S14.r.below F15.below) (below_grownS F15.below))
        | (go_at_call 23; refine (rerr_any S15.r).mono ?_; rintro r w17 ⟨rfl, rfl⟩))
      have g0 := S15.o.opAt.c0
      have g1 := S15.o.opAt.c1
      have g2 := S15.o.opAt.c2
      have g3 := S15.o.opAt.c3
      have g4 := S15.o.opAt.c4
      have g5 := S15.o.opAt.c5
      have g6 := S15.o.opAt.c6
      have g7 := S15.o.opAt.c7
      have g8 := S15.o.opAt.c8
      have g9 := S15.o.opAt.c9
      have g10 := S15.o.opAt.c10
      have g11 := S15.o.opAt.c11
      have g12 := S15.o.opAt.c12
      have g13 := S15.o.opAt.c13
      rw [hq] at g0 g1 g2 g3 g4 g5 g6 g7 g8 g9 g10 g11 g12 g13
      have z0 := S15.k.opAt.c0
      have y0 := S15.k.frozen 0
      have z1 := S15.k.opAt.c1
      have y1 := S15.k.frozen 1
      have z2 := S15.k.opAt.c2
      have y2 := S15.k.frozen 2
      have z3 := S15.k.opAt.c3
      have y3 := S15.k.frozen 3
      have z4 := S15.k.opAt.c4
      have y4 := S15.k.frozen 4
      have z5 := S15.k.opAt.c5
      have y5 := S15.k.frozen 5
      have z6 := S15.k.opAt.c6
      have y6 := S15.k.frozen 6
      have z7 := S15.k.opAt.c7
      have y7 := S15.k.frozen 7
      have z8 := S15.k.opAt.c8
      have y8 := S15.k.frozen 8
      have z9 := S15.k.opAt.c9
      have y9 := S15.k.frozen 9
      have z10 := S15.k.opAt.c10
      have y10 := S15.k.frozen 10
      have z11 := S15.k.opAt.c11
      have y11 := S15.k.frozen 11
      have z12 := S15.k.opAt.c12
      have y12 := S15.k.frozen 12
      have z13 := S15.k.opAt.c13
      have y13 := S15.k.frozen 13
      rw [hq2] at z0 y0 z1 y1 z2 y2 z3 y3 z4 y4 z5 y5 z6 y6 z7 y7 z8 y8 z9 y9 z10 y10 z11 y11 z12 y12 z13 y13
      go_wp2_with fail
      have B : Blk (put14 w15 q2 o (.slice a V.length c)) q2 (o.cells (.slice a V.length c)) := put14_blk (by have := S15.k; rw [hq2] at this; exact this)
      have hO : Only w.heap.size w15 (put14 w15 q2 o (.slice a V.length c)) := by rw [hq2]; exact put14_only _ _ _ _
      change bodyPost _ _ _ _ _ (put14 w15 q2 o (.slice a V.length c))
      generalize put14 w15 q2 o (.slice a V.length c) = W at B hO ⊢
      obtain ⟨u1, u2, u3, u4⟩ := S15.out hO S15.p (fun ad ha => by have := S15.new ad ha; omega)
      have t0 := B.opAt.c0
      have t1 := B.opAt.c1
      have t2 := B.opAt.c2
      have t3 := B.opAt.c3
      have t4 := B.opAt.c4
      have t5 := B.opAt.c5
      have t6 := B.opAt.c6
      have t7 := B.opAt.c7
      have t8 := B.opAt.c8
      have t9 := B.opAt.c9
      have t10 := B.opAt.c10
      have t11 := B.opAt.c11
      have t12 := B.opAt.c12
      have t13 := B.opAt.c13
      clear B hO z0 y0 z1 y1 z2 y2 z3 y3 z4 y4 z5 y5 z6 y6 z7 y7 z8 y8 z9 y9 z10 y10 z11 y11 z12 y12 z13 y13 a0 a1 a2 a3 a4 a5 a6 a7 a8 a9 a10 a11 a12 a13
      have heq : ofin (mko (x, y) t k (gx, gy) pp) V (L7, 0) = ((o, V), (L7, 0)) := by rw [← HO.out]; exact hb.out
      refine bodyPost_ret (v := ov o (.slice a V.length c)) (by simp [results, Try.results19, go_sem, OpIn.cells, t0, t1, t2, t3, t4, t5, t6, t7, t8, t9, t10, t11, t12, t13]) rfl ?_
      rw [heq]
      exact ⟨a, c, rfl, u1, u2, u3, u4⟩
    · have hb := hid (hb8.out he)
      have hne' : (e7 != 0) = true := by simpa using he
      clear hb7 hb8 hr
      go_upto_region 14 with (first
        | (go_at_call 10; refine c9.mono ?_; rintro r w15 ⟨rfl, F15⟩; have S15 := S14.call (S14.r.below F15.below) (below_grownS F15.below))
        | (go_at_call 23; refine (rerr_any S15.r).mono ?_; rintro r w17 ⟨rfl, rfl⟩))
      have z0 := S15.k.opAt.c0
      have y0 := S15.k.frozen 0
      have z1 := S15.k.opAt.c1
      have y1 := S15.k.frozen 1
      have z2 := S15.k.opAt.c2
      have y2 := S15.k.frozen 2
      have z3 := S15.k.opAt.c3
      have y3 := S15.k.frozen 3
      have z4 := S15.k.opAt.c4
      have y4 := S15.k.frozen 4
      have z5 := S15.k.opAt.c5
      have y5 := S15.k.frozen 5
      have z6 := S15.k.opAt.c6
      have y6 := S15.k.frozen 6
      have z7 := S15.k.opAt.c7
      have y7 := S15.k.frozen 7
      have z8 := S15.k.opAt.c8
      have y8 := S15.k.frozen 8
      have z9 := S15.k.opAt.c9
      have y9 := S15.k.frozen 9
      have z10 := S15.k.opAt.c10
      have y10 := S15.k.frozen 10
      have z11 := S15.k.opAt.c11
      have y11 := S15.k.frozen 11
      have z12 := S15.k.opAt.c12
      have y12 := S15.k.frozen 12
      have z13 := S15.k.opAt.c13
      have y13 := S15.k.frozen 13
      rw [hq2] at z0 y0 z1 y1 z2 y2 z3 y3 z4 y4 z5 y5 z6 y6 z7 y7 z8 y8 z9 y9 z10 y10 z11 y11 z12 y12 z13 y13
      go_wp2_with fail
      have B : Blk (put14 w15 q2 zer (.slice none 0 0)) q2 (zer.cells (.slice none 0 0)) := put14_blk (by have := S15.k; rw [hq2] at this; exact this)
      have hO : Only w.heap.size w15 (put14 w15 q2 zer (.slice none 0 0)) := by rw [hq2]; exact put14_only _ _ _ _
      change bodyPost _ _ _ _ _ (put14 w15 q2 zer (.slice none 0 0))
      generalize put14 w15 q2 zer (.slice none 0 0) = W at B hO ⊢
      obtain ⟨u1, u2, u3, u4⟩ := S15.out hO (PS.none _) (fun ad ha => by cases ha)
      have t0 := B.opAt.c0
      have t1 := B.opAt.c1
      have t2 := B.opAt.c2
      have t3 := B.opAt.c3
      have t4 := B.opAt.c4
      have t5 := B.opAt.c5
      have t6 := B.opAt.c6
      have t7 := B.opAt.c7
      have t8 := B.opAt.c8
      have t9 := B.opAt.c9
      have t10 := B.opAt.c10
      have t11 := B.opAt.c11
      have t12 := B.opAt.c12
      have t13 := B.opAt.c13
      clear B hO z0 y0 z1 y1 z2 y2 z3 y3 z4 y4 z5 y5 z6 y6 z7 y7 z8 y8 z9 y9 z10 y10 z11 y11 z12 y12 z13 y13 a0 a1 a2 a3 a4 a5 a6 a7 a8 a9 a10 a11 a12 a13
      have heq : ofin (mko (x, y) t k (gx, gy) pp) V (L7, e7) = ((zer, []), (L7, e7)) := by rw [← HO.out]; exact hb.out
      refine bodyPost_ret (v := ov zer (.slice none 0 0)) (by simp [results, Try.results19, go_sem, OpIn.cells, t0, t1, t2, t3, t4, t5, t6, t7, t8, t9, t10, t11, t12, t13]) rfl ?_
      rw [heq]
      exact ⟨none, 0, rfl, u1, u2, u3, u4⟩

set_option maxRecDepth 100000 in
set_option maxHeartbeats 8000000 in
theorem take7_del (w : World) (b z : Nat) (L : List Int) (e : Int) (h : Rdr w b z L e) (hz : z < w.heap.size) (hl : L.length ≤ 1000000) (k0 : Int) (hk0 : (hd7 L e).1.2.2.2 = k0) (hk : k0 = 2) :
    Calls Try.prog 19 #[.pointer (some ⟨b, 0, none⟩)] w (Takes7 w b z (otk L e)) := by
  have S0 := st_start h hz
  have hl1 := tk_le L e
  have c1 := fun W (hW : Rdr W b z L e) hz => take_any W b z L e hW hz
  unfold hd7 at hk0
  unfold otk hd7
  generalize tk L e = s at c1 hl1 hk0 ⊢
  obtain ⟨⟨x, y⟩, L1, e1⟩ := s
  simp only at c1 hl1 hk0 ⊢
  have hl2 := dec_le L1 e1
  have c2 := fun W (hW : Rdr W b z L1 e1) => rint_any W b z L1 e1 hW
  generalize dec L1 e1 = s at c2 hl2 hk0 ⊢
  obtain ⟨i2, L2, e2⟩ := s
  simp only at c2 hl2 hk0 ⊢
  have hl3 := cnt_le L2 e2 2
  have hl3' := vtk_le L2 e2
  have hB2 := fun W (hW : Rdr W b z L2 e2) => vtk_len L2 e2 hW.bts.1
  have c3 := fun W (hW : Rdr W b z L2 e2) hz => vtake_any W b z L2 e2 hW hz (by omega)
  generalize vtk L2 e2 = s at c3 hB2 hl3' hk0 ⊢
  obtain ⟨V, L3, e3⟩ := s
  unfold TakesV at c3
  simp only at c3 hB2 hl3' hk0 ⊢
  have hl4 := dec_le L3 e3
  have c4 := fun W (hW : Rdr W b z L3 e3) => rint_any W b z L3 e3 hW
  generalize dec L3 e3 = s at c4 hl4 hk0 ⊢
  obtain ⟨i4, L4, e4⟩ := s
  simp only at c4 hl4 hk0 ⊢
  generalize dint i2 = t at c2 ⊢
  generalize hk4 : dint i4 = k at c4 hk0 ⊢
  clear hl3 hk4
  subst hk0
  have p1 : pat k = true := by simp [pat, hk]
  have p2 : pch k = false := by simp [pch, hk]
  have p3 : ppl k = false := by simp [ppl, hk]
  rw [kfl_yes (by simp [hk])]
  have hl6 := tk_le L4 e4
  have c6 := fun W (hW : Rdr W b z L4 e4) hz => take_any W b z L4 e4 hW hz
  unfold tl7
  simp only
  generalize tk L4 e4 = s at c6 hl6 ⊢
  obtain ⟨⟨gx, gy⟩, L6, e6⟩ := s
  simp only at c6 hl6 ⊢
  have hl7 := prt_key k L6 e6
  have c7 := fun W a n c (h : St w W b z (mko (x, y) t k (gx, gy) np) a n c V L6 e6) => takeParts_any h
  generalize prt k L6 e6 = s at c7 hl7 ⊢
  obtain ⟨pp, L7, e7⟩ := s
  simp only at c7 hl7 ⊢
  have hkey : (mko (x, y) t k (gx, gy) pp).key.size ≤ maxLen := by show pp.2.2.2.2.size ≤ maxLen; unfold maxLen; omega
  have c8 := fun W a c (hV : V.length ≤ 1000000) (hP : PS W a V.length c V) => check_any (mko (x, y) t k (gx, gy) pp) a V.length c V W hP hV hkey
  have hb7 := hid (fun h => ofin_ok (o := mko (x, y) t k (gx, gy) pp) (V := V) h L7)
  have hb8 := hid (fun (h : e7 ≠ 0) => ofin_err (mko (x, y) t k (gx, gy) pp) V L7 h)
  have hb9 := hid (fun h => ofin_no (o := mko (x, y) t k (gx, gy) pp) (V := V) h (L7, e7))
  have cP := fun W => partsOf_any k W
  unfold pv at cP c7
  rw [p1, p2, p3] at cP
  simp only [p1, p2, p3] at c7
  have hVl : Hid (∀ (W : World), Rdr W b z L2 e2 → V.length ≤ 1000000) := hid fun W hW => by have := hB2 W hW; omega
  clear hkey hl6 hl7 hl hl1 hl2 hl3' hl4 hB2 p1 p2 p3 hk
  go_enter Try.func19, Try.ntmps19
  go_upto_region 2 with fail
  generalize (w.alloc (.cells #[.int .i64 0, .int .i64 0, .int .i64 0, .slice none 0 0, .int .i64 0, .int .i64 0, .int .i64 0, .int .i64 0, .int .i64 0, .int .i64 0, .int .i64 0, .int .i64 0, .int .i64 0, .string { data := #[] }] 27)).alloc (.cells #[.int .i64 0, .int .i64 0, .int .i64 0, .slice none 0 0, .int .i64 0, .int .i64 0, .int .i64 0, .int .i64 0, .int .i64 0, .int .i64 0, .int .i64 0, .int .i64 0, .int .i64 0, .string { data := #[] }] 27) = w0 at S0 ⊢
  generalize hq : w.heap.size + 1 = q at c7 ⊢
  generalize hq2 : w.heap.size = q2
  clear h
  go_upto_region 3 with (first
    | (go_at_call 48; refine (c1 _ S0.r S0.zlt).mono ?_; rintro r w1 ⟨rfl, R1, G1⟩; have S1 := S0.call R1 G1; have v0 := S1.o.opAt.c0; have v1 := S1.o.opAt.c1; have f0 := S1.o.frozen 0; have f1 := S1.o.frozen 1; rw [hq] at v0 v1 f0 f1))
  have S2 : St w ((w1.setCell ⟨q, 0, none⟩ (.int .i64 x)).setCell ⟨q, 1, none⟩ (.int .i64 y)) b z (mko (x, y) 0 0 (0, 0) np) none 0 0 [] L1 e1 := S1.upd (by rw [hq]; exact only2 _ _ _ _ _ _) (by have := (S1.o.set 0 (.int .i64 x)).set 1 (.int .i64 y); rw [hq] at this ⊢; exact this)
  generalize (w1.setCell ⟨q, 0, none⟩ (.int .i64 x)).setCell ⟨q, 1, none⟩ (.int .i64 y) = w2 at S2 ⊢
  clear S0 S1 R1 G1 c1 v0 v1 f0 f1
  go_upto_region 4 with (first
    | (go_at_call 49; refine (c2 _ S2.r).mono ?_; rintro r w3 ⟨rfl, R3, O3⟩; have S3 := S2.call R3 O3.grown; have v2 := S3.o.opAt.c2; have f2 := S3.o.frozen 2; rw [hq] at v2 f2))
  have S4 : St w (w3.setCell ⟨q, 2, none⟩ (.int .i64 t)) b z (mko (x, y) t 0 (0, 0) np) none 0 0 [] L2 e2 := S3.upd (by rw [hq]; exact only1 _ _ _ _) (by have := S3.o.set 2 (.int .i64 t); rw [hq] at this ⊢; exact this)
  generalize w3.setCell ⟨q, 2, none⟩ (.int .i64 t) = w4 at S4 ⊢
  have hV6 := hVl.out w4 S4.r
  clear S2 S3 R3 O3 c2 v2 f2 hVl
  go_upto_region 5 with (first
    | (go_at_call 50; refine (c3 _ S4.r S4.zlt).mono ?_; rintro r w5 ⟨a, c, rfl, P5, R5, G5, N5⟩; have S5 := S4.call R5 G5; have v3 := S5.o.opAt.c3; have f3 := S5.o.frozen 3; rw [hq] at v3 f3))
  have S6 : St w (w5.setCell ⟨q, 3, none⟩ (.slice a V.length c)) b z (mko (x, y) t 0 (0, 0) np) a V.length c V L3 e3 := S5.dep (by rw [hq]; exact only1 _ _ _ _) (by have := S5.o.set 3 (.slice a V.length c); rw [hq] at this ⊢; exact this) P5 (fun ad ha => by have h1 := N5 ad ha; have h2 := S4.o.lt; omega)
  generalize w5.setCell ⟨q, 3, none⟩ (.slice a V.length c) = w6 at S6 ⊢
  clear S4 S5 R5 G5 c3 v3 f3 P5 N5
  go_upto_region 6 with (first
    | (go_at_call 49; refine (c4 _ S6.r).mono ?_; rintro r w7 ⟨rfl, R7, O7⟩; have S7 := S6.call R7 O7.grown; have v4 := S7.o.opAt.c4; have f4 := S7.o.frozen 4; rw [hq] at v4 f4))
  have S8 : St w (w7.setCell ⟨q, 4, none⟩ (.int .i64 k)) b z (mko (x, y) t k (0, 0) np) a V.length c V L4 e4 := S7.upd (by rw [hq]; exact only1 _ _ _ _) (by have := S7.o.set 4 (.int .i64 k); rw [hq] at this ⊢; exact this)
  generalize w7.setCell ⟨q, 4, none⟩ (.int .i64 k) = w8 at S8 ⊢
  clear S6 S7 R7 O7 c4 v4 f4
  have v4 := S8.o.opAt.c4
  rw [hq] at v4
  go_upto_region 7 with (first
    | (go_at_call 51; refine (cP _).mono ?_; rintro r w9 ⟨rfl, F9⟩; have S9 := S8.call (S8.r.below F9.below) (below_grownS F9.below)))
  have S10 : St w (w9.alloc (.cells #[.bool true, .bool false, .bool false] 69)) b z (mko (x, y) t k (0, 0) np) a V.length c V L4 e4 := S9.call (S9.r.below ((Below.refl _ _).alloc (Nat.le_refl _) _)) (below_grownS ((Below.refl _ _).alloc (Nat.le_refl _) _))
  have hbp : b ≠ w9.heap.size := by have h1 := S9.hb; have h2 := S9.g.size; omega
  have hqp : q ≠ w9.heap.size := by have h1 := S9.o.lt; omega
  obtain ⟨m0, m1, m2⟩ := pcells (wi := w9) (World.grownBy.refl (w9.alloc (.cells #[.bool true, .bool false, .bool false] 69)) (some b)) hbp
  generalize w9.alloc (.cells #[.bool true, .bool false, .bool false] 69) = w10 at S10 m0 m1 m2 ⊢
  generalize w9.heap.size = qp at hbp hqp m0 m1 m2 ⊢
  clear S8 S9 F9 cP v4
  go_upto_region 10 with (first
    | (go_at_call 48; refine (c6 _ S10.r S10.zlt).mono ?_; rintro r w12 ⟨rfl, R12, G12⟩; have S12 := S10.call R12 G12; have v5 := S12.o.opAt.c5; have v6 := S12.o.opAt.c6; have f5 := S12.o.frozen 5; have f6 := S12.o.frozen 6; rw [hq] at v5 v6 f5 f6; have q0 := (G12.cell_far ⟨qp, 0, none⟩ (cell_in m0) (by simpa using Ne.symm hbp)).trans m0; have q1 := (G12.cell_far ⟨qp, 1, none⟩ (cell_in m1) (by simpa using Ne.symm hbp)).trans m1; have q2' := (G12.cell_far ⟨qp, 2, none⟩ (cell_in m2) (by simpa using Ne.symm hbp)).trans m2))
  have S13 : St w ((w12.setCell ⟨q, 5, none⟩ (.int .i64 gx)).setCell ⟨q, 6, none⟩ (.int .i64 gy)) b z (mko (x, y) t k (gx, gy) np) a V.length c V L6 e6 := S12.upd (by rw [hq]; exact only2 _ _ _ _ _ _) (by have := (S12.o.set 5 (.int .i64 gx)).set 6 (.int .i64 gy); rw [hq] at this ⊢; exact this)
  have t0 := ((only2 w12 q 5 6 (.int .i64 gx) (.int .i64 gy)).cell (p := ⟨qp, 0, none⟩) (Ne.symm hqp)).trans q0
  have t1 := ((only2 w12 q 5 6 (.int .i64 gx) (.int .i64 gy)).cell (p := ⟨qp, 1, none⟩) (Ne.symm hqp)).trans q1
  have t2 := ((only2 w12 q 5 6 (.int .i64 gx) (.int .i64 gy)).cell (p := ⟨qp, 2, none⟩) (Ne.symm hqp)).trans q2'
  generalize (w12.setCell ⟨q, 5, none⟩ (.int .i64 gx)).setCell ⟨q, 6, none⟩ (.int .i64 gy) = w13 at S13 t0 t1 t2 ⊢
  clear v5 v6 f5 f6 m0 m1 m2 q0 q1 q2' S10 S12 R12 G12 c6
  go_upto_region 11 with (first
    | (go_at_call 53; refine (c7 _ _ _ _ S13).mono ?_; rintro r w14 ⟨rfl, S14⟩))
  clear S13 t0 t1 t2 c7
  obtain ⟨o, ho⟩ : ∃ o, o = mko (x, y) t k (gx, gy) pp := ⟨_, rfl⟩
  rw [← ho] at c8 S14 hb7 hb8 hb9
  have HO := hid ho
  clear ho
  have c9 := c8 w14 a c hV6 S14.p
  clear c8
  have a0 := S14.o.opAt.c0
  have a1 := S14.o.opAt.c1
  have a2 := S14.o.opAt.c2
  have a3 := S14.o.opAt.c3
  have a4 := S14.o.opAt.c4
  have a5 := S14.o.opAt.c5
  have a6 := S14.o.opAt.c6
  have a7 := S14.o.opAt.c7
  have a8 := S14.o.opAt.c8
  have a9 := S14.o.opAt.c9
  have a10 := S14.o.opAt.c10
  have a11 := S14.o.opAt.c11
  have a12 := S14.o.opAt.c12
  have a13 := S14.o.opAt.c13
  rw [hq] at a0 a1 a2 a3 a4 a5 a6 a7 a8 a9 a10 a11 a12 a13
  cases hr : chk o V with
  | false =>
    rw [hr] at c9
    have hb := hid (hb9.out hr)
    have hne := flr_ne 30 (by decide) (L7, e7)
    have cF := fun W (hW : Rdr W b z L7 e7) => rflr_any hW 30 (by decide)
    generalize flr 30 (L7, e7) = s at hb hne cF
    obtain ⟨L8, e8⟩ := s
    simp only at hne cF
    have hne' : (e8 != 0) = true := by simpa using hne
    clear hb7 hb8 hb9 hr
    go_upto_region 14 with (first
      | (go_at_call 10; refine c9.mono ?_; rintro r w15 ⟨rfl, F15⟩; have S15 := S14.call (S14.r.below F15.below) (below_grownS F15.below))
      | (go_at_call 52; refine (cF _ S15.r).mono ?_; rintro r w16 ⟨rfl, R16, O16⟩; have S16 := S15.call R16 O16.grown)
      | (go_at_call 23; refine (rerr_any S16.r).mono ?_; rintro r w17 ⟨rfl, rfl⟩))
    have z0 := S16.k.opAt.c0
    have y0 := S16.k.frozen 0
    have z1 := S16.k.opAt.c1
    have y1 := S16.k.frozen 1
    have z2 := S16.k.opAt.c2
    have y2 := S16.k.frozen 2
    have z3 := S16.k.opAt.c3
    have y3 := S16.k.frozen 3
    have z4 := S16.k.opAt.c4
    have y4 := S16.k.frozen 4
    have z5 := S16.k.opAt.c5
    have y5 := S16.k.frozen 5
    have z6 := S16.k.opAt.c6
    have y6 := S16.k.frozen 6
    have z7 := S16.k.opAt.c7
    have y7 := S16.k.frozen 7
    have z8 := S16.k.opAt.c8
    have y8 := S16.k.frozen 8
    have z9 := S16.k.opAt.c9
    have y9 := S16.k.frozen 9
    have z10 := S16.k.opAt.c10
    have y10 := S16.k.frozen 10
    have z11 := S16.k.opAt.c11
    have y11 := S16.k.frozen 11
    have z12 := S16.k.opAt.c12
    have y12 := S16.k.frozen 12
    have z13 := S16.k.opAt.c13
    have y13 := S16.k.frozen 13
    rw [hq2] at z0 y0 z1 y1 z2 y2 z3 y3 z4 y4 z5 y5 z6 y6 z7 y7 z8 y8 z9 y9 z10 y10 z11 y11 z12 y12 z13 y13
    go_wp2_with fail
    have B : Blk (put14 w16 q2 zer (.slice none 0 0)) q2 (zer.cells (.slice none 0 0)) := put14_blk (by have := S16.k; rw [hq2] at this; exact this)
    have hO : Only w.heap.size w16 (put14 w16 q2 zer (.slice none 0 0)) := by rw [hq2]; exact put14_only _ _ _ _
    change bodyPost _ _ _ _ _ (put14 w16 q2 zer (.slice none 0 0))
    generalize put14 w16 q2 zer (.slice none 0 0) = W at B hO ⊢
    obtain ⟨u1, u2, u3, u4⟩ := S16.out hO (PS.none _) (fun ad ha => by cases ha)
    have t0 := B.opAt.c0
    have t1 := B.opAt.c1
    have t2 := B.opAt.c2
    have t3 := B.opAt.c3
    have t4 := B.opAt.c4
    have t5 := B.opAt.c5
    have t6 := B.opAt.c6
    have t7 := B.opAt.c7
    have t8 := B.opAt.c8
    have t9 := B.opAt.c9
    have t10 := B.opAt.c10
    have t11 := B.opAt.c11
    have t12 := B.opAt.c12
    have t13 := B.opAt.c13
    clear B hO z0 y0 z1 y1 z2 y2 z3 y3 z4 y4 z5 y5 z6 y6 z7 y7 z8 y8 z9 y9 z10 y10 z11 y11 z12 y12 z13 y13 a0 a1 a2 a3 a4 a5 a6 a7 a8 a9 a10 a11 a12 a13
    have heq : ofin (mko (x, y) t k (gx, gy) pp) V (L7, e7) = ((zer, []), (L8, e8)) := by rw [← HO.out]; exact hb.out
    refine bodyPost_ret (v := ov zer (.slice none 0 0)) (by simp [results, Try.results19, go_sem, OpIn.cells, t0, t1, t2, t3, t4, t5, t6, t7, t8, t9, t10, t11, t12, t13]) rfl ?_
    rw [heq]
    exact ⟨none, 0, rfl, u1, u2, u3, u4⟩
  | true =>
    rw [hr] at c9
    clear hb9
    by_cases he : e7 = 0
    · subst he
      have hb := hid (hb7.out hr)
      clear hb7 hb8 hr
      go_upto_region 15 with (first
        | (go_at_call 10; refine c9.mono ?_; rintro r w15 ⟨rfl, F15⟩; have S15 := S14.call (S14.r.below F15.below) (below_grownS F15.below))
        | (go_at_call 23; refine (rerr_any S15.r).mono ?_; rintro r w17 ⟨rfl, rfl⟩))
      have g0 := S15.o.opAt.c0
      have g1 := S15.o.opAt.c1
      have g2 := S15.o.opAt.c2
      have g3 := S15.o.opAt.c3
      have g4 := S15.o.opAt.c4
      have g5 := S15.o.opAt.c5
      have g6 := S15.o.opAt.c6
      have g7 := S15.o.opAt.c7
      have g8 := S15.o.opAt.c8
      have g9 := S15.o.opAt.c9
      have g10 := S15.o.opAt.c10
      have g11 := S15.o.opAt.c11
      have g12 := S15.o.opAt.c12
      have g13 := S15.o.opAt.c13
      rw [hq] at g0 g1 g2 g3 g4 g5 g6 g7 g8 g9 g10 g11 g12 g13
      have z0 := S15.k.opAt.c0
      have y0 := S15.k.frozen 0
      have z1 := S15.k.opAt.c1
      have y1 := S15.k.frozen 1
      have z2 := S15.k.opAt.c2
      have y2 := S15.k.frozen 2
      have z3 := S15.k.opAt.c3
      have y3 := S15.k.frozen 3
      have z4 := S15.k.opAt.c4
      have y4 := S15.k.frozen 4
      have z5 := S15.k.opAt.c5
      have y5 := S15.k.frozen 5
      have z6 := S15.k.opAt.c6
      have y6 := S15.k.frozen 6
      have z7 := S15.k.opAt.c7
      have y7 := S15.k.frozen 7
      have z8 := S15.k.opAt.c8
      have y8 := S15.k.frozen 8
      have z9 := S15.k.opAt.c9
      have y9 := S15.k.frozen 9
      have z10 := S15.k.opAt.c10
      have y10 := S15.k.frozen 10
      have z11 := S15.k.opAt.c11
      have y11 := S15.k.frozen 11
      have z12 := S15.k.opAt.c12
      have y12 := S15.k.frozen 12
      have z13 := S15.k.opAt.c13
      have y13 := S15.k.frozen 13
      rw [hq2] at z0 y0 z1 y1 z2 y2 z3 y3 z4 y4 z5 y5 z6 y6 z7 y7 z8 y8 z9 y9 z10 y10 z11 y11 z12 y12 z13 y13
      go_wp2_with fail
      have B : Blk (put14 w15 q2 o (.slice a V.length c)) q2 (o.cells (.slice a V.length c)) := put14_blk (by have := S15.k; rw [hq2] at this; exact this)
      have hO : Only w.heap.size w15 (put14 w15 q2 o (.slice a V.length c)) := by rw [hq2]; exact put14_only _ _ _ _
      change bodyPost _ _ _ _ _ (put14 w15 q2 o (.slice a V.length c))
      generalize put14 w15 q2 o (.slice a V.length c) = W at B hO ⊢
      obtain ⟨u1, u2, u3, u4⟩ := S15.out hO S15.p (fun ad ha => by have := S15.new ad ha; omega)
      have t0 := B.opAt.c0
      have t1 := B.opAt.c1
      have t2 := B.opAt.c2
      have t3 := B.opAt.c3
      have t4 := B.opAt.c4
      have t5 := B.opAt.c5
      have t6 := B.opAt.c6
      have t7 := B.opAt.c7
      have t8 := B.opAt.c8
      have t9 := B.opAt.c9
      have t10 := B.opAt.c10
      have t11 := B.opAt.c11
      have t12 := B.opAt.c12
      have t13 := B.opAt.c13
      clear B hO z0 y0 z1 y1 z2 y2 z3 y3 z4 y4 z5 y5 z6 y6 z7 y7 z8 y8 z9 y9 z10 y10 z11 y11 z12 y12 z13 y13 a0 a1 a2 a3 a4 a5 a6 a7 a8 a9 a10 a11 a12 a13
      have heq : ofin (mko (x, y) t k (gx, gy) pp) V (L7, 0) = ((o, V), (L7, 0)) := by rw [← HO.out]; exact hb.out
      refine bodyPost_ret (v := ov o (.slice a V.length c)) (by simp [results, Try.results19, go_sem, OpIn.cells, t0, t1, t2, t3, t4, t5, t6, t7, t8, t9, t10, t11, t12, t13]) rfl ?_
      rw [heq]
      exact ⟨a, c, rfl, u1, u2, u3, u4⟩
    · have hb := hid (hb8.out he)
      have hne' : (e7 != 0) = true := by simpa using he
      clear hb7 hb8 hr
      go_upto_region 14 with (first
        | (go_at_call 10; refine c9.mono ?_; rintro r w15 ⟨rfl, F15⟩; have S15 := S14.call (S14.r.below F15.below) (below_grownS F15.below))
        | (go_at_call 23; refine (rerr_any S15.r).mono ?_; rintro r w17 ⟨rfl, rfl⟩))
      have z0 := S15.k.opAt.c0
      have y0 := S15.k.frozen 0
      have z1 := S15.k.opAt.c1
      have y1 := S15.k.frozen 1
      have z2 := S15.k.opAt.c2
      have y2 := S15.k.frozen 2
      have z3 := S15.k.opAt.c3
      have y3 := S15.k.frozen 3
      have z4 := S15.k.opAt.c4
      have y4 := S15.k.frozen 4
      have z5 := S15.k.opAt.c5
      have y5 := S15.k.frozen 5
      have z6 := S15.k.opAt.c6
      have y6 := S15.k.frozen 6
      have z7 := S15.k.opAt.c7
      have y7 := S15.k.frozen 7
      have z8 := S15.k.opAt.c8
      have y8 := S15.k.frozen 8
      have z9 := S15.k.opAt.c9
      have y9 := S15.k.frozen 9
      have z10 := S15.k.opAt.c10
      have y10 := S15.k.frozen 10
      have z11 := S15.k.opAt.c11
      have y11 := S15.k.frozen 11
      have z12 := S15.k.opAt.c12
      have y12 := S15.k.frozen 12
      have z13 := S15.k.opAt.c13
      have y13 := S15.k.frozen 13
      rw [hq2] at z0 y0 z1 y1 z2 y2 z3 y3 z4 y4 z5 y5 z6 y6 z7 y7 z8 y8 z9 y9 z10 y10 z11 y11 z12 y12 z13 y13
      go_wp2_with fail
      have B : Blk (put14 w15 q2 zer (.slice none 0 0)) q2 (zer.cells (.slice none 0 0)) := put14_blk (by have := S15.k; rw [hq2] at this; exact this)
      have hO : Only w.heap.size w15 (put14 w15 q2 zer (.slice none 0 0)) := by rw [hq2]; exact put14_only _ _ _ _
      change bodyPost _ _ _ _ _ (put14 w15 q2 zer (.slice none 0 0))
      generalize put14 w15 q2 zer (.slice none 0 0) = W at B hO ⊢
      obtain ⟨u1, u2, u3, u4⟩ := S15.out hO (PS.none _) (fun ad ha => by cases ha)
      have t0 := B.opAt.c0
      have t1 := B.opAt.c1
      have t2 := B.opAt.c2
      have t3 := B.opAt.c3
      have t4 := B.opAt.c4
      have t5 := B.opAt.c5
      have t6 := B.opAt.c6
      have t7 := B.opAt.c7
      have t8 := B.opAt.c8
      have t9 := B.opAt.c9
      have t10 := B.opAt.c10
      have t11 := B.opAt.c11
      have t12 := B.opAt.c12
      have t13 := B.opAt.c13
      clear B hO z0 y0 z1 y1 z2 y2 z3 y3 z4 y4 z5 y5 z6 y6 z7 y7 z8 y8 z9 y9 z10 y10 z11 y11 z12 y12 z13 y13 a0 a1 a2 a3 a4 a5 a6 a7 a8 a9 a10 a11 a12 a13
      have heq : ofin (mko (x, y) t k (gx, gy) pp) V (L7, e7) = ((zer, []), (L7, e7)) := by rw [← HO.out]; exact hb.out
      refine bodyPost_ret (v := ov zer (.slice none 0 0)) (by simp [results, Try.results19, go_sem, OpIn.cells, t0, t1, t2, t3, t4, t5, t6, t7, t8, t9, t10, t11, t12, t13]) rfl ?_
      rw [heq]
      exact ⟨none, 0, rfl, u1, u2, u3, u4⟩

set_option maxRecDepth 100000 in
set_option maxHeartbeats 8000000 in
theorem take7_mov (w : World) (b z : Nat) (L : List Int) (e : Int) (h : Rdr w b z L e) (hz : z < w.heap.size) (hl : L.length ≤ 1000000) (k0 : Int) (hk0 : (hd7 L e).1.2.2.2 = k0) (hk : k0 = 3) :
    Calls Try.prog 19 #[.pointer (some ⟨b, 0, none⟩)] w (Takes7 w b z (otk L e)) := by
  have S0 := st_start h hz
  have hl1 := tk_le L e
  have c1 := fun W (hW : Rdr W b z L e) hz => take_any W b z L e hW hz
  unfold hd7 at hk0
  unfold otk hd7
  generalize tk L e = s at c1 hl1 hk0 ⊢
  obtain ⟨⟨x, y⟩, L1, e1⟩ := s
  simp only at c1 hl1 hk0 ⊢
  have hl2 := dec_le L1 e1
  have c2 := fun W (hW : Rdr W b z L1 e1) => rint_any W b z L1 e1 hW
  generalize dec L1 e1 = s at c2 hl2 hk0 ⊢
  obtain ⟨i2, L2, e2⟩ := s
  simp only at c2 hl2 hk0 ⊢
  have hl3 := cnt_le L2 e2 2
  have hl3' := vtk_le L2 e2
  have hB2 := fun W (hW : Rdr W b z L2 e2) => vtk_len L2 e2 hW.bts.1
  have c3 := fun W (hW : Rdr W b z L2 e2) hz => vtake_any W b z L2 e2 hW hz (by omega)
  generalize vtk L2 e2 = s at c3 hB2 hl3' hk0 ⊢
  obtain ⟨V, L3, e3⟩ := s
  unfold TakesV at c3
  simp only at c3 hB2 hl3' hk0 ⊢
  have hl4 := dec_le L3 e3
  have c4 := fun W (hW : Rdr W b z L3 e3) => rint_any W b z L3 e3 hW
  generalize dec L3 e3 = s at c4 hl4 hk0 ⊢
  obtain ⟨i4, L4, e4⟩ := s
  simp only at c4 hl4 hk0 ⊢
  generalize dint i2 = t at c2 ⊢
  generalize hk4 : dint i4 = k at c4 hk0 ⊢
  clear hl3 hk4
  subst hk0
  have p1 : pat k = false := by simp [pat, hk]
  have p2 : pch k = false := by simp [pch, hk]
  have p3 : ppl k = true := by simp [ppl, hk]
  rw [kfl_yes (by simp [hk])]
  have hl6 := tk_le L4 e4
  have c6 := fun W (hW : Rdr W b z L4 e4) hz => take_any W b z L4 e4 hW hz
  unfold tl7
  simp only
  generalize tk L4 e4 = s at c6 hl6 ⊢
  obtain ⟨⟨gx, gy⟩, L6, e6⟩ := s
  simp only at c6 hl6 ⊢
  have hl7 := prt_key k L6 e6
  have c7 := fun W a n c (h : St w W b z (mko (x, y) t k (gx, gy) np) a n c V L6 e6) => takeParts_any h
  generalize prt k L6 e6 = s at c7 hl7 ⊢
  obtain ⟨pp, L7, e7⟩ := s
  simp only at c7 hl7 ⊢
  have hkey : (mko (x, y) t k (gx, gy) pp).key.size ≤ maxLen := by show pp.2.2.2.2.size ≤ maxLen; unfold maxLen; omega
  have c8 := fun W a c (hV : V.length ≤ 1000000) (hP : PS W a V.length c V) => check_any (mko (x, y) t k (gx, gy) pp) a V.length c V W hP hV hkey
  have hb7 := hid (fun h => ofin_ok (o := mko (x, y) t k (gx, gy) pp) (V := V) h L7)
  have hb8 := hid (fun (h : e7 ≠ 0) => ofin_err (mko (x, y) t k (gx, gy) pp) V L7 h)
  have hb9 := hid (fun h => ofin_no (o := mko (x, y) t k (gx, gy) pp) (V := V) h (L7, e7))
  have cP := fun W => partsOf_any k W
  unfold pv at cP c7
  rw [p1, p2, p3] at cP
  simp only [p1, p2, p3] at c7
  have hVl : Hid (∀ (W : World), Rdr W b z L2 e2 → V.length ≤ 1000000) := hid fun W hW => by have := hB2 W hW; omega
  clear hkey hl6 hl7 hl hl1 hl2 hl3' hl4 hB2 p1 p2 p3 hk
  go_enter Try.func19, Try.ntmps19
  go_upto_region 2 with fail
  generalize (w.alloc (.cells #[.int .i64 0, .int .i64 0, .int .i64 0, .slice none 0 0, .int .i64 0, .int .i64 0, .int .i64 0, .int .i64 0, .int .i64 0, .int .i64 0, .int .i64 0, .int .i64 0, .int .i64 0, .string { data := #[] }] 27)).alloc (.cells #[.int .i64 0, .int .i64 0, .int .i64 0, .slice none 0 0, .int .i64 0, .int .i64 0, .int .i64 0, .int .i64 0, .int .i64 0, .int .i64 0, .int .i64 0, .int .i64 0, .int .i64 0, .string { data := #[] }] 27) = w0 at S0 ⊢
  generalize hq : w.heap.size + 1 = q at c7 ⊢
  generalize hq2 : w.heap.size = q2
  clear h
  go_upto_region 3 with (first
    | (go_at_call 48; refine (c1 _ S0.r S0.zlt).mono ?_; rintro r w1 ⟨rfl, R1, G1⟩; have S1 := S0.call R1 G1; have v0 := S1.o.opAt.c0; have v1 := S1.o.opAt.c1; have f0 := S1.o.frozen 0; have f1 := S1.o.frozen 1; rw [hq] at v0 v1 f0 f1))
  have S2 : St w ((w1.setCell ⟨q, 0, none⟩ (.int .i64 x)).setCell ⟨q, 1, none⟩ (.int .i64 y)) b z (mko (x, y) 0 0 (0, 0) np) none 0 0 [] L1 e1 := S1.upd (by rw [hq]; exact only2 _ _ _ _ _ _) (by have := (S1.o.set 0 (.int .i64 x)).set 1 (.int .i64 y); rw [hq] at this ⊢; exact this)
  generalize (w1.setCell ⟨q, 0, none⟩ (.int .i64 x)).setCell ⟨q, 1, none⟩ (.int .i64 y) = w2 at S2 ⊢
  clear S0 S1 R1 G1 c1 v0 v1 f0 f1
  go_upto_region 4 with (first
    | (go_at_call 49; refine (c2 _ S2.r).mono ?_; rintro r w3 ⟨rfl, R3, O3⟩; have S3 := S2.call R3 O3.grown; have v2 := S3.o.opAt.c2; have f2 := S3.o.frozen 2; rw [hq] at v2 f2))
  have S4 : St w (w3.setCell ⟨q, 2, none⟩ (.int .i64 t)) b z (mko (x, y) t 0 (0, 0) np) none 0 0 [] L2 e2 := S3.upd (by rw [hq]; exact only1 _ _ _ _) (by have := S3.o.set 2 (.int .i64 t); rw [hq] at this ⊢; exact this)
  generalize w3.setCell ⟨q, 2, none⟩ (.int .i64 t) = w4 at S4 ⊢
  have hV6 := hVl.out w4 S4.r
  clear S2 S3 R3 O3 c2 v2 f2 hVl
  go_upto_region 5 with (first
    | (go_at_call 50; refine (c3 _ S4.r S4.zlt).mono ?_; rintro r w5 ⟨a, c, rfl, P5, R5, G5, N5⟩; have S5 := S4.call R5 G5; have v3 := S5.o.opAt.c3; have f3 := S5.o.frozen 3; rw [hq] at v3 f3))
  have S6 : St w (w5.setCell ⟨q, 3, none⟩ (.slice a V.length c)) b z (mko (x, y) t 0 (0, 0) np) a V.length c V L3 e3 := S5.dep (by rw [hq]; exact only1 _ _ _ _) (by have := S5.o.set 3 (.slice a V.length c); rw [hq] at this ⊢; exact this) P5 (fun ad ha => by have h1 := N5 ad ha; have h2 := S4.o.lt; omega)
  generalize w5.setCell ⟨q, 3, none⟩ (.slice a V.length c) = w6 at S6 ⊢
  clear S4 S5 R5 G5 c3 v3 f3 P5 N5
  go_upto_region 6 with (first
    | (go_at_call 49; refine (c4 _ S6.r).mono ?_; rintro r w7 ⟨rfl, R7, O7⟩; have S7 := S6.call R7 O7.grown; have v4 := S7.o.opAt.c4; have f4 := S7.o.frozen 4; rw [hq] at v4 f4))
  have S8 : St w (w7.setCell ⟨q, 4, none⟩ (.int .i64 k)) b z (mko (x, y) t k (0, 0) np) a V.length c V L4 e4 := S7.upd (by rw [hq]; exact only1 _ _ _ _) (by have := S7.o.set 4 (.int .i64 k); rw [hq] at this ⊢; exact this)
  generalize w7.setCell ⟨q, 4, none⟩ (.int .i64 k) = w8 at S8 ⊢
  clear S6 S7 R7 O7 c4 v4 f4
  have v4 := S8.o.opAt.c4
  rw [hq] at v4
  go_upto_region 7 with (first
    | (go_at_call 51; refine (cP _).mono ?_; rintro r w9 ⟨rfl, F9⟩; have S9 := S8.call (S8.r.below F9.below) (below_grownS F9.below)))
  have S10 : St w (w9.alloc (.cells #[.bool false, .bool false, .bool true] 69)) b z (mko (x, y) t k (0, 0) np) a V.length c V L4 e4 := S9.call (S9.r.below ((Below.refl _ _).alloc (Nat.le_refl _) _)) (below_grownS ((Below.refl _ _).alloc (Nat.le_refl _) _))
  have hbp : b ≠ w9.heap.size := by have h1 := S9.hb; have h2 := S9.g.size; omega
  have hqp : q ≠ w9.heap.size := by have h1 := S9.o.lt; omega
  obtain ⟨m0, m1, m2⟩ := pcells (wi := w9) (World.grownBy.refl (w9.alloc (.cells #[.bool false, .bool false, .bool true] 69)) (some b)) hbp
  generalize w9.alloc (.cells #[.bool false, .bool false, .bool true] 69) = w10 at S10 m0 m1 m2 ⊢
  generalize w9.heap.size = qp at hbp hqp m0 m1 m2 ⊢
  clear S8 S9 F9 cP v4
  go_upto_region 10 with (first
    | (go_at_call 48; refine (c6 _ S10.r S10.zlt).mono ?_; rintro r w12 ⟨rfl, R12, G12⟩; have S12 := S10.call R12 G12; have v5 := S12.o.opAt.c5; have v6 := S12.o.opAt.c6; have f5 := S12.o.frozen 5; have f6 := S12.o.frozen 6; rw [hq] at v5 v6 f5 f6; have q0 := (G12.cell_far ⟨qp, 0, none⟩ (cell_in m0) (by simpa using Ne.symm hbp)).trans m0; have q1 := (G12.cell_far ⟨qp, 1, none⟩ (cell_in m1) (by simpa using Ne.symm hbp)).trans m1; have q2' := (G12.cell_far ⟨qp, 2, none⟩ (cell_in m2) (by simpa using Ne.symm hbp)).trans m2))
  have S13 : St w ((w12.setCell ⟨q, 5, none⟩ (.int .i64 gx)).setCell ⟨q, 6, none⟩ (.int .i64 gy)) b z (mko (x, y) t k (gx, gy) np) a V.length c V L6 e6 := S12.upd (by rw [hq]; exact only2 _ _ _ _ _ _) (by have := (S12.o.set 5 (.int .i64 gx)).set 6 (.int .i64 gy); rw [hq] at this ⊢; exact this)
  have t0 := ((only2 w12 q 5 6 (.int .i64 gx) (.int .i64 gy)).cell (p := ⟨qp, 0, none⟩) (Ne.symm hqp)).trans q0
  have t1 := ((only2 w12 q 5 6 (.int .i64 gx) (.int .i64 gy)).cell (p := ⟨qp, 1, none⟩) (Ne.symm hqp)).trans q1
  have t2 := ((only2 w12 q 5 6 (.int .i64 gx) (.int .i64 gy)).cell (p := ⟨qp, 2, none⟩) (Ne.symm hqp)).trans q2'
  generalize (w12.setCell ⟨q, 5, none⟩ (.int .i64 gx)).setCell ⟨q, 6, none⟩ (.int .i64 gy) = w13 at S13 t0 t1 t2 ⊢
  clear v5 v6 f5 f6 m0 m1 m2 q0 q1 q2' S10 S12 R12 G12 c6
  go_upto_region 11 with (first
    | (go_at_call 53; refine (c7 _ _ _ _ S13).mono ?_; rintro r w14 ⟨rfl, S14⟩))
  clear S13 t0 t1 t2 c7
  obtain ⟨o, ho⟩ : ∃ o, o = mko (x, y) t k (gx, gy) pp := ⟨_, rfl⟩
  rw [← ho] at c8 S14 hb7 hb8 hb9
  have HO := hid ho
  clear ho
  have c9 := c8 w14 a c hV6 S14.p
  clear c8
  have a0 := S14.o.opAt.c0
  have a1 := S14.o.opAt.c1
  have a2 := S14.o.opAt.c2
  have a3 := S14.o.opAt.c3
  have a4 := S14.o.opAt.c4
  have a5 := S14.o.opAt.c5
  have a6 := S14.o.opAt.c6
  have a7 := S14.o.opAt.c7
  have a8 := S14.o.opAt.c8
  have a9 := S14.o.opAt.c9
  have a10 := S14.o.opAt.c10
  have a11 := S14.o.opAt.c11
  have a12 := S14.o.opAt.c12
  have a13 := S14.o.opAt.c13
  rw [hq] at a0 a1 a2 a3 a4 a5 a6 a7 a8 a9 a10 a11 a12 a13
  cases hr : chk o V with
  | false =>
    rw [hr] at c9
    have hb := hid (hb9.out hr)
    have hne := flr_ne 30 (by decide) (L7, e7)
    have cF := fun W (hW : Rdr W b z L7 e7) => rflr_any hW 30 (by decide)
    generalize flr 30 (L7, e7) = s at hb hne cF
    obtain ⟨L8, e8⟩ := s
    simp only at hne cF
    have hne' : (e8 != 0) = true := by simpa using hne
    clear hb7 hb8 hb9 hr
    go_upto_region 14 with (first
      | (go_at_call 10; refine c9.mono ?_; rintro r w15 ⟨rfl, F15⟩; have S15 := S14.call (S14.r.below F15.below) (below_grownS F15.below))
      | (go_at_call 52; refine (cF _ S15.r).mono ?_; rintro r w16 ⟨rfl, R16, O16⟩; have S16 := S15.call R16 O16.grown)
      | (go_at_call 23; refine (rerr_any S16.r).mono ?_; rintro r w17 ⟨rfl, rfl⟩))
    have z0 := S16.k.opAt.c0
    have y0 := S16.k.frozen 0
    have z1 := S16.k.opAt.c1
    have y1 := S16.k.frozen 1
    have z2 := S16.k.opAt.c2
    have y2 := S16.k.frozen 2
    have z3 := S16.k.opAt.c3
    have y3 := S16.k.frozen 3
    have z4 := S16.k.opAt.c4
    have y4 := S16.k.frozen 4
    have z5 := S16.k.opAt.c5
    have y5 := S16.k.frozen 5
    have z6 := S16.k.opAt.c6
    have y6 := S16.k.frozen 6
    have z7 := S16.k.opAt.c7
    have y7 := S16.k.frozen 7
    have z8 := S16.k.opAt.c8
    have y8 := S16.k.frozen 8
    have z9 := S16.k.opAt.c9
    have y9 := S16.k.frozen 9
    have z10 := S16.k.opAt.c10
    have y10 := S16.k.frozen 10
    have z11 := S16.k.opAt.c11
    have y11 := S16.k.frozen 11
    have z12 := S16.k.opAt.c12
    have y12 := S16.k.frozen 12
    have z13 := S16.k.opAt.c13
    have y13 := S16.k.frozen 13
    rw [hq2] at z0 y0 z1 y1 z2 y2 z3 y3 z4 y4 z5 y5 z6 y6 z7 y7 z8 y8 z9 y9 z10 y10 z11 y11 z12 y12 z13 y13
    go_wp2_with fail
    have B : Blk (put14 w16 q2 zer (.slice none 0 0)) q2 (zer.cells (.slice none 0 0)) := put14_blk (by have := S16.k; rw [hq2] at this; exact this)
    have hO : Only w.heap.size w16 (put14 w16 q2 zer (.slice none 0 0)) := by rw [hq2]; exact put14_only _ _ _ _
    change bodyPost _ _ _ _ _ (put14 w16 q2 zer (.slice none 0 0))
    generalize put14 w16 q2 zer (.slice none 0 0) = W at B hO ⊢
    obtain ⟨u1, u2, u3, u4⟩ := S16.out hO (PS.none _) (fun ad ha => by cases ha)
    have t0 := B.opAt.c0
    have t1 := B.opAt.c1
    have t2 := B.opAt.c2
    have t3 := B.opAt.c3
    have t4 := B.opAt.c4
    have t5 := B.opAt.c5
    have t6 := B.opAt.c6
    have t7 := B.opAt.c7
    have t8 := B.opAt.c8
    have t9 := B.opAt.c9
    have t10 := B.opAt.c10
    have t11 := B.opAt.c11
    have t12 := B.opAt.c12
    have t13 := B.opAt.c13
    clear B hO z0 y0 z1 y1 z2 y2 z3 y3 z4 y4 z5 y5 z6 y6 z7 y7 z8 y8 z9 y9 z10 y10 z11 y11 z12 y12 z13 y13 a0 a1 a2 a3 a4 a5 a6 a7 a8 a9 a10 a11 a12 a13
    have heq : ofin (mko (x, y) t k (gx, gy) pp) V (L7, e7) = ((zer, []), (L8, e8)) := by rw [← HO.out]; exact hb.out
    refine bodyPost_ret (v := ov zer (.slice none 0 0)) (by simp [results, Try.results19, go_sem, OpIn.cells, t0, t1, t2, t3, t4, t5, t6, t7, t8, t9, t10, t11, t12, t13]) rfl ?_
    rw [heq]
    exact ⟨none, 0, rfl, u1, u2, u3, u4⟩
  | true =>
    rw [hr] at c9
    clear hb9
    by_cases he : e7 = 0
    · subst he
      have hb := hid (hb7.out hr)
      clear hb7 hb8 hr
      go_upto_region 15 with (first
        | (go_at_call 10; refine c9.mono ?_; rintro r w15 ⟨rfl, F15⟩; have S15 := S14.call (S14.r.below F15.below) (below_grownS F15.below))
        | (go_at_call 23; refine (rerr_any S15.r).mono ?_; rintro r w17 ⟨rfl, rfl⟩))
      have g0 := S15.o.opAt.c0
      have g1 := S15.o.opAt.c1
      have g2 := S15.o.opAt.c2
      have g3 := S15.o.opAt.c3
      have g4 := S15.o.opAt.c4
      have g5 := S15.o.opAt.c5
      have g6 := S15.o.opAt.c6
      have g7 := S15.o.opAt.c7
      have g8 := S15.o.opAt.c8
      have g9 := S15.o.opAt.c9
      have g10 := S15.o.opAt.c10
      have g11 := S15.o.opAt.c11
      have g12 := S15.o.opAt.c12
      have g13 := S15.o.opAt.c13
      rw [hq] at g0 g1 g2 g3 g4 g5 g6 g7 g8 g9 g10 g11 g12 g13
      have z0 := S15.k.opAt.c0
      have y0 := S15.k.frozen 0
      have z1 := S15.k.opAt.c1
      have y1 := S15.k.frozen 1
      have z2 := S15.k.opAt.c2
      have y2 := S15.k.frozen 2
      have z3 := S15.k.opAt.c3
      have y3 := S15.k.frozen 3
      have z4 := S15.k.opAt.c4
      have y4 := S15.k.frozen 4
      have z5 := S15.k.opAt.c5
      have y5 := S15.k.frozen 5
      have z6 := S15.k.opAt.c6
      have y6 := S15.k.frozen 6
      have z7 := S15.k.opAt.c7
      have y7 := S15.k.frozen 7
      have z8 := S15.k.opAt.c8
      have y8 := S15.k.frozen 8
      have z9 := S15.k.opAt.c9
      have y9 := S15.k.frozen 9
      have z10 := S15.k.opAt.c10
      have y10 := S15.k.frozen 10
      have z11 := S15.k.opAt.c11
      have y11 := S15.k.frozen 11
      have z12 := S15.k.opAt.c12
      have y12 := S15.k.frozen 12
      have z13 := S15.k.opAt.c13
      have y13 := S15.k.frozen 13
      rw [hq2] at z0 y0 z1 y1 z2 y2 z3 y3 z4 y4 z5 y5 z6 y6 z7 y7 z8 y8 z9 y9 z10 y10 z11 y11 z12 y12 z13 y13
      go_wp2_with fail
      have B : Blk (put14 w15 q2 o (.slice a V.length c)) q2 (o.cells (.slice a V.length c)) := put14_blk (by have := S15.k; rw [hq2] at this; exact this)
      have hO : Only w.heap.size w15 (put14 w15 q2 o (.slice a V.length c)) := by rw [hq2]; exact put14_only _ _ _ _
      change bodyPost _ _ _ _ _ (put14 w15 q2 o (.slice a V.length c))
      generalize put14 w15 q2 o (.slice a V.length c) = W at B hO ⊢
      obtain ⟨u1, u2, u3, u4⟩ := S15.out hO S15.p (fun ad ha => by have := S15.new ad ha; omega)
      have t0 := B.opAt.c0
      have t1 := B.opAt.c1
      have t2 := B.opAt.c2
      have t3 := B.opAt.c3
      have t4 := B.opAt.c4
      have t5 := B.opAt.c5
      have t6 := B.opAt.c6
      have t7 := B.opAt.c7
      have t8 := B.opAt.c8
      have t9 := B.opAt.c9
      have t10 := B.opAt.c10
      have t11 := B.opAt.c11
      have t12 := B.opAt.c12
      have t13 := B.opAt.c13
      clear B hO z0 y0 z1 y1 z2 y2 z3 y3 z4 y4 z5 y5 z6 y6 z7 y7 z8 y8 z9 y9 z10 y10 z11 y11 z12 y12 z13 y13 a0 a1 a2 a3 a4 a5 a6 a7 a8 a9 a10 a11 a12 a13
      have heq : ofin (mko (x, y) t k (gx, gy) pp) V (L7, 0) = ((o, V), (L7, 0)) := by rw [← HO.out]; exact hb.out
      refine bodyPost_ret (v := ov o (.slice a V.length c)) (by simp [results, Try.results19, go_sem, OpIn.cells, t0, t1, t2, t3, t4, t5, t6, t7, t8, t9, t10, t11, t12, t13]) rfl ?_
      rw [heq]
      exact ⟨a, c, rfl, u1, u2, u3, u4⟩
    · have hb := hid (hb8.out he)
      have hne' : (e7 != 0) = true := by simpa using he
      clear hb7 hb8 hr
      go_upto_region 14 with (first
        | (go_at_call 10; refine c9.mono ?_; rintro r w15 ⟨rfl, F15⟩; have S15 := S14.call (S14.r.below F15.below) (below_grownS F15.below))
        | (go_at_call 23; refine (rerr_any S15.r).mono ?_; rintro r w17 ⟨rfl, rfl⟩))
      have z0 := S15.k.opAt.c0
      have y0 := S15.k.frozen 0
      have z1 := S15.k.opAt.c1
      have y1 := S15.k.frozen 1
      have z2 := S15.k.opAt.c2
      have y2 := S15.k.frozen 2
      have z3 := S15.k.opAt.c3
      have y3 := S15.k.frozen 3
      have z4 := S15.k.opAt.c4
      have y4 := S15.k.frozen 4
      have z5 := S15.k.opAt.c5
      have y5 := S15.k.frozen 5
      have z6 := S15.k.opAt.c6
      have y6 := S15.k.frozen 6
      have z7 := S15.k.opAt.c7
      have y7 := S15.k.frozen 7
      have z8 := S15.k.opAt.c8
      have y8 := S15.k.frozen 8
      have z9 := S15.k.opAt.c9
      have y9 := S15.k.frozen 9
      have z10 := S15.k.opAt.c10
      have y10 := S15.k.frozen 10
      have z11 := S15.k.opAt.c11
      have y11 := S15.k.frozen 11
      have z12 := S15.k.opAt.c12
      have y12 := S15.k.frozen 12
      have z13 := S15.k.opAt.c13
      have y13 := S15.k.frozen 13
      rw [hq2] at z0 y0 z1 y1 z2 y2 z3 y3 z4 y4 z5 y5 z6 y6 z7 y7 z8 y8 z9 y9 z10 y10 z11 y11 z12 y12 z13 y13
      go_wp2_with fail
      have B : Blk (put14 w15 q2 zer (.slice none 0 0)) q2 (zer.cells (.slice none 0 0)) := put14_blk (by have := S15.k; rw [hq2] at this; exact this)
      have hO : Only w.heap.size w15 (put14 w15 q2 zer (.slice none 0 0)) := by rw [hq2]; exact put14_only _ _ _ _
      change bodyPost _ _ _ _ _ (put14 w15 q2 zer (.slice none 0 0))
      generalize put14 w15 q2 zer (.slice none 0 0) = W at B hO ⊢
      obtain ⟨u1, u2, u3, u4⟩ := S15.out hO (PS.none _) (fun ad ha => by cases ha)
      have t0 := B.opAt.c0
      have t1 := B.opAt.c1
      have t2 := B.opAt.c2
      have t3 := B.opAt.c3
      have t4 := B.opAt.c4
      have t5 := B.opAt.c5
      have t6 := B.opAt.c6
      have t7 := B.opAt.c7
      have t8 := B.opAt.c8
      have t9 := B.opAt.c9
      have t10 := B.opAt.c10
      have t11 := B.opAt.c11
      have t12 := B.opAt.c12
      have t13 := B.opAt.c13
      clear B hO z0 y0 z1 y1 z2 y2 z3 y3 z4 y4 z5 y5 z6 y6 z7 y7 z8 y8 z9 y9 z10 y10 z11 y11 z12 y12 z13 y13 a0 a1 a2 a3 a4 a5 a6 a7 a8 a9 a10 a11 a12 a13
      have heq : ofin (mko (x, y) t k (gx, gy) pp) V (L7, e7) = ((zer, []), (L7, e7)) := by rw [← HO.out]; exact hb.out
      refine bodyPost_ret (v := ov zer (.slice none 0 0)) (by simp [results, Try.results19, go_sem, OpIn.cells, t0, t1, t2, t3, t4, t5, t6, t7, t8, t9, t10, t11, t12, t13]) rfl ?_
      rw [heq]
      exact ⟨none, 0, rfl, u1, u2, u3, u4⟩

set_option maxRecDepth 100000 in
set_option maxHeartbeats 8000000 in
theorem take7_no (w : World) (b z : Nat) (L : List Int) (e : Int) (h : Rdr w b z L e) (hz : z < w.heap.size) (hl : L.length ≤ 1000000) (k0 : Int) (hk0 : (hd7 L e).1.2.2.2 = k0) (h1 : k0 ≠ 1) (h2 : k0 ≠ 2) (h3 : k0 ≠ 3) :
    Calls Try.prog 19 #[.pointer (some ⟨b, 0, none⟩)] w (Takes7 w b z (otk L e)) := by
  have S0 := st_start h hz
  have hl1 := tk_le L e
  have c1 := fun W (hW : Rdr W b z L e) hz => take_any W b z L e hW hz
  unfold hd7 at hk0
  unfold otk hd7
  generalize tk L e = s at c1 hl1 hk0 ⊢
  obtain ⟨⟨x, y⟩, L1, e1⟩ := s
  simp only at c1 hl1 hk0 ⊢
  have hl2 := dec_le L1 e1
  have c2 := fun W (hW : Rdr W b z L1 e1) => rint_any W b z L1 e1 hW
  generalize dec L1 e1 = s at c2 hl2 hk0 ⊢
  obtain ⟨i2, L2, e2⟩ := s
  simp only at c2 hl2 hk0 ⊢
  have hl3 := cnt_le L2 e2 2
  have hl3' := vtk_le L2 e2
  have hB2 := fun W (hW : Rdr W b z L2 e2) => vtk_len L2 e2 hW.bts.1
  have c3 := fun W (hW : Rdr W b z L2 e2) hz => vtake_any W b z L2 e2 hW hz (by omega)
  generalize vtk L2 e2 = s at c3 hB2 hl3' hk0 ⊢
  obtain ⟨V, L3, e3⟩ := s
  unfold TakesV at c3
  simp only at c3 hB2 hl3' hk0 ⊢
  have hl4 := dec_le L3 e3
  have c4 := fun W (hW : Rdr W b z L3 e3) => rint_any W b z L3 e3 hW
  generalize dec L3 e3 = s at c4 hl4 hk0 ⊢
  obtain ⟨i4, L4, e4⟩ := s
  simp only at c4 hl4 hk0 ⊢
  generalize dint i2 = t at c2 ⊢
  generalize hk4 : dint i4 = k at c4 hk0 ⊢
  clear hl3 hk4
  subst hk0
  have p1 : pat k = false := by simp [pat, h1, h2]
  have p2 : pch k = false := by simp [pch, h1]
  have p3 : ppl k = false := by simp [ppl, h3]
  rw [kfl_no h1 h2 h3]
  have hl5 := flr_le 11 (L4, e4)
  have c5 := fun W (hW : Rdr W b z L4 e4) => rflr_any hW 11 (by decide)
  generalize flr 11 (L4, e4) = s at hl5 c5 ⊢
  obtain ⟨L5, e5⟩ := s
  simp only at hl5 c5 ⊢
  have hl6 := tk_le L5 e5
  have c6 := fun W (hW : Rdr W b z L5 e5) hz => take_any W b z L5 e5 hW hz
  unfold tl7
  simp only
  generalize tk L5 e5 = s at c6 hl6 ⊢
  obtain ⟨⟨gx, gy⟩, L6, e6⟩ := s
  simp only at c6 hl6 ⊢
  have hl7 := prt_key k L6 e6
  have c7 := fun W a n c (h : St w W b z (mko (x, y) t k (gx, gy) np) a n c V L6 e6) => takeParts_any h
  generalize prt k L6 e6 = s at c7 hl7 ⊢
  obtain ⟨pp, L7, e7⟩ := s
  simp only at c7 hl7 ⊢
  have hkey : (mko (x, y) t k (gx, gy) pp).key.size ≤ maxLen := by show pp.2.2.2.2.size ≤ maxLen; unfold maxLen; omega
  have c8 := fun W a c (hV : V.length ≤ 1000000) (hP : PS W a V.length c V) => check_any (mko (x, y) t k (gx, gy) pp) a V.length c V W hP hV hkey
  have hb7 := hid (fun h => ofin_ok (o := mko (x, y) t k (gx, gy) pp) (V := V) h L7)
  have hb8 := hid (fun (h : e7 ≠ 0) => ofin_err (mko (x, y) t k (gx, gy) pp) V L7 h)
  have hb9 := hid (fun h => ofin_no (o := mko (x, y) t k (gx, gy) pp) (V := V) h (L7, e7))
  have cP := fun W => partsOf_any k W
  unfold pv at cP c7
  rw [p1, p2, p3] at cP
  simp only [p1, p2, p3] at c7
  have hVl : Hid (∀ (W : World), Rdr W b z L2 e2 → V.length ≤ 1000000) := hid fun W hW => by have := hB2 W hW; omega
  clear hkey hl6 hl7 hl hl1 hl2 hl3' hl4 hB2 p1 p2 p3 h1 h2 h3
  go_enter Try.func19, Try.ntmps19
  go_upto_region 2 with fail
  generalize (w.alloc (.cells #[.int .i64 0, .int .i64 0, .int .i64 0, .slice none 0 0, .int .i64 0, .int .i64 0, .int .i64 0, .int .i64 0, .int .i64 0, .int .i64 0, .int .i64 0, .int .i64 0, .int .i64 0, .string { data := #[] }] 27)).alloc (.cells #[.int .i64 0, .int .i64 0, .int .i64 0, .slice none 0 0, .int .i64 0, .int .i64 0, .int .i64 0, .int .i64 0, .int .i64 0, .int .i64 0, .int .i64 0, .int .i64 0, .int .i64 0, .string { data := #[] }] 27) = w0 at S0 ⊢
  generalize hq : w.heap.size + 1 = q at c7 ⊢
  generalize hq2 : w.heap.size = q2
  clear h
  go_upto_region 3 with (first
    | (go_at_call 48; refine (c1 _ S0.r S0.zlt).mono ?_; rintro r w1 ⟨rfl, R1, G1⟩; have S1 := S0.call R1 G1; have v0 := S1.o.opAt.c0; have v1 := S1.o.opAt.c1; have f0 := S1.o.frozen 0; have f1 := S1.o.frozen 1; rw [hq] at v0 v1 f0 f1))
  have S2 : St w ((w1.setCell ⟨q, 0, none⟩ (.int .i64 x)).setCell ⟨q, 1, none⟩ (.int .i64 y)) b z (mko (x, y) 0 0 (0, 0) np) none 0 0 [] L1 e1 := S1.upd (by rw [hq]; exact only2 _ _ _ _ _ _) (by have := (S1.o.set 0 (.int .i64 x)).set 1 (.int .i64 y); rw [hq] at this ⊢; exact this)
  generalize (w1.setCell ⟨q, 0, none⟩ (.int .i64 x)).setCell ⟨q, 1, none⟩ (.int .i64 y) = w2 at S2 ⊢
  clear S0 S1 R1 G1 c1 v0 v1 f0 f1
  go_upto_region 4 with (first
    | (go_at_call 49; refine (c2 _ S2.r).mono ?_; rintro r w3 ⟨rfl, R3, O3⟩; have S3 := S2.call R3 O3.grown; have v2 := S3.o.opAt.c2; have f2 := S3.o.frozen 2; rw [hq] at v2 f2))
  have S4 : St w (w3.setCell ⟨q, 2, none⟩ (.int .i64 t)) b z (mko (x, y) t 0 (0, 0) np) none 0 0 [] L2 e2 := S3.upd (by rw [hq]; exact only1 _ _ _ _) (by have := S3.o.set 2 (.int .i64 t); rw [hq] at this ⊢; exact this)
  generalize w3.setCell ⟨q, 2, none⟩ (.int .i64 t) = w4 at S4 ⊢
  have hV6 := hVl.out w4 S4.r
  clear S2 S3 R3 O3 c2 v2 f2 hVl
  go_upto_region 5 with (first
    | (go_at_call 50; refine (c3 _ S4.r S4.zlt).mono ?_; rintro r w5 ⟨a, c, rfl, P5, R5, G5, N5⟩; have S5 := S4.call R5 G5; have v3 := S5.o.opAt.c3; have f3 := S5.o.frozen 3; rw [hq] at v3 f3))
  have S6 : St w (w5.setCell ⟨q, 3, none⟩ (.slice a V.length c)) b z (mko (x, y) t 0 (0, 0) np) a V.length c V L3 e3 := S5.dep (by rw [hq]; exact only1 _ _ _ _) (by have := S5.o.set 3 (.slice a V.length c); rw [hq] at this ⊢; exact this) P5 (fun ad ha => by have h1 := N5 ad ha; have h2 := S4.o.lt; omega)
  generalize w5.setCell ⟨q, 3, none⟩ (.slice a V.length c) = w6 at S6 ⊢
  clear S4 S5 R5 G5 c3 v3 f3 P5 N5
  go_upto_region 6 with (first
    | (go_at_call 49; refine (c4 _ S6.r).mono ?_; rintro r w7 ⟨rfl, R7, O7⟩; have S7 := S6.call R7 O7.grown; have v4 := S7.o.opAt.c4; have f4 := S7.o.frozen 4; rw [hq] at v4 f4))
  have S8 : St w (w7.setCell ⟨q, 4, none⟩ (.int .i64 k)) b z (mko (x, y) t k (0, 0) np) a V.length c V L4 e4 := S7.upd (by rw [hq]; exact only1 _ _ _ _) (by have := S7.o.set 4 (.int .i64 k); rw [hq] at this ⊢; exact this)
  generalize w7.setCell ⟨q, 4, none⟩ (.int .i64 k) = w8 at S8 ⊢
  clear S6 S7 R7 O7 c4 v4 f4
  have v4 := S8.o.opAt.c4
  rw [hq] at v4
  go_upto_region 7 with (first
    | (go_at_call 51; refine (cP _).mono ?_; rintro r w9 ⟨rfl, F9⟩; have S9 := S8.call (S8.r.below F9.below) (below_grownS F9.below)))
  have S10 : St w (w9.alloc (.cells #[.bool false, .bool false, .bool false] 69)) b z (mko (x, y) t k (0, 0) np) a V.length c V L4 e4 := S9.call (S9.r.below ((Below.refl _ _).alloc (Nat.le_refl _) _)) (below_grownS ((Below.refl _ _).alloc (Nat.le_refl _) _))
  have hbp : b ≠ w9.heap.size := by have h1 := S9.hb; have h2 := S9.g.size; omega
  have hqp : q ≠ w9.heap.size := by have h1 := S9.o.lt; omega
  obtain ⟨m0, m1, m2⟩ := pcells (wi := w9) (World.grownBy.refl (w9.alloc (.cells #[.bool false, .bool false, .bool false] 69)) (some b)) hbp
  generalize w9.alloc (.cells #[.bool false, .bool false, .bool false] 69) = w10 at S10 m0 m1 m2 ⊢
  generalize w9.heap.size = qp at hbp hqp m0 m1 m2 ⊢
  clear S8 S9 F9 cP v4
  go_upto_region 10 with (first
    | (go_at_call 48; refine (c6 _ S11.r S11.zlt).mono ?_; rintro r w12 ⟨rfl, R12, G12⟩; have S12 := S11.call R12 G12; have v5 := S12.o.opAt.c5; have v6 := S12.o.opAt.c6; have f5 := S12.o.frozen 5; have f6 := S12.o.frozen 6; rw [hq] at v5 v6 f5 f6; have q0 := (G12.cell_far ⟨qp, 0, none⟩ (cell_in n0) (by simpa using Ne.symm hbp)).trans n0; have q1 := (G12.cell_far ⟨qp, 1, none⟩ (cell_in n1) (by simpa using Ne.symm hbp)).trans n1; have q2' := (G12.cell_far ⟨qp, 2, none⟩ (cell_in n2) (by simpa using Ne.symm hbp)).trans n2)
    | (go_at_call 52; refine (c5 _ S10.r).mono ?_; rintro r w11 ⟨rfl, R11, O11⟩; have S11 := S10.call R11 O11.grown; have n0 := (O11.cell (p := ⟨qp, 0, none⟩) (Ne.symm hbp)).trans m0; have n1 := (O11.cell (p := ⟨qp, 1, none⟩) (Ne.symm hbp)).trans m1; have n2 := (O11.cell (p := ⟨qp, 2, none⟩) (Ne.symm hbp)).trans m2))
  have S13 : St w ((w12.setCell ⟨q, 5, none⟩ (.int .i64 gx)).setCell ⟨q, 6, none⟩ (.int .i64 gy)) b z (mko (x, y) t k (gx, gy) np) a V.length c V L6 e6 := S12.upd (by rw [hq]; exact only2 _ _ _ _ _ _) (by have := (S12.o.set 5 (.int .i64 gx)).set 6 (.int .i64 gy); rw [hq] at this ⊢; exact this)
  have t0 := ((only2 w12 q 5 6 (.int .i64 gx) (.int .i64 gy)).cell (p := ⟨qp, 0, none⟩) (Ne.symm hqp)).trans q0
  have t1 := ((only2 w12 q 5 6 (.int .i64 gx) (.int .i64 gy)).cell (p := ⟨qp, 1, none⟩) (Ne.symm hqp)).trans q1
  have t2 := ((only2 w12 q 5 6 (.int .i64 gx) (.int .i64 gy)).cell (p := ⟨qp, 2, none⟩) (Ne.symm hqp)).trans q2'
  generalize (w12.setCell ⟨q, 5, none⟩ (.int .i64 gx)).setCell ⟨q, 6, none⟩ (.int .i64 gy) = w13 at S13 t0 t1 t2 ⊢
  clear v5 v6 f5 f6 m0 m1 m2 q0 q1 q2' S10 S12 R12 G12 c6
  go_upto_region 11 with (first
    | (go_at_call 53; refine (c7 _ _ _ _ S13).mono ?_; rintro r w14 ⟨rfl, S14⟩))
  clear S13 t0 t1 t2 c7
  obtain ⟨o, ho⟩ : ∃ o, o = mko (x, y) t k (gx, gy) pp := ⟨_, rfl⟩
  rw [← ho] at c8 S14 hb7 hb8 hb9
  have HO := hid ho
  clear ho
  have c9 := c8 w14 a c hV6 S14.p
  clear c8
  have a0 := S14.o.opAt.c0
  have a1 := S14.o.opAt.c1
  have a2 := S14.o.opAt.c2
  have a3 := S14.o.opAt.c3
  have a4 := S14.o.opAt.c4
  have a5 := S14.o.opAt.c5
  have a6 := S14.o.opAt.c6
  have a7 := S14.o.opAt.c7
  have a8 := S14.o.opAt.c8
  have a9 := S14.o.opAt.c9
  have a10 := S14.o.opAt.c10
  have a11 := S14.o.opAt.c11
  have a12 := S14.o.opAt.c12
  have a13 := S14.o.opAt.c13
  rw [hq] at a0 a1 a2 a3 a4 a5 a6 a7 a8 a9 a10 a11 a12 a13
  cases hr : chk o V with
  | false =>
    rw [hr] at c9
    have hb := hid (hb9.out hr)
    have hne := flr_ne 30 (by decide) (L7, e7)
    have cF := fun W (hW : Rdr W b z L7 e7) => rflr_any hW 30 (by decide)
    generalize flr 30 (L7, e7) = s at hb hne cF
    obtain ⟨L8, e8⟩ := s
    simp only at hne cF
    have hne' : (e8 != 0) = true := by simpa using hne
    clear hb7 hb8 hb9 hr
    go_upto_region 14 with (first
      | (go_at_call 10; refine c9.mono ?_; rintro r w15 ⟨rfl, F15⟩; have S15 := S14.call (S14.r.below F15.below) (below_grownS F15.below))
      | (go_at_call 52; refine (cF _ S15.r).mono ?_; rintro r w16 ⟨rfl, R16, O16⟩; have S16 := S15.call R16 O16.grown)
      | (go_at_call 23; refine (rerr_any S16.r).mono ?_; rintro r w17 ⟨rfl, rfl⟩))
    have z0 := S16.k.opAt.c0
    have y0 := S16.k.frozen 0
    have z1 := S16.k.opAt.c1
    have y1 := S16.k.frozen 1
    have z2 := S16.k.opAt.c2
    have y2 := S16.k.frozen 2
    have z3 := S16.k.opAt.c3
    have y3 := S16.k.frozen 3
    have z4 := S16.k.opAt.c4
    have y4 := S16.k.frozen 4
    have z5 := S16.k.opAt.c5
    have y5 := S16.k.frozen 5
    have z6 := S16.k.opAt.c6
    have y6 := S16.k.frozen 6
    have z7 := S16.k.opAt.c7
    have y7 := S16.k.frozen 7
    have z8 := S16.k.opAt.c8
    have y8 := S16.k.frozen 8
    have z9 := S16.k.opAt.c9
    have y9 := S16.k.frozen 9
    have z10 := S16.k.opAt.c10
    have y10 := S16.k.frozen 10
    have z11 := S16.k.opAt.c11
    have y11 := S16.k.frozen 11
    have z12 := S16.k.opAt.c12
    have y12 := S16.k.frozen 12
    have z13 := S16.k.opAt.c13
    have y13 := S16.k.frozen 13
    rw [hq2] at z0 y0 z1 y1 z2 y2 z3 y3 z4 y4 z5 y5 z6 y6 z7 y7 z8 y8 z9 y9 z10 y10 z11 y11 z12 y12 z13 y13
    go_wp2_with fail
    have B : Blk (put14 w16 q2 zer (.slice none 0 0)) q2 (zer.cells (.slice none 0 0)) := put14_blk (by have := S16.k; rw [hq2] at this; exact this)
    have hO : Only w.heap.size w16 (put14 w16 q2 zer (.slice none 0 0)) := by rw [hq2]; exact put14_only _ _ _ _
    change bodyPost _ _ _ _ _ (put14 w16 q2 zer (.slice none 0 0))
    generalize put14 w16 q2 zer (.slice none 0 0) = W at B hO ⊢
    obtain ⟨u1, u2, u3, u4⟩ := S16.out hO (PS.none _) (fun ad ha => by cases ha)
    have t0 := B.opAt.c0
    have t1 := B.opAt.c1
    have t2 := B.opAt.c2
    have t3 := B.opAt.c3
    have t4 := B.opAt.c4
    have t5 := B.opAt.c5
    have t6 := B.opAt.c6
    have t7 := B.opAt.c7
    have t8 := B.opAt.c8
    have t9 := B.opAt.c9
    have t10 := B.opAt.c10
    have t11 := B.opAt.c11
    have t12 := B.opAt.c12
    have t13 := B.opAt.c13
    clear B hO z0 y0 z1 y1 z2 y2 z3 y3 z4 y4 z5 y5 z6 y6 z7 y7 z8 y8 z9 y9 z10 y10 z11 y11 z12 y12 z13 y13 a0 a1 a2 a3 a4 a5 a6 a7 a8 a9 a10 a11 a12 a13
    have heq : ofin (mko (x, y) t k (gx, gy) pp) V (L7, e7) = ((zer, []), (L8, e8)) := by rw [← HO.out]; exact hb.out
    refine bodyPost_ret (v := ov zer (.slice none 0 0)) (by simp [results, Try.results19, go_sem, OpIn.cells, t0, t1, t2, t3, t4, t5, t6, t7, t8, t9, t10, t11, t12, t13]) rfl ?_
    rw [heq]
    exact ⟨none, 0, rfl, u1, u2, u3, u4⟩
  | true =>
    rw [hr] at c9
    clear hb9
    by_cases he : e7 = 0
    · subst he
      have hb := hid (hb7.out hr)
      clear hb7 hb8 hr
      go_upto_region 15 with (first
        | (go_at_call 10; refine c9.mono ?_; rintro r w15 ⟨rfl, F15⟩; have S15 := S14.call (S14.r.below F15.below) (below_grownS F15.below))
        | (go_at_call 23; refine (rerr_any S15.r).mono ?_; rintro r w17 ⟨rfl, rfl⟩))
      have g0 := S15.o.opAt.c0
      have g1 := S15.o.opAt.c1
      have g2 := S15.o.opAt.c2
      have g3 := S15.o.opAt.c3
      have g4 := S15.o.opAt.c4
      have g5 := S15.o.opAt.c5
      have g6 := S15.o.opAt.c6
      have g7 := S15.o.opAt.c7
      have g8 := S15.o.opAt.c8
      have g9 := S15.o.opAt.c9
      have g10 := S15.o.opAt.c10
      have g11 := S15.o.opAt.c11
      have g12 := S15.o.opAt.c12
      have g13 := S15.o.opAt.c13
      rw [hq] at g0 g1 g2 g3 g4 g5 g6 g7 g8 g9 g10 g11 g12 g13
      have z0 := S15.k.opAt.c0
      have y0 := S15.k.frozen 0
      have z1 := S15.k.opAt.c1
      have y1 := S15.k.frozen 1
      have z2 := S15.k.opAt.c2
      have y2 := S15.k.frozen 2
      have z3 := S15.k.opAt.c3
      have y3 := S15.k.frozen 3
      have z4 := S15.k.opAt.c4
      have y4 := S15.k.frozen 4
      have z5 := S15.k.opAt.c5
      have y5 := S15.k.frozen 5
      have z6 := S15.k.opAt.c6
      have y6 := S15.k.frozen 6
      have z7 := S15.k.opAt.c7
      have y7 := S15.k.frozen 7
      have z8 := S15.k.opAt.c8
      have y8 := S15.k.frozen 8
      have z9 := S15.k.opAt.c9
      have y9 := S15.k.frozen 9
      have z10 := S15.k.opAt.c10
      have y10 := S15.k.frozen 10
      have z11 := S15.k.opAt.c11
      have y11 := S15.k.frozen 11
      have z12 := S15.k.opAt.c12
      have y12 := S15.k.frozen 12
      have z13 := S15.k.opAt.c13
      have y13 := S15.k.frozen 13
      rw [hq2] at z0 y0 z1 y1 z2 y2 z3 y3 z4 y4 z5 y5 z6 y6 z7 y7 z8 y8 z9 y9 z10 y10 z11 y11 z12 y12 z13 y13
      go_wp2_with fail
      have B : Blk (put14 w15 q2 o (.slice a V.length c)) q2 (o.cells (.slice a V.length c)) := put14_blk (by have := S15.k; rw [hq2] at this; exact this)
      have hO : Only w.heap.size w15 (put14 w15 q2 o (.slice a V.length c)) := by rw [hq2]; exact put14_only _ _ _ _
      change bodyPost _ _ _ _ _ (put14 w15 q2 o (.slice a V.length c))
      generalize put14 w15 q2 o (.slice a V.length c) = W at B hO ⊢
      obtain ⟨u1, u2, u3, u4⟩ := S15.out hO S15.p (fun ad ha => by have := S15.new ad ha; omega)
      have t0 := B.opAt.c0
      have t1 := B.opAt.c1
      have t2 := B.opAt.c2
      have t3 := B.opAt.c3
      have t4 := B.opAt.c4
      have t5 := B.opAt.c5
      have t6 := B.opAt.c6
      have t7 := B.opAt.c7
      have t8 := B.opAt.c8
      have t9 := B.opAt.c9
      have t10 := B.opAt.c10
      have t11 := B.opAt.c11
      have t12 := B.opAt.c12
      have t13 := B.opAt.c13
      clear B hO z0 y0 z1 y1 z2 y2 z3 y3 z4 y4 z5 y5 z6 y6 z7 y7 z8 y8 z9 y9 z10 y10 z11 y11 z12 y12 z13 y13 a0 a1 a2 a3 a4 a5 a6 a7 a8 a9 a10 a11 a12 a13
      have heq : ofin (mko (x, y) t k (gx, gy) pp) V (L7, 0) = ((o, V), (L7, 0)) := by rw [← HO.out]; exact hb.out
      refine bodyPost_ret (v := ov o (.slice a V.length c)) (by simp [results, Try.results19, go_sem, OpIn.cells, t0, t1, t2, t3, t4, t5, t6, t7, t8, t9, t10, t11, t12, t13]) rfl ?_
      rw [heq]
      exact ⟨a, c, rfl, u1, u2, u3, u4⟩
    · have hb := hid (hb8.out he)
      have hne' : (e7 != 0) = true := by simpa using he
      clear hb7 hb8 hr
      go_upto_region 14 with (first
        | (go_at_call 10; refine c9.mono ?_; rintro r w15 ⟨rfl, F15⟩; have S15 := S14.call (S14.r.below F15.below) (below_grownS F15.below))
        | (go_at_call 23; refine (rerr_any S15.r).mono ?_; rintro r w17 ⟨rfl, rfl⟩))
      have z0 := S15.k.opAt.c0
      have y0 := S15.k.frozen 0
      have z1 := S15.k.opAt.c1
      have y1 := S15.k.frozen 1
      have z2 := S15.k.opAt.c2
      have y2 := S15.k.frozen 2
      have z3 := S15.k.opAt.c3
      have y3 := S15.k.frozen 3
      have z4 := S15.k.opAt.c4
      have y4 := S15.k.frozen 4
      have z5 := S15.k.opAt.c5
      have y5 := S15.k.frozen 5
      have z6 := S15.k.opAt.c6
      have y6 := S15.k.frozen 6
      have z7 := S15.k.opAt.c7
      have y7 := S15.k.frozen 7
      have z8 := S15.k.opAt.c8
      have y8 := S15.k.frozen 8
      have z9 := S15.k.opAt.c9
      have y9 := S15.k.frozen 9
      have z10 := S15.k.opAt.c10
      have y10 := S15.k.frozen 10
      have z11 := S15.k.opAt.c11
      have y11 := S15.k.frozen 11
      have z12 := S15.k.opAt.c12
      have y12 := S15.k.frozen 12
      have z13 := S15.k.opAt.c13
      have y13 := S15.k.frozen 13
      rw [hq2] at z0 y0 z1 y1 z2 y2 z3 y3 z4 y4 z5 y5 z6 y6 z7 y7 z8 y8 z9 y9 z10 y10 z11 y11 z12 y12 z13 y13
      go_wp2_with fail
      have B : Blk (put14 w15 q2 zer (.slice none 0 0)) q2 (zer.cells (.slice none 0 0)) := put14_blk (by have := S15.k; rw [hq2] at this; exact this)
      have hO : Only w.heap.size w15 (put14 w15 q2 zer (.slice none 0 0)) := by rw [hq2]; exact put14_only _ _ _ _
      change bodyPost _ _ _ _ _ (put14 w15 q2 zer (.slice none 0 0))
      generalize put14 w15 q2 zer (.slice none 0 0) = W at B hO ⊢
      obtain ⟨u1, u2, u3, u4⟩ := S15.out hO (PS.none _) (fun ad ha => by cases ha)
      have t0 := B.opAt.c0
      have t1 := B.opAt.c1
      have t2 := B.opAt.c2
      have t3 := B.opAt.c3
      have t4 := B.opAt.c4
      have t5 := B.opAt.c5
      have t6 := B.opAt.c6
      have t7 := B.opAt.c7
      have t8 := B.opAt.c8
      have t9 := B.opAt.c9
      have t10 := B.opAt.c10
      have t11 := B.opAt.c11
      have t12 := B.opAt.c12
      have t13 := B.opAt.c13
      clear B hO z0 y0 z1 y1 z2 y2 z3 y3 z4 y4 z5 y5 z6 y6 z7 y7 z8 y8 z9 y9 z10 y10 z11 y11 z12 y12 z13 y13 a0 a1 a2 a3 a4 a5 a6 a7 a8 a9 a10 a11 a12 a13
      have heq : ofin (mko (x, y) t k (gx, gy) pp) V (L7, e7) = ((zer, []), (L7, e7)) := by rw [← HO.out]; exact hb.out
      refine bodyPost_ret (v := ov zer (.slice none 0 0)) (by simp [results, Try.results19, go_sem, OpIn.cells, t0, t1, t2, t3, t4, t5, t6, t7, t8, t9, t10, t11, t12, t13]) rfl ?_
      rw [heq]
      exact ⟨none, 0, rfl, u1, u2, u3, u4⟩

theorem take7_any (w : World) (b z : Nat) (L : List Int) (e : Int) (h : Rdr w b z L e) (hz : z < w.heap.size) (hl : L.length ≤ 1000000) :
    Calls Try.prog 19 #[.pointer (some ⟨b, 0, none⟩)] w (Takes7 w b z (otk L e)) := by
  by_cases h1 : (hd7 L e).1.2.2.2 = 1
  · exact take7_ins w b z L e h hz hl _ rfl h1
  by_cases h2 : (hd7 L e).1.2.2.2 = 2
  · exact take7_del w b z L e h hz hl _ rfl h2
  by_cases h3 : (hd7 L e).1.2.2.2 = 3
  · exact take7_mov w b z L e h hz hl _ rfl h3
  exact take7_no w b z L e h hz hl _ rfl h1 h2 h3
end Go.Proofs.Ythipadnghdodlaa
