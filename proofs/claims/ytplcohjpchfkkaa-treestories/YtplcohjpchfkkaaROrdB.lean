/- The reference's Order. -/
import Derived.Test.YtplcohjpchfkkaaSBase
import Derived.Test.YtplcohjpchfkkaaORChk1
import Derived.Laws.OwnMore
import Derived.Test.YtplcohjpchfkkaaTrThere
import Derived.Test.YtplcohjpchfkkaaRMathB
import Derived.Lib.SmallJoins
import Derived.Deep.CutRange
namespace Go.Proofs.Ytplcohjpchfkkaa
section
open Go.RowKit
open Go.Sort (grow)

/-- What moved makes of an operation. -/
structure Mvd (o : OpIn) (Bs : List Dt) (key : ByteArray) (o' : OpIn) : Prop where
  id0 : o'.id0 = o.id0
  id1 : o'.id1 = o.id1
  time : o'.time = o.time
  kind : o'.kind = o.kind
  at0 : o'.at0 = o.at0
  at1 : o'.at1 = o.at1
  side : o'.side = o.side
  char : o'.char = o.char
  key : o'.key = key
  bl : (o'.bl0 = o.id0 ∧ o'.bl1 = o.id1) ∨ (o'.bl0, o'.bl1) ∈ Bs
  par : (o'.pa0, o'.pa1) ∈ [(0, -1), (0, -2)] ++ Bs

theorem set_other {w : World} {q r j : Nat} (h : r ≠ q) (v : Value) : (w.setCell ⟨q, j, none⟩ v).heap[r]? = w.heap[r]? := heap_setCell_other w ⟨q, j, none⟩ r v (fun e => h (by simpa using e))

theorem below_set {B : Nat} {w w' : World} {q : Nat} (h : RowKit.Below B w w') (hq : B ≤ q) (hs : B ≤ w'.heap.size) (j : Nat) (v : Value) : RowKit.Below B w (w'.setCell ⟨q, j, none⟩ v) :=
  h.grown (grownBy_setCell w' q j v) hs (fun k hk => by cases hk; exact hq)

/-- The blocks of a call: an operation, what was made, raw, and what is to be told. -/
structure SV (w W : World) (o : OpIn) (dep : Value) (m : Md) : Prop where
  h0 : W.heap[w.heap.size]? = some (.cells (o.cells dep) 58)
  h1 : W.heap[w.heap.size + 1]? = some (.cells m.cells 93)
  h2 : W.heap[w.heap.size + 1 + 1]? = some (.cells (zop.cells (.slice none 0 0)) 58)
  hB : RowKit.Below w.heap.size w W

theorem SV.sz {w W : World} {o : OpIn} {dep : Value} {m : Md} (h : SV w W o dep m) : w.heap.size + 3 ≤ W.heap.size := by
  have := (Array.getElem?_eq_some_iff.1 h.h2).1
  omega

theorem SV.grown {w W W' : World} {o : OpIn} {dep : Value} {m : Md} {r : Option Nat} (h : SV w W o dep m) (hg : W.grownBy W' r) (hr : ∀ j, r = some j → w.heap.size + 3 ≤ j) : SV w W' o dep m := by
  have hs := h.sz
  have hne : ∀ k, k < w.heap.size + 3 → some k ≠ r := fun k hk e => by have := hr k e.symm; omega
  exact ⟨(hg.block _ (by omega) (hne _ (by omega))).trans h.h0, (hg.block _ (by omega) (hne _ (by omega))).trans h.h1, (hg.block _ (by omega) (hne _ (by omega))).trans h.h2, h.hB.grown hg (by omega) (fun j hj => by have := hr j hj; omega)⟩

theorem SV.set {w W : World} {o o' : OpIn} {dep : Value} {m : Md} (h : SV w W o dep m) (j : Nat) (v : Value) (he : (o.cells dep).setIfInBounds j v = o'.cells dep) : SV w (W.setCell ⟨w.heap.size, j, none⟩ v) o' dep m := by
  have hs := h.sz
  refine ⟨?_, (set_other (by omega) v).trans h.h1, (set_other (by omega) v).trans h.h2, below_set h.hB (Nat.le_refl _) (by omega) j v⟩
  rw [set_block h.h0 v, he]

theorem three_new (w : World) (A B C : Obj) : (((w.alloc A).alloc B).alloc C).heap[w.heap.size]? = some A ∧ (((w.alloc A).alloc B).alloc C).heap[w.heap.size + 1]? = some B ∧ (((w.alloc A).alloc B).alloc C).heap[w.heap.size + 1 + 1]? = some C ∧ (((w.alloc A).alloc B).alloc C).heap.size = w.heap.size + 3 ∧ RowKit.Below w.heap.size w (((w.alloc A).alloc B).alloc C) := by
  obtain ⟨⟨h1, h2, h3⟩, h4, h5⟩ := three_blocks w A B C
  exact ⟨h1, h2, h3, h4, h5⟩

theorem ps_nth {w : World} {a : Option Addr} {n c : Nat} {L : List Dt} (h : PS w a n c L) {i : Nat} (hi : i < n) : ∃ g o, a = some ⟨g, o, none⟩ ∧ ∃ d ∈ L, L[i]? = some d ∧ w.cell? ⟨g, o + i * 2, none⟩ = some (.int .i64 d.1) ∧ w.cell? ⟨g, o + i * 2 + 1, none⟩ = some (.int .i64 d.2) := by
  obtain ⟨g, o, e, _, hc⟩ := h.at (by omega)
  have hl : i < L.length := by rw [h.len]; exact hi
  exact ⟨g, o, e, L[i], List.getElem_mem hl, List.getElem?_eq_getElem hl, (hc i hl).1, (hc i hl).2⟩

theorem own_ps_at' {w : World} {base c : Nat} {a : Option Addr} {L : List Dt} {n : Nat} (h : w.ownsRow base 24 2 (.slice a n c) n (flat L)) (hl : L.length = n) : PS w a n c L := by
  obtain ⟨a', c', e, hp⟩ := owned_ps h hl
  simp only [Value.slice.injEq] at e
  obtain ⟨rfl, _, rfl⟩ := e
  exact hp

theorem tmod_range {x y : Int} (hx : 0 ≤ x) (hy : 0 < y) : 0 ≤ x.tmod y ∧ x.tmod y < y := ⟨Int.tmod_nonneg _ hx, Int.tmod_lt_of_pos _ hy⟩

theorem nat_of {x : Int} (h : 0 ≤ x) : ∃ k : Nat, x = (k : Int) := ⟨x.toNat, by omega⟩

set_option maxRecDepth 100000 in
set_option maxHeartbeats 8000000 in
theorem moved_any (o : OpIn) (da : Option Addr) (dn dc : Nat) (xa : Option Addr) (xn xc : Nat) (Bs : List Dt) (m : Md) (w : World) (hb : PS w xa xn xc Bs) (hn : xn ≤ 1000) (hm : m.Fits) :
    Calls Try.prog 68 #[ov o (.slice da dn dc), .slice xa xn xc, mv m] w fun e w' => ∃ o', e = .returned (ov o' (.slice da dn dc)) ∧ Mvd o Bs m.key o' ∧ RowKit.Below w.heap.size w w' := by
  have hma := absI_bounds hm.ma
  have hmb := absI_bounds hm.mb
  go_enter Try.func68, Try.ntmps68
  go_upto_region 1 with fail
  obtain ⟨h0, h1, h2, hsz, hB⟩ := three_new w (.cells (o.cells (.slice da dn dc)) 58) (.cells m.cells 93) (.cells #[.int .i64 0, .int .i64 0, .int .i64 0, .slice none 0 0, .int .i64 0, .int .i64 0, .int .i64 0, .int .i64 0, .int .i64 0, .int .i64 0, .int .i64 0, .int .i64 0, .int .i64 0, .string { data := #[] }] 58)
  generalize ((w.alloc (.cells (o.cells (.slice da dn dc)) 58)).alloc (.cells m.cells 93)).alloc (.cells #[.int .i64 0, .int .i64 0, .int .i64 0, .slice none 0 0, .int .i64 0, .int .i64 0, .int .i64 0, .int .i64 0, .int .i64 0, .int .i64 0, .int .i64 0, .int .i64 0, .int .i64 0, .string { data := #[] }] 58) = W at *
  have sv : SV w W o (.slice da dn dc) m := ⟨h0, h1, h2, hB⟩
  clear h0 h1 h2 hsz hB
  obtain ⟨a0, a1, a2, a3, a4, a5, a6, a7, a8, a9, a10, a11, a12, a13⟩ := opAt_of_block sv.h0
  obtain ⟨m0, m1, m2, m3, m4, m5⟩ := mdAt_of sv.h1
  have zf := fun j => frozen_of_block sv.h0 j
  go_upto_region 2 with fail
  have sv1 : SV w (W.setCell ⟨w.heap.size, 13, none⟩ (.string m.key)) { o with key := m.key } (.slice da dn dc) m := sv.set 13 _ rfl
  clear a0 a1 a2 a3 a4 a5 a6 a7 a8 a9 a10 a11 a12 a13 m0 m1 m2 m3 m4 m5 zf
  clear sv
  generalize W.setCell ⟨w.heap.size, 13, none⟩ (.string m.key) = W1 at *
  have hs1 := sv1.sz
  have hown : (W1.alloc (.cells #[.int .i64 0, .int .i64 (-1), .int .i64 0, .int .i64 (-2)] 24)).ownsRow W1.heap.size 24 2 (.slice (some ⟨W1.heap.size, 0, none⟩) 2 2) 2 [.int .i64 0, .int .i64 (-1), .int .i64 0, .int .i64 (-2)] := World.ownsRow_lit W1 _ 2 (Nat.le_refl _) (by decide) rfl
  have hpb : PS (W1.alloc (.cells #[.int .i64 0, .int .i64 (-1), .int .i64 0, .int .i64 (-2)] 24)) xa xn xc Bs := (hb.below sv1.hB).far ((Far.refl W1).alloc _)
  go_upto_region 4 with (first
    | (at_builtin; refine wpList_append_dots rfl _ _ 29 Try.underlying29 rfl W1.heap.size (.slice (some ⟨W1.heap.size, 0, none⟩) 2 2) 2 _ rfl hown xa xn xc Bs rfl hpb (by omega) (by simp) ?_; intro v7 w7 ho7 hg7))
  have sv7 : SV w w7 { o with key := m.key } (.slice da dn dc) m := (sv1.grown (World.grownBy_alloc W1 (.cells #[.int .i64 0, .int .i64 (-1), .int .i64 0, .int .i64 (-2)] 24) none) (fun j hj => by cases hj)).grown hg7 (fun j hj => by have := (hown.lt j hj).1; omega)
  have hpl : w7.ownsRow W1.heap.size 24 2 v7 (2 + xn) (flat ([(0, -1), (0, -2)] ++ Bs)) := ho7
  have hPl : ([(0, -1), (0, -2)] ++ Bs).length = 2 + xn := by rw [List.length_append, hb.len]; rfl
  obtain ⟨pa, pc, rfl, _⟩ := owned_ps hpl hPl
  have HPl := hid hPl
  generalize hPL : [((0 : Int), (-1 : Int)), (0, -2)] ++ Bs = PL at *
  have HPL := hid hPL
  generalize hB0 : W1.heap.size = B0 at *
  clear hown hpb hg7 ho7 sv1 hPl hPL hB0
  obtain ⟨a0, a1, a2, a3, a4, a5, a6, a7, a8, a9, a10, a11, a12, a13⟩ := opAt_of_block sv7.h0
  obtain ⟨m0, m1, m2, m3, m4, m5⟩ := mdAt_of sv7.h1
  have zf := fun j => frozen_of_block sv7.h0 j
  go_upto_region 5 with fail
  have sv8 : SV w ((w7.setCell ⟨w.heap.size, 5, none⟩ (.int .i64 o.id0)).setCell ⟨w.heap.size, 6, none⟩ (.int .i64 o.id1)) { o with key := m.key, bl0 := o.id0, bl1 := o.id1 } (.slice da dn dc) m := (sv7.set 5 _ rfl : SV w _ { o with key := m.key, bl0 := o.id0 } (.slice da dn dc) m).set 6 _ rfl
  have hpl8 : ((w7.setCell ⟨w.heap.size, 5, none⟩ (.int .i64 o.id0)).setCell ⟨w.heap.size, 6, none⟩ (.int .i64 o.id1)).ownsRow B0 24 2 (.slice pa (2 + xn) pc) (2 + xn) (flat PL) := ownsRow_setCell_below (ownsRow_setCell_below hpl (by show w.heap.size < B0; omega) _) (by show w.heap.size < B0; omega) _
  clear a0 a1 a2 a3 a4 a5 a6 a7 a8 a9 a10 a11 a12 a13 m0 m1 m2 m3 m4 m5 zf
  generalize (w7.setCell ⟨w.heap.size, 5, none⟩ (.int .i64 o.id0)).setCell ⟨w.heap.size, 6, none⟩ (.int .i64 o.id1) = W8 at *
  clear sv7 hpl
  have hb8 := hb.below sv8.hB
  have hn1 : xn ≤ 1000000 := by omega
  by_cases hx0 : xn = 0
  · obtain rfl := hx0
    have k2r := tmod_range hmb.1 (show (0 : Int) < ((2 + 0 : Nat) : Int) + 2 by omega)
    obtain ⟨k2, hk2⟩ := nat_of k2r.1
    have hk2l : k2 < 2 + 0 + 2 := by omega
    have hk2' : (absI m.mb).tmod 4 = (k2 : Int) := hk2
    have hp8 := own_ps_at' hpl8 HPl.out
    by_cases hk : k2 < 2
    · have hkb : decide ((2 : Int) ≤ (k2 : Int)) = false := by simp; omega
      obtain ⟨gp, op, rfl, d, hdm, _, p0, p1⟩ := ps_nth hp8 (i := k2) (by omega)
      obtain ⟨a0, a1, a2, a3, a4, a5, a6, a7, a8, a9, a10, a11, a12, a13⟩ := opAt_of_block sv8.h0
      obtain ⟨m0, m1, m2, m3, m4, m5⟩ := mdAt_of sv8.h1
      have zf := fun j => frozen_of_block sv8.h0 j
      go_upto_region 11 with (first
        | (go_at_call 44; refine (abs_any m.mb hm.mb _).mono ?_; rintro e wq ⟨rfl, rfl⟩)
        | (go_at_call 44; refine (abs_any m.ma hm.ma _).mono ?_; rintro e wq ⟨rfl, rfl⟩))
      have sv9 : SV w ((W8.setCell ⟨w.heap.size, 11, none⟩ (.int .i64 d.1)).setCell ⟨w.heap.size, 12, none⟩ (.int .i64 d.2)) { ({ o with key := m.key, bl0 := o.id0, bl1 := o.id1 } : OpIn) with pa0 := d.1, pa1 := d.2 } (.slice da dn dc) m := (sv8.set 11 _ rfl : SV w _ { ({ o with key := m.key, bl0 := o.id0, bl1 := o.id1 } : OpIn) with pa0 := d.1 } (.slice da dn dc) m).set 12 _ rfl
      clear a0 a1 a2 a3 a4 a5 a6 a7 a8 a9 a10 a11 a12 a13 m0 m1 m2 m3 m4 m5 zf
      clear sv8 hpl8 hp8
      generalize (W8.setCell ⟨w.heap.size, 11, none⟩ (.int .i64 d.1)).setCell ⟨w.heap.size, 12, none⟩ (.int .i64 d.2) = W9 at *
      obtain ⟨a0, a1, a2, a3, a4, a5, a6, a7, a8, a9, a10, a11, a12, a13⟩ := opAt_of_block sv9.h0
      obtain ⟨z0, z1, z2, z3, z4, z5, z6, z7, z8, z9, z10, z11, z12, z13⟩ := opAt_of_block sv9.h2
      have zf := fun j => frozen_of_block sv9.h2 j
      go_wp2
      change bodyPost _ _ _ _ _ (put14 W9 (w.heap.size + 1 + 1) { ({ o with key := m.key, bl0 := o.id0, bl1 := o.id1 } : OpIn) with pa0 := d.1, pa1 := d.2 } (.slice da dn dc))
      have hpb := put14_block (o := { ({ o with key := m.key, bl0 := o.id0, bl1 := o.id1 } : OpIn) with pa0 := d.1, pa1 := d.2 }) (v := .slice da dn dc) sv9.h2
      have hBe : RowKit.Below w.heap.size w (put14 W9 (w.heap.size + 1 + 1) { ({ o with key := m.key, bl0 := o.id0, bl1 := o.id1 } : OpIn) with pa0 := d.1, pa1 := d.2 } (.slice da dn dc)) := sv9.hB.grown (put14_grown W9 (w.heap.size + 1 + 1) _ _) (by have := sv9.sz; omega) (fun j hj => by cases hj; omega)
      generalize put14 W9 (w.heap.size + 1 + 1) { ({ o with key := m.key, bl0 := o.id0, bl1 := o.id1 } : OpIn) with pa0 := d.1, pa1 := d.2 } (.slice da dn dc) = WE at *
      obtain ⟨r0, r1, r2, r3, r4, r5, r6, r7, r8, r9, r10, r11, r12, r13⟩ := opAt_of_block hpb
      exact bodyPost_ret (v := ov { ({ o with key := m.key, bl0 := o.id0, bl1 := o.id1 } : OpIn) with pa0 := d.1, pa1 := d.2 } (.slice da dn dc)) (by simp [results, Try.results68, go_sem, r0, r1, r2, r3, r4, r5, r6, r7, r8, r9, r10, r11, r12, r13, OpIn.cells]) rfl ⟨_, rfl, ⟨rfl, rfl, rfl, rfl, rfl, rfl, rfl, rfl, rfl, Or.inl ⟨rfl, rfl⟩, by rw [HPL.out]; exact hdm⟩, hBe⟩
    · have hkb : decide ((2 : Int) ≤ (k2 : Int)) = true := by simp; omega
      obtain ⟨gp, op, rfl, d, hdm, _, p0, p1⟩ := ps_nth hp8 (i := 0) (by omega)
      simp only [Nat.zero_mul, Nat.add_zero] at p0 p1
      obtain ⟨a0, a1, a2, a3, a4, a5, a6, a7, a8, a9, a10, a11, a12, a13⟩ := opAt_of_block sv8.h0
      obtain ⟨m0, m1, m2, m3, m4, m5⟩ := mdAt_of sv8.h1
      have zf := fun j => frozen_of_block sv8.h0 j
      go_upto_region 11 with (first
        | (go_at_call 44; refine (abs_any m.mb hm.mb _).mono ?_; rintro e wq ⟨rfl, rfl⟩)
        | (go_at_call 44; refine (abs_any m.ma hm.ma _).mono ?_; rintro e wq ⟨rfl, rfl⟩))
      have sv9 : SV w ((W8.setCell ⟨w.heap.size, 11, none⟩ (.int .i64 d.1)).setCell ⟨w.heap.size, 12, none⟩ (.int .i64 d.2)) { ({ o with key := m.key, bl0 := o.id0, bl1 := o.id1 } : OpIn) with pa0 := d.1, pa1 := d.2 } (.slice da dn dc) m := (sv8.set 11 _ rfl : SV w _ { ({ o with key := m.key, bl0 := o.id0, bl1 := o.id1 } : OpIn) with pa0 := d.1 } (.slice da dn dc) m).set 12 _ rfl
      clear a0 a1 a2 a3 a4 a5 a6 a7 a8 a9 a10 a11 a12 a13 m0 m1 m2 m3 m4 m5 zf
      clear sv8 hpl8 hp8
      generalize (W8.setCell ⟨w.heap.size, 11, none⟩ (.int .i64 d.1)).setCell ⟨w.heap.size, 12, none⟩ (.int .i64 d.2) = W9 at *
      obtain ⟨a0, a1, a2, a3, a4, a5, a6, a7, a8, a9, a10, a11, a12, a13⟩ := opAt_of_block sv9.h0
      obtain ⟨z0, z1, z2, z3, z4, z5, z6, z7, z8, z9, z10, z11, z12, z13⟩ := opAt_of_block sv9.h2
      have zf := fun j => frozen_of_block sv9.h2 j
      go_wp2
      change bodyPost _ _ _ _ _ (put14 W9 (w.heap.size + 1 + 1) { ({ o with key := m.key, bl0 := o.id0, bl1 := o.id1 } : OpIn) with pa0 := d.1, pa1 := d.2 } (.slice da dn dc))
      have hpb := put14_block (o := { ({ o with key := m.key, bl0 := o.id0, bl1 := o.id1 } : OpIn) with pa0 := d.1, pa1 := d.2 }) (v := .slice da dn dc) sv9.h2
      have hBe : RowKit.Below w.heap.size w (put14 W9 (w.heap.size + 1 + 1) { ({ o with key := m.key, bl0 := o.id0, bl1 := o.id1 } : OpIn) with pa0 := d.1, pa1 := d.2 } (.slice da dn dc)) := sv9.hB.grown (put14_grown W9 (w.heap.size + 1 + 1) _ _) (by have := sv9.sz; omega) (fun j hj => by cases hj; omega)
      generalize put14 W9 (w.heap.size + 1 + 1) { ({ o with key := m.key, bl0 := o.id0, bl1 := o.id1 } : OpIn) with pa0 := d.1, pa1 := d.2 } (.slice da dn dc) = WE at *
      obtain ⟨r0, r1, r2, r3, r4, r5, r6, r7, r8, r9, r10, r11, r12, r13⟩ := opAt_of_block hpb
      exact bodyPost_ret (v := ov { ({ o with key := m.key, bl0 := o.id0, bl1 := o.id1 } : OpIn) with pa0 := d.1, pa1 := d.2 } (.slice da dn dc)) (by simp [results, Try.results68, go_sem, r0, r1, r2, r3, r4, r5, r6, r7, r8, r9, r10, r11, r12, r13, OpIn.cells]) rfl ⟨_, rfl, ⟨rfl, rfl, rfl, rfl, rfl, rfl, rfl, rfl, rfl, Or.inl ⟨rfl, rfl⟩, by rw [HPL.out]; exact hdm⟩, hBe⟩
  · have hxp : 0 < xn := by omega
    have hcb : decide ((0 : Int) < (xn : Int)) = true := by simp; omega
    have hcb2 : decide (0 < xn) = true := by simp; omega
    clear hx0
    by_cases hr : 0 < absI m.ma % 3
    · have hrb : decide (0 < absI m.ma % 3) = true := by simp [hr]
      have hrc : decide (0 < (absI m.ma).tmod 3) = true := by rw [Int.tmod_eq_emod_of_nonneg hma.1]; simp [hr]
      have k1r := tmod_range hma.1 (show (0 : Int) < (xn : Int) by omega)
      obtain ⟨k1, hk1⟩ := nat_of k1r.1
      have hk1l : k1 < xn := by omega
      obtain ⟨gb, ob, rfl, d', hdm', _, q0, q1⟩ := ps_nth hb8 hk1l
      obtain ⟨a0, a1, a2, a3, a4, a5, a6, a7, a8, a9, a10, a11, a12, a13⟩ := opAt_of_block sv8.h0
      obtain ⟨m0, m1, m2, m3, m4, m5⟩ := mdAt_of sv8.h1
      have zf := fun j => frozen_of_block sv8.h0 j
      go_upto_region 7 with (first
        | (go_at_call 44; refine (abs_any m.ma hm.ma _).mono ?_; rintro e wq ⟨rfl, rfl⟩))
      have sw8 : SV w ((W8.setCell ⟨w.heap.size, 5, none⟩ (.int .i64 d'.1)).setCell ⟨w.heap.size, 6, none⟩ (.int .i64 d'.2)) { o with key := m.key, bl0 := d'.1, bl1 := d'.2 } (.slice da dn dc) m := (sv8.set 5 _ rfl : SV w _ { o with key := m.key, bl0 := d'.1, bl1 := o.id1 } (.slice da dn dc) m).set 6 _ rfl
      have hpw8 : ((W8.setCell ⟨w.heap.size, 5, none⟩ (.int .i64 d'.1)).setCell ⟨w.heap.size, 6, none⟩ (.int .i64 d'.2)).ownsRow B0 24 2 (.slice pa (2 + xn) pc) (2 + xn) (flat PL) := ownsRow_setCell_below (ownsRow_setCell_below hpl8 (by show w.heap.size < B0; omega) _) (by show w.heap.size < B0; omega) _
      clear a0 a1 a2 a3 a4 a5 a6 a7 a8 a9 a10 a11 a12 a13 m0 m1 m2 m3 m4 m5 zf
      generalize (W8.setCell ⟨w.heap.size, 5, none⟩ (.int .i64 d'.1)).setCell ⟨w.heap.size, 6, none⟩ (.int .i64 d'.2) = X8 at *
      clear sv8 hpl8 hb8 q0 q1
      have sv8 := sw8
      have hpl8 := hpw8
      clear sw8 hpw8
      have k2r := tmod_range hmb.1 (show (0 : Int) < ((2 + xn : Nat) : Int) + 2 by omega)
      obtain ⟨k2, hk2⟩ := nat_of k2r.1
      have hk2l : k2 < 2 + xn + 2 := by omega
      have hk2' : (absI m.mb).tmod ((2 : Int) + (xn : Int) + 2) = (k2 : Int) := by rw [← hk2]; congr 1
      have hp8 := own_ps_at' hpl8 HPl.out
      by_cases hk : k2 < 2 + xn
      · have hkb : decide ((2 : Int) + (xn : Int) ≤ (k2 : Int)) = false := by simp; omega
        obtain ⟨gp, op, rfl, d, hdm, _, p0, p1⟩ := ps_nth hp8 (i := k2) (by omega)
        obtain ⟨a0, a1, a2, a3, a4, a5, a6, a7, a8, a9, a10, a11, a12, a13⟩ := opAt_of_block sv8.h0
        obtain ⟨m0, m1, m2, m3, m4, m5⟩ := mdAt_of sv8.h1
        have zf := fun j => frozen_of_block sv8.h0 j
        go_upto_region 11 with (first
          | (go_at_call 44; refine (abs_any m.mb hm.mb _).mono ?_; rintro e wq ⟨rfl, rfl⟩)
          | (go_at_call 44; refine (abs_any m.ma hm.ma _).mono ?_; rintro e wq ⟨rfl, rfl⟩))
        have sv9 : SV w ((X8.setCell ⟨w.heap.size, 11, none⟩ (.int .i64 d.1)).setCell ⟨w.heap.size, 12, none⟩ (.int .i64 d.2)) { ({ o with key := m.key, bl0 := d'.1, bl1 := d'.2 } : OpIn) with pa0 := d.1, pa1 := d.2 } (.slice da dn dc) m := (sv8.set 11 _ rfl : SV w _ { ({ o with key := m.key, bl0 := d'.1, bl1 := d'.2 } : OpIn) with pa0 := d.1 } (.slice da dn dc) m).set 12 _ rfl
        clear a0 a1 a2 a3 a4 a5 a6 a7 a8 a9 a10 a11 a12 a13 m0 m1 m2 m3 m4 m5 zf
        clear sv8 hpl8 hp8
        generalize (X8.setCell ⟨w.heap.size, 11, none⟩ (.int .i64 d.1)).setCell ⟨w.heap.size, 12, none⟩ (.int .i64 d.2) = W9 at *
        obtain ⟨a0, a1, a2, a3, a4, a5, a6, a7, a8, a9, a10, a11, a12, a13⟩ := opAt_of_block sv9.h0
        obtain ⟨z0, z1, z2, z3, z4, z5, z6, z7, z8, z9, z10, z11, z12, z13⟩ := opAt_of_block sv9.h2
        have zf := fun j => frozen_of_block sv9.h2 j
        go_wp2
        change bodyPost _ _ _ _ _ (put14 W9 (w.heap.size + 1 + 1) { ({ o with key := m.key, bl0 := d'.1, bl1 := d'.2 } : OpIn) with pa0 := d.1, pa1 := d.2 } (.slice da dn dc))
        have hpb := put14_block (o := { ({ o with key := m.key, bl0 := d'.1, bl1 := d'.2 } : OpIn) with pa0 := d.1, pa1 := d.2 }) (v := .slice da dn dc) sv9.h2
        have hBe : RowKit.Below w.heap.size w (put14 W9 (w.heap.size + 1 + 1) { ({ o with key := m.key, bl0 := d'.1, bl1 := d'.2 } : OpIn) with pa0 := d.1, pa1 := d.2 } (.slice da dn dc)) := sv9.hB.grown (put14_grown W9 (w.heap.size + 1 + 1) _ _) (by have := sv9.sz; omega) (fun j hj => by cases hj; omega)
        generalize put14 W9 (w.heap.size + 1 + 1) { ({ o with key := m.key, bl0 := d'.1, bl1 := d'.2 } : OpIn) with pa0 := d.1, pa1 := d.2 } (.slice da dn dc) = WE at *
        obtain ⟨r0, r1, r2, r3, r4, r5, r6, r7, r8, r9, r10, r11, r12, r13⟩ := opAt_of_block hpb
        exact bodyPost_ret (v := ov { ({ o with key := m.key, bl0 := d'.1, bl1 := d'.2 } : OpIn) with pa0 := d.1, pa1 := d.2 } (.slice da dn dc)) (by simp [results, Try.results68, go_sem, r0, r1, r2, r3, r4, r5, r6, r7, r8, r9, r10, r11, r12, r13, OpIn.cells]) rfl ⟨_, rfl, ⟨rfl, rfl, rfl, rfl, rfl, rfl, rfl, rfl, rfl, Or.inr hdm', by rw [HPL.out]; exact hdm⟩, hBe⟩
      · have hkb : decide ((2 : Int) + (xn : Int) ≤ (k2 : Int)) = true := by simp; omega
        obtain ⟨gp, op, rfl, d, hdm, _, p0, p1⟩ := ps_nth hp8 (i := 0) (by omega)
        simp only [Nat.zero_mul, Nat.add_zero] at p0 p1
        obtain ⟨a0, a1, a2, a3, a4, a5, a6, a7, a8, a9, a10, a11, a12, a13⟩ := opAt_of_block sv8.h0
        obtain ⟨m0, m1, m2, m3, m4, m5⟩ := mdAt_of sv8.h1
        have zf := fun j => frozen_of_block sv8.h0 j
        go_upto_region 11 with (first
          | (go_at_call 44; refine (abs_any m.mb hm.mb _).mono ?_; rintro e wq ⟨rfl, rfl⟩)
          | (go_at_call 44; refine (abs_any m.ma hm.ma _).mono ?_; rintro e wq ⟨rfl, rfl⟩))
        have sv9 : SV w ((X8.setCell ⟨w.heap.size, 11, none⟩ (.int .i64 d.1)).setCell ⟨w.heap.size, 12, none⟩ (.int .i64 d.2)) { ({ o with key := m.key, bl0 := d'.1, bl1 := d'.2 } : OpIn) with pa0 := d.1, pa1 := d.2 } (.slice da dn dc) m := (sv8.set 11 _ rfl : SV w _ { ({ o with key := m.key, bl0 := d'.1, bl1 := d'.2 } : OpIn) with pa0 := d.1 } (.slice da dn dc) m).set 12 _ rfl
        clear a0 a1 a2 a3 a4 a5 a6 a7 a8 a9 a10 a11 a12 a13 m0 m1 m2 m3 m4 m5 zf
        clear sv8 hpl8 hp8
        generalize (X8.setCell ⟨w.heap.size, 11, none⟩ (.int .i64 d.1)).setCell ⟨w.heap.size, 12, none⟩ (.int .i64 d.2) = W9 at *
        obtain ⟨a0, a1, a2, a3, a4, a5, a6, a7, a8, a9, a10, a11, a12, a13⟩ := opAt_of_block sv9.h0
        obtain ⟨z0, z1, z2, z3, z4, z5, z6, z7, z8, z9, z10, z11, z12, z13⟩ := opAt_of_block sv9.h2
        have zf := fun j => frozen_of_block sv9.h2 j
        go_wp2
        change bodyPost _ _ _ _ _ (put14 W9 (w.heap.size + 1 + 1) { ({ o with key := m.key, bl0 := d'.1, bl1 := d'.2 } : OpIn) with pa0 := d.1, pa1 := d.2 } (.slice da dn dc))
        have hpb := put14_block (o := { ({ o with key := m.key, bl0 := d'.1, bl1 := d'.2 } : OpIn) with pa0 := d.1, pa1 := d.2 }) (v := .slice da dn dc) sv9.h2
        have hBe : RowKit.Below w.heap.size w (put14 W9 (w.heap.size + 1 + 1) { ({ o with key := m.key, bl0 := d'.1, bl1 := d'.2 } : OpIn) with pa0 := d.1, pa1 := d.2 } (.slice da dn dc)) := sv9.hB.grown (put14_grown W9 (w.heap.size + 1 + 1) _ _) (by have := sv9.sz; omega) (fun j hj => by cases hj; omega)
        generalize put14 W9 (w.heap.size + 1 + 1) { ({ o with key := m.key, bl0 := d'.1, bl1 := d'.2 } : OpIn) with pa0 := d.1, pa1 := d.2 } (.slice da dn dc) = WE at *
        obtain ⟨r0, r1, r2, r3, r4, r5, r6, r7, r8, r9, r10, r11, r12, r13⟩ := opAt_of_block hpb
        exact bodyPost_ret (v := ov { ({ o with key := m.key, bl0 := d'.1, bl1 := d'.2 } : OpIn) with pa0 := d.1, pa1 := d.2 } (.slice da dn dc)) (by simp [results, Try.results68, go_sem, r0, r1, r2, r3, r4, r5, r6, r7, r8, r9, r10, r11, r12, r13, OpIn.cells]) rfl ⟨_, rfl, ⟨rfl, rfl, rfl, rfl, rfl, rfl, rfl, rfl, rfl, Or.inr hdm', by rw [HPL.out]; exact hdm⟩, hBe⟩
    · have hrb : decide (0 < absI m.ma % 3) = false := by simp [hr]
      have hrc : decide (0 < (absI m.ma).tmod 3) = false := by rw [Int.tmod_eq_emod_of_nonneg hma.1]; simp [hr]
      have k2r := tmod_range hmb.1 (show (0 : Int) < ((2 + xn : Nat) : Int) + 2 by omega)
      obtain ⟨k2, hk2⟩ := nat_of k2r.1
      have hk2l : k2 < 2 + xn + 2 := by omega
      have hk2' : (absI m.mb).tmod ((2 : Int) + (xn : Int) + 2) = (k2 : Int) := by rw [← hk2]; congr 1
      have hp8 := own_ps_at' hpl8 HPl.out
      by_cases hk : k2 < 2 + xn
      · have hkb : decide ((2 : Int) + (xn : Int) ≤ (k2 : Int)) = false := by simp; omega
        obtain ⟨gp, op, rfl, d, hdm, _, p0, p1⟩ := ps_nth hp8 (i := k2) (by omega)
        obtain ⟨a0, a1, a2, a3, a4, a5, a6, a7, a8, a9, a10, a11, a12, a13⟩ := opAt_of_block sv8.h0
        obtain ⟨m0, m1, m2, m3, m4, m5⟩ := mdAt_of sv8.h1
        have zf := fun j => frozen_of_block sv8.h0 j
        go_upto_region 11 with (first
          | (go_at_call 44; refine (abs_any m.mb hm.mb _).mono ?_; rintro e wq ⟨rfl, rfl⟩)
          | (go_at_call 44; refine (abs_any m.ma hm.ma _).mono ?_; rintro e wq ⟨rfl, rfl⟩))
        have sv9 : SV w ((W8.setCell ⟨w.heap.size, 11, none⟩ (.int .i64 d.1)).setCell ⟨w.heap.size, 12, none⟩ (.int .i64 d.2)) { ({ o with key := m.key, bl0 := o.id0, bl1 := o.id1 } : OpIn) with pa0 := d.1, pa1 := d.2 } (.slice da dn dc) m := (sv8.set 11 _ rfl : SV w _ { ({ o with key := m.key, bl0 := o.id0, bl1 := o.id1 } : OpIn) with pa0 := d.1 } (.slice da dn dc) m).set 12 _ rfl
        clear a0 a1 a2 a3 a4 a5 a6 a7 a8 a9 a10 a11 a12 a13 m0 m1 m2 m3 m4 m5 zf
        clear sv8 hpl8 hp8
        generalize (W8.setCell ⟨w.heap.size, 11, none⟩ (.int .i64 d.1)).setCell ⟨w.heap.size, 12, none⟩ (.int .i64 d.2) = W9 at *
        obtain ⟨a0, a1, a2, a3, a4, a5, a6, a7, a8, a9, a10, a11, a12, a13⟩ := opAt_of_block sv9.h0
        obtain ⟨z0, z1, z2, z3, z4, z5, z6, z7, z8, z9, z10, z11, z12, z13⟩ := opAt_of_block sv9.h2
        have zf := fun j => frozen_of_block sv9.h2 j
        go_wp2
        change bodyPost _ _ _ _ _ (put14 W9 (w.heap.size + 1 + 1) { ({ o with key := m.key, bl0 := o.id0, bl1 := o.id1 } : OpIn) with pa0 := d.1, pa1 := d.2 } (.slice da dn dc))
        have hpb := put14_block (o := { ({ o with key := m.key, bl0 := o.id0, bl1 := o.id1 } : OpIn) with pa0 := d.1, pa1 := d.2 }) (v := .slice da dn dc) sv9.h2
        have hBe : RowKit.Below w.heap.size w (put14 W9 (w.heap.size + 1 + 1) { ({ o with key := m.key, bl0 := o.id0, bl1 := o.id1 } : OpIn) with pa0 := d.1, pa1 := d.2 } (.slice da dn dc)) := sv9.hB.grown (put14_grown W9 (w.heap.size + 1 + 1) _ _) (by have := sv9.sz; omega) (fun j hj => by cases hj; omega)
        generalize put14 W9 (w.heap.size + 1 + 1) { ({ o with key := m.key, bl0 := o.id0, bl1 := o.id1 } : OpIn) with pa0 := d.1, pa1 := d.2 } (.slice da dn dc) = WE at *
        obtain ⟨r0, r1, r2, r3, r4, r5, r6, r7, r8, r9, r10, r11, r12, r13⟩ := opAt_of_block hpb
        exact bodyPost_ret (v := ov { ({ o with key := m.key, bl0 := o.id0, bl1 := o.id1 } : OpIn) with pa0 := d.1, pa1 := d.2 } (.slice da dn dc)) (by simp [results, Try.results68, go_sem, r0, r1, r2, r3, r4, r5, r6, r7, r8, r9, r10, r11, r12, r13, OpIn.cells]) rfl ⟨_, rfl, ⟨rfl, rfl, rfl, rfl, rfl, rfl, rfl, rfl, rfl, Or.inl ⟨rfl, rfl⟩, by rw [HPL.out]; exact hdm⟩, hBe⟩
      · have hkb : decide ((2 : Int) + (xn : Int) ≤ (k2 : Int)) = true := by simp; omega
        obtain ⟨gp, op, rfl, d, hdm, _, p0, p1⟩ := ps_nth hp8 (i := 0) (by omega)
        simp only [Nat.zero_mul, Nat.add_zero] at p0 p1
        obtain ⟨a0, a1, a2, a3, a4, a5, a6, a7, a8, a9, a10, a11, a12, a13⟩ := opAt_of_block sv8.h0
        obtain ⟨m0, m1, m2, m3, m4, m5⟩ := mdAt_of sv8.h1
        have zf := fun j => frozen_of_block sv8.h0 j
        go_upto_region 11 with (first
          | (go_at_call 44; refine (abs_any m.mb hm.mb _).mono ?_; rintro e wq ⟨rfl, rfl⟩)
          | (go_at_call 44; refine (abs_any m.ma hm.ma _).mono ?_; rintro e wq ⟨rfl, rfl⟩))
        have sv9 : SV w ((W8.setCell ⟨w.heap.size, 11, none⟩ (.int .i64 d.1)).setCell ⟨w.heap.size, 12, none⟩ (.int .i64 d.2)) { ({ o with key := m.key, bl0 := o.id0, bl1 := o.id1 } : OpIn) with pa0 := d.1, pa1 := d.2 } (.slice da dn dc) m := (sv8.set 11 _ rfl : SV w _ { ({ o with key := m.key, bl0 := o.id0, bl1 := o.id1 } : OpIn) with pa0 := d.1 } (.slice da dn dc) m).set 12 _ rfl
        clear a0 a1 a2 a3 a4 a5 a6 a7 a8 a9 a10 a11 a12 a13 m0 m1 m2 m3 m4 m5 zf
        clear sv8 hpl8 hp8
        generalize (W8.setCell ⟨w.heap.size, 11, none⟩ (.int .i64 d.1)).setCell ⟨w.heap.size, 12, none⟩ (.int .i64 d.2) = W9 at *
        obtain ⟨a0, a1, a2, a3, a4, a5, a6, a7, a8, a9, a10, a11, a12, a13⟩ := opAt_of_block sv9.h0
        obtain ⟨z0, z1, z2, z3, z4, z5, z6, z7, z8, z9, z10, z11, z12, z13⟩ := opAt_of_block sv9.h2
        have zf := fun j => frozen_of_block sv9.h2 j
        go_wp2
        change bodyPost _ _ _ _ _ (put14 W9 (w.heap.size + 1 + 1) { ({ o with key := m.key, bl0 := o.id0, bl1 := o.id1 } : OpIn) with pa0 := d.1, pa1 := d.2 } (.slice da dn dc))
        have hpb := put14_block (o := { ({ o with key := m.key, bl0 := o.id0, bl1 := o.id1 } : OpIn) with pa0 := d.1, pa1 := d.2 }) (v := .slice da dn dc) sv9.h2
        have hBe : RowKit.Below w.heap.size w (put14 W9 (w.heap.size + 1 + 1) { ({ o with key := m.key, bl0 := o.id0, bl1 := o.id1 } : OpIn) with pa0 := d.1, pa1 := d.2 } (.slice da dn dc)) := sv9.hB.grown (put14_grown W9 (w.heap.size + 1 + 1) _ _) (by have := sv9.sz; omega) (fun j hj => by cases hj; omega)
        generalize put14 W9 (w.heap.size + 1 + 1) { ({ o with key := m.key, bl0 := o.id0, bl1 := o.id1 } : OpIn) with pa0 := d.1, pa1 := d.2 } (.slice da dn dc) = WE at *
        obtain ⟨r0, r1, r2, r3, r4, r5, r6, r7, r8, r9, r10, r11, r12, r13⟩ := opAt_of_block hpb
        exact bodyPost_ret (v := ov { ({ o with key := m.key, bl0 := o.id0, bl1 := o.id1 } : OpIn) with pa0 := d.1, pa1 := d.2 } (.slice da dn dc)) (by simp [results, Try.results68, go_sem, r0, r1, r2, r3, r4, r5, r6, r7, r8, r9, r10, r11, r12, r13, OpIn.cells]) rfl ⟨_, rfl, ⟨rfl, rfl, rfl, rfl, rfl, rfl, rfl, rfl, rfl, Or.inl ⟨rfl, rfl⟩, by rw [HPL.out]; exact hdm⟩, hBe⟩
end

section
open Go.RowKit
open Go.Sort (grow)

/-- The slice (a, n, c) holds these operations, wherever their Deps lie. -/
structure RS (w : World) (a : Option Addr) (n c : Nat) (L : List Mo) : Prop where
  len : L.length = n
  cap : n ≤ c
  max : c ≤ maxLen
  nil : a = none → n = 0 ∧ c = 0
  cells : ∀ ad, a = some ad → ∀ j u, (flo L)[j]? = some u → w.cell? (ad.add j) = some u

theorem OS.rs {w : World} {a : Option Addr} {n c : Nat} {L : List Mo} (h : OS w a n c L) : RS w a n c L := ⟨h.len, h.cap, h.max, h.nil, h.cells⟩

theorem RS.below {w w' : World} {a : Option Addr} {n c : Nat} {L : List Mo} (h : RS w a n c L) (hb : RowKit.Below w.heap.size w w') : RS w' a n c L :=
  ⟨h.len, h.cap, h.max, h.nil, fun ad ha j u hj => by
    have := h.cells ad ha j u hj
    rw [hb.cell (cell_in this)]
    exact this⟩

theorem flo_take_get {L : List Mo} {k j : Nat} {u : Value} (h : (flo (L.take k))[j]? = some u) : (flo L)[j]? = some u := by
  have e : flo L = flo (L.take k) ++ flo (L.drop k) := by rw [← flo_append, List.take_append_drop]
  have hl := (List.getElem?_eq_some_iff.1 h).1
  rw [e, List.getElem?_append_left hl]
  exact h

theorem flo_drop_get {L : List Mo} {k j : Nat} {u : Value} (hk : k ≤ L.length) (h : (flo (L.drop k))[j]? = some u) : (flo L)[k * 14 + j]? = some u := by
  have e : flo L = flo (L.take k) ++ flo (L.drop k) := by rw [← flo_append, List.take_append_drop]
  have hl : (flo (L.take k)).length = k * 14 := by rw [flo_length, List.length_take, Nat.min_eq_left hk]
  rw [e, List.getElem?_append_right (by omega), hl, Nat.add_sub_cancel_left]
  exact h

theorem RS.take {w : World} {a : Option Addr} {n c : Nat} {L : List Mo} (h : RS w a n c L) {k : Nat} (hk : k ≤ n) : RS w a k c (L.take k) :=
  ⟨by rw [List.length_take, h.len, Nat.min_eq_left hk], Nat.le_trans hk h.cap, h.max, fun e => ⟨by have := (h.nil e).1; omega, (h.nil e).2⟩, fun ad ha j u hj => h.cells ad ha j u (flo_take_get hj)⟩

theorem RS.drop {w : World} {g o : Nat} {n c : Nat} {L : List Mo} (h : RS w (some ⟨g, o, none⟩) n c L) {k : Nat} (hk : k ≤ n) : RS w (some ⟨g, o + k * 14, none⟩) (n - k) (c - k) (L.drop k) :=
  ⟨by rw [List.length_drop, h.len], by have := h.cap; omega, by have := h.max; omega, (fun e => by cases e), fun ad ha j u hj => by
    cases ha
    have := h.cells _ rfl (k * 14 + j) u (flo_drop_get (by rw [h.len]; exact hk) hj)
    rw [add_none] at this ⊢
    rw [Nat.add_assoc]
    exact this⟩

theorem RS.no {w : World} {a : Option Addr} {n c : Nat} {L : List Mo} (h : RS w a n c L) : RS w a 0 c [] :=
  ⟨rfl, Nat.zero_le _, h.max, fun e => ⟨rfl, (h.nil e).2⟩, fun _ _ _ _ hj => (by simp [flo] at hj)⟩

theorem RS.at {w : World} {a : Option Addr} {n c : Nat} {L : List Mo} (h : RS w a n c L) (hp : 0 < n) :
    ∃ g o, a = some ⟨g, o, Option.none⟩ ∧ g < w.heap.size ∧ ∀ i (hi : i < L.length), OpAtO w g (o + i * 14) L[i] := by
  have hos : ∀ L' : List Mo, (L'.map fun x => (⟨x.o, x.a, x.n, x.c, x.V⟩ : Mo)) = L' := fun L' => by simp
  cases a with
  | none => have := (h.nil rfl).1; omega
  | some ad =>
    have hc := h.cells ad rfl
    obtain ⟨g, o, sp⟩ := ad
    have hl : 0 < L.length := by rw [h.len]; exact hp
    have h0 := hc 0 (.int .i64 (L[0]).o.id0) (by have := flo_get L 0 hl 0 (by omega); simpa [Mo.cells] using this)
    have hspot : sp = Option.none := by simpa [Addr.add] using World.cell?_spot h0
    subst hspot
    have each : ∀ i (hi : i < L.length) j (_ : j < 14) u, (L[i]).cells[j]? = some u → w.cell? ⟨g, o + i * 14 + j, Option.none⟩ = some u := fun i hi j hj u hu => by
      have := hc (i * 14 + j) u (by rw [flo_get L i hi j hj]; exact hu)
      rw [add_none, ← Nat.add_assoc] at this
      exact this
    refine ⟨g, o, rfl, by have := cell_in h0; simpa [Addr.add] using this, fun i hi => ?_⟩
    exact ⟨each i hi 0 (by omega) _ rfl, each i hi 1 (by omega) _ rfl, each i hi 2 (by omega) _ rfl, each i hi 3 (by omega) _ rfl, each i hi 4 (by omega) _ rfl, each i hi 5 (by omega) _ rfl, each i hi 6 (by omega) _ rfl,
      each i hi 7 (by omega) _ rfl, each i hi 8 (by omega) _ rfl, each i hi 9 (by omega) _ rfl, each i hi 10 (by omega) _ rfl, each i hi 11 (by omega) _ rfl, each i hi 12 (by omega) _ rfl, each i hi 13 (by omega) _ rfl⟩
end

section
open Go.RowKit
open Go.Sort (grow)

/-- With one that may be: in new memory. -/
theorem rwith_own {a : Option Addr} {n c : Nat} {A : List Dt} {w : World} (d : Dt) (hd : mayd d = true) (hs : PS w a n c A) (hn : n ≤ 1000000) (hA : VM A) : Calls Try.prog 46 #[.slice a n c, dv d] w (Gives w (vwith A d)) := by
  obtain ⟨d1, d2⟩ := d
  have b0 : RowKit.Below w.heap.size w (w.alloc (.cells #[.int .i64 d1, .int .i64 d2] 24)) := (Below.refl _ w).alloc (Nat.le_refl _) _
  have hM := rmay_any (d1, d2) (w.alloc (.cells #[.int .i64 d1, .int .i64 d2] 24))
  have k0 : (w.alloc (.cells #[.int .i64 d1, .int .i64 d2] 24)).cell? ⟨w.heap.size, 0, none⟩ = some (.int .i64 d1) := by go_simp
  have k1 : (w.alloc (.cells #[.int .i64 d1, .int .i64 d2] 24)).cell? ⟨w.heap.size, 1, none⟩ = some (.int .i64 d2) := by go_simp
  have hk : w.heap.size < (w.alloc (.cells #[.int .i64 d1, .int .i64 d2] 24)).heap.size := by simp
  have hv : Hid (vwith A (d1, d2) = vjoin A [(d1, d2)]) := hid (by unfold vwith; rw [if_pos hd])
  have hone := hid (vm_one hd)
  rw [hd] at hM
  go_enter Try.func46, Try.ntmps46
  go_wp2_with (first
    | (go_at_call 65; have hq := f0; refine (rjoin_any (A := A) (B := [(d1, d2)]) (hsW.below ((Below.refl _ w1).alloc (Nat.le_refl _) _)) hn (ps_one w1 (d1, d2)) (by omega) hA hone.out).mono ?_; rintro e w2 ⟨v2, rfl, ho2, hb2⟩)
    | (go_at_call 64; refine hM.mono ?_; rintro e w1 ⟨rfl, hF1⟩; have f0 := (hF1.below.cell (p := ⟨w.heap.size, 0, none⟩) hk).trans k0; have f1 := (hF1.below.cell (p := ⟨w.heap.size, 1, none⟩) hk).trans k1; have hbw := below2 b0 hF1.below; have hsW := hs.below hbw))
  go_ret
  rw [hv.out]
  have hbb : RowKit.Below w.heap.size w w2 := below2 hbw (below2 ((Below.refl _ w1).alloc (Nat.le_refl _) _) hb2)
  exact ⟨v2, rfl, sbase ho2 (by have := hbw.size; simp; omega), hbb⟩
end
end Go.Proofs.Ytplcohjpchfkkaa
