/- Stories: one, what it is told by. -/
import Derived.Test.YtbpepmajpojacaaSMove
import Derived.Deep.RegionHeld
import Derived.Deep.CutRange
namespace Go.Proofs.Ytbpepmajpojacaa
open Go.RowKit
open Go.Sort (grow)

/-- The blocks that are had, in the order of the operations; the characters of one. -/
def blkL (V : List Dt) (l : List Mo) : List Dt := (l.filter (fun x => hasv V x.o.id && (x.o.kind == 3) && ((x.o.bl0 == x.o.id0) && (x.o.bl1 == x.o.id1)))).map (fun x => x.o.id)
def chrL (V : List Dt) (b0 b1 : Int) (l : List Mo) : List Dt := (l.filter (fun x => hasv V x.o.id && (x.o.kind == 1) && ((x.o.bl0 == b0) && (x.o.bl1 == b1)))).map (fun x => x.o.id)

/-- The first form of an operation. -/
def oneI (act s t kd : Int) : OpIn := ⟨act, s, t, kd, 0, 0, 0, 0, 0, 0, 0, 0, { data := #[] }⟩

/-- The blocks of a call of one. -/
structure OV (w W : World) (qo : Nat) (o : OpIn) (dep : Value) (m : Md) : Prop where
  h0 : W.heap[w.heap.size]? = some (.cells m.cells 82)
  h1 : W.heap[w.heap.size + 1]? = some (.cells (zop.cells (.slice none 0 0)) 52)
  h2 : W.heap[qo]? = some (.cells (o.cells dep) 52)
  hq : w.heap.size + 2 ≤ qo
  hB : RowKit.Below w.heap.size w W

theorem wrap_same {x : Int} (h0 : -9223372036854775808 ≤ x) (h1 : x ≤ 9223372036854775807) : IntKind.i64.wrap x = x := by
  rw [IntKind.wrap_i64]
  omega

theorem mvd_fits {act s t : Int} {Bs : List Dt} {key : ByteArray} {o' : OpIn} (h : Mvd (oneI act s t 3) Bs key o') (ha : F64 act) (hs : F64 s) (ht : F64 t) (hB : ∀ b ∈ Bs, Dw b) (hk : key.size ≤ maxLen) : o'.Fits := by
  have w0 : (Lit.int .i64 0).wf = true := by decide
  have hbl : (Lit.int .i64 o'.bl0).wf = true ∧ (Lit.int .i64 o'.bl1).wf = true := by
    rcases h.bl with ⟨e0, e1⟩ | hb
    · rw [e0, e1]; exact ⟨wf_i64 ha.1 ha.2, wf_i64 hs.1 hs.2⟩
    · exact hB _ hb
  have hpa : (Lit.int .i64 o'.pa0).wf = true ∧ (Lit.int .i64 o'.pa1).wf = true := by
    rcases List.mem_append.1 h.par with hp | hp
    · simp only [List.mem_cons, Prod.mk.injEq, List.not_mem_nil, or_false] at hp
      rcases hp with ⟨e0, e1⟩ | ⟨e0, e1⟩ <;> rw [e0, e1] <;> exact ⟨by decide, by decide⟩
    · exact hB _ hp
  exact ⟨by rw [h.id0]; exact wf_i64 ha.1 ha.2, by rw [h.id1]; exact wf_i64 hs.1 hs.2, by rw [h.time]; exact wf_i64 ht.1 ht.2, by rw [h.kind]; show (Lit.int .i64 3).wf = true; decide, hbl.1, hbl.2, by rw [h.at0]; exact w0, by rw [h.at1]; exact w0, by rw [h.side]; exact w0, by rw [h.char]; exact w0, hpa.1, hpa.2, by rw [h.key]; exact hk⟩

theorem mvd_kd {A : List Mop} {V : List Dt} {act s t : Int} {Bs : List Dt} {key : ByteArray} {o' : OpIn} (h : Mvd (oneI act s t 3) Bs key o') (hB : ∀ b ∈ Bs, isBlk A V b) : KD A o' V := by
  refine Or.inl ⟨h.kind, ?_, ?_⟩
  · rcases h.bl with ⟨e0, e1⟩ | hb
    · exact Or.inl ⟨e0.trans h.id0.symm, e1.trans h.id1.symm⟩
    · exact Or.inr (hB _ hb)
  · rcases List.mem_append.1 h.par with hp | hp
    · simp only [List.mem_cons, List.not_mem_nil, or_false] at hp
      rcases hp with e | e
      · exact Or.inl e
      · exact Or.inr (Or.inl e)
    · exact Or.inr (Or.inr (hB _ hp))

theorem OV.grown {w W W' : World} {qo : Nat} {o : OpIn} {dep : Value} {m : Md} {r : Option Nat} (h : OV w W qo o dep m) (hg : W.grownBy W' r) (hr : ∀ j, r = some j → W.heap.size ≤ j) : OV w W' qo o dep m := by
  have s0 := (Array.getElem?_eq_some_iff.1 h.h0).1
  have s1 := (Array.getElem?_eq_some_iff.1 h.h1).1
  have s2 := (Array.getElem?_eq_some_iff.1 h.h2).1
  have hne : ∀ k, k < W.heap.size → some k ≠ r := fun k hk e => by have := hr k e.symm; omega
  exact ⟨(hg.block _ s0 (hne _ s0)).trans h.h0, (hg.block _ s1 (hne _ s1)).trans h.h1, (hg.block _ s2 (hne _ s2)).trans h.h2, h.hq, h.hB.grown hg (by omega) (fun j hj => by have := hr j hj; omega)⟩

theorem OV.below {w W W' : World} {qo : Nat} {o : OpIn} {dep : Value} {m : Md} (h : OV w W qo o dep m) (hb : RowKit.Below W.heap.size W W') : OV w W' qo o dep m := h.grown (below_grown hb) (fun j hj => by cases hj)

theorem OV.set {w W : World} {qo : Nat} {o o' : OpIn} {dep : Value} {m : Md} (h : OV w W qo o dep m) (j : Nat) (v : Value) (he : (o.cells dep).setIfInBounds j v = o'.cells dep) : OV w (W.setCell ⟨qo, j, none⟩ v) qo o' dep m := by
  have hq := h.hq
  have s2 := (Array.getElem?_eq_some_iff.1 h.h2).1
  refine ⟨(set_other (by omega) v).trans h.h0, (set_other (by omega) v).trans h.h1, ?_, h.hq, below_set h.hB (by omega) (by omega) j v⟩
  rw [set_block h.h2 v, he]

theorem blkL_is {V : List Dt} {L : List Mo} {b : Dt} (h : b ∈ blkL V L) : isBlk (L.map Mo.m) V b ∧ ∃ x ∈ L, x.o.id = b := by
  obtain ⟨x, hx, rfl⟩ := List.mem_map.1 h
  obtain ⟨hL, hc⟩ := List.mem_filter.1 hx
  simp only [Bool.and_eq_true, beq_iff_eq] at hc
  exact ⟨⟨x.m, List.mem_map.2 ⟨x, hL, rfl⟩, hc.1.1, hc.1.2, hc.2.1, hc.2.2, rfl⟩, x, hL, rfl⟩
theorem chrL_is {V : List Dt} {b0 b1 : Int} {L : List Mo} {d : Dt} (h : d ∈ chrL V b0 b1 L) : isChr (L.map Mo.m) V b0 b1 d ∧ ∃ x ∈ L, x.o.id = d ∧ hasv V x.o.id = true := by
  obtain ⟨x, hx, rfl⟩ := List.mem_map.1 h
  obtain ⟨hL, hc⟩ := List.mem_filter.1 hx
  simp only [Bool.and_eq_true, beq_iff_eq] at hc
  exact ⟨⟨x.m, List.mem_map.2 ⟨x, hL, rfl⟩, hc.1.1, hc.1.2, hc.2.1, hc.2.2, rfl⟩, x, hL, rfl, hc.1.1⟩

theorem fits_all {i0 i1 t k b0 b1 a0 a1 s c : Int} (h0 : (Lit.int .i64 i0).wf = true) (h1 : (Lit.int .i64 i1).wf = true) (h2 : (Lit.int .i64 t).wf = true) (h3 : (Lit.int .i64 k).wf = true) (h4 : (Lit.int .i64 b0).wf = true) (h5 : (Lit.int .i64 b1).wf = true) (h6 : (Lit.int .i64 a0).wf = true) (h7 : (Lit.int .i64 a1).wf = true) (h8 : (Lit.int .i64 s).wf = true) (h9 : (Lit.int .i64 c).wf = true) : (⟨i0, i1, t, k, b0, b1, a0, a1, s, c, 0, 0, { data := #[] }⟩ : OpIn).Fits :=
  ⟨h0, h1, h2, h3, h4, h5, h6, h7, h8, h9, show (Lit.int .i64 0).wf = true by decide, show (Lit.int .i64 0).wf = true by decide, Nat.zero_le _⟩

theorem wf_of {n : Int} (h : F64 n) : (Lit.int .i64 n).wf = true := wf_i64 h.1 h.2
theorem wf_b {n : Int} (h0 : -10000000000000 ≤ n) (h1 : n ≤ 10000000000000) : (Lit.int .i64 n).wf = true := wf_i64 (by omega) (by omega)

theorem own_kept_v {w w' : World} {base : Nat} {v : Value} {L : List Dt} (h : OwnV w base v L) (hb : RowKit.Below w.heap.size w w') : OwnV w' base v L := World.ownsRow.kept h (below_grown hb) none_or

theorem blkL_snoc (V : List Dt) (l : List Mo) (x : Mo) : blkL V (l ++ [x]) = blkL V l ++ (if (hasv V x.o.id && (x.o.kind == 3) && ((x.o.bl0 == x.o.id0) && (x.o.bl1 == x.o.id1))) = true then [x.o.id] else []) := by
  unfold blkL
  rw [List.filter_append, List.map_append]
  congr 1
  split
  · rename_i h; rw [List.filter_cons_of_pos (by exact h)]; rfl
  · rename_i h; rw [List.filter_cons_of_neg (by exact h)]; rfl

theorem chrL_snoc (V : List Dt) (b0 b1 : Int) (l : List Mo) (x : Mo) : chrL V b0 b1 (l ++ [x]) = chrL V b0 b1 l ++ (if (hasv V x.o.id && (x.o.kind == 1) && ((x.o.bl0 == b0) && (x.o.bl1 == b1))) = true then [x.o.id] else []) := by
  unfold chrL
  rw [List.filter_append, List.map_append]
  congr 1
  split
  · rename_i h; rw [List.filter_cons_of_pos (by exact h)]; rfl
  · rename_i h; rw [List.filter_cons_of_neg (by exact h)]; rfl

theorem blkL_len (V : List Dt) (l : List Mo) : (blkL V l).length ≤ l.length := by
  unfold blkL
  rw [List.length_map]
  exact List.length_filter_le _ _
theorem chrL_len (V : List Dt) (b0 b1 : Int) (l : List Mo) : (chrL V b0 b1 l).length ≤ l.length := by
  unfold chrL
  rw [List.length_map]
  exact List.length_filter_le _ _

theorem two_new (w : World) (A B : Obj) : ((w.alloc A).alloc B).heap[w.heap.size]? = some A ∧ ((w.alloc A).alloc B).heap[w.heap.size + 1]? = some B ∧ ((w.alloc A).alloc B).heap.size = w.heap.size + 2 ∧ RowKit.Below w.heap.size w ((w.alloc A).alloc B) := by
  refine ⟨((World.grownBy_alloc (w.alloc A) B none).block w.heap.size (by simp) (by simp)).trans (MapKept.heap_alloc w A).1, ?_, by simp, (((Far.refl w).alloc A).alloc B).below⟩
  have := (MapKept.heap_alloc (w.alloc A) B).1
  rw [World.size_alloc] at this
  exact this

theorem one_a {W w1 : World} (h : Far W w1) (C : Obj) : (w1.alloc C).heap[w1.heap.size]? = some C ∧ W.heap.size ≤ w1.heap.size ∧ RowKit.Below W.heap.size W (w1.alloc C) := ⟨(MapKept.heap_alloc w1 C).1, h.below.size, (h.alloc C).below⟩

theorem one_b {W w1 : World} {Y : Obj} (h : Far (W.alloc Y).drew w1) (hY : Y = .cells (zop.cells (.slice none 0 0)) 52) (o : OpIn) (v : Value) : (put14 w1 W.heap.size o v).heap[W.heap.size]? = some (.cells (o.cells v) 52) ∧ RowKit.Below W.heap.size W (put14 w1 W.heap.size o v) := by
  have h0 : W.heap.size < (W.alloc Y).drew.heap.size := by show W.heap.size < (W.alloc Y).heap.size; simp
  have h1 := (h.below.block _ h0).trans (MapKept.heap_alloc W Y).1
  rw [hY] at h1
  have hF : Far W w1 := (((Far.refl W).alloc Y).drew).trans h
  have G := put14_grown w1 W.heap.size o v
  exact ⟨put14_block h1, hF.below.grown G hF.below.size (fun j hj => by cases hj; exact Nat.le_refl _)⟩

end Go.Proofs.Ytbpepmajpojacaa
