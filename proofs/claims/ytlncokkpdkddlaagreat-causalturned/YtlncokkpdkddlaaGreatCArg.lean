/- What came in: dots, operations, rows of them. -/
import Derived.Test.YtlncokkpdkddlaaGreatCTwo
import Derived.Test.YtlncokkpdkddlaaGreatWBel
import Derived.Test.YtlncokkpdkddlaaGreatRows
import Derived.Deep.SlicePairs
import Derived.ProofKit
import Derived.OpenShut
namespace Go.Proofs.YtlncokkpdkddlaaGreat
section
open Go.RowKit Go.Maps
open Go.Sort (grow)

theorem os_two (w : World) (x y : Mo) (hx : PS w x.a x.n x.c x.V) (hy : PS w y.a y.n y.c y.V) : OS (w.alloc (.cells (x.cells ++ y.cells).toArray 36)) (some ⟨w.heap.size, 0, none⟩) 2 2 [x, y] := by
  have hb := (MapKept.heap_alloc w (.cells (x.cells ++ y.cells).toArray 36)).1
  have hF := (Far.refl w).alloc (.cells (x.cells ++ y.cells).toArray 36)
  refine ⟨rfl, Nat.le_refl _, by decide, fun h => (by cases h), fun ad ha j u hj => ?_, fun z hz => ?_⟩
  · cases ha
    rw [add_none, Nat.zero_add]
    simp only [flo, List.append_nil] at hj
    simp only [World.cell?, hb]
    simpa using hj
  · rcases List.mem_cons.1 hz with rfl | hz
    · exact hx.far hF
    · simp at hz
      rw [hz]
      exact hy.far hF

theorem os_one (w : World) (x : Mo) (hx : PS w x.a x.n x.c x.V) : OS (w.alloc (.cells x.cells.toArray 36)) (some ⟨w.heap.size, 0, none⟩) 1 1 [x] := by
  have hb := (MapKept.heap_alloc w (.cells x.cells.toArray 36)).1
  have hF := (Far.refl w).alloc (.cells x.cells.toArray 36)
  refine ⟨rfl, Nat.le_refl _, by decide, fun h => (by cases h), fun ad ha j u hj => ?_, fun z hz => ?_⟩
  · cases ha
    rw [add_none, Nat.zero_add]
    simp only [flo, List.append_nil] at hj
    simp only [World.cell?, hb]
    simpa using hj
  · simp at hz
    rw [hz]
    exact hx.far hF

/-- What lies in memory: the dot, both operations, the second one's Deps. -/
structure Aw (w : World) (d q2 q3 b3 : Nat) : Prop where
  d0 : w.cell? ⟨d, 0, none⟩ = some (.int .i64 1)
  d1 : w.cell? ⟨d, 1, none⟩ = some (.int .i64 1)
  h2 : w.heap[q2]? = some (.cells (mka.cells (.slice none 0 0)) 36)
  h3 : w.heap[q3]? = some (.cells (mkb.cells (.slice (some ⟨b3, 0, none⟩) 1 1)) 36)
  hb : w.heap[b3]? = some (.cells #[.int .i64 1, .int .i64 1] 32)

theorem Aw.below {w w' : World} {d q2 q3 b3 : Nat} (h : Aw w d q2 q3 b3) (hB : RowKit.Below w.heap.size w w') : Aw w' d q2 q3 b3 :=
  ⟨(hB.cell (cell_in h.d0)).trans h.d0, (hB.cell (cell_in h.d1)).trans h.d1, (hB.block q2 (Array.getElem?_eq_some_iff.1 h.h2).1).trans h.h2, (hB.block q3 (Array.getElem?_eq_some_iff.1 h.h3).1).trans h.h3, (hB.block b3 (Array.getElem?_eq_some_iff.1 h.hb).1).trans h.hb⟩

theorem Aw.ps {w : World} {d q2 q3 b3 : Nat} (h : Aw w d q2 q3 b3) : PS w (some ⟨b3, 0, none⟩) 1 1 [(1, 1)] := by
  have hb := h.hb
  refine ⟨rfl, Nat.le_refl _, by decide, fun h => (by cases h), fun ad ha j u hj => ?_⟩
  cases ha
  rw [add_none, Nat.zero_add]
  simp only [World.cell?, hb]
  simpa [flat] using hj

/-- As they lie in memory. -/
def moa : Mo := ⟨mka, none, 0, 0, []⟩
def mob (b3 : Nat) : Mo := ⟨mkb, some ⟨b3, 0, none⟩, 1, 1, [(1, 1)]⟩

theorem fit_ab (b3 : Nat) : ∀ x ∈ [mob b3, moa], x.o.Fits ∧ Dws x.V ∧ x.n ≤ 1000000 := by
  intro x hx
  rcases List.mem_cons.1 hx with rfl | hx
  · exact ⟨fits_mkb, dws_one, by show 1 ≤ 1000000; decide⟩
  · simp at hx
    rw [hx]
    exact ⟨fits_mka, fun d hd => (by simp [moa] at hd), by decide⟩

theorem ord_two (wc : World) (d q2 q3 b3 : Nat) (h : Aw wc d q2 q3 b3) :
    Calls Tryz.prog 8 #[.slice (some ⟨wc.heap.size, 0, none⟩) 2 2] (wc.alloc (.cells #[.int .i64 mkb.id0, .int .i64 mkb.id1, .int .i64 mkb.time, .slice (some ⟨b3, 0, none⟩) 1 1, .int .i64 mkb.kind, .int .i64 mkb.bl0, .int .i64 mkb.bl1, .int .i64 mkb.at0, .int .i64 mkb.at1, .int .i64 mkb.side, .int .i64 mkb.char, .int .i64 mkb.pa0, .int .i64 mkb.pa1, .string mkb.key, .int .i64 mka.id0, .int .i64 mka.id1, .int .i64 mka.time, .slice none 0 0, .int .i64 mka.kind, .int .i64 mka.bl0, .int .i64 mka.bl1, .int .i64 mka.at0, .int .i64 mka.at1, .int .i64 mka.side, .int .i64 mka.char, .int .i64 mka.pa0, .int .i64 mka.pa1, .string mka.key] 36)) fun e w' => ∃ (g o c1 : Nat) (a2 : Option Addr) (c2 : Nat) (x y : Mo), e = .returned (.tuple #[.slice (some ⟨g, o, none⟩) 2 c1, .slice a2 0 c2]) ∧ x.m = (mka, []) ∧ y.m = (mkb, [(1, 1)]) ∧ OS w' (some ⟨g, o, none⟩) 2 c1 [x, y] ∧ RowKit.Below wc.heap.size wc w' := by
  have hos : OS (wc.alloc (.cells #[.int .i64 mkb.id0, .int .i64 mkb.id1, .int .i64 mkb.time, .slice (some ⟨b3, 0, none⟩) 1 1, .int .i64 mkb.kind, .int .i64 mkb.bl0, .int .i64 mkb.bl1, .int .i64 mkb.at0, .int .i64 mkb.at1, .int .i64 mkb.side, .int .i64 mkb.char, .int .i64 mkb.pa0, .int .i64 mkb.pa1, .string mkb.key, .int .i64 mka.id0, .int .i64 mka.id1, .int .i64 mka.time, .slice none 0 0, .int .i64 mka.kind, .int .i64 mka.bl0, .int .i64 mka.bl1, .int .i64 mka.at0, .int .i64 mka.at1, .int .i64 mka.side, .int .i64 mka.char, .int .i64 mka.pa0, .int .i64 mka.pa1, .string mka.key] 36)) (some ⟨wc.heap.size, 0, none⟩) 2 2 [mob b3, moa] := os_two wc (mob b3) moa h.ps (PS.none wc)
  have hB : RowKit.Below wc.heap.size wc (wc.alloc (.cells #[.int .i64 mkb.id0, .int .i64 mkb.id1, .int .i64 mkb.time, .slice (some ⟨b3, 0, none⟩) 1 1, .int .i64 mkb.kind, .int .i64 mkb.bl0, .int .i64 mkb.bl1, .int .i64 mkb.at0, .int .i64 mkb.at1, .int .i64 mkb.side, .int .i64 mkb.char, .int .i64 mkb.pa0, .int .i64 mkb.pa1, .string mkb.key, .int .i64 mka.id0, .int .i64 mka.id1, .int .i64 mka.time, .slice none 0 0, .int .i64 mka.kind, .int .i64 mka.bl0, .int .i64 mka.bl1, .int .i64 mka.at0, .int .i64 mka.at1, .int .i64 mka.side, .int .i64 mka.char, .int .i64 mka.pa0, .int .i64 mka.pa1, .string mka.key] 36)) := (Below.refl _ _).alloc (Nat.le_refl _) _
  refine (order_taken _ 2 2 _ _ hos (fit_ab b3) (by decide)).mono ?_
  rintro e w' ⟨R, T, a1, c1, a2, c2, rfl, hT, h1, h2, hB'⟩
  obtain ⟨x, y, e1, hx, hy, e2, e3⟩ := in_two hT
  rw [e1, e3] at h1
  rw [e2] at h2
  obtain ⟨g, o, rfl, _, _⟩ := h1.at (by decide)
  exact ⟨g, o, c1, a2, c2, x, y, by rw [e2, e3]; rfl, hx, hy, h1, hB.trans (hB'.mono hB.size)⟩

theorem ord_one (wc : World) (d q2 q3 b3 : Nat) (h : Aw wc d q2 q3 b3) :
    Calls Tryz.prog 8 #[.slice (some ⟨wc.heap.size, 0, none⟩) 1 1] (wc.alloc (.cells #[.int .i64 mkb.id0, .int .i64 mkb.id1, .int .i64 mkb.time, .slice (some ⟨b3, 0, none⟩) 1 1, .int .i64 mkb.kind, .int .i64 mkb.bl0, .int .i64 mkb.bl1, .int .i64 mkb.at0, .int .i64 mkb.at1, .int .i64 mkb.side, .int .i64 mkb.char, .int .i64 mkb.pa0, .int .i64 mkb.pa1, .string mkb.key] 36)) fun e w' => ∃ (a1 : Option Addr) (c1 : Nat) (a2 : Option Addr) (c2 : Nat), e = .returned (.tuple #[.slice a1 0 c1, .slice a2 1 c2]) ∧ RowKit.Below wc.heap.size wc w' := by
  have hos : OS (wc.alloc (.cells #[.int .i64 mkb.id0, .int .i64 mkb.id1, .int .i64 mkb.time, .slice (some ⟨b3, 0, none⟩) 1 1, .int .i64 mkb.kind, .int .i64 mkb.bl0, .int .i64 mkb.bl1, .int .i64 mkb.at0, .int .i64 mkb.at1, .int .i64 mkb.side, .int .i64 mkb.char, .int .i64 mkb.pa0, .int .i64 mkb.pa1, .string mkb.key] 36)) (some ⟨wc.heap.size, 0, none⟩) 1 1 [mob b3] := os_one wc (mob b3) h.ps
  have hB : RowKit.Below wc.heap.size wc (wc.alloc (.cells #[.int .i64 mkb.id0, .int .i64 mkb.id1, .int .i64 mkb.time, .slice (some ⟨b3, 0, none⟩) 1 1, .int .i64 mkb.kind, .int .i64 mkb.bl0, .int .i64 mkb.bl1, .int .i64 mkb.at0, .int .i64 mkb.at1, .int .i64 mkb.side, .int .i64 mkb.char, .int .i64 mkb.pa0, .int .i64 mkb.pa1, .string mkb.key] 36)) := (Below.refl _ _).alloc (Nat.le_refl _) _
  refine (order_taken _ 1 1 _ _ hos (fun x hx => fit_ab b3 x (by simp at hx; simp [hx])) (by decide)).mono ?_
  rintro e w' ⟨R, T, a1, c1, a2, c2, rfl, hT, h1, h2, hB'⟩
  obtain ⟨e1, e2, e3⟩ := in_one hT
  exact ⟨a1, c1, a2, c2, by rw [e2, e3], hB.trans (hB'.mono hB.size)⟩

theorem front_ab (wc : World) (d q2 q3 b3 : Nat) (h : Aw wc d q2 q3 b3) :
    Calls Tryz.prog 14 #[.slice (some ⟨wc.heap.size, 0, none⟩) 2 2] (wc.alloc (.cells #[.int .i64 mka.id0, .int .i64 mka.id1, .int .i64 mka.time, .slice none 0 0, .int .i64 mka.kind, .int .i64 mka.bl0, .int .i64 mka.bl1, .int .i64 mka.at0, .int .i64 mka.at1, .int .i64 mka.side, .int .i64 mka.char, .int .i64 mka.pa0, .int .i64 mka.pa1, .string mka.key, .int .i64 mkb.id0, .int .i64 mkb.id1, .int .i64 mkb.time, .slice (some ⟨b3, 0, none⟩) 1 1, .int .i64 mkb.kind, .int .i64 mkb.bl0, .int .i64 mkb.bl1, .int .i64 mkb.at0, .int .i64 mkb.at1, .int .i64 mkb.side, .int .i64 mkb.char, .int .i64 mkb.pa0, .int .i64 mkb.pa1, .string mkb.key] 36)) fun e w' => ∃ (g o c : Nat), e = .returned (.slice (some ⟨g, o, none⟩) 1 c) ∧ w'.cell? ⟨g, o + 1, none⟩ = some (.int .i64 2) ∧ RowKit.Below wc.heap.size wc w' := by
  have hos : OS (wc.alloc (.cells #[.int .i64 mka.id0, .int .i64 mka.id1, .int .i64 mka.time, .slice none 0 0, .int .i64 mka.kind, .int .i64 mka.bl0, .int .i64 mka.bl1, .int .i64 mka.at0, .int .i64 mka.at1, .int .i64 mka.side, .int .i64 mka.char, .int .i64 mka.pa0, .int .i64 mka.pa1, .string mka.key, .int .i64 mkb.id0, .int .i64 mkb.id1, .int .i64 mkb.time, .slice (some ⟨b3, 0, none⟩) 1 1, .int .i64 mkb.kind, .int .i64 mkb.bl0, .int .i64 mkb.bl1, .int .i64 mkb.at0, .int .i64 mkb.at1, .int .i64 mkb.side, .int .i64 mkb.char, .int .i64 mkb.pa0, .int .i64 mkb.pa1, .string mkb.key] 36)) (some ⟨wc.heap.size, 0, none⟩) 2 2 [moa, mob b3] := os_two wc moa (mob b3) (PS.none wc) h.ps
  have hB : RowKit.Below wc.heap.size wc (wc.alloc (.cells #[.int .i64 mka.id0, .int .i64 mka.id1, .int .i64 mka.time, .slice none 0 0, .int .i64 mka.kind, .int .i64 mka.bl0, .int .i64 mka.bl1, .int .i64 mka.at0, .int .i64 mka.at1, .int .i64 mka.side, .int .i64 mka.char, .int .i64 mka.pa0, .int .i64 mka.pa1, .string mka.key, .int .i64 mkb.id0, .int .i64 mkb.id1, .int .i64 mkb.time, .slice (some ⟨b3, 0, none⟩) 1 1, .int .i64 mkb.kind, .int .i64 mkb.bl0, .int .i64 mkb.bl1, .int .i64 mkb.at0, .int .i64 mkb.at1, .int .i64 mkb.side, .int .i64 mkb.char, .int .i64 mkb.pa0, .int .i64 mkb.pa1, .string mkb.key] 36)) := (Below.refl _ _).alloc (Nat.le_refl _) _
  refine (front_any _ 2 2 _ _ hos (fun x hx => fit_ab b3 x (by simp at hx; rcases hx with rfl | rfl <;> simp)) (by decide)).mono ?_
  rintro e w' hg
  obtain ⟨a, c, rfl, hp, hB'⟩ := hg.ans
  have ef : frt ([moa, mob b3].map Mo.m) = [(1, 2)] := front_two
  rw [ef] at hp ⊢
  obtain ⟨g, o, rfl, _, hc⟩ := hp.at (by decide)
  exact ⟨g, o, c, rfl, (hc 0 (by decide)).2, hB.trans (hB'.mono hB.size)⟩

end

section
open Go.RowKit

theorem flat_map_get (f : Nat → Dt) (len : Nat) (j : Nat) (u : Value) (h : (flat ((List.range len).map f))[j]? = some u) : j < len * 2 ∧ ((j = j / 2 * 2 ∧ u = .int .i64 (f (j / 2)).1) ∨ (j = j / 2 * 2 + 1 ∧ u = .int .i64 (f (j / 2)).2)) := by
  have hj : j < len * 2 := by
    rcases Nat.lt_or_ge j (len * 2) with h' | h'
    · exact h'
    · rw [List.getElem?_eq_none (by rw [flat_length]; simpa using h')] at h; cases h
  refine ⟨hj, ?_⟩
  obtain ⟨f1, f2⟩ := flat_get ((List.range len).map f) (j / 2) (by simp; omega)
  rcases Nat.mod_two_eq_zero_or_one j with hm | hm
  · left
    have e : j = j / 2 * 2 := by omega
    refine ⟨e, ?_⟩
    rw [e] at h
    rw [f1] at h
    simpa using h.symm
  · right
    have e : j = j / 2 * 2 + 1 := by omega
    refine ⟨e, ?_⟩
    rw [e] at h
    rw [f2] at h
    simpa using h.symm

theorem open_dots {H : Type} {enc : TypeId × Value → H} {W : World} {a : Option Addr} {len cap : Nat} {d : DataW H} {p : List MemPlace} (h : DataW.Trod enc Tryz.prog W 0 (fun _ => true) true 33 (.slice a len cap) d p) :
    ∃ L, PS W a len cap L ∧ Dws L := by
  obtain ⟨fuel, hf⟩ := h
  rcases Go.Deep.open_slice_pairs Tryz.underlying33 Tryz.underlying32 dotCells rfl rfl intCells intCells hf with ⟨hcs, _⟩ | ⟨x, l, c, m, n, V0, V1, D0, D1, P0, P1, hcs, _, hl, hm, hmm, _, hx⟩
  · simp [Value.cells] at hcs
    obtain ⟨rfl, rfl, rfl⟩ := hcs
    exact ⟨[], PS.none W, fun d hd => by simp at hd⟩
  · simp [Value.cells] at hcs
    obtain ⟨rfl, rfl, rfl⟩ := hcs
    simp at hmm
    subst hmm
    have each : ∀ i, i < m → ∃ q : Dt, W.cell? (x.add (i * 2)) = some (.int .i64 q.1) ∧ W.cell? (x.add (i * 2 + 1)) = some (.int .i64 q.2) ∧ Dw q := by
      intro i hi
      obtain ⟨h0, h1, t0, t1⟩ := hx i hi
      obtain ⟨n0, e0, _, w0⟩ := DataW.trod_int Tryz.underlying3 t0
      obtain ⟨n1, e1, _, w1⟩ := DataW.trod_int Tryz.underlying3 t1
      simp at e0 e1
      rw [e0] at h0
      rw [e1] at h1
      exact ⟨(n0, n1), h0, h1, w0, w1⟩
    obtain ⟨f, hf⟩ := Go.Deep.choose_lt each
    refine ⟨(List.range len).map f, ⟨by simp, hl, hm, fun h => by simp at h, fun ad ha j u hj => ?_⟩, fun d hd => ?_⟩
    · cases ha
      obtain ⟨hj2, hc⟩ := flat_map_get f len j u hj
      have := hf (j / 2) (by omega)
      rcases hc with ⟨e, rfl⟩ | ⟨e, rfl⟩
      · rw [e, show j / 2 * 2 / 2 = j / 2 by omega]; exact this.1
      · rw [e, show (j / 2 * 2 + 1) / 2 = j / 2 by omega]; exact this.2.1
    · obtain ⟨i, hi, rfl⟩ := List.mem_map.1 hd
      exact (hf i (by have := List.mem_range.1 hi; omega)).2.2

theorem open_vec {H : Type} {enc : TypeId × Value → H} {W : World} {a : Option Addr} {len cap : Nat} {d : DataW H} {p : List MemPlace} (h : DataW.Trod enc Tryz.prog W 0 (fun _ => true) true 34 (.slice a len cap) d p) :
    ∃ L, PS W a len cap L ∧ Dws L := by
  obtain ⟨fuel, hf⟩ := h
  rcases Go.Deep.open_slice_pairs Tryz.underlying34 Tryz.underlying32 dotCells rfl rfl intCells intCells hf with ⟨hcs, _⟩ | ⟨x, l, c, m, n, V0, V1, D0, D1, P0, P1, hcs, _, hl, hm, hmm, _, hx⟩
  · simp [Value.cells] at hcs
    obtain ⟨rfl, rfl, rfl⟩ := hcs
    exact ⟨[], PS.none W, fun d hd => by simp at hd⟩
  · simp [Value.cells] at hcs
    obtain ⟨rfl, rfl, rfl⟩ := hcs
    simp at hmm
    subst hmm
    have each : ∀ i, i < m → ∃ q : Dt, W.cell? (x.add (i * 2)) = some (.int .i64 q.1) ∧ W.cell? (x.add (i * 2 + 1)) = some (.int .i64 q.2) ∧ Dw q := by
      intro i hi
      obtain ⟨h0, h1, t0, t1⟩ := hx i hi
      obtain ⟨n0, e0, _, w0⟩ := DataW.trod_int Tryz.underlying3 t0
      obtain ⟨n1, e1, _, w1⟩ := DataW.trod_int Tryz.underlying3 t1
      simp at e0 e1
      rw [e0] at h0
      rw [e1] at h1
      exact ⟨(n0, n1), h0, h1, w0, w1⟩
    obtain ⟨f, hf⟩ := Go.Deep.choose_lt each
    refine ⟨(List.range len).map f, ⟨by simp, hl, hm, fun h => by simp at h, fun ad ha j u hj => ?_⟩, fun d hd => ?_⟩
    · cases ha
      obtain ⟨hj2, hc⟩ := flat_map_get f len j u hj
      have := hf (j / 2) (by omega)
      rcases hc with ⟨e, rfl⟩ | ⟨e, rfl⟩
      · rw [e, show j / 2 * 2 / 2 = j / 2 by omega]; exact this.1
      · rw [e, show (j / 2 * 2 + 1) / 2 = j / 2 by omega]; exact this.2.1
    · obtain ⟨i, hi, rfl⟩ := List.mem_map.1 hd
      exact (hf i (by have := List.mem_range.1 hi; omega)).2.2

theorem cells27 : Tryz.prog.cellsOf 36 = 14 := by kernel_rfl
theorem cells25 : Tryz.prog.cellsOf 34 = 1 := by kernel_rfl
theorem cells9 : Tryz.prog.cellsOf 9 = 1 := by kernel_rfl

set_option maxRecDepth 100000 in
/-- An operation that came in: its numbers and its key, and the dots of its Deps. -/
theorem open_op7 {H : Type} {enc : TypeId × Value → H} {W : World} {r : Reach} {b0 : Nat} {v : Value} {d : DataW H} {p : List MemPlace} (hv : Value.okWide Tryz.prog W r b0 36 v) (h : DataW.Trod enc Tryz.prog W 0 (fun _ => true) true 36 v d p) :
    ∃ (o : OpIn) (a : Option Addr) (n c : Nat) (V : List Dt), v = ov o (.slice a n c) ∧ o.Fits ∧ PS W a n c V ∧ Dws V := by
  obtain ⟨o, a, n, c, du, pu, rfl, hf, ht, _⟩ := open_op Tryz.underlying36 rfl Tryz.underlying32 ⟨rfl, rfl, rfl, rfl⟩ Tryz.underlying3 Tryz.underlying9 Tryz.underlying34 cells27 dotCells intCells cells25 cells9 hv h
  obtain ⟨V, hV, hW⟩ := open_vec ht
  exact ⟨o, a, n, c, V, rfl, hf, hV, hW⟩

section
open Go.ChangeShapes Go.WideShapes
variable {H : Type} {enc : TypeId × Value → H} {P : Program} {w : World} {base : Nat} {spare : Nat → Bool} {held : Bool}

theorem open_opl {tOp tDot tInt tVec tStr te : TypeId} {fs : Array Field} {g0 g1 : Field} {L : List Value} {fuel : Nat} {x : DataW H × List MemPlace}
    (hO : P.underlying tOp = some (.struct fs)) (hF : fs.toList.map (fun f => (f.type, f.offset)) = opShape tDot tInt tVec tStr)
    (hD : P.underlying tDot = some (.struct #[g0, g1])) (hg : g0.type = tInt ∧ g0.offset = 0 ∧ g1.type = tInt ∧ g1.offset = 1) (hI : P.underlying tInt = some (.int .i64)) (hS : P.underlying tStr = some .string) (hV : P.underlying tVec = some (.slice te))
    (cO : P.cellsOf tOp = 14) (cD : P.cellsOf tDot = 2) (cI : P.cellsOf tInt = 1) (cV : P.cellsOf tVec = 1) (cS : P.cellsOf tStr = 1)
    (hf : DataW.trod enc P w base spare held fuel tOp L = some x) :
    ∃ (o : OpIn) (a : Option Addr) (len cap : Nat) (du : DataW H) (pu : List MemPlace), L = (o.cells (.slice a len cap)).toList ∧ o.Fits ∧ DataW.Trod enc P w base spare held tVec (.slice a len cap) du pu := by
  obtain ⟨xs, n, _, hx, hl, hlen, hq⟩ := DataW.trod_struct hO hf
  have F := fun i t o hi => fld (enc := enc) (w := w) (base := base) (spare := spare) (held := held) hF hlen hq i (t := t) (o := o) hi
  obtain ⟨y0, f0, _⟩ := F 0 _ _ rfl
  obtain ⟨y1, f1, _⟩ := F 1 _ _ rfl
  obtain ⟨y2, f2, _⟩ := F 2 _ _ rfl
  obtain ⟨y3, f3, _⟩ := F 3 _ _ rfl
  obtain ⟨y4, f4, _⟩ := F 4 _ _ rfl
  obtain ⟨y5, f5, _⟩ := F 5 _ _ rfl
  obtain ⟨y6, f6, _⟩ := F 6 _ _ rfl
  obtain ⟨y7, f7, _⟩ := F 7 _ _ rfl
  obtain ⟨y8, f8, _⟩ := F 8 _ _ rfl
  obtain ⟨y9, f9, _⟩ := F 9 _ _ rfl
  rw [cD] at f0 f4 f5 f8
  rw [cI] at f1 f3 f6 f7
  rw [cV] at f2
  rw [cS] at f9
  obtain ⟨a0, s0, e0, u0, v0, _⟩ := dot_part hD hg hI cI f0
  obtain ⟨a4, s4, e4, u4, v4, _⟩ := dot_part hD hg hI cI f4
  obtain ⟨a5, s5, e5, u5, v5, _⟩ := dot_part hD hg hI cI f5
  obtain ⟨a8, s8, e8, u8, v8, _⟩ := dot_part hD hg hI cI f8
  obtain ⟨z1, e1, _, u1⟩ := DataW.trod_int hI f1
  obtain ⟨z3, e3, _, u3⟩ := DataW.trod_int hI f3
  obtain ⟨z6, e6, _, u6⟩ := DataW.trod_int hI f6
  obtain ⟨z7, e7, _, u7⟩ := DataW.trod_int hI f7
  obtain ⟨k, e9, _, u9⟩ := DataW.trod_string hS f9
  obtain ⟨a, len, cap, e2⟩ := Go.Joins.slice_form hV f2
  refine ⟨⟨a0, s0, z1, z3, a4, s4, a5, s5, z6, z7, a8, s8, k⟩, a, len, cap, y2.1, y2.2, ?_, ⟨u0, v0, u1, u3, u4, v4, u5, v5, u6, u7, u8, v8, u9⟩, ⟨n, by rw [e2] at f2; exact f2⟩⟩
  · have p0 := part_two e0
    have p4 := part_two e4
    have p5 := part_two e5
    have p8 := part_two e8
    have p1 := part_one e1
    have p3 := part_one e3
    have p6 := part_one e6
    have p7 := part_one e7
    have p9 := part_one e9
    have p2 := part_one e2
    rw [cO] at hl
    apply List.ext_getElem?
    intro i
    match i with
    | 0 => exact p0.1
    | 1 => exact p0.2
    | 2 => exact p1
    | 3 => exact p2
    | 4 => exact p3
    | 5 => exact p4.1
    | 6 => exact p4.2
    | 7 => exact p5.1
    | 8 => exact p5.2
    | 9 => exact p6
    | 10 => exact p7
    | 11 => exact p8.1
    | 12 => exact p8.2
    | 13 => exact p9
    | i + 14 => rw [List.getElem?_eq_none (by omega)]; rfl
end

theorem cells_ops (x : Mo) : (x.o.cells x.dep).toList = x.cells := rfl

set_option maxRecDepth 100000 in
/-- A row of operations that came in. -/
theorem open_ops {H : Type} {enc : TypeId × Value → H} {W : World} {a : Option Addr} {len cap : Nat} {d : DataW H} {p : List MemPlace} (h : DataW.Trod enc Tryz.prog W 0 (fun _ => true) true 22 (.slice a len cap) d p) :
    ∃ L, OS W a len cap L ∧ ∀ x ∈ L, x.o.Fits ∧ Dws x.V := by
  obtain ⟨fuel, hf⟩ := h
  rcases Go.Deep.open_slice Tryz.underlying22 hf with ⟨hcs, _⟩ | ⟨x, l, c, m, n, D, Pl, hcs, _, hl, hm, hmm, _, hx⟩
  · simp [Value.cells] at hcs
    obtain ⟨rfl, rfl, rfl⟩ := hcs
    exact ⟨[], OS.none W, fun x hx => by simp at hx⟩
  · simp [Value.cells] at hcs
    obtain ⟨rfl, rfl, rfl⟩ := hcs
    have hlm : len ≤ m := by rw [hmm]; split <;> omega
    have each : ∀ i, i < m → ∃ y : Mo, (∀ j u, y.cells[j]? = some u → W.cell? ((x.add (i * 14)).add j) = some u) ∧ PS W y.a y.n y.c y.V ∧ y.o.Fits ∧ Dws y.V := by
      intro i hi
      obtain ⟨cs, h1, h2⟩ := hx i hi
      rw [cells27] at h1
      obtain ⟨_, hlen, hcell⟩ := World.cells?_some h1
      obtain ⟨o, a, n1, c1, du, pu, rfl, hfit, ht⟩ := open_opl Tryz.underlying36 rfl Tryz.underlying32 ⟨rfl, rfl, rfl, rfl⟩ Tryz.underlying3 Tryz.underlying9 Tryz.underlying34 cells27 dotCells intCells cells25 cells9 h2
      obtain ⟨V, hV, hW⟩ := open_vec ht
      refine ⟨⟨o, a, n1, c1, V⟩, fun j u hj => ?_, hV, hfit, hW⟩
      have hj14 : j < 14 := by
        rcases Nat.lt_or_ge j 14 with h' | h'
        · exact h'
        · rw [List.getElem?_eq_none (by simpa [Mo.cells] using h')] at hj; cases hj
      have := hcell j hj14
      rw [this]
      exact hj
    haveI : Inhabited Mo := ⟨⟨zop, none, 0, 0, []⟩⟩
    obtain ⟨q, hq⟩ := Go.Deep.choose_lt each
    refine ⟨(List.range len).map q, ⟨by simp, hl, hm, fun h => (by cases h), fun ad ha j u hj => ?_, fun y hy => ?_⟩, fun y hy => ?_⟩
    · cases ha
      have hjl : j < len * 14 := by
        rcases Nat.lt_or_ge j (len * 14) with h' | h'
        · exact h'
        · rw [List.getElem?_eq_none (by rw [flo_length]; simpa using h')] at hj; cases hj
      have e : j = j / 14 * 14 + j % 14 := by omega
      have hi : j / 14 < len := by omega
      have hg := flo_get ((List.range len).map q) (j / 14) (by simpa using hi) (j % 14) (Nat.mod_lt _ (by decide))
      rw [← e, hj] at hg
      have := (hq (j / 14) (by omega)).1 (j % 14) u (by simpa using hg.symm)
      rw [Go.Deep.add_add, ← e] at this
      exact this
    · obtain ⟨i, hi, rfl⟩ := List.mem_map.1 hy
      exact (hq i (by have := List.mem_range.1 hi; omega)).2.1
    · obtain ⟨i, hi, rfl⟩ := List.mem_map.1 hy
      exact (hq i (by have := List.mem_range.1 hi; omega)).2.2

/-- The first look tells true. -/
def AwakeSays : Prop := ∀ w : World, Calls Tryz.prog 6 #[] w fun e w' => e = .returned (.bool true) ∧ RowKit.Below w.heap.size w w'
end
end Go.Proofs.YtlncokkpdkddlaaGreat
