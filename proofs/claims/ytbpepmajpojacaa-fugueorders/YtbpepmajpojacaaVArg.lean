/- A row of dots that came in. -/
import Derived.Test.YtbpepmajpojacaaMCmp
import Derived.Test.YtbpepmajpojacaaRows
import Derived.Deep.SlicePairs
import Derived.ProofKit
import Derived.OpenShut
namespace Go.Proofs.Ytbpepmajpojacaa
open Go.RowKit

theorem dotCells : Try.prog.cellsOf 24 = 2 := by kernel_rfl
theorem intCells : Try.prog.cellsOf 3 = 1 := by kernel_rfl

theorem flat_map_get (f : Nat → Dt) (len : Nat) (j : Nat) (u : Value) (h : (flat ((List.range len).map f))[j]? = some u) : j < len * 2 ∧ ((j = j / 2 * 2 ∧ u = .int .i64 (f (j / 2)).1) ∨ (j = j / 2 * 2 + 1 ∧ u = .int .i64 (f (j / 2)).2)) := by
  have hj : j < len * 2 := by
    rcases Nat.lt_or_ge j (len * 2) with h' | h'
    · exact h'
    · rw [List.getElem?_eq_none (by rw [flat_length]; simpa using h')] at h; cases h
  refine ⟨hj, ?_⟩
  obtain ⟨f1, f2⟩ := flat_get ((List.range len).map f) (j / 2) (by simp; omega)
  rcases Nat.mod_two_eq_zero_or_one j with hm | hm
  · left
    have e : j = j / 2 * 2 := by omega
    refine ⟨e, ?_⟩
    rw [e] at h
    rw [f1] at h
    simpa using h.symm
  · right
    have e : j = j / 2 * 2 + 1 := by omega
    refine ⟨e, ?_⟩
    rw [e] at h
    rw [f2] at h
    simpa using h.symm

theorem open_dots {H : Type} {enc : TypeId × Value → H} {W : World} {a : Option Addr} {len cap : Nat} {d : DataW H} {p : List MemPlace} (h : DataW.Trod enc Try.prog W 0 (fun _ => true) true 49 (.slice a len cap) d p) :
    ∃ L, PS W a len cap L ∧ Dws L := by
  obtain ⟨fuel, hf⟩ := h
  rcases Go.Deep.open_slice_pairs Try.underlying49 Try.underlying24 dotCells rfl rfl intCells intCells hf with ⟨hcs, _⟩ | ⟨x, l, c, m, n, V0, V1, D0, D1, P0, P1, hcs, _, hl, hm, hmm, _, hx⟩
  · simp [Value.cells] at hcs
    obtain ⟨rfl, rfl, rfl⟩ := hcs
    exact ⟨[], PS.none W, fun d hd => by simp at hd⟩
  · simp [Value.cells] at hcs
    obtain ⟨rfl, rfl, rfl⟩ := hcs
    simp at hmm
    subst hmm
    have each : ∀ i, i < m → ∃ q : Dt, W.cell? (x.add (i * 2)) = some (.int .i64 q.1) ∧ W.cell? (x.add (i * 2 + 1)) = some (.int .i64 q.2) ∧ Dw q := by
      intro i hi
      obtain ⟨h0, h1, t0, t1⟩ := hx i hi
      obtain ⟨n0, e0, _, w0⟩ := DataW.trod_int Try.underlying3 t0
      obtain ⟨n1, e1, _, w1⟩ := DataW.trod_int Try.underlying3 t1
      simp at e0 e1
      rw [e0] at h0
      rw [e1] at h1
      exact ⟨(n0, n1), h0, h1, w0, w1⟩
    obtain ⟨f, hf⟩ := Go.Deep.choose_lt each
    refine ⟨(List.range len).map f, ⟨by simp, hl, hm, fun h => by simp at h, fun ad ha j u hj => ?_⟩, fun d hd => ?_⟩
    · cases ha
      obtain ⟨hj2, hc⟩ := flat_map_get f len j u hj
      have := hf (j / 2) (by omega)
      rcases hc with ⟨e, rfl⟩ | ⟨e, rfl⟩
      · rw [e, show j / 2 * 2 / 2 = j / 2 by omega]; exact this.1
      · rw [e, show (j / 2 * 2 + 1) / 2 = j / 2 by omega]; exact this.2.1
    · obtain ⟨i, hi, rfl⟩ := List.mem_map.1 hd
      exact (hf i (by have := List.mem_range.1 hi; omega)).2.2

end Go.Proofs.Ytbpepmajpojacaa
