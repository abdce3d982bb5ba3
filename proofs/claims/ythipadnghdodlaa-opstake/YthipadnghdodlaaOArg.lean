/- Operations that came in. -/
import Derived.Test.YthipadnghdodlaaVArg
import Derived.Test.YthipadnghdodlaaOAwakeB
import Derived.Test.YthipadnghdodlaaRows
import Derived.Deep.SlicePairs
import Derived.ProofKit
import Derived.OpenShut
namespace Go.Proofs.Ythipadnghdodlaa
open Go.RowKit

theorem open_vec {H : Type} {enc : TypeId × Value → H} {W : World} {a : Option Addr} {len cap : Nat} {d : DataW H} {p : List MemPlace} (h : DataW.Trod enc Try.prog W 0 (fun _ => true) true 25 (.slice a len cap) d p) :
    ∃ L, PS W a len cap L ∧ Dws L := by
  obtain ⟨fuel, hf⟩ := h
  rcases Go.Deep.open_slice_pairs Try.underlying25 Try.underlying23 dotCells rfl rfl intCells intCells hf with ⟨hcs, _⟩ | ⟨x, l, c, m, n, V0, V1, D0, D1, P0, P1, hcs, _, hl, hm, hmm, _, hx⟩
  · simp [Value.cells] at hcs
    obtain ⟨rfl, rfl, rfl⟩ := hcs
    exact ⟨[], PS.none W, fun d hd => by simp at hd⟩
  · simp [Value.cells] at hcs
    obtain ⟨rfl, rfl, rfl⟩ := hcs
    simp at hmm
    subst hmm
    have each : ∀ i, i < m → ∃ q : Dt, W.cell? (x.add (i * 2)) = some (.int .i64 q.1) ∧ W.cell? (x.add (i * 2 + 1)) = some (.int .i64 q.2) ∧ Dw q := by
      intro i hi
      obtain ⟨h0, h1, t0, t1⟩ := hx i hi
      obtain ⟨n0, e0, _, w0⟩ := DataW.trod_int Try.underlying3 t0
      obtain ⟨n1, e1, _, w1⟩ := DataW.trod_int Try.underlying3 t1
      simp at e0 e1
      rw [e0] at h0
      rw [e1] at h1
      exact ⟨(n0, n1), h0, h1, w0, w1⟩
    obtain ⟨f, hf⟩ := Go.Deep.choose_lt each
    refine ⟨(List.range len).map f, ⟨by simp, hl, hm, fun h => by simp at h, fun ad ha j u hj => ?_⟩, fun d hd => ?_⟩
    · cases ha
      obtain ⟨hj2, hc⟩ := flat_map_get f len j u hj
      have := hf (j / 2) (by omega)
      rcases hc with ⟨e, rfl⟩ | ⟨e, rfl⟩
      · rw [e, show j / 2 * 2 / 2 = j / 2 by omega]; exact this.1
      · rw [e, show (j / 2 * 2 + 1) / 2 = j / 2 by omega]; exact this.2.1
    · obtain ⟨i, hi, rfl⟩ := List.mem_map.1 hd
      exact (hf i (by have := List.mem_range.1 hi; omega)).2.2

theorem cells27 : Try.prog.cellsOf 27 = 14 := by kernel_rfl
theorem cells25 : Try.prog.cellsOf 25 = 1 := by kernel_rfl
theorem cells9 : Try.prog.cellsOf 9 = 1 := by kernel_rfl

/-- An operation that came in: its numbers and its key, and the dots of its Deps. -/
theorem open_op7 {H : Type} {enc : TypeId × Value → H} {W : World} {r : Reach} {b0 : Nat} {v : Value} {d : DataW H} {p : List MemPlace} (hv : Value.okWide Try.prog W r b0 27 v) (h : DataW.Trod enc Try.prog W 0 (fun _ => true) true 27 v d p) :
    ∃ (o : OpIn) (a : Option Addr) (n c : Nat) (V : List Dt), v = ov o (.slice a n c) ∧ o.Fits ∧ PS W a n c V ∧ Dws V := by
  obtain ⟨o, a, n, c, du, pu, rfl, hf, ht, _⟩ := open_op Try.underlying27 rfl Try.underlying23 ⟨rfl, rfl, rfl, rfl⟩ Try.underlying3 Try.underlying9 Try.underlying25 cells27 dotCells intCells cells25 cells9 hv h
  obtain ⟨V, hV, hW⟩ := open_vec ht
  exact ⟨o, a, n, c, V, rfl, hf, hV, hW⟩
end Go.Proofs.Ythipadnghdodlaa
