/- A row of numbers that came in. -/
import Derived.Test.YtjilmhenakccjaaCAwake
import Derived.Test.YtjilmhenakccjaaRows
import Derived.ProofKit
import Derived.OpenShut
namespace Go.Proofs.Ytjilmhenakccjaa
open Go.RowKit

/-- The slice (a, n) holds these numbers, each of which is an int. -/
structure NS (w : World) (a : Option Addr) (n c : Nat) (z : Nat → Int) : Prop where
  cap : n ≤ c
  max : c ≤ maxLen
  cells : 0 < n → ∃ g o, a = some ⟨g, o, none⟩ ∧ g < w.heap.size ∧ ∀ i, i < n → w.cell? ⟨g, o + i, none⟩ = some (.int .i64 (z i))
  fit : ∀ i, -9223372036854775808 ≤ z i ∧ z i ≤ 9223372036854775807

theorem open_nums {H : Type} {enc : TypeId × Value → H} {W : World} {a : Option Addr} {len cap : Nat} {d : DataW H} {p : List MemPlace} (h : DataW.Trod enc Try.prog W 0 (fun _ => true) true 29 (.slice a len cap) d p) :
    ∃ z, NS W a len cap z := by
  obtain ⟨fuel, hf⟩ := h
  rcases Go.ChangeShapes.open_ints Try.underlying29 Try.underlying3 (by kernel_rfl) hf with ⟨hcs, _⟩ | ⟨x, l, c, zs, hcs, _, hl, hm, hz, _, hcell, hwz⟩
  · simp [Value.cells] at hcs
    obtain ⟨rfl, rfl, rfl⟩ := hcs
    exact ⟨fun _ => 0, Nat.le_refl _, Nat.zero_le _, fun h => absurd h (by omega), fun i => by omega⟩
  · simp [Value.cells] at hcs
    obtain ⟨rfl, rfl, rfl⟩ := hcs
    have hz' : zs.length = cap := by simpa using hz
    refine ⟨fun i => zs.getD i 0, hl, hm, fun hp => ?_, fun i => ?_⟩
    · obtain ⟨g, o, sp⟩ := x
      have h0 := hcell 0 (by omega)
      have hs : sp = none := by simpa [Addr.add] using World.cell?_spot h0
      subst hs
      refine ⟨g, o, rfl, by have := cell_in h0; simpa [Addr.add] using this, fun i hi => ?_⟩
      have := hcell i (by omega)
      by_cases hi0 : i = 0
      · subst hi0; simpa [Addr.add] using this
      · simpa [Addr.add, hi0] using this
    · by_cases hi : i < zs.length
      · have := bounds_i64 (hwz (zs[i]) (List.getElem_mem hi))
        simpa [List.getD, List.getElem?_eq_getElem hi] using this
      · simp [List.getD, List.getElem?_eq_none (Nat.le_of_not_lt hi)]

end Go.Proofs.Ytjilmhenakccjaa
