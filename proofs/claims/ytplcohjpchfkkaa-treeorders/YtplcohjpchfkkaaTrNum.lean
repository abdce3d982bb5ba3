/- Numbers that came in. -/
import Derived.Test.YtplcohjpchfkkaaTrArg
set_option linter.unusedVariables false
namespace Go.Proofs.Ytplcohjpchfkkaa
open Go.RowKit

/-- Numbers that came in. -/
structure NuS (w : World) (a : Option Addr) (n c : Nat) (L : List Int) : Prop where
  len : L.length = n
  cap : n ≤ c
  max : c ≤ maxLen
  i64 : ∀ x ∈ L, T64 x
  at_ : 0 < n → ∃ g o, a = some ⟨g, o, none⟩ ∧ g < w.heap.size ∧ ∀ i (hi : i < L.length), w.cell? ⟨g, o + i, none⟩ = some (.int .i64 L[i])

theorem NuS.below {w w' : World} {a : Option Addr} {n c : Nat} {L : List Int} (h : NuS w a n c L) (hb : Below w.heap.size w w') : NuS w' a n c L :=
  ⟨h.len, h.cap, h.max, h.i64, fun hp => by
    obtain ⟨g, o, e, hg, hx⟩ := h.at_ hp
    exact ⟨g, o, e, Nat.lt_of_lt_of_le hg hb.size, fun i hi => by rw [hb.cell (p := ⟨g, o + i, none⟩) hg]; exact hx i hi⟩⟩

set_option maxRecDepth 100000 in
theorem open_nuS {H : Type} {enc : TypeId × Value → H} {W : World} {a : Option Addr} {len cap : Nat} {d : DataW H} {p : List MemPlace} (h : DataW.Trod enc Try.prog W 0 (fun _ => true) true 40 (.slice a len cap) d p) :
    ∃ z, NuS W a len cap z := by
  obtain ⟨fuel, hf⟩ := h
  rcases Go.ChangeShapes.open_ints Try.underlying40 Try.underlying3 (by kernel_rfl) hf with ⟨hcs, _⟩ | ⟨x, l, c, zs, hcs, _, hl, hm, hz, _, hcell, hwz⟩
  · simp [Value.cells] at hcs
    obtain ⟨rfl, rfl, rfl⟩ := hcs
    exact ⟨[], rfl, Nat.le_refl _, Nat.zero_le _, by simp, fun h => absurd h (by omega)⟩
  · simp [Value.cells] at hcs
    obtain ⟨rfl, rfl, rfl⟩ := hcs
    have hz' : zs.length = cap := by simpa using hz
    refine ⟨zs.take len, by rw [List.length_take]; omega, hl, hm, ?_, fun hp => ?_⟩
    · intro y hy
      exact t64_wf (hwz y (List.mem_of_mem_take hy))
    obtain ⟨g, o, sp⟩ := x
    have h0 := hcell 0 (by omega)
    have hs : sp = none := by simpa [Addr.add] using World.cell?_spot h0
    subst hs
    refine ⟨g, o, rfl, by have := cell_in h0; simpa [Addr.add] using this, fun i hi => ?_⟩
    have hil : i < zs.length := by rw [List.length_take] at hi; omega
    have := hcell i (by omega)
    rw [tadd_none] at this
    rw [List.getElem_take]
    simpa [List.getD, List.getElem?_eq_getElem hil] using this

theorem NuS.at {w : World} {a : Option Addr} {n c : Nat} {L : List Int} (h : NuS w a n c L) {k : Nat} (hk : k < n) : ∃ g o, a = some ⟨g, o, none⟩ ∧ w.cell? ⟨g, o + k, none⟩ = some (.int .i64 (L[k]'(by rw [h.len]; exact hk))) := by
  obtain ⟨g, o, e, hg, hx⟩ := h.at_ (by omega)
  exact ⟨g, o, e, hx k (by rw [h.len]; exact hk)⟩

end Go.Proofs.Ytplcohjpchfkkaa
