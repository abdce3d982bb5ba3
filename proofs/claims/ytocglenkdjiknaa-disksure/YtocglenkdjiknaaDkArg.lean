/- Arguments that come in. -/
import Derived.Test.YtocglenkdjiknaaDkMay
import Derived.WalkKit
import Derived.ProofKit
import Derived.OpenShut
import Derived.ShutString
import Derived.ChangeOld
import Derived.Below
import Derived.ChangeMaps5
import Derived.Deep.Matrix
set_option linter.unusedVariables false
namespace Go.Proofs.Ytocglenkdjiknaa
open Go.RowKit
open Go.ChangeShapes Go.WideShapes Go.ChangeAt

theorem open_byt {H : Type} {enc : TypeId × Value → H} {W : World} {a : Option Addr} {len cap : Nat} {d : DataW H} {p : List MemPlace} (h : DataW.Trod enc Try.prog W 0 (fun _ => true) true 31 (.slice a len cap) d p) : ∃ zs, IsRow .u8 W a len cap zs := by
  obtain ⟨fuel, hf⟩ := h
  rcases open_ints Try.underlying31 Try.underlying5 (by kernel_rfl) hf with ⟨hcs, _⟩ | ⟨x, l, c, zs, hcs, _, hl, hm, hz, _, hcell, hwz⟩
  · simp [Value.cells] at hcs
    obtain ⟨rfl, rfl, rfl⟩ := hcs
    exact ⟨[], .inl ⟨rfl, rfl, rfl, rfl⟩⟩
  · simp [Value.cells] at hcs
    obtain ⟨rfl, rfl, rfl⟩ := hcs
    exact ⟨zs, .inr ⟨_, rfl, hl, hm, by simpa using hz, hcell, hwz⟩⟩

/-- A slice of slices of bytes that came in. -/
def RSrc (w : World) (a : Option Addr) (n : Nat) (R : List (List Int)) : Prop :=
  R.length = n ∧ (0 < n → ∃ g off, a = some ⟨g, off, none⟩ ∧ ∀ i, i < n → ∃ ai ci, w.cell? ⟨g, off + i, none⟩ = some (.slice ai (R[i]?.getD []).length ci) ∧ Src w ai (R[i]?.getD []).length (R[i]?.getD []) ∧ (R[i]?.getD []).length ≤ ci ∧ ci ≤ maxLen ∧ (ai = none → (R[i]?.getD []).length = 0 ∧ ci = 0))
theorem RSrc.below {w w' : World} {a : Option Addr} {n : Nat} {R : List (List Int)} (h : RSrc w a n R) (hb : Below w.heap.size w w') : RSrc w' a n R := by
  refine ⟨h.1, fun hp => ?_⟩
  obtain ⟨g, off, ha, hc⟩ := h.2 hp
  refine ⟨g, off, ha, fun i hi => ?_⟩
  obtain ⟨ai, ci, h1, h2, h3⟩ := hc i hi
  exact ⟨ai, ci, by rw [hb.cell (cell_block h1)]; exact h1, h2.below hb, h3⟩

theorem rows_src {W : World} {x : Addr} {len cap : Nat} {A : Nat → Option Addr} {Ln C : Nat → Nat} {Z : Nat → List Int} (hl : len ≤ cap) (hm : cap ≤ maxLen)
    (h : ∀ r, r < cap → W.cell? (x.add r) = some (.slice (A r) (Ln r) (C r)) ∧ Ln r ≤ C r ∧ C r ≤ maxLen ∧ (Z r).length = C r ∧ (∀ n ∈ Z r, (Lit.int .u8 n).wf = true) ∧ (A r = none → C r = 0) ∧
        ∀ a', A r = some a' → 0 ≤ a'.block ∧ ∀ c, c < C r → W.cell? (a'.add c) = some (.int .u8 ((Z r).getD c 0))) :
    RSrc W (some x) len ((List.range len).map fun r => (Z r).take (Ln r)) ∧ (∀ B ∈ (List.range len).map fun r => (Z r).take (Ln r), Bts B) ∧ (∀ B ∈ (List.range len).map fun r => (Z r).take (Ln r), B.length ≤ 9223372036854775807) ∧ len ≤ 9223372036854775807 := by
  have hmm : maxLen ≤ 9223372036854775807 := by unfold maxLen; omega
  have hget : ∀ i, i < len → ((List.range len).map fun r => (Z r).take (Ln r))[i]?.getD [] = (Z i).take (Ln i) := by
    intro i hi
    rw [List.getElem?_map, List.getElem?_range hi]; rfl
  have hlen : ∀ i, i < len → ((Z i).take (Ln i)).length = Ln i := by
    intro i hi
    obtain ⟨_, h1, _, h2, _⟩ := h i (by omega)
    rw [List.length_take, h2]; omega
  refine ⟨⟨by simp, fun hp => ?_⟩, ?_, ?_, by omega⟩
  · obtain ⟨g, off, rfl, _, hc⟩ := flat_addr (n := len) (f := fun i => .slice (A i) (Ln i) (C i)) hp (fun i hi => (h i (by omega)).1)
    refine ⟨g, off, rfl, fun i hi => ?_⟩
    obtain ⟨_, h1, h2, h3, h4, h5, h6⟩ := h i (by omega)
    rw [hget i hi, hlen i hi]
    refine ⟨A i, C i, hc i hi, ?_, h1, h2, fun hn => ⟨by have := h5 hn; omega, h5 hn⟩⟩
    have hrow : IsRow .u8 W (A i) (Ln i) (C i) (Z i) := by
      cases hA : A i with
      | none =>
        have hc0 := h5 hA
        exact .inl ⟨rfl, by omega, hc0, List.eq_nil_of_length_eq_zero (by omega)⟩
      | some y => exact .inr ⟨y, rfl, h1, h2, h3, fun j hj => (h6 y hA).2 j (by omega), h4⟩
    exact hrow.src.1
  · intro B hB
    obtain ⟨i, hi, rfl⟩ := List.mem_map.1 hB
    have hi' := List.mem_range.1 hi
    obtain ⟨_, _, _, _, h4, _⟩ := h i (by omega)
    intro n hn
    have := bounds_u8 (h4 n (List.mem_of_mem_take hn))
    omega
  · intro B hB
    obtain ⟨i, hi, rfl⟩ := List.mem_map.1 hB
    have hi' := List.mem_range.1 hi
    obtain ⟨_, h1, h2, _⟩ := h i (by omega)
    simp only [hlen i hi']
    omega

theorem open_rows {H : Type} {enc : TypeId × Value → H} {W : World} {a : Option Addr} {len cap : Nat} {d : DataW H} {p : List MemPlace} (h : DataW.Trod enc Try.prog W 0 (fun _ => true) true 37 (.slice a len cap) d p) : ∃ R, RSrc W a len R ∧ (∀ B ∈ R, Bts B) ∧ (∀ B ∈ R, B.length ≤ 9223372036854775807) ∧ len ≤ 9223372036854775807 := by
  obtain ⟨fuel, hf⟩ := h
  rcases Go.Deep.open_int_rows Try.underlying37 Try.underlying31 Try.underlying5 (by kernel_rfl) (by kernel_rfl) hf with ⟨hcs, _⟩ | ⟨x, l, c, A, Ln, C, Z, hcs, _, hl, hm, _, hrows⟩
  · simp [Value.cells] at hcs
    obtain ⟨rfl, rfl, rfl⟩ := hcs
    exact ⟨[], ⟨rfl, fun h => absurd h (by omega)⟩, fun _ h => absurd h (by simp), fun _ h => absurd h (by simp), by omega⟩
  · simp [Value.cells] at hcs
    obtain ⟨rfl, rfl, rfl⟩ := hcs
    exact ⟨_, rows_src hl hm hrows⟩
end Go.Proofs.Ytocglenkdjiknaa
