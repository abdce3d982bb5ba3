/- Lists of bytes; no program in sight. -/
import Derived.Below
namespace Go.Proofs.Ytajopapcknnfoaa

/-- A list of bytes. -/
def Bts (L : List Int) : Prop := ∀ x ∈ L, 0 ≤ x ∧ x < 256
theorem Bts.nil : Bts [] := fun _ h => absurd h (by simp)
theorem Bts.app {L M : List Int} (h : Bts L) (k : Bts M) : Bts (L ++ M) := fun x hx => (List.mem_append.1 hx).elim (h x) (k x)
theorem Bts.left {L M : List Int} (h : Bts (L ++ M)) : Bts L := fun x hx => h x (List.mem_append.2 (.inl hx))
theorem Bts.right {L M : List Int} (h : Bts (L ++ M)) : Bts M := fun x hx => h x (List.mem_append.2 (.inr hx))
theorem Bts.drop {L : List Int} (h : Bts L) (k : Nat) : Bts (L.drop k) := fun x hx => h x (List.mem_of_mem_drop hx)
theorem Bts.take {L : List Int} (h : Bts L) (k : Nat) : Bts (L.take k) := fun x hx => h x (List.mem_of_mem_take hx)
theorem Bts.at {L : List Int} (h : Bts L) (j : Nat) : 0 ≤ L[j]?.getD 0 ∧ L[j]?.getD 0 < 256 := by
  cases hj : L[j]? with
  | none => simp
  | some x => simpa using h x (List.mem_of_getElem? hj)

end Go.Proofs.Ytajopapcknnfoaa
