/- Join, Meet, With: what they answer, in new memory. -/
import Derived.Test.YtbpepmajpojacaaVMerge
namespace Go.Proofs.Ytbpepmajpojacaa
open Go.RowKit
open Go.Sort (grow)

/-- How long a slice is. -/
def sln : Value → Nat
  | .slice _ n _ => n
  | _ => 0

theorem far_grown {w w' : World} (h : Far w w') : w.grownBy w' none := by
  have hb := h.below
  exact ⟨hb.os, hb.tape, hb.output, hb.size, fun k hk _ => hb.block k hk⟩

theorem own_far {w w' : World} {b : Nat} {v : Value} {n : Nat} {xs : List Value} (h : w.ownsRow b 24 2 v n xs) (hf : Far w w') : w'.ownsRow b 24 2 v n xs :=
  h.kept (far_grown hf) (by
    by_cases he : v.ownBlock = none
    · exact .inl he
    · exact .inr he)

theorem tlv_le (L : List Dt) (y : Int) : (tlv L y).length ≤ L.length := by
  cases L with
  | nil => simp [tlv]
  | cons d r =>
    simp only [tlv]
    split
    · simp
    · exact Nat.le_refl _

end Go.Proofs.Ytbpepmajpojacaa
