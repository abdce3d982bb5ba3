/- Worlds in which one block has turned. No function of the program. -/
import Derived.Test.YtlncokkpdkddlaaGreatVRJoin
namespace Go.Proofs.YtlncokkpdkddlaaGreat
open Go.RowKit

theorem grownBy_drewN (w : World) (n : Nat) (r : Option Nat) : w.grownBy (w.drewN n) r := ⟨rfl, rfl, rfl, Nat.le_refl _, fun _ _ _ => rfl⟩

theorem grownBy_setCell (w : World) (b o : Nat) (v : Value) : w.grownBy (w.setCell ⟨b, o, none⟩ v) (some b) := by
  refine ⟨rfl, rfl, rfl, by simp [World.setCell], fun k _ hne => ?_⟩
  have : b ≠ k := fun e => hne (by rw [e])
  simp [World.setCell, Array.getElem?_modify, this]

end Go.Proofs.YtlncokkpdkddlaaGreat
