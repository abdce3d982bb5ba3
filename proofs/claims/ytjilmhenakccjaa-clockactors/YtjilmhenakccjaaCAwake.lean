/- The first look of every statement of this layer answers true. -/
import Derived.Test.YtjilmhenakccjaaCClock
namespace Go.Proofs.Ytjilmhenakccjaa
open Go.RowKit

set_option maxHeartbeats 2000000 in
theorem awake_any (w : World) : Calls Try.prog 8 #[] w fun e w' => e = .returned (.bool true) ∧ RowKit.Below w.heap.size w w' := by
  have hA := fun w => actor_yes 3 2 w (by omega) (by omega) (by omega) (by omega)
  have hS := fun w => split_yes 770 w (by omega) (by omega)
  have hN := new_yes 770 0 5 w (by omega) (by omega) (by omega)
  have hX := fun w b h => next_any w b 770 0 5 h (by omega) (by omega) (by omega) (by omega)
  rw [show (3 : Int) * 256 + 2 = 770 by omega] at hA
  rw [show (770 : Int) / 256 = 3 by omega, show (770 : Int) % 256 = 2 by omega] at hS
  rw [show (0 : Int) + 1 = 1 by omega, show (5 : Int) + 1 = 6 by omega] at hX
  go_enter Try.func8, Try.ntmps8
  go_wp2_with (first
    | (go_at_call 9; refine (hA _).mono ?_; rintro e w' ⟨rfl, rfl⟩)
    | (go_at_call 10; refine (hS _).mono ?_; rintro e w' ⟨rfl, rfl⟩)
    | (go_at_call 11; refine hN.mono ?_; rintro e w1 ⟨rfl, c1, b1⟩)
    | (go_at_call 14; refine (hX _ _ c1).mono ?_; rintro e w2 ⟨rfl, c2, u2⟩))
  go_ret
  exact ⟨rfl, b1.trans ((u2.below (Nat.le_refl _) b1.size).trans ((Below.refl _ _).alloc (Nat.le_trans b1.size u2.size) _))⟩

end Go.Proofs.Ytjilmhenakccjaa
