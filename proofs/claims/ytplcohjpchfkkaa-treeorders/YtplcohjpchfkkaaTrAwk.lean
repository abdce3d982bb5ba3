/- The first look: what its calls tell. No function of the program but those of the tree. -/
import Derived.Test.YtplcohjpchfkkaaTrTr
set_option linter.unusedVariables false
namespace Go.Proofs.Ytplcohjpchfkkaa
open Go.RowKit

def awA : Mv := ⟨(1, 1), 1, (1, 1), (0, -1), ⟨#[110]⟩⟩
def awB : Mv := ⟨(1, 2), 2, (1, 2), (1, 1), ⟨#[110]⟩⟩
def awC : Mv := ⟨(1, 3), 3, (1, 1), (1, 2), ⟨#[110]⟩⟩
def awD : Mv := ⟨(2, 1), 2, (1, 2), (0, -2), ⟨#[110]⟩⟩

theorem aw_1 : mvE [] awA = 0 ∧ mvL [] awA = [awA] := by
  have h : mvE [] awA = 0 := by decide +kernel
  refine ⟨h, ?_⟩
  unfold mvL
  rw [if_pos h]
  have hr : rkL mvl [] awA = 0 := by decide +kernel
  unfold insL
  rw [hr]
  rfl
theorem aw_2 : mvE [awA] awB = 0 ∧ mvL [awA] awB = [awA, awB] := by
  have h : mvE [awA] awB = 0 := by decide +kernel
  refine ⟨h, ?_⟩
  unfold mvL
  rw [if_pos h]
  have hr : rkL mvl [awA] awB = 1 := by decide +kernel
  unfold insL
  rw [hr]
  rfl
theorem aw_3 : mvE [awA, awB] awC = 0 ∧ mvL [awA, awB] awC = [awA, awB, awC] := by
  have h : mvE [awA, awB] awC = 0 := by decide +kernel
  refine ⟨h, ?_⟩
  unfold mvL
  rw [if_pos h]
  have hr : rkL mvl [awA, awB] awC = 2 := by decide +kernel
  unfold insL
  rw [hr]
  rfl
theorem aw_4 : mvE [awA, awB, awC] awD = 0 ∧ mvL [awA, awB, awC] awD = [awA, awB, awD, awC] := by
  have h : mvE [awA, awB, awC] awD = 0 := by decide +kernel
  refine ⟨h, ?_⟩
  unfold mvL
  rw [if_pos h]
  have hr : rkL mvl [awA, awB, awC] awD = 2 := by decide +kernel
  unfold insL
  rw [hr]
  rfl
theorem aw_5 : tookB [awA, awB, awC] (1, 3) = false := by decide +kernel
theorem aw_6 : tookB [awA, awB, awD, awC] (1, 3) = true := by decide +kernel
theorem aw_7 : pth (run [awA, awB, awD, awC]) (1, 1) = [(1, 2), (0, -2)] := by decide +kernel
theorem aw_8 : (lk (run [awA, awB, awD, awC]) (1, 1)).isSome = true := by decide +kernel
end Go.Proofs.Ytplcohjpchfkkaa
