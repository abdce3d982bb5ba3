/- A map held against none. -/
import Derived.Test.YtboaofaileafdaaFgPutH
namespace Go.Proofs.Ytboaofaileafdaa
open Go.RowKit Go.Maps
theorem map_none (W : World) : (binOp .eql 65 (.map none) (.map none)).run Try.prog W = .ok (.bool true) W := by
  have hd : Op.maxDepth = (Op.maxDepth - 1) + 1 := by decide
  simp only [binOp, Op.equal]
  rw [hd]
  simp [Op.equalIn, run_underlying Try.underlying65]
theorem map_some (b : Nat) (W : World) : (binOp .eql 65 (.map (some b)) (.map none)).run Try.prog W = .ok (.bool false) W := by
  have hd : Op.maxDepth = (Op.maxDepth - 1) + 1 := by decide
  simp only [binOp, Op.equal]
  rw [hd]
  simp [Op.equalIn, run_underlying Try.underlying65]
end Go.Proofs.Ytboaofaileafdaa
