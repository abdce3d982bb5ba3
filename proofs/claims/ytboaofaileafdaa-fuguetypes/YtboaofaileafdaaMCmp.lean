/- The order of dots, as a number. -/
import Derived.Test.YtboaofaileafdaaOLess
namespace Go.Proofs.Ytboaofaileafdaa
open Go.RowKit

theorem agg_eq (a b : Dt) : ((dv a) = (dv b)) ↔ a = b := by
  constructor
  · intro h
    simp at h
    exact Prod.ext h.1 h.2
  · rintro rfl
    rfl

/-- What order answers. -/
def cfd (a b : Dt) : Int := if a = b then 0 else if dl a b = true then -1 else 1

end Go.Proofs.Ytboaofaileafdaa
