/-
  No cell of these rows narrows 'for every input' (looked for: loops, veiled, ifaces, maps, wideKeys, modest, calm, conditions, laid).
  DERIVED. THE GIVEN ROWS OF THIS SEAT. 6 by the template 'for every input the law returns true; each argument reads behind the call as it read before'; 0 by the template 'total and deterministic' (their statements: YthipadnghdodlaaTotals.lean).
  GIVEN WITH THE SEED: the statements are not yours to turn. If you find one false, say at which input.
  Laid BY PROGRAM, IN A SANDBOX (cutbox-rows.mjs): the forced cells as the released guide's own fill.sh prints them over the translation 11fb199d467bfd75… (all of the seat's roots in one cut). By AI agents, Wed Nov 11 2026. No macro, syntax, notation, axiom, sorry.
-/
import Derived.Test.YthipadnghdodlaaChecked
import GoSem.Claim
import GoSem.ClaimJoined
import GoSem.ClaimMapViews
import Derived.JoinedTies
import Derived.KernelRfl
namespace Go.Proofs.Ythipadnghdodlaa
/- THE CELL 'sum', in the pinned program and in every row, IS THE sha256 OF THE DUMP (.gsa) THAT YthipadnghdodlaaProg.lean LOADS. Nothing in Lean hashes anything: it is a label: what it is worth is what the hold of that sum in a sandbox is worth. -/
noncomputable def Try.pinned : Pinned := { name := "ythipadnghdodlaa", sum := "11fb199d467bfd7598f1357a7443dd36c758e8812c91dcc33575746d1208e617", checked := Try.checked }
namespace Rows
def none {H : Type} : Left H := { results := [], args := [] }

/-- 'osierlaw07.OpsCheck': WHATEVER THE INPUT: true; the input reads as it did. -/
def opsCheckSpec : ChangeSpec := { name := "opsCheck", fn := fun _ => fun
  | [d] => { results := [.lit (.bool true)], args := [d] }
  | _ => none }
def opsCheckRow : OpenClaim := { program := "ythipadnghdodlaa", sum := "11fb199d467bfd7598f1357a7443dd36c758e8812c91dcc33575746d1208e617", func := "osier/osierlaw07.OpsCheck", spec := "opsCheck", unfollowed := true, recurses := true, apart := false }
def OpsCheckSaid : Prop := opsCheckRow.holds Try.pinned (OpenSpec.ofChange opsCheckSpec)

/-- ITS FALSE NEIGHBOUR: 'it returns false'. Refute it at one input. -/
def opsCheckWrong : ChangeSpec := { name := "opsCheck", fn := fun _ => fun
  | [d] => { results := [.lit (.bool false)], args := [d] }
  | _ => none }
def OpsCheckWrongFalsely : Prop := opsCheckRow.holds Try.pinned (OpenSpec.ofChange opsCheckWrong)

/-- 'osierlaw07.OpsOrder': WHATEVER THE INPUT: true; the input reads as it did. -/
def opsOrderSpec : ChangeSpec := { name := "opsOrder", fn := fun _ => fun
  | [d1, d2, d3] => { results := [.lit (.bool true)], args := [d1, d2, d3] }
  | _ => none }
def opsOrderRow : OpenClaim := { program := "ythipadnghdodlaa", sum := "11fb199d467bfd7598f1357a7443dd36c758e8812c91dcc33575746d1208e617", func := "osier/osierlaw07.OpsOrder", spec := "opsOrder", unfollowed := true, recurses := true, apart := false }
def OpsOrderSaid : Prop := opsOrderRow.holds Try.pinned (OpenSpec.ofChange opsOrderSpec)

/-- ITS FALSE NEIGHBOUR: 'it returns false'. Refute it at one input. -/
def opsOrderWrong : ChangeSpec := { name := "opsOrder", fn := fun _ => fun
  | [d1, d2, d3] => { results := [.lit (.bool false)], args := [d1, d2, d3] }
  | _ => none }
def OpsOrderWrongFalsely : Prop := opsOrderRow.holds Try.pinned (OpenSpec.ofChange opsOrderWrong)

/-- 'osierlaw07.OpsBytes': WHATEVER THE INPUT: true; the input reads as it did. -/
def opsBytesSpec : ChangeSpec := { name := "opsBytes", fn := fun _ => fun
  | [d1, d2] => { results := [.lit (.bool true)], args := [d1, d2] }
  | _ => none }
def opsBytesRow : OpenClaim := { program := "ythipadnghdodlaa", sum := "11fb199d467bfd7598f1357a7443dd36c758e8812c91dcc33575746d1208e617", func := "osier/osierlaw07.OpsBytes", spec := "opsBytes", unfollowed := true, recurses := true, apart := false }
def OpsBytesSaid : Prop := opsBytesRow.holds Try.pinned (OpenSpec.ofChange opsBytesSpec)

/-- ITS FALSE NEIGHBOUR: 'it returns false'. Refute it at one input. -/
def opsBytesWrong : ChangeSpec := { name := "opsBytes", fn := fun _ => fun
  | [d1, d2] => { results := [.lit (.bool false)], args := [d1, d2] }
  | _ => none }
def OpsBytesWrongFalsely : Prop := opsBytesRow.holds Try.pinned (OpenSpec.ofChange opsBytesWrong)

/-- 'osierlaw07.OpsTake': WHATEVER THE INPUT: true; the input reads as it did. -/
def opsTakeSpec : ChangeSpec := { name := "opsTake", fn := fun _ => fun
  | [d] => { results := [.lit (.bool true)], args := [d] }
  | _ => none }
def opsTakeRow : OpenClaim := { program := "ythipadnghdodlaa", sum := "11fb199d467bfd7598f1357a7443dd36c758e8812c91dcc33575746d1208e617", func := "osier/osierlaw07.OpsTake", spec := "opsTake", unfollowed := true, recurses := true, apart := false }
def OpsTakeSaid : Prop := opsTakeRow.holds Try.pinned (OpenSpec.ofChange opsTakeSpec)

/-- ITS FALSE NEIGHBOUR: 'it returns false'. Refute it at one input. -/
def opsTakeWrong : ChangeSpec := { name := "opsTake", fn := fun _ => fun
  | [d] => { results := [.lit (.bool false)], args := [d] }
  | _ => none }
def OpsTakeWrongFalsely : Prop := opsTakeRow.holds Try.pinned (OpenSpec.ofChange opsTakeWrong)

/-- 'osierlaw07.OpsOne': WHATEVER THE INPUT: true; the input reads as it did. -/
def opsOneSpec : ChangeSpec := { name := "opsOne", fn := fun _ => fun
  | [d] => { results := [.lit (.bool true)], args := [d] }
  | _ => none }
def opsOneRow : OpenClaim := { program := "ythipadnghdodlaa", sum := "11fb199d467bfd7598f1357a7443dd36c758e8812c91dcc33575746d1208e617", func := "osier/osierlaw07.OpsOne", spec := "opsOne", unfollowed := true, recurses := true, apart := false }
def OpsOneSaid : Prop := opsOneRow.holds Try.pinned (OpenSpec.ofChange opsOneSpec)

/-- ITS FALSE NEIGHBOUR: 'it returns false'. Refute it at one input. -/
def opsOneWrong : ChangeSpec := { name := "opsOne", fn := fun _ => fun
  | [d] => { results := [.lit (.bool false)], args := [d] }
  | _ => none }
def OpsOneWrongFalsely : Prop := opsOneRow.holds Try.pinned (OpenSpec.ofChange opsOneWrong)

/-- 'osierlaw07.OpsLean': WHATEVER THE INPUT: true; the input reads as it did. -/
def opsLeanSpec : ChangeSpec := { name := "opsLean", fn := fun _ => fun
  | [d] => { results := [.lit (.bool true)], args := [d] }
  | _ => none }
def opsLeanRow : OpenClaim := { program := "ythipadnghdodlaa", sum := "11fb199d467bfd7598f1357a7443dd36c758e8812c91dcc33575746d1208e617", func := "osier/osierlaw07.OpsLean", spec := "opsLean", unfollowed := true, recurses := true, apart := false }
def OpsLeanSaid : Prop := opsLeanRow.holds Try.pinned (OpenSpec.ofChange opsLeanSpec)

/-- ITS FALSE NEIGHBOUR: 'it returns false'. Refute it at one input. -/
def opsLeanWrong : ChangeSpec := { name := "opsLean", fn := fun _ => fun
  | [d] => { results := [.lit (.bool false)], args := [d] }
  | _ => none }
def OpsLeanWrongFalsely : Prop := opsLeanRow.holds Try.pinned (OpenSpec.ofChange opsLeanWrong)

/- THE SECOND FORM. 'bulk': how many values and letters a reading holds, each counted each time it is reached (what is shared counts as often as it is met; a slice's spare places count too). A statement '..UptoSaid' is the law's where the arguments, and the package variables that the reading takes, are together of bulk at most 1048576: NARROWER than '..Said'. Prove '..Said' where nothing that the law and all that it calls make is longer than what came in: it says more and counts as full. Else prove '..UptoSaid'. A law counts once. -/
mutual
def uptoBulk {H : Type} : DataW H → Nat
  | .lit (.string bytes) => bytes.length + 1
  | .lit _ => 1
  | .nil => 1
  | .ptr d => uptoBulk d + 1
  | .slice elems spare => uptoBulkAll elems + uptoBulkAll spare + 1
  | .agg parts => uptoBulkAll parts + 1
  | .iface _ d => uptoBulk d + 1
  | .map entries => uptoBulkEntries entries + 1
  | .held _ => 1
def uptoBulkAll {H : Type} : List (DataW H) → Nat
  | [] => 0
  | d :: r => uptoBulk d + uptoBulkAll r
def uptoBulkEntries {H : Type} : List (Lit × DataW H) → Nat
  | [] => 0
  | x :: r => uptoBulkEntry x + uptoBulkEntries r
def uptoBulkEntry {H : Type} : Lit × DataW H → Nat
  | (.string bytes, d) => bytes.length + uptoBulk d + 1
  | (_, d) => uptoBulk d + 1
 end
def uptoSmall : (H : Type) → List (DataW H) → Bool := fun _ ds => decide (uptoBulkAll ds ≤ 1048576)
def OpenSpec.upto (s : _root_.Go.ChangeSpec) : _root_.Go.OpenSpec := { _root_.Go.OpenSpec.ofChange s with cond := some uptoSmall }

/-- 'osierlaw07.OpsCheck', WHERE WHAT IT READS IS OF BULK AT MOST 1048576: true; the input reads as it did. -/
def opsCheckUptoRow : OpenClaim := { program := "ythipadnghdodlaa", sum := "11fb199d467bfd7598f1357a7443dd36c758e8812c91dcc33575746d1208e617", func := "osier/osierlaw07.OpsCheck", spec := "opsCheck", unfollowed := true, recurses := true, apart := false, narrowed := true }
def OpsCheckUptoSaid : Prop := opsCheckUptoRow.holds Try.pinned (OpenSpec.upto opsCheckSpec)

/-- 'osierlaw07.OpsOrder', WHERE WHAT IT READS IS OF BULK AT MOST 1048576: true; the input reads as it did. -/
def opsOrderUptoRow : OpenClaim := { program := "ythipadnghdodlaa", sum := "11fb199d467bfd7598f1357a7443dd36c758e8812c91dcc33575746d1208e617", func := "osier/osierlaw07.OpsOrder", spec := "opsOrder", unfollowed := true, recurses := true, apart := false, narrowed := true }
def OpsOrderUptoSaid : Prop := opsOrderUptoRow.holds Try.pinned (OpenSpec.upto opsOrderSpec)

/-- 'osierlaw07.OpsBytes', WHERE WHAT IT READS IS OF BULK AT MOST 1048576: true; the input reads as it did. -/
def opsBytesUptoRow : OpenClaim := { program := "ythipadnghdodlaa", sum := "11fb199d467bfd7598f1357a7443dd36c758e8812c91dcc33575746d1208e617", func := "osier/osierlaw07.OpsBytes", spec := "opsBytes", unfollowed := true, recurses := true, apart := false, narrowed := true }
def OpsBytesUptoSaid : Prop := opsBytesUptoRow.holds Try.pinned (OpenSpec.upto opsBytesSpec)

/-- 'osierlaw07.OpsTake', WHERE WHAT IT READS IS OF BULK AT MOST 1048576: true; the input reads as it did. -/
def opsTakeUptoRow : OpenClaim := { program := "ythipadnghdodlaa", sum := "11fb199d467bfd7598f1357a7443dd36c758e8812c91dcc33575746d1208e617", func := "osier/osierlaw07.OpsTake", spec := "opsTake", unfollowed := true, recurses := true, apart := false, narrowed := true }
def OpsTakeUptoSaid : Prop := opsTakeUptoRow.holds Try.pinned (OpenSpec.upto opsTakeSpec)

/-- 'osierlaw07.OpsOne', WHERE WHAT IT READS IS OF BULK AT MOST 1048576: true; the input reads as it did. -/
def opsOneUptoRow : OpenClaim := { program := "ythipadnghdodlaa", sum := "11fb199d467bfd7598f1357a7443dd36c758e8812c91dcc33575746d1208e617", func := "osier/osierlaw07.OpsOne", spec := "opsOne", unfollowed := true, recurses := true, apart := false, narrowed := true }
def OpsOneUptoSaid : Prop := opsOneUptoRow.holds Try.pinned (OpenSpec.upto opsOneSpec)

/-- 'osierlaw07.OpsLean', WHERE WHAT IT READS IS OF BULK AT MOST 1048576: true; the input reads as it did. -/
def opsLeanUptoRow : OpenClaim := { program := "ythipadnghdodlaa", sum := "11fb199d467bfd7598f1357a7443dd36c758e8812c91dcc33575746d1208e617", func := "osier/osierlaw07.OpsLean", spec := "opsLean", unfollowed := true, recurses := true, apart := false, narrowed := true }
def OpsLeanUptoSaid : Prop := opsLeanUptoRow.holds Try.pinned (OpenSpec.upto opsLeanSpec)

end Rows
end Go.Proofs.Ythipadnghdodlaa
