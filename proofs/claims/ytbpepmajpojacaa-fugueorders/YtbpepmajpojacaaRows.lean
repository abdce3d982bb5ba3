/-
  No cell of these rows narrows 'for every input' (looked for: loops, veiled, ifaces, maps, wideKeys, modest, calm, conditions, laid).
  DERIVED. THE GIVEN ROWS OF THIS SEAT. 5 by the template 'for every input the law returns true; each argument reads behind the call as it read before'; 0 by the template 'total and deterministic' (their statements: YtbpepmajpojacaaTotals.lean).
  GIVEN WITH THE SEED: the statements are not yours to turn. If you find one false, say at which input.
  Laid BY PROGRAM, IN A SANDBOX (cutbox-rows.mjs): the forced cells as the released guide's own fill.sh prints them over the translation 27998f8342d3a63b… (all of the seat's roots in one cut). By AI agents, Wed Nov 11 2026. No macro, syntax, notation, axiom, sorry.
-/
import Derived.Test.YtbpepmajpojacaaChecked
import GoSem.Claim
import GoSem.ClaimJoined
import GoSem.ClaimMapViews
import Derived.JoinedTies
import Derived.KernelRfl
namespace Go.Proofs.Ytbpepmajpojacaa
/- THE CELL 'sum', in the pinned program and in every row, IS THE sha256 OF THE DUMP (.gsa) THAT YtbpepmajpojacaaProg.lean LOADS. Nothing in Lean hashes anything: it is a label: what it is worth is what the hold of that sum in a sandbox is worth. -/
noncomputable def Try.pinned : Pinned := { name := "ytbpepmajpojacaa", sum := "27998f8342d3a63bbea87adf7fe5078fed4a07c28d154998426e0814cc818c49", checked := Try.checked }
namespace Rows
def none {H : Type} : Left H := { results := [], args := [] }

/-- 'osierlaw09.FuguePlays': WHATEVER THE INPUT: true; the input reads as it did. -/
def fuguePlaysSpec : ChangeSpec := { name := "fuguePlays", fn := fun _ => fun
  | [d1, d2, d3] => { results := [.lit (.bool true)], args := [d1, d2, d3] }
  | _ => none }
def fuguePlaysRow : OpenClaim := { program := "ytbpepmajpojacaa", sum := "27998f8342d3a63bbea87adf7fe5078fed4a07c28d154998426e0814cc818c49", func := "osier/osierlaw09.FuguePlays", spec := "fuguePlays", inPlace := ["slices.overlaps[*osier/fugue.character]", "internal/abi.NoEscape"], unfollowed := true, recurses := true, plainKeys := false, apart := false }
def FuguePlaysSaid : Prop := fuguePlaysRow.holds Try.pinned (OpenSpec.ofChange fuguePlaysSpec)

/-- ITS FALSE NEIGHBOUR: 'it returns false'. Refute it at one input. -/
def fuguePlaysWrong : ChangeSpec := { name := "fuguePlays", fn := fun _ => fun
  | [d1, d2, d3] => { results := [.lit (.bool false)], args := [d1, d2, d3] }
  | _ => none }
def FuguePlaysWrongFalsely : Prop := fuguePlaysRow.holds Try.pinned (OpenSpec.ofChange fuguePlaysWrong)

/-- 'osierlaw09.FugueOrders': WHATEVER THE INPUT: true; the input reads as it did. -/
def fugueOrdersSpec : ChangeSpec := { name := "fugueOrders", fn := fun _ => fun
  | [d1, d2] => { results := [.lit (.bool true)], args := [d1, d2] }
  | _ => none }
def fugueOrdersRow : OpenClaim := { program := "ytbpepmajpojacaa", sum := "27998f8342d3a63bbea87adf7fe5078fed4a07c28d154998426e0814cc818c49", func := "osier/osierlaw09.FugueOrders", spec := "fugueOrders", inPlace := ["slices.overlaps[*osier/fugue.character]", "internal/abi.NoEscape"], unfollowed := true, recurses := true, plainKeys := false, apart := false }
def FugueOrdersSaid : Prop := fugueOrdersRow.holds Try.pinned (OpenSpec.ofChange fugueOrdersSpec)

/-- ITS FALSE NEIGHBOUR: 'it returns false'. Refute it at one input. -/
def fugueOrdersWrong : ChangeSpec := { name := "fugueOrders", fn := fun _ => fun
  | [d1, d2] => { results := [.lit (.bool false)], args := [d1, d2] }
  | _ => none }
def FugueOrdersWrongFalsely : Prop := fugueOrdersRow.holds Try.pinned (OpenSpec.ofChange fugueOrdersWrong)

/-- 'osierlaw09.FugueStays': WHATEVER THE INPUT: true; the input reads as it did. -/
def fugueStaysSpec : ChangeSpec := { name := "fugueStays", fn := fun _ => fun
  | [d1, d2] => { results := [.lit (.bool true)], args := [d1, d2] }
  | _ => none }
def fugueStaysRow : OpenClaim := { program := "ytbpepmajpojacaa", sum := "27998f8342d3a63bbea87adf7fe5078fed4a07c28d154998426e0814cc818c49", func := "osier/osierlaw09.FugueStays", spec := "fugueStays", inPlace := ["slices.overlaps[*osier/fugue.character]", "internal/abi.NoEscape"], unfollowed := true, recurses := true, plainKeys := false, apart := false }
def FugueStaysSaid : Prop := fugueStaysRow.holds Try.pinned (OpenSpec.ofChange fugueStaysSpec)

/-- ITS FALSE NEIGHBOUR: 'it returns false'. Refute it at one input. -/
def fugueStaysWrong : ChangeSpec := { name := "fugueStays", fn := fun _ => fun
  | [d1, d2] => { results := [.lit (.bool false)], args := [d1, d2] }
  | _ => none }
def FugueStaysWrongFalsely : Prop := fugueStaysRow.holds Try.pinned (OpenSpec.ofChange fugueStaysWrong)

/-- 'osierlaw09.FugueTypes': WHATEVER THE INPUT: true; the input reads as it did. -/
def fugueTypesSpec : ChangeSpec := { name := "fugueTypes", fn := fun _ => fun
  | [d1, d2] => { results := [.lit (.bool true)], args := [d1, d2] }
  | _ => none }
def fugueTypesRow : OpenClaim := { program := "ytbpepmajpojacaa", sum := "27998f8342d3a63bbea87adf7fe5078fed4a07c28d154998426e0814cc818c49", func := "osier/osierlaw09.FugueTypes", spec := "fugueTypes", inPlace := ["slices.overlaps[*osier/fugue.character]", "internal/abi.NoEscape"], unfollowed := true, recurses := true, plainKeys := false, apart := false }
def FugueTypesSaid : Prop := fugueTypesRow.holds Try.pinned (OpenSpec.ofChange fugueTypesSpec)

/-- ITS FALSE NEIGHBOUR: 'it returns false'. Refute it at one input. -/
def fugueTypesWrong : ChangeSpec := { name := "fugueTypes", fn := fun _ => fun
  | [d1, d2] => { results := [.lit (.bool false)], args := [d1, d2] }
  | _ => none }
def FugueTypesWrongFalsely : Prop := fugueTypesRow.holds Try.pinned (OpenSpec.ofChange fugueTypesWrong)

/-- 'osierlaw09.FugueNone': WHATEVER THE INPUT: true; the input reads as it did. -/
def fugueNoneSpec : ChangeSpec := { name := "fugueNone", fn := fun _ => fun
  | [d1, d2] => { results := [.lit (.bool true)], args := [d1, d2] }
  | _ => none }
def fugueNoneRow : OpenClaim := { program := "ytbpepmajpojacaa", sum := "27998f8342d3a63bbea87adf7fe5078fed4a07c28d154998426e0814cc818c49", func := "osier/osierlaw09.FugueNone", spec := "fugueNone", inPlace := ["slices.overlaps[*osier/fugue.character]", "internal/abi.NoEscape"], unfollowed := true, recurses := true, plainKeys := false, apart := false }
def FugueNoneSaid : Prop := fugueNoneRow.holds Try.pinned (OpenSpec.ofChange fugueNoneSpec)

/-- ITS FALSE NEIGHBOUR: 'it returns false'. Refute it at one input. -/
def fugueNoneWrong : ChangeSpec := { name := "fugueNone", fn := fun _ => fun
  | [d1, d2] => { results := [.lit (.bool false)], args := [d1, d2] }
  | _ => none }
def FugueNoneWrongFalsely : Prop := fugueNoneRow.holds Try.pinned (OpenSpec.ofChange fugueNoneWrong)

/- THE SECOND FORM. 'bulk': how many values and letters a reading holds, each counted each time it is reached (what is shared counts as often as it is met; a slice's spare places count too). A statement '..UptoSaid' is the law's where the arguments, and the package variables that the reading takes, are together of bulk at most 1048576: NARROWER than '..Said'. Prove '..Said' where nothing that the law and all that it calls make is longer than what came in: it says more and counts as full. Else prove '..UptoSaid'. A law counts once. -/
mutual
def uptoBulk {H : Type} : DataW H → Nat
  | .lit (.string bytes) => bytes.length + 1
  | .lit _ => 1
  | .nil => 1
  | .ptr d => uptoBulk d + 1
  | .slice elems spare => uptoBulkAll elems + uptoBulkAll spare + 1
  | .agg parts => uptoBulkAll parts + 1
  | .iface _ d => uptoBulk d + 1
  | .map entries => uptoBulkEntries entries + 1
  | .held _ => 1
def uptoBulkAll {H : Type} : List (DataW H) → Nat
  | [] => 0
  | d :: r => uptoBulk d + uptoBulkAll r
def uptoBulkEntries {H : Type} : List (Lit × DataW H) → Nat
  | [] => 0
  | x :: r => uptoBulkEntry x + uptoBulkEntries r
def uptoBulkEntry {H : Type} : Lit × DataW H → Nat
  | (.string bytes, d) => bytes.length + uptoBulk d + 1
  | (_, d) => uptoBulk d + 1
 end
def uptoSmall : (H : Type) → List (DataW H) → Bool := fun _ ds => decide (uptoBulkAll ds ≤ 1048576)
def OpenSpec.upto (s : _root_.Go.ChangeSpec) : _root_.Go.OpenSpec := { _root_.Go.OpenSpec.ofChange s with cond := some uptoSmall }

/-- 'osierlaw09.FuguePlays', WHERE WHAT IT READS IS OF BULK AT MOST 1048576: true; the input reads as it did. -/
def fuguePlaysUptoRow : OpenClaim := { program := "ytbpepmajpojacaa", sum := "27998f8342d3a63bbea87adf7fe5078fed4a07c28d154998426e0814cc818c49", func := "osier/osierlaw09.FuguePlays", spec := "fuguePlays", inPlace := ["slices.overlaps[*osier/fugue.character]", "internal/abi.NoEscape"], unfollowed := true, recurses := true, plainKeys := false, apart := false, narrowed := true }
def FuguePlaysUptoSaid : Prop := fuguePlaysUptoRow.holds Try.pinned (OpenSpec.upto fuguePlaysSpec)

/-- 'osierlaw09.FugueOrders', WHERE WHAT IT READS IS OF BULK AT MOST 1048576: true; the input reads as it did. -/
def fugueOrdersUptoRow : OpenClaim := { program := "ytbpepmajpojacaa", sum := "27998f8342d3a63bbea87adf7fe5078fed4a07c28d154998426e0814cc818c49", func := "osier/osierlaw09.FugueOrders", spec := "fugueOrders", inPlace := ["slices.overlaps[*osier/fugue.character]", "internal/abi.NoEscape"], unfollowed := true, recurses := true, plainKeys := false, apart := false, narrowed := true }
def FugueOrdersUptoSaid : Prop := fugueOrdersUptoRow.holds Try.pinned (OpenSpec.upto fugueOrdersSpec)

/-- 'osierlaw09.FugueStays', WHERE WHAT IT READS IS OF BULK AT MOST 1048576: true; the input reads as it did. -/
def fugueStaysUptoRow : OpenClaim := { program := "ytbpepmajpojacaa", sum := "27998f8342d3a63bbea87adf7fe5078fed4a07c28d154998426e0814cc818c49", func := "osier/osierlaw09.FugueStays", spec := "fugueStays", inPlace := ["slices.overlaps[*osier/fugue.character]", "internal/abi.NoEscape"], unfollowed := true, recurses := true, plainKeys := false, apart := false, narrowed := true }
def FugueStaysUptoSaid : Prop := fugueStaysUptoRow.holds Try.pinned (OpenSpec.upto fugueStaysSpec)

/-- 'osierlaw09.FugueTypes', WHERE WHAT IT READS IS OF BULK AT MOST 1048576: true; the input reads as it did. -/
def fugueTypesUptoRow : OpenClaim := { program := "ytbpepmajpojacaa", sum := "27998f8342d3a63bbea87adf7fe5078fed4a07c28d154998426e0814cc818c49", func := "osier/osierlaw09.FugueTypes", spec := "fugueTypes", inPlace := ["slices.overlaps[*osier/fugue.character]", "internal/abi.NoEscape"], unfollowed := true, recurses := true, plainKeys := false, apart := false, narrowed := true }
def FugueTypesUptoSaid : Prop := fugueTypesUptoRow.holds Try.pinned (OpenSpec.upto fugueTypesSpec)

/-- 'osierlaw09.FugueNone', WHERE WHAT IT READS IS OF BULK AT MOST 1048576: true; the input reads as it did. -/
def fugueNoneUptoRow : OpenClaim := { program := "ytbpepmajpojacaa", sum := "27998f8342d3a63bbea87adf7fe5078fed4a07c28d154998426e0814cc818c49", func := "osier/osierlaw09.FugueNone", spec := "fugueNone", inPlace := ["slices.overlaps[*osier/fugue.character]", "internal/abi.NoEscape"], unfollowed := true, recurses := true, plainKeys := false, apart := false, narrowed := true }
def FugueNoneUptoSaid : Prop := fugueNoneUptoRow.holds Try.pinned (OpenSpec.upto fugueNoneSpec)

end Rows
end Go.Proofs.Ytbpepmajpojacaa
