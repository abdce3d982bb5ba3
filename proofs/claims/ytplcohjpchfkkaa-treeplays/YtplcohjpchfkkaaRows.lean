/-
  No cell of these rows narrows 'for every input' (looked for: loops, veiled, ifaces, maps, wideKeys, modest, calm, conditions, laid).
  DERIVED. THE GIVEN ROWS OF THIS SEAT. 6 by the template 'for every input the law returns true; each argument reads behind the call as it read before'; 0 by the template 'total and deterministic' (their statements: YtplcohjpchfkkaaTotals.lean).
  GIVEN WITH THE SEED: the statements are not yours to turn. If you find one false, say at which input.
  Laid BY PROGRAM, IN A SANDBOX (cutbox-rows.mjs): the forced cells as the released guide's own fill.sh prints them over the translation 7dc6666a5ed85f6f… (all of the seat's roots in one cut). By AI agents, Wed Nov 11 2026. No macro, syntax, notation, axiom, sorry.
-/
import Derived.Test.YtplcohjpchfkkaaChecked
import GoSem.Claim
import GoSem.ClaimJoined
import GoSem.ClaimMapViews
import Derived.JoinedTies
import Derived.KernelRfl
namespace Go.Proofs.Ytplcohjpchfkkaa
/- THE CELL 'sum', in the pinned program and in every row, IS THE sha256 OF THE DUMP (.gsa) THAT YtplcohjpchfkkaaProg.lean LOADS. Nothing in Lean hashes anything: it is a label: what it is worth is what the hold of that sum in a sandbox is worth. -/
noncomputable def Try.pinned : Pinned := { name := "ytplcohjpchfkkaa", sum := "7dc6666a5ed85f6f76d2e1cdd85c7153a91f94467c3c511050fb3940deab0277", checked := Try.checked }
namespace Rows
def none {H : Type} : Left H := { results := [], args := [] }

/-- 'osierlaw10.TreePlays': WHATEVER THE INPUT: true; the input reads as it did. -/
def treePlaysSpec : ChangeSpec := { name := "treePlays", fn := fun _ => fun
  | [d1, d2] => { results := [.lit (.bool true)], args := [d1, d2] }
  | _ => none }
def treePlaysRow : OpenClaim := { program := "ytplcohjpchfkkaa", sum := "7dc6666a5ed85f6f76d2e1cdd85c7153a91f94467c3c511050fb3940deab0277", func := "osier/osierlaw10.TreePlays", spec := "treePlays", inPlace := ["slices.overlaps[osier/api.Dot]", "slices.overlaps[*osier/movetree.entry]"], unfollowed := true, recurses := true, plainKeys := false, apart := false }
def TreePlaysSaid : Prop := treePlaysRow.holds Try.pinned (OpenSpec.ofChange treePlaysSpec)

/-- ITS FALSE NEIGHBOUR: 'it returns false'. Refute it at one input. -/
def treePlaysWrong : ChangeSpec := { name := "treePlays", fn := fun _ => fun
  | [d1, d2] => { results := [.lit (.bool false)], args := [d1, d2] }
  | _ => none }
def TreePlaysWrongFalsely : Prop := treePlaysRow.holds Try.pinned (OpenSpec.ofChange treePlaysWrong)

/-- 'osierlaw10.TreeOrders': WHATEVER THE INPUT: true; the input reads as it did. -/
def treeOrdersSpec : ChangeSpec := { name := "treeOrders", fn := fun _ => fun
  | [d1, d2] => { results := [.lit (.bool true)], args := [d1, d2] }
  | _ => none }
def treeOrdersRow : OpenClaim := { program := "ytplcohjpchfkkaa", sum := "7dc6666a5ed85f6f76d2e1cdd85c7153a91f94467c3c511050fb3940deab0277", func := "osier/osierlaw10.TreeOrders", spec := "treeOrders", inPlace := ["slices.overlaps[osier/api.Dot]", "slices.overlaps[*osier/movetree.entry]"], unfollowed := true, recurses := true, plainKeys := false, apart := false }
def TreeOrdersSaid : Prop := treeOrdersRow.holds Try.pinned (OpenSpec.ofChange treeOrdersSpec)

/-- ITS FALSE NEIGHBOUR: 'it returns false'. Refute it at one input. -/
def treeOrdersWrong : ChangeSpec := { name := "treeOrders", fn := fun _ => fun
  | [d1, d2] => { results := [.lit (.bool false)], args := [d1, d2] }
  | _ => none }
def TreeOrdersWrongFalsely : Prop := treeOrdersRow.holds Try.pinned (OpenSpec.ofChange treeOrdersWrong)

/-- 'osierlaw10.TreePaths': WHATEVER THE INPUT: true; the input reads as it did. -/
def treePathsSpec : ChangeSpec := { name := "treePaths", fn := fun _ => fun
  | [d] => { results := [.lit (.bool true)], args := [d] }
  | _ => none }
def treePathsRow : OpenClaim := { program := "ytplcohjpchfkkaa", sum := "7dc6666a5ed85f6f76d2e1cdd85c7153a91f94467c3c511050fb3940deab0277", func := "osier/osierlaw10.TreePaths", spec := "treePaths", inPlace := ["slices.overlaps[osier/api.Dot]", "slices.overlaps[*osier/movetree.entry]"], unfollowed := true, recurses := true, plainKeys := false, apart := false }
def TreePathsSaid : Prop := treePathsRow.holds Try.pinned (OpenSpec.ofChange treePathsSpec)

/-- ITS FALSE NEIGHBOUR: 'it returns false'. Refute it at one input. -/
def treePathsWrong : ChangeSpec := { name := "treePaths", fn := fun _ => fun
  | [d] => { results := [.lit (.bool false)], args := [d] }
  | _ => none }
def TreePathsWrongFalsely : Prop := treePathsRow.holds Try.pinned (OpenSpec.ofChange treePathsWrong)

/-- 'osierlaw10.TreeLast': WHATEVER THE INPUT: true; the input reads as it did. -/
def treeLastSpec : ChangeSpec := { name := "treeLast", fn := fun _ => fun
  | [d] => { results := [.lit (.bool true)], args := [d] }
  | _ => none }
def treeLastRow : OpenClaim := { program := "ytplcohjpchfkkaa", sum := "7dc6666a5ed85f6f76d2e1cdd85c7153a91f94467c3c511050fb3940deab0277", func := "osier/osierlaw10.TreeLast", spec := "treeLast", inPlace := ["slices.overlaps[osier/api.Dot]", "slices.overlaps[*osier/movetree.entry]"], unfollowed := true, recurses := true, plainKeys := false, apart := false }
def TreeLastSaid : Prop := treeLastRow.holds Try.pinned (OpenSpec.ofChange treeLastSpec)

/-- ITS FALSE NEIGHBOUR: 'it returns false'. Refute it at one input. -/
def treeLastWrong : ChangeSpec := { name := "treeLast", fn := fun _ => fun
  | [d] => { results := [.lit (.bool false)], args := [d] }
  | _ => none }
def TreeLastWrongFalsely : Prop := treeLastRow.holds Try.pinned (OpenSpec.ofChange treeLastWrong)

/-- 'osierlaw10.TreeStories': WHATEVER THE INPUT: true; the input reads as it did. -/
def treeStoriesSpec : ChangeSpec := { name := "treeStories", fn := fun _ => fun
  | [d] => { results := [.lit (.bool true)], args := [d] }
  | _ => none }
def treeStoriesRow : OpenClaim := { program := "ytplcohjpchfkkaa", sum := "7dc6666a5ed85f6f76d2e1cdd85c7153a91f94467c3c511050fb3940deab0277", func := "osier/osierlaw10.TreeStories", spec := "treeStories", inPlace := ["slices.overlaps[osier/api.Dot]", "slices.overlaps[*osier/movetree.entry]"], unfollowed := true, recurses := true, plainKeys := false, apart := false }
def TreeStoriesSaid : Prop := treeStoriesRow.holds Try.pinned (OpenSpec.ofChange treeStoriesSpec)

/-- ITS FALSE NEIGHBOUR: 'it returns false'. Refute it at one input. -/
def treeStoriesWrong : ChangeSpec := { name := "treeStories", fn := fun _ => fun
  | [d] => { results := [.lit (.bool false)], args := [d] }
  | _ => none }
def TreeStoriesWrongFalsely : Prop := treeStoriesRow.holds Try.pinned (OpenSpec.ofChange treeStoriesWrong)

/-- 'osierlaw10.TreeMoves': WHATEVER THE INPUT: true; the input reads as it did. -/
def treeMovesSpec : ChangeSpec := { name := "treeMoves", fn := fun _ => fun
  | [d1, d2, d3, d4] => { results := [.lit (.bool true)], args := [d1, d2, d3, d4] }
  | _ => none }
def treeMovesRow : OpenClaim := { program := "ytplcohjpchfkkaa", sum := "7dc6666a5ed85f6f76d2e1cdd85c7153a91f94467c3c511050fb3940deab0277", func := "osier/osierlaw10.TreeMoves", spec := "treeMoves", inPlace := ["slices.overlaps[osier/api.Dot]", "slices.overlaps[*osier/movetree.entry]"], unfollowed := true, recurses := true, plainKeys := false, apart := false }
def TreeMovesSaid : Prop := treeMovesRow.holds Try.pinned (OpenSpec.ofChange treeMovesSpec)

/-- ITS FALSE NEIGHBOUR: 'it returns false'. Refute it at one input. -/
def treeMovesWrong : ChangeSpec := { name := "treeMoves", fn := fun _ => fun
  | [d1, d2, d3, d4] => { results := [.lit (.bool false)], args := [d1, d2, d3, d4] }
  | _ => none }
def TreeMovesWrongFalsely : Prop := treeMovesRow.holds Try.pinned (OpenSpec.ofChange treeMovesWrong)

/- THE SECOND FORM. 'bulk': how many values and letters a reading holds, each counted each time it is reached (what is shared counts as often as it is met; a slice's spare places count too). A statement '..UptoSaid' is the law's where the arguments, and the package variables that the reading takes, are together of bulk at most 1048576: NARROWER than '..Said'. Prove '..Said' where nothing that the law and all that it calls make is longer than what came in: it says more and counts as full. Else prove '..UptoSaid'. A law counts once. -/
mutual
def uptoBulk {H : Type} : DataW H → Nat
  | .lit (.string bytes) => bytes.length + 1
  | .lit _ => 1
  | .nil => 1
  | .ptr d => uptoBulk d + 1
  | .slice elems spare => uptoBulkAll elems + uptoBulkAll spare + 1
  | .agg parts => uptoBulkAll parts + 1
  | .iface _ d => uptoBulk d + 1
  | .map entries => uptoBulkEntries entries + 1
  | .held _ => 1
def uptoBulkAll {H : Type} : List (DataW H) → Nat
  | [] => 0
  | d :: r => uptoBulk d + uptoBulkAll r
def uptoBulkEntries {H : Type} : List (Lit × DataW H) → Nat
  | [] => 0
  | x :: r => uptoBulkEntry x + uptoBulkEntries r
def uptoBulkEntry {H : Type} : Lit × DataW H → Nat
  | (.string bytes, d) => bytes.length + uptoBulk d + 1
  | (_, d) => uptoBulk d + 1
 end
def uptoSmall : (H : Type) → List (DataW H) → Bool := fun _ ds => decide (uptoBulkAll ds ≤ 1048576)
def OpenSpec.upto (s : _root_.Go.ChangeSpec) : _root_.Go.OpenSpec := { _root_.Go.OpenSpec.ofChange s with cond := some uptoSmall }

/-- 'osierlaw10.TreePlays', WHERE WHAT IT READS IS OF BULK AT MOST 1048576: true; the input reads as it did. -/
def treePlaysUptoRow : OpenClaim := { program := "ytplcohjpchfkkaa", sum := "7dc6666a5ed85f6f76d2e1cdd85c7153a91f94467c3c511050fb3940deab0277", func := "osier/osierlaw10.TreePlays", spec := "treePlays", inPlace := ["slices.overlaps[osier/api.Dot]", "slices.overlaps[*osier/movetree.entry]"], unfollowed := true, recurses := true, plainKeys := false, apart := false, narrowed := true }
def TreePlaysUptoSaid : Prop := treePlaysUptoRow.holds Try.pinned (OpenSpec.upto treePlaysSpec)

/-- 'osierlaw10.TreeOrders', WHERE WHAT IT READS IS OF BULK AT MOST 1048576: true; the input reads as it did. -/
def treeOrdersUptoRow : OpenClaim := { program := "ytplcohjpchfkkaa", sum := "7dc6666a5ed85f6f76d2e1cdd85c7153a91f94467c3c511050fb3940deab0277", func := "osier/osierlaw10.TreeOrders", spec := "treeOrders", inPlace := ["slices.overlaps[osier/api.Dot]", "slices.overlaps[*osier/movetree.entry]"], unfollowed := true, recurses := true, plainKeys := false, apart := false, narrowed := true }
def TreeOrdersUptoSaid : Prop := treeOrdersUptoRow.holds Try.pinned (OpenSpec.upto treeOrdersSpec)

/-- 'osierlaw10.TreePaths', WHERE WHAT IT READS IS OF BULK AT MOST 1048576: true; the input reads as it did. -/
def treePathsUptoRow : OpenClaim := { program := "ytplcohjpchfkkaa", sum := "7dc6666a5ed85f6f76d2e1cdd85c7153a91f94467c3c511050fb3940deab0277", func := "osier/osierlaw10.TreePaths", spec := "treePaths", inPlace := ["slices.overlaps[osier/api.Dot]", "slices.overlaps[*osier/movetree.entry]"], unfollowed := true, recurses := true, plainKeys := false, apart := false, narrowed := true }
def TreePathsUptoSaid : Prop := treePathsUptoRow.holds Try.pinned (OpenSpec.upto treePathsSpec)

/-- 'osierlaw10.TreeLast', WHERE WHAT IT READS IS OF BULK AT MOST 1048576: true; the input reads as it did. -/
def treeLastUptoRow : OpenClaim := { program := "ytplcohjpchfkkaa", sum := "7dc6666a5ed85f6f76d2e1cdd85c7153a91f94467c3c511050fb3940deab0277", func := "osier/osierlaw10.TreeLast", spec := "treeLast", inPlace := ["slices.overlaps[osier/api.Dot]", "slices.overlaps[*osier/movetree.entry]"], unfollowed := true, recurses := true, plainKeys := false, apart := false, narrowed := true }
def TreeLastUptoSaid : Prop := treeLastUptoRow.holds Try.pinned (OpenSpec.upto treeLastSpec)

/-- 'osierlaw10.TreeStories', WHERE WHAT IT READS IS OF BULK AT MOST 1048576: true; the input reads as it did. -/
def treeStoriesUptoRow : OpenClaim := { program := "ytplcohjpchfkkaa", sum := "7dc6666a5ed85f6f76d2e1cdd85c7153a91f94467c3c511050fb3940deab0277", func := "osier/osierlaw10.TreeStories", spec := "treeStories", inPlace := ["slices.overlaps[osier/api.Dot]", "slices.overlaps[*osier/movetree.entry]"], unfollowed := true, recurses := true, plainKeys := false, apart := false, narrowed := true }
def TreeStoriesUptoSaid : Prop := treeStoriesUptoRow.holds Try.pinned (OpenSpec.upto treeStoriesSpec)

/-- 'osierlaw10.TreeMoves', WHERE WHAT IT READS IS OF BULK AT MOST 1048576: true; the input reads as it did. -/
def treeMovesUptoRow : OpenClaim := { program := "ytplcohjpchfkkaa", sum := "7dc6666a5ed85f6f76d2e1cdd85c7153a91f94467c3c511050fb3940deab0277", func := "osier/osierlaw10.TreeMoves", spec := "treeMoves", inPlace := ["slices.overlaps[osier/api.Dot]", "slices.overlaps[*osier/movetree.entry]"], unfollowed := true, recurses := true, plainKeys := false, apart := false, narrowed := true }
def TreeMovesUptoSaid : Prop := treeMovesUptoRow.holds Try.pinned (OpenSpec.upto treeMovesSpec)

end Rows
end Go.Proofs.Ytplcohjpchfkkaa
