/-
  No cell of these rows narrows 'for every input' (looked for: loops, veiled, ifaces, maps, wideKeys, modest, calm, conditions, laid).
  DERIVED. THE GIVEN ROWS OF THIS SEAT. 6 by the template 'for every input the law returns true; each argument reads behind the call as it read before'; 0 by the template 'total and deterministic' (their statements: YtbjeienmhglddaaTotals.lean).
  GIVEN WITH THE SEED: the statements are not yours to turn. If you find one false, say at which input.
  Laid BY PROGRAM, IN A SANDBOX (cutbox-rows.mjs): the forced cells as the released guide's own fill.sh prints them over the translation 856e8293b793b37f… (all of the seat's roots in one cut). By AI agents, Wed Nov 11 2026. No macro, syntax, notation, axiom, sorry.
-/
import Derived.Test.YtbjeienmhglddaaChecked
import GoSem.Claim
import GoSem.ClaimJoined
import GoSem.ClaimMapViews
import Derived.JoinedTies
import Derived.KernelRfl
namespace Go.Proofs.Ytbjeienmhglddaa
/- THE CELL 'sum', in the pinned program and in every row, IS THE sha256 OF THE DUMP (.gsa) THAT YtbjeienmhglddaaProg.lean LOADS. Nothing in Lean hashes anything: it is a label: what it is worth is what the hold of that sum in a sandbox is worth. -/
noncomputable def Try.pinned : Pinned := { name := "ytbjeienmhglddaa", sum := "856e8293b793b37fc43ad172bd725b35a234892cb6ffdf3d441c771ed55a290a", checked := Try.checked }
namespace Rows
def none {H : Type} : Left H := { results := [], args := [] }

/-- 'osierlaw06.KeysBetween': WHATEVER THE INPUT: true; the input reads as it did. -/
def keysBetweenSpec : ChangeSpec := { name := "keysBetween", fn := fun _ => fun
  | [d1, d2] => { results := [.lit (.bool true)], args := [d1, d2] }
  | _ => none }
def keysBetweenRow : OpenClaim := { program := "ytbjeienmhglddaa", sum := "856e8293b793b37fc43ad172bd725b35a234892cb6ffdf3d441c771ed55a290a", func := "osier/osierlaw06.KeysBetween", spec := "keysBetween", recurses := true, apart := false }
def KeysBetweenSaid : Prop := keysBetweenRow.holds Try.pinned (OpenSpec.ofChange keysBetweenSpec)

/-- ITS FALSE NEIGHBOUR: 'it returns false'. Refute it at one input. -/
def keysBetweenWrong : ChangeSpec := { name := "keysBetween", fn := fun _ => fun
  | [d1, d2] => { results := [.lit (.bool false)], args := [d1, d2] }
  | _ => none }
def KeysBetweenWrongFalsely : Prop := keysBetweenRow.holds Try.pinned (OpenSpec.ofChange keysBetweenWrong)

/-- 'osierlaw06.KeysRow': WHATEVER THE INPUT: true; the input reads as it did. -/
def keysRowSpec : ChangeSpec := { name := "keysRow", fn := fun _ => fun
  | [d1, d2, d3] => { results := [.lit (.bool true)], args := [d1, d2, d3] }
  | _ => none }
def keysRowRow : OpenClaim := { program := "ytbjeienmhglddaa", sum := "856e8293b793b37fc43ad172bd725b35a234892cb6ffdf3d441c771ed55a290a", func := "osier/osierlaw06.KeysRow", spec := "keysRow", unfollowed := true, recurses := true, apart := false }
def KeysRowSaid : Prop := keysRowRow.holds Try.pinned (OpenSpec.ofChange keysRowSpec)

/-- ITS FALSE NEIGHBOUR: 'it returns false'. Refute it at one input. -/
def keysRowWrong : ChangeSpec := { name := "keysRow", fn := fun _ => fun
  | [d1, d2, d3] => { results := [.lit (.bool false)], args := [d1, d2, d3] }
  | _ => none }
def KeysRowWrongFalsely : Prop := keysRowRow.holds Try.pinned (OpenSpec.ofChange keysRowWrong)

/-- 'osierlaw06.KeysDense': WHATEVER THE INPUT: true; the input reads as it did. -/
def keysDenseSpec : ChangeSpec := { name := "keysDense", fn := fun _ => fun
  | [d1, d2] => { results := [.lit (.bool true)], args := [d1, d2] }
  | _ => none }
def keysDenseRow : OpenClaim := { program := "ytbjeienmhglddaa", sum := "856e8293b793b37fc43ad172bd725b35a234892cb6ffdf3d441c771ed55a290a", func := "osier/osierlaw06.KeysDense", spec := "keysDense", apart := false }
def KeysDenseSaid : Prop := keysDenseRow.holds Try.pinned (OpenSpec.ofChange keysDenseSpec)

/-- ITS FALSE NEIGHBOUR: 'it returns false'. Refute it at one input. -/
def keysDenseWrong : ChangeSpec := { name := "keysDense", fn := fun _ => fun
  | [d1, d2] => { results := [.lit (.bool false)], args := [d1, d2] }
  | _ => none }
def KeysDenseWrongFalsely : Prop := keysDenseRow.holds Try.pinned (OpenSpec.ofChange keysDenseWrong)

/-- 'osierlaw06.KeysRises': WHATEVER THE INPUT: true; the input reads as it did. -/
def keysRisesSpec : ChangeSpec := { name := "keysRises", fn := fun _ => fun
  | [d1, d2, d3] => { results := [.lit (.bool true)], args := [d1, d2, d3] }
  | _ => none }
def keysRisesRow : OpenClaim := { program := "ytbjeienmhglddaa", sum := "856e8293b793b37fc43ad172bd725b35a234892cb6ffdf3d441c771ed55a290a", func := "osier/osierlaw06.KeysRises", spec := "keysRises", unfollowed := true, recurses := true, apart := false }
def KeysRisesSaid : Prop := keysRisesRow.holds Try.pinned (OpenSpec.ofChange keysRisesSpec)

/-- ITS FALSE NEIGHBOUR: 'it returns false'. Refute it at one input. -/
def keysRisesWrong : ChangeSpec := { name := "keysRises", fn := fun _ => fun
  | [d1, d2, d3] => { results := [.lit (.bool false)], args := [d1, d2, d3] }
  | _ => none }
def KeysRisesWrongFalsely : Prop := keysRisesRow.holds Try.pinned (OpenSpec.ofChange keysRisesWrong)

/-- 'osierlaw06.KeysStarts': WHATEVER THE INPUT: true; the input reads as it did. -/
def keysStartsSpec : ChangeSpec := { name := "keysStarts", fn := fun _ => fun
  | [d] => { results := [.lit (.bool true)], args := [d] }
  | _ => none }
def keysStartsRow : OpenClaim := { program := "ytbjeienmhglddaa", sum := "856e8293b793b37fc43ad172bd725b35a234892cb6ffdf3d441c771ed55a290a", func := "osier/osierlaw06.KeysStarts", spec := "keysStarts", apart := false }
def KeysStartsSaid : Prop := keysStartsRow.holds Try.pinned (OpenSpec.ofChange keysStartsSpec)

/-- ITS FALSE NEIGHBOUR: 'it returns false'. Refute it at one input. -/
def keysStartsWrong : ChangeSpec := { name := "keysStarts", fn := fun _ => fun
  | [d] => { results := [.lit (.bool false)], args := [d] }
  | _ => none }
def KeysStartsWrongFalsely : Prop := keysStartsRow.holds Try.pinned (OpenSpec.ofChange keysStartsWrong)

/-- 'osierlaw06.KeysOne': WHATEVER THE INPUT: true; the input reads as it did. -/
def keysOneSpec : ChangeSpec := { name := "keysOne", fn := fun _ => fun
  | [d1, d2] => { results := [.lit (.bool true)], args := [d1, d2] }
  | _ => none }
def keysOneRow : OpenClaim := { program := "ytbjeienmhglddaa", sum := "856e8293b793b37fc43ad172bd725b35a234892cb6ffdf3d441c771ed55a290a", func := "osier/osierlaw06.KeysOne", spec := "keysOne", apart := false }
def KeysOneSaid : Prop := keysOneRow.holds Try.pinned (OpenSpec.ofChange keysOneSpec)

/-- ITS FALSE NEIGHBOUR: 'it returns false'. Refute it at one input. -/
def keysOneWrong : ChangeSpec := { name := "keysOne", fn := fun _ => fun
  | [d1, d2] => { results := [.lit (.bool false)], args := [d1, d2] }
  | _ => none }
def KeysOneWrongFalsely : Prop := keysOneRow.holds Try.pinned (OpenSpec.ofChange keysOneWrong)

/- THE SECOND FORM. 'bulk': how many values and letters a reading holds, each counted each time it is reached (what is shared counts as often as it is met; a slice's spare places count too). A statement '..UptoSaid' is the law's where the arguments, and the package variables that the reading takes, are together of bulk at most 1048576: NARROWER than '..Said'. Prove '..Said' where nothing that the law and all that it calls make is longer than what came in: it says more and counts as full. Else prove '..UptoSaid'. A law counts once. -/
mutual
def uptoBulk {H : Type} : DataW H → Nat
  | .lit (.string bytes) => bytes.length + 1
  | .lit _ => 1
  | .nil => 1
  | .ptr d => uptoBulk d + 1
  | .slice elems spare => uptoBulkAll elems + uptoBulkAll spare + 1
  | .agg parts => uptoBulkAll parts + 1
  | .iface _ d => uptoBulk d + 1
  | .map entries => uptoBulkEntries entries + 1
  | .held _ => 1
def uptoBulkAll {H : Type} : List (DataW H) → Nat
  | [] => 0
  | d :: r => uptoBulk d + uptoBulkAll r
def uptoBulkEntries {H : Type} : List (Lit × DataW H) → Nat
  | [] => 0
  | x :: r => uptoBulkEntry x + uptoBulkEntries r
def uptoBulkEntry {H : Type} : Lit × DataW H → Nat
  | (.string bytes, d) => bytes.length + uptoBulk d + 1
  | (_, d) => uptoBulk d + 1
 end
def uptoSmall : (H : Type) → List (DataW H) → Bool := fun _ ds => decide (uptoBulkAll ds ≤ 1048576)
def OpenSpec.upto (s : _root_.Go.ChangeSpec) : _root_.Go.OpenSpec := { _root_.Go.OpenSpec.ofChange s with cond := some uptoSmall }

/-- 'osierlaw06.KeysBetween', WHERE WHAT IT READS IS OF BULK AT MOST 1048576: true; the input reads as it did. -/
def keysBetweenUptoRow : OpenClaim := { program := "ytbjeienmhglddaa", sum := "856e8293b793b37fc43ad172bd725b35a234892cb6ffdf3d441c771ed55a290a", func := "osier/osierlaw06.KeysBetween", spec := "keysBetween", recurses := true, apart := false, narrowed := true }
def KeysBetweenUptoSaid : Prop := keysBetweenUptoRow.holds Try.pinned (OpenSpec.upto keysBetweenSpec)

/-- 'osierlaw06.KeysRow', WHERE WHAT IT READS IS OF BULK AT MOST 1048576: true; the input reads as it did. -/
def keysRowUptoRow : OpenClaim := { program := "ytbjeienmhglddaa", sum := "856e8293b793b37fc43ad172bd725b35a234892cb6ffdf3d441c771ed55a290a", func := "osier/osierlaw06.KeysRow", spec := "keysRow", unfollowed := true, recurses := true, apart := false, narrowed := true }
def KeysRowUptoSaid : Prop := keysRowUptoRow.holds Try.pinned (OpenSpec.upto keysRowSpec)

/-- 'osierlaw06.KeysDense', WHERE WHAT IT READS IS OF BULK AT MOST 1048576: true; the input reads as it did. -/
def keysDenseUptoRow : OpenClaim := { program := "ytbjeienmhglddaa", sum := "856e8293b793b37fc43ad172bd725b35a234892cb6ffdf3d441c771ed55a290a", func := "osier/osierlaw06.KeysDense", spec := "keysDense", apart := false, narrowed := true }
def KeysDenseUptoSaid : Prop := keysDenseUptoRow.holds Try.pinned (OpenSpec.upto keysDenseSpec)

/-- 'osierlaw06.KeysRises', WHERE WHAT IT READS IS OF BULK AT MOST 1048576: true; the input reads as it did. -/
def keysRisesUptoRow : OpenClaim := { program := "ytbjeienmhglddaa", sum := "856e8293b793b37fc43ad172bd725b35a234892cb6ffdf3d441c771ed55a290a", func := "osier/osierlaw06.KeysRises", spec := "keysRises", unfollowed := true, recurses := true, apart := false, narrowed := true }
def KeysRisesUptoSaid : Prop := keysRisesUptoRow.holds Try.pinned (OpenSpec.upto keysRisesSpec)

/-- 'osierlaw06.KeysStarts', WHERE WHAT IT READS IS OF BULK AT MOST 1048576: true; the input reads as it did. -/
def keysStartsUptoRow : OpenClaim := { program := "ytbjeienmhglddaa", sum := "856e8293b793b37fc43ad172bd725b35a234892cb6ffdf3d441c771ed55a290a", func := "osier/osierlaw06.KeysStarts", spec := "keysStarts", apart := false, narrowed := true }
def KeysStartsUptoSaid : Prop := keysStartsUptoRow.holds Try.pinned (OpenSpec.upto keysStartsSpec)

/-- 'osierlaw06.KeysOne', WHERE WHAT IT READS IS OF BULK AT MOST 1048576: true; the input reads as it did. -/
def keysOneUptoRow : OpenClaim := { program := "ytbjeienmhglddaa", sum := "856e8293b793b37fc43ad172bd725b35a234892cb6ffdf3d441c771ed55a290a", func := "osier/osierlaw06.KeysOne", spec := "keysOne", apart := false, narrowed := true }
def KeysOneUptoSaid : Prop := keysOneUptoRow.holds Try.pinned (OpenSpec.upto keysOneSpec)

end Rows
end Go.Proofs.Ytbjeienmhglddaa
