/-
  No cell of these rows narrows 'for every input' (looked for: loops, veiled, ifaces, maps, wideKeys, modest, calm, conditions, laid).
  DERIVED. THE GIVEN ROWS OF THIS SEAT. 5 by the template 'for every input the law returns true; each argument reads behind the call as it read before'; 0 by the template 'total and deterministic' (their statements: YtmkjfgedhcidcaaTotals.lean).
  GIVEN WITH THE SEED: the statements are not yours to turn. If you find one false, say at which input.
  Laid BY PROGRAM, IN A SANDBOX (cutbox-rows.mjs): the forced cells as the released guide's own fill.sh prints them over the translation d4a2521eaa2c03af… (all of the seat's roots in one cut). By AI agents, Wed Nov 11 2026. No macro, syntax, notation, axiom, sorry.
-/
import Derived.Test.YtmkjfgedhcidcaaChecked
import GoSem.Claim
import GoSem.ClaimJoined
import GoSem.ClaimMapViews
import Derived.JoinedTies
import Derived.KernelRfl
namespace Go.Proofs.Ytmkjfgedhcidcaa
/- THE CELL 'sum', in the pinned program and in every row, IS THE sha256 OF THE DUMP (.gsa) THAT YtmkjfgedhcidcaaProg.lean LOADS. Nothing in Lean hashes anything: it is a label: what it is worth is what the hold of that sum in a sandbox is worth. -/
noncomputable def Try.pinned : Pinned := { name := "ytmkjfgedhcidcaa", sum := "d4a2521eaa2c03af4bb162f6153a6644e7f90bdced860398dba2b38c4d9f062f", checked := Try.checked }
namespace Rows
def none {H : Type} : Left H := { results := [], args := [] }

/-- 'osierlaw03.DotsOrder': WHATEVER THE INPUT: true; the input reads as it did. -/
def dotsOrderSpec : ChangeSpec := { name := "dotsOrder", fn := fun _ => fun
  | [d1, d2, d3] => { results := [.lit (.bool true)], args := [d1, d2, d3] }
  | _ => none }
def dotsOrderRow : OpenClaim := { program := "ytmkjfgedhcidcaa", sum := "d4a2521eaa2c03af4bb162f6153a6644e7f90bdced860398dba2b38c4d9f062f", func := "osier/osierlaw03.DotsOrder", spec := "dotsOrder", unfollowed := true, recurses := true, plainKeys := false, apart := false }
def DotsOrderSaid : Prop := dotsOrderRow.holds Try.pinned (OpenSpec.ofChange dotsOrderSpec)

/-- ITS FALSE NEIGHBOUR: 'it returns false'. Refute it at one input. -/
def dotsOrderWrong : ChangeSpec := { name := "dotsOrder", fn := fun _ => fun
  | [d1, d2, d3] => { results := [.lit (.bool false)], args := [d1, d2, d3] }
  | _ => none }
def DotsOrderWrongFalsely : Prop := dotsOrderRow.holds Try.pinned (OpenSpec.ofChange dotsOrderWrong)

/-- 'osierlaw03.DotsJoins': WHATEVER THE INPUT: true; the input reads as it did. -/
def dotsJoinsSpec : ChangeSpec := { name := "dotsJoins", fn := fun _ => fun
  | [d1, d2] => { results := [.lit (.bool true)], args := [d1, d2] }
  | _ => none }
def dotsJoinsRow : OpenClaim := { program := "ytmkjfgedhcidcaa", sum := "d4a2521eaa2c03af4bb162f6153a6644e7f90bdced860398dba2b38c4d9f062f", func := "osier/osierlaw03.DotsJoins", spec := "dotsJoins", unfollowed := true, recurses := true, plainKeys := false, apart := false }
def DotsJoinsSaid : Prop := dotsJoinsRow.holds Try.pinned (OpenSpec.ofChange dotsJoinsSpec)

/-- ITS FALSE NEIGHBOUR: 'it returns false'. Refute it at one input. -/
def dotsJoinsWrong : ChangeSpec := { name := "dotsJoins", fn := fun _ => fun
  | [d1, d2] => { results := [.lit (.bool false)], args := [d1, d2] }
  | _ => none }
def DotsJoinsWrongFalsely : Prop := dotsJoinsRow.holds Try.pinned (OpenSpec.ofChange dotsJoinsWrong)

/-- 'osierlaw03.DotsLaws': WHATEVER THE INPUT: true; the input reads as it did. -/
def dotsLawsSpec : ChangeSpec := { name := "dotsLaws", fn := fun _ => fun
  | [d1, d2, d3] => { results := [.lit (.bool true)], args := [d1, d2, d3] }
  | _ => none }
def dotsLawsRow : OpenClaim := { program := "ytmkjfgedhcidcaa", sum := "d4a2521eaa2c03af4bb162f6153a6644e7f90bdced860398dba2b38c4d9f062f", func := "osier/osierlaw03.DotsLaws", spec := "dotsLaws", unfollowed := true, recurses := true, plainKeys := false, apart := false }
def DotsLawsSaid : Prop := dotsLawsRow.holds Try.pinned (OpenSpec.ofChange dotsLawsSpec)

/-- ITS FALSE NEIGHBOUR: 'it returns false'. Refute it at one input. -/
def dotsLawsWrong : ChangeSpec := { name := "dotsLaws", fn := fun _ => fun
  | [d1, d2, d3] => { results := [.lit (.bool false)], args := [d1, d2, d3] }
  | _ => none }
def DotsLawsWrongFalsely : Prop := dotsLawsRow.holds Try.pinned (OpenSpec.ofChange dotsLawsWrong)

/-- 'osierlaw03.DotsBytes': WHATEVER THE INPUT: true; the input reads as it did. -/
def dotsBytesSpec : ChangeSpec := { name := "dotsBytes", fn := fun _ => fun
  | [d1, d2] => { results := [.lit (.bool true)], args := [d1, d2] }
  | _ => none }
def dotsBytesRow : OpenClaim := { program := "ytmkjfgedhcidcaa", sum := "d4a2521eaa2c03af4bb162f6153a6644e7f90bdced860398dba2b38c4d9f062f", func := "osier/osierlaw03.DotsBytes", spec := "dotsBytes", unfollowed := true, recurses := true, plainKeys := false, apart := false }
def DotsBytesSaid : Prop := dotsBytesRow.holds Try.pinned (OpenSpec.ofChange dotsBytesSpec)

/-- ITS FALSE NEIGHBOUR: 'it returns false'. Refute it at one input. -/
def dotsBytesWrong : ChangeSpec := { name := "dotsBytes", fn := fun _ => fun
  | [d1, d2] => { results := [.lit (.bool false)], args := [d1, d2] }
  | _ => none }
def DotsBytesWrongFalsely : Prop := dotsBytesRow.holds Try.pinned (OpenSpec.ofChange dotsBytesWrong)

/-- 'osierlaw03.DotsRises': WHATEVER THE INPUT: true; the input reads as it did. -/
def dotsRisesSpec : ChangeSpec := { name := "dotsRises", fn := fun _ => fun
  | [d] => { results := [.lit (.bool true)], args := [d] }
  | _ => none }
def dotsRisesRow : OpenClaim := { program := "ytmkjfgedhcidcaa", sum := "d4a2521eaa2c03af4bb162f6153a6644e7f90bdced860398dba2b38c4d9f062f", func := "osier/osierlaw03.DotsRises", spec := "dotsRises", unfollowed := true, recurses := true, plainKeys := false, apart := false }
def DotsRisesSaid : Prop := dotsRisesRow.holds Try.pinned (OpenSpec.ofChange dotsRisesSpec)

/-- ITS FALSE NEIGHBOUR: 'it returns false'. Refute it at one input. -/
def dotsRisesWrong : ChangeSpec := { name := "dotsRises", fn := fun _ => fun
  | [d] => { results := [.lit (.bool false)], args := [d] }
  | _ => none }
def DotsRisesWrongFalsely : Prop := dotsRisesRow.holds Try.pinned (OpenSpec.ofChange dotsRisesWrong)

/- THE SECOND FORM. 'bulk': how many values and letters a reading holds, each counted each time it is reached (what is shared counts as often as it is met; a slice's spare places count too). A statement '..UptoSaid' is the law's where the arguments, and the package variables that the reading takes, are together of bulk at most 1048576: NARROWER than '..Said'. Prove '..Said' where nothing that the law and all that it calls make is longer than what came in: it says more and counts as full. Else prove '..UptoSaid'. A law counts once. -/
mutual
def uptoBulk {H : Type} : DataW H → Nat
  | .lit (.string bytes) => bytes.length + 1
  | .lit _ => 1
  | .nil => 1
  | .ptr d => uptoBulk d + 1
  | .slice elems spare => uptoBulkAll elems + uptoBulkAll spare + 1
  | .agg parts => uptoBulkAll parts + 1
  | .iface _ d => uptoBulk d + 1
  | .map entries => uptoBulkEntries entries + 1
  | .held _ => 1
def uptoBulkAll {H : Type} : List (DataW H) → Nat
  | [] => 0
  | d :: r => uptoBulk d + uptoBulkAll r
def uptoBulkEntries {H : Type} : List (Lit × DataW H) → Nat
  | [] => 0
  | x :: r => uptoBulkEntry x + uptoBulkEntries r
def uptoBulkEntry {H : Type} : Lit × DataW H → Nat
  | (.string bytes, d) => bytes.length + uptoBulk d + 1
  | (_, d) => uptoBulk d + 1
 end
def uptoSmall : (H : Type) → List (DataW H) → Bool := fun _ ds => decide (uptoBulkAll ds ≤ 1048576)
def OpenSpec.upto (s : _root_.Go.ChangeSpec) : _root_.Go.OpenSpec := { _root_.Go.OpenSpec.ofChange s with cond := some uptoSmall }

/-- 'osierlaw03.DotsOrder', WHERE WHAT IT READS IS OF BULK AT MOST 1048576: true; the input reads as it did. -/
def dotsOrderUptoRow : OpenClaim := { program := "ytmkjfgedhcidcaa", sum := "d4a2521eaa2c03af4bb162f6153a6644e7f90bdced860398dba2b38c4d9f062f", func := "osier/osierlaw03.DotsOrder", spec := "dotsOrder", unfollowed := true, recurses := true, plainKeys := false, apart := false, narrowed := true }
def DotsOrderUptoSaid : Prop := dotsOrderUptoRow.holds Try.pinned (OpenSpec.upto dotsOrderSpec)

/-- 'osierlaw03.DotsJoins', WHERE WHAT IT READS IS OF BULK AT MOST 1048576: true; the input reads as it did. -/
def dotsJoinsUptoRow : OpenClaim := { program := "ytmkjfgedhcidcaa", sum := "d4a2521eaa2c03af4bb162f6153a6644e7f90bdced860398dba2b38c4d9f062f", func := "osier/osierlaw03.DotsJoins", spec := "dotsJoins", unfollowed := true, recurses := true, plainKeys := false, apart := false, narrowed := true }
def DotsJoinsUptoSaid : Prop := dotsJoinsUptoRow.holds Try.pinned (OpenSpec.upto dotsJoinsSpec)

/-- 'osierlaw03.DotsLaws', WHERE WHAT IT READS IS OF BULK AT MOST 1048576: true; the input reads as it did. -/
def dotsLawsUptoRow : OpenClaim := { program := "ytmkjfgedhcidcaa", sum := "d4a2521eaa2c03af4bb162f6153a6644e7f90bdced860398dba2b38c4d9f062f", func := "osier/osierlaw03.DotsLaws", spec := "dotsLaws", unfollowed := true, recurses := true, plainKeys := false, apart := false, narrowed := true }
def DotsLawsUptoSaid : Prop := dotsLawsUptoRow.holds Try.pinned (OpenSpec.upto dotsLawsSpec)

/-- 'osierlaw03.DotsBytes', WHERE WHAT IT READS IS OF BULK AT MOST 1048576: true; the input reads as it did. -/
def dotsBytesUptoRow : OpenClaim := { program := "ytmkjfgedhcidcaa", sum := "d4a2521eaa2c03af4bb162f6153a6644e7f90bdced860398dba2b38c4d9f062f", func := "osier/osierlaw03.DotsBytes", spec := "dotsBytes", unfollowed := true, recurses := true, plainKeys := false, apart := false, narrowed := true }
def DotsBytesUptoSaid : Prop := dotsBytesUptoRow.holds Try.pinned (OpenSpec.upto dotsBytesSpec)

/-- 'osierlaw03.DotsRises', WHERE WHAT IT READS IS OF BULK AT MOST 1048576: true; the input reads as it did. -/
def dotsRisesUptoRow : OpenClaim := { program := "ytmkjfgedhcidcaa", sum := "d4a2521eaa2c03af4bb162f6153a6644e7f90bdced860398dba2b38c4d9f062f", func := "osier/osierlaw03.DotsRises", spec := "dotsRises", unfollowed := true, recurses := true, plainKeys := false, apart := false, narrowed := true }
def DotsRisesUptoSaid : Prop := dotsRisesUptoRow.holds Try.pinned (OpenSpec.upto dotsRisesSpec)

end Rows
end Go.Proofs.Ytmkjfgedhcidcaa
