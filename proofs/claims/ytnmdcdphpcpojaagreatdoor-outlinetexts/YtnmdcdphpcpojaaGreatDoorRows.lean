/-
  NARROWER THAN 'FOR EVERY INPUT', by the rows' own cells (each row's printed sentence says how): OutlineUnder: laid · OutlineShows: laid · OutlineReads: laid · OutlineBack: laid · OutlineWhole: laid · OutlineTexts: laid.
  DERIVED. THE GIVEN ROWS OF THIS SEAT. 6 by the template 'for every input the law returns true; each argument reads behind the call as it read before'; 0 by the template 'total and deterministic' (their statements: YtnmdcdphpcpojaaGreatDoorTotals.lean).
  GIVEN WITH THE SEED: the statements are not yours to turn. If you find one false, say at which input.
  Laid BY PROGRAM, IN A SANDBOX (cutbox-rows.mjs): the forced cells as the released guide's own fill.sh prints them over the translation 1fb3556244628f1c… (all of the seat's roots in one cut). By AI agents, Wed Nov 11 2026. No macro, syntax, notation, axiom, sorry.
-/
import Derived.Test.YtnmdcdphpcpojaaGreatDoorChecked
import GoSem.PinnedTables
import GoSem.Claim
import GoSem.ClaimJoined
import GoSem.ClaimMapViews
import Derived.JoinedTies
import Derived.KernelRfl
namespace Go.Proofs.YtnmdcdphpcpojaaGreatDoor
/- THE CELL 'sum', in the pinned program and in every row, IS THE sha256 OF THE DUMP (.gsa) THAT YtnmdcdphpcpojaaGreatDoorProg.lean LOADS. Nothing in Lean hashes anything: it is a label: what it is worth is what the hold of that sum in a sandbox is worth. -/
noncomputable def Tryz.pinned : Pinned := { name := "ytnmdcdphpcpojaagreatdoor", sum := "1fb3556244628f1c1ac61f09c5ec1fe7b3358e098fd3202f5dd9d5eb357d3b1c", checked := Tryz.checked }
namespace Rows
def none {H : Type} : Left H := { results := [], args := [] }

/- WHAT THE LISTED PACKAGE-LEVEL VARIABLES READ AS WHEN THE CALL BEGINS. Each datum BY PROGRAM (the guide's laid-datum.mjs) off the statement by which the dump's own 'gosem.cut.vars' lays the variable. In a bare row this is a premise. The card (YtnmdcdphpcpojaaGreatDoorCards.lean) ties it to the program's text. -/
def laid_unicode_utf8_acceptRanges {H : Type} : DataW H := .agg [.agg [.lit (.int .u8 128), .lit (.int .u8 191)], .agg [.lit (.int .u8 160), .lit (.int .u8 191)], .agg [.lit (.int .u8 128), .lit (.int .u8 159)], .agg [.lit (.int .u8 144), .lit (.int .u8 191)], .agg [.lit (.int .u8 128), .lit (.int .u8 143)], .agg [.lit (.int .u8 0), .lit (.int .u8 0)], .agg [.lit (.int .u8 0), .lit (.int .u8 0)], .agg [.lit (.int .u8 0), .lit (.int .u8 0)], .agg [.lit (.int .u8 0), .lit (.int .u8 0)], .agg [.lit (.int .u8 0), .lit (.int .u8 0)], .agg [.lit (.int .u8 0), .lit (.int .u8 0)], .agg [.lit (.int .u8 0), .lit (.int .u8 0)], .agg [.lit (.int .u8 0), .lit (.int .u8 0)], .agg [.lit (.int .u8 0), .lit (.int .u8 0)], .agg [.lit (.int .u8 0), .lit (.int .u8 0)], .agg [.lit (.int .u8 0), .lit (.int .u8 0)]]
/-- One of Go's own tables, pinned by name: the form's constant. -/
def laid_unicode_utf8_first : DataW Unit := Go.Pinned.utf8First

/-- 'osierlaw11.OutlineUnder': WHATEVER THE INPUT: true; the input reads as it did. -/
def outlineUnderSpec : ChangeSpec := { name := "outlineUnder", fn := fun _ => fun
  | [d1, d2] => { results := [.lit (.bool true)], args := [d1, d2] }
  | _ => none }
def outlineUnderRow : OpenClaim := { program := "ytnmdcdphpcpojaagreatdoor", sum := "1fb3556244628f1c1ac61f09c5ec1fe7b3358e098fd3202f5dd9d5eb357d3b1c", func := "osier/osierlaw11.OutlineUnder", spec := "outlineUnder", inPlace := ["slices.overlaps[osier/api.Dot]", "slices.overlaps[*osier/movetree.entry]", "slices.overlaps[*osier/fugue.character]", "internal/abi.NoEscape", "internal/bytealg.MakeNoZero", "internal/bytealg.CountString", "internal/bytealg.IndexByteString", "internal/bytealg.IndexString"], unfollowed := true, recurses := true, named := ["internal/bytealg.MaxLen", "unicode/utf8.first", "unicode/utf8.acceptRanges"], plainKeys := false, apart := false, laid := [("unicode/utf8.acceptRanges", laid_unicode_utf8_acceptRanges), ("unicode/utf8.first", laid_unicode_utf8_first)] }
def OutlineUnderSaid : Prop := outlineUnderRow.holds Tryz.pinned (OpenSpec.ofChange outlineUnderSpec)

/-- ITS FALSE NEIGHBOUR: 'it returns false'. Refute it at one input. -/
def outlineUnderWrong : ChangeSpec := { name := "outlineUnder", fn := fun _ => fun
  | [d1, d2] => { results := [.lit (.bool false)], args := [d1, d2] }
  | _ => none }
def OutlineUnderWrongFalsely : Prop := outlineUnderRow.holds Tryz.pinned (OpenSpec.ofChange outlineUnderWrong)

/-- 'osierlaw11.OutlineShows': WHATEVER THE INPUT: true; the input reads as it did. -/
def outlineShowsSpec : ChangeSpec := { name := "outlineShows", fn := fun _ => fun
  | [d] => { results := [.lit (.bool true)], args := [d] }
  | _ => none }
def outlineShowsRow : OpenClaim := { program := "ytnmdcdphpcpojaagreatdoor", sum := "1fb3556244628f1c1ac61f09c5ec1fe7b3358e098fd3202f5dd9d5eb357d3b1c", func := "osier/osierlaw11.OutlineShows", spec := "outlineShows", inPlace := ["slices.overlaps[osier/api.Dot]", "slices.overlaps[*osier/movetree.entry]", "slices.overlaps[*osier/fugue.character]", "internal/abi.NoEscape", "internal/bytealg.MakeNoZero", "internal/bytealg.CountString", "internal/bytealg.IndexByteString", "internal/bytealg.IndexString"], unfollowed := true, recurses := true, named := ["internal/bytealg.MaxLen", "unicode/utf8.first", "unicode/utf8.acceptRanges"], plainKeys := false, apart := false, laid := [("unicode/utf8.acceptRanges", laid_unicode_utf8_acceptRanges), ("unicode/utf8.first", laid_unicode_utf8_first)] }
def OutlineShowsSaid : Prop := outlineShowsRow.holds Tryz.pinned (OpenSpec.ofChange outlineShowsSpec)

/-- ITS FALSE NEIGHBOUR: 'it returns false'. Refute it at one input. -/
def outlineShowsWrong : ChangeSpec := { name := "outlineShows", fn := fun _ => fun
  | [d] => { results := [.lit (.bool false)], args := [d] }
  | _ => none }
def OutlineShowsWrongFalsely : Prop := outlineShowsRow.holds Tryz.pinned (OpenSpec.ofChange outlineShowsWrong)

/-- 'osierlaw11.OutlineReads': WHATEVER THE INPUT: true; the input reads as it did. -/
def outlineReadsSpec : ChangeSpec := { name := "outlineReads", fn := fun _ => fun
  | [d] => { results := [.lit (.bool true)], args := [d] }
  | _ => none }
def outlineReadsRow : OpenClaim := { program := "ytnmdcdphpcpojaagreatdoor", sum := "1fb3556244628f1c1ac61f09c5ec1fe7b3358e098fd3202f5dd9d5eb357d3b1c", func := "osier/osierlaw11.OutlineReads", spec := "outlineReads", inPlace := ["slices.overlaps[osier/api.Dot]", "slices.overlaps[*osier/movetree.entry]", "slices.overlaps[*osier/fugue.character]", "internal/abi.NoEscape", "internal/bytealg.MakeNoZero", "internal/bytealg.CountString", "internal/bytealg.IndexByteString", "internal/bytealg.IndexString"], unfollowed := true, recurses := true, named := ["internal/bytealg.MaxLen", "unicode/utf8.first", "unicode/utf8.acceptRanges"], plainKeys := false, apart := false, laid := [("unicode/utf8.acceptRanges", laid_unicode_utf8_acceptRanges), ("unicode/utf8.first", laid_unicode_utf8_first)] }
def OutlineReadsSaid : Prop := outlineReadsRow.holds Tryz.pinned (OpenSpec.ofChange outlineReadsSpec)

/-- ITS FALSE NEIGHBOUR: 'it returns false'. Refute it at one input. -/
def outlineReadsWrong : ChangeSpec := { name := "outlineReads", fn := fun _ => fun
  | [d] => { results := [.lit (.bool false)], args := [d] }
  | _ => none }
def OutlineReadsWrongFalsely : Prop := outlineReadsRow.holds Tryz.pinned (OpenSpec.ofChange outlineReadsWrong)

/-- 'osierlaw11.OutlineBack': WHATEVER THE INPUT: true; the input reads as it did. -/
def outlineBackSpec : ChangeSpec := { name := "outlineBack", fn := fun _ => fun
  | [d1, d2] => { results := [.lit (.bool true)], args := [d1, d2] }
  | _ => none }
def outlineBackRow : OpenClaim := { program := "ytnmdcdphpcpojaagreatdoor", sum := "1fb3556244628f1c1ac61f09c5ec1fe7b3358e098fd3202f5dd9d5eb357d3b1c", func := "osier/osierlaw11.OutlineBack", spec := "outlineBack", inPlace := ["slices.overlaps[osier/api.Dot]", "slices.overlaps[*osier/movetree.entry]", "slices.overlaps[*osier/fugue.character]", "internal/abi.NoEscape", "internal/bytealg.MakeNoZero", "internal/bytealg.CountString", "internal/bytealg.IndexByteString", "internal/bytealg.IndexString"], unfollowed := true, recurses := true, named := ["internal/bytealg.MaxLen", "unicode/utf8.first", "unicode/utf8.acceptRanges"], plainKeys := false, apart := false, laid := [("unicode/utf8.acceptRanges", laid_unicode_utf8_acceptRanges), ("unicode/utf8.first", laid_unicode_utf8_first)] }
def OutlineBackSaid : Prop := outlineBackRow.holds Tryz.pinned (OpenSpec.ofChange outlineBackSpec)

/-- ITS FALSE NEIGHBOUR: 'it returns false'. Refute it at one input. -/
def outlineBackWrong : ChangeSpec := { name := "outlineBack", fn := fun _ => fun
  | [d1, d2] => { results := [.lit (.bool false)], args := [d1, d2] }
  | _ => none }
def OutlineBackWrongFalsely : Prop := outlineBackRow.holds Tryz.pinned (OpenSpec.ofChange outlineBackWrong)

/-- 'osierlaw11.OutlineWhole': WHATEVER THE INPUT: true; the input reads as it did. -/
def outlineWholeSpec : ChangeSpec := { name := "outlineWhole", fn := fun _ => fun
  | [d] => { results := [.lit (.bool true)], args := [d] }
  | _ => none }
def outlineWholeRow : OpenClaim := { program := "ytnmdcdphpcpojaagreatdoor", sum := "1fb3556244628f1c1ac61f09c5ec1fe7b3358e098fd3202f5dd9d5eb357d3b1c", func := "osier/osierlaw11.OutlineWhole", spec := "outlineWhole", inPlace := ["slices.overlaps[osier/api.Dot]", "slices.overlaps[*osier/movetree.entry]", "slices.overlaps[*osier/fugue.character]", "internal/abi.NoEscape", "internal/bytealg.MakeNoZero", "internal/bytealg.CountString", "internal/bytealg.IndexByteString", "internal/bytealg.IndexString"], unfollowed := true, recurses := true, named := ["internal/bytealg.MaxLen", "unicode/utf8.first", "unicode/utf8.acceptRanges"], plainKeys := false, apart := false, laid := [("unicode/utf8.acceptRanges", laid_unicode_utf8_acceptRanges), ("unicode/utf8.first", laid_unicode_utf8_first)] }
def OutlineWholeSaid : Prop := outlineWholeRow.holds Tryz.pinned (OpenSpec.ofChange outlineWholeSpec)

/-- ITS FALSE NEIGHBOUR: 'it returns false'. Refute it at one input. -/
def outlineWholeWrong : ChangeSpec := { name := "outlineWhole", fn := fun _ => fun
  | [d] => { results := [.lit (.bool false)], args := [d] }
  | _ => none }
def OutlineWholeWrongFalsely : Prop := outlineWholeRow.holds Tryz.pinned (OpenSpec.ofChange outlineWholeWrong)

/-- 'osierlaw11.OutlineTexts': WHATEVER THE INPUT: true; the input reads as it did. -/
def outlineTextsSpec : ChangeSpec := { name := "outlineTexts", fn := fun _ => fun
  | [d] => { results := [.lit (.bool true)], args := [d] }
  | _ => none }
def outlineTextsRow : OpenClaim := { program := "ytnmdcdphpcpojaagreatdoor", sum := "1fb3556244628f1c1ac61f09c5ec1fe7b3358e098fd3202f5dd9d5eb357d3b1c", func := "osier/osierlaw11.OutlineTexts", spec := "outlineTexts", inPlace := ["slices.overlaps[osier/api.Dot]", "slices.overlaps[*osier/movetree.entry]", "slices.overlaps[*osier/fugue.character]", "internal/abi.NoEscape", "internal/bytealg.MakeNoZero", "internal/bytealg.CountString", "internal/bytealg.IndexByteString", "internal/bytealg.IndexString"], unfollowed := true, recurses := true, named := ["internal/bytealg.MaxLen", "unicode/utf8.first", "unicode/utf8.acceptRanges"], plainKeys := false, apart := false, laid := [("unicode/utf8.acceptRanges", laid_unicode_utf8_acceptRanges), ("unicode/utf8.first", laid_unicode_utf8_first)] }
def OutlineTextsSaid : Prop := outlineTextsRow.holds Tryz.pinned (OpenSpec.ofChange outlineTextsSpec)

/-- ITS FALSE NEIGHBOUR: 'it returns false'. Refute it at one input. -/
def outlineTextsWrong : ChangeSpec := { name := "outlineTexts", fn := fun _ => fun
  | [d] => { results := [.lit (.bool false)], args := [d] }
  | _ => none }
def OutlineTextsWrongFalsely : Prop := outlineTextsRow.holds Tryz.pinned (OpenSpec.ofChange outlineTextsWrong)

/- THE SECOND FORM. 'bulk': how many values and letters a reading holds, each counted each time it is reached (what is shared counts as often as it is met; a slice's spare places count too). A statement '..UptoSaid' is the law's where the arguments, and the package variables that the reading takes, are together of bulk at most 1048576: NARROWER than '..Said'. Prove '..Said' where nothing that the law and all that it calls make is longer than what came in: it says more and counts as full. Else prove '..UptoSaid'. A law counts once. -/
mutual
def uptoBulk {H : Type} : DataW H → Nat
  | .lit (.string bytes) => bytes.length + 1
  | .lit _ => 1
  | .nil => 1
  | .ptr d => uptoBulk d + 1
  | .slice elems spare => uptoBulkAll elems + uptoBulkAll spare + 1
  | .agg parts => uptoBulkAll parts + 1
  | .iface _ d => uptoBulk d + 1
  | .map entries => uptoBulkEntries entries + 1
  | .held _ => 1
def uptoBulkAll {H : Type} : List (DataW H) → Nat
  | [] => 0
  | d :: r => uptoBulk d + uptoBulkAll r
def uptoBulkEntries {H : Type} : List (Lit × DataW H) → Nat
  | [] => 0
  | x :: r => uptoBulkEntry x + uptoBulkEntries r
def uptoBulkEntry {H : Type} : Lit × DataW H → Nat
  | (.string bytes, d) => bytes.length + uptoBulk d + 1
  | (_, d) => uptoBulk d + 1
 end
def uptoSmall : (H : Type) → List (DataW H) → Bool := fun _ ds => decide (uptoBulkAll ds ≤ 1048576)
def OpenSpec.upto (s : _root_.Go.ChangeSpec) : _root_.Go.OpenSpec := { _root_.Go.OpenSpec.ofChange s with cond := some uptoSmall }

/-- 'osierlaw11.OutlineUnder', WHERE WHAT IT READS IS OF BULK AT MOST 1048576: true; the input reads as it did. -/
def outlineUnderUptoRow : OpenClaim := { program := "ytnmdcdphpcpojaagreatdoor", sum := "1fb3556244628f1c1ac61f09c5ec1fe7b3358e098fd3202f5dd9d5eb357d3b1c", func := "osier/osierlaw11.OutlineUnder", spec := "outlineUnder", inPlace := ["slices.overlaps[osier/api.Dot]", "slices.overlaps[*osier/movetree.entry]", "slices.overlaps[*osier/fugue.character]", "internal/abi.NoEscape", "internal/bytealg.MakeNoZero", "internal/bytealg.CountString", "internal/bytealg.IndexByteString", "internal/bytealg.IndexString"], unfollowed := true, recurses := true, named := ["internal/bytealg.MaxLen", "unicode/utf8.first", "unicode/utf8.acceptRanges"], plainKeys := false, apart := false, laid := [("unicode/utf8.acceptRanges", laid_unicode_utf8_acceptRanges), ("unicode/utf8.first", laid_unicode_utf8_first)], narrowed := true }
def OutlineUnderUptoSaid : Prop := outlineUnderUptoRow.holds Tryz.pinned (OpenSpec.upto outlineUnderSpec)

/-- 'osierlaw11.OutlineShows', WHERE WHAT IT READS IS OF BULK AT MOST 1048576: true; the input reads as it did. -/
def outlineShowsUptoRow : OpenClaim := { program := "ytnmdcdphpcpojaagreatdoor", sum := "1fb3556244628f1c1ac61f09c5ec1fe7b3358e098fd3202f5dd9d5eb357d3b1c", func := "osier/osierlaw11.OutlineShows", spec := "outlineShows", inPlace := ["slices.overlaps[osier/api.Dot]", "slices.overlaps[*osier/movetree.entry]", "slices.overlaps[*osier/fugue.character]", "internal/abi.NoEscape", "internal/bytealg.MakeNoZero", "internal/bytealg.CountString", "internal/bytealg.IndexByteString", "internal/bytealg.IndexString"], unfollowed := true, recurses := true, named := ["internal/bytealg.MaxLen", "unicode/utf8.first", "unicode/utf8.acceptRanges"], plainKeys := false, apart := false, laid := [("unicode/utf8.acceptRanges", laid_unicode_utf8_acceptRanges), ("unicode/utf8.first", laid_unicode_utf8_first)], narrowed := true }
def OutlineShowsUptoSaid : Prop := outlineShowsUptoRow.holds Tryz.pinned (OpenSpec.upto outlineShowsSpec)

/-- 'osierlaw11.OutlineReads', WHERE WHAT IT READS IS OF BULK AT MOST 1048576: true; the input reads as it did. -/
def outlineReadsUptoRow : OpenClaim := { program := "ytnmdcdphpcpojaagreatdoor", sum := "1fb3556244628f1c1ac61f09c5ec1fe7b3358e098fd3202f5dd9d5eb357d3b1c", func := "osier/osierlaw11.OutlineReads", spec := "outlineReads", inPlace := ["slices.overlaps[osier/api.Dot]", "slices.overlaps[*osier/movetree.entry]", "slices.overlaps[*osier/fugue.character]", "internal/abi.NoEscape", "internal/bytealg.MakeNoZero", "internal/bytealg.CountString", "internal/bytealg.IndexByteString", "internal/bytealg.IndexString"], unfollowed := true, recurses := true, named := ["internal/bytealg.MaxLen", "unicode/utf8.first", "unicode/utf8.acceptRanges"], plainKeys := false, apart := false, laid := [("unicode/utf8.acceptRanges", laid_unicode_utf8_acceptRanges), ("unicode/utf8.first", laid_unicode_utf8_first)], narrowed := true }
def OutlineReadsUptoSaid : Prop := outlineReadsUptoRow.holds Tryz.pinned (OpenSpec.upto outlineReadsSpec)

/-- 'osierlaw11.OutlineBack', WHERE WHAT IT READS IS OF BULK AT MOST 1048576: true; the input reads as it did. -/
def outlineBackUptoRow : OpenClaim := { program := "ytnmdcdphpcpojaagreatdoor", sum := "1fb3556244628f1c1ac61f09c5ec1fe7b3358e098fd3202f5dd9d5eb357d3b1c", func := "osier/osierlaw11.OutlineBack", spec := "outlineBack", inPlace := ["slices.overlaps[osier/api.Dot]", "slices.overlaps[*osier/movetree.entry]", "slices.overlaps[*osier/fugue.character]", "internal/abi.NoEscape", "internal/bytealg.MakeNoZero", "internal/bytealg.CountString", "internal/bytealg.IndexByteString", "internal/bytealg.IndexString"], unfollowed := true, recurses := true, named := ["internal/bytealg.MaxLen", "unicode/utf8.first", "unicode/utf8.acceptRanges"], plainKeys := false, apart := false, laid := [("unicode/utf8.acceptRanges", laid_unicode_utf8_acceptRanges), ("unicode/utf8.first", laid_unicode_utf8_first)], narrowed := true }
def OutlineBackUptoSaid : Prop := outlineBackUptoRow.holds Tryz.pinned (OpenSpec.upto outlineBackSpec)

/-- 'osierlaw11.OutlineWhole', WHERE WHAT IT READS IS OF BULK AT MOST 1048576: true; the input reads as it did. -/
def outlineWholeUptoRow : OpenClaim := { program := "ytnmdcdphpcpojaagreatdoor", sum := "1fb3556244628f1c1ac61f09c5ec1fe7b3358e098fd3202f5dd9d5eb357d3b1c", func := "osier/osierlaw11.OutlineWhole", spec := "outlineWhole", inPlace := ["slices.overlaps[osier/api.Dot]", "slices.overlaps[*osier/movetree.entry]", "slices.overlaps[*osier/fugue.character]", "internal/abi.NoEscape", "internal/bytealg.MakeNoZero", "internal/bytealg.CountString", "internal/bytealg.IndexByteString", "internal/bytealg.IndexString"], unfollowed := true, recurses := true, named := ["internal/bytealg.MaxLen", "unicode/utf8.first", "unicode/utf8.acceptRanges"], plainKeys := false, apart := false, laid := [("unicode/utf8.acceptRanges", laid_unicode_utf8_acceptRanges), ("unicode/utf8.first", laid_unicode_utf8_first)], narrowed := true }
def OutlineWholeUptoSaid : Prop := outlineWholeUptoRow.holds Tryz.pinned (OpenSpec.upto outlineWholeSpec)

/-- 'osierlaw11.OutlineTexts', WHERE WHAT IT READS IS OF BULK AT MOST 1048576: true; the input reads as it did. -/
def outlineTextsUptoRow : OpenClaim := { program := "ytnmdcdphpcpojaagreatdoor", sum := "1fb3556244628f1c1ac61f09c5ec1fe7b3358e098fd3202f5dd9d5eb357d3b1c", func := "osier/osierlaw11.OutlineTexts", spec := "outlineTexts", inPlace := ["slices.overlaps[osier/api.Dot]", "slices.overlaps[*osier/movetree.entry]", "slices.overlaps[*osier/fugue.character]", "internal/abi.NoEscape", "internal/bytealg.MakeNoZero", "internal/bytealg.CountString", "internal/bytealg.IndexByteString", "internal/bytealg.IndexString"], unfollowed := true, recurses := true, named := ["internal/bytealg.MaxLen", "unicode/utf8.first", "unicode/utf8.acceptRanges"], plainKeys := false, apart := false, laid := [("unicode/utf8.acceptRanges", laid_unicode_utf8_acceptRanges), ("unicode/utf8.first", laid_unicode_utf8_first)], narrowed := true }
def OutlineTextsUptoSaid : Prop := outlineTextsUptoRow.holds Tryz.pinned (OpenSpec.upto outlineTextsSpec)

end Rows
end Go.Proofs.YtnmdcdphpcpojaaGreatDoor
