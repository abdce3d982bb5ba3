/- Lines that came in; a text that came in; the wrap of this layer's statements. -/
import Derived.Test.YtnmdcdphpcpojaaGreatDoorFgSame
import Derived.Laws.BytesArg
import Derived.Lib.SlBytesRow
import Derived.Lib.BufferRead
import Derived.Test.YtnmdcdphpcpojaaGreatDoorTrMath
import Derived.Test.YtnmdcdphpcpojaaGreatDoorMKeys
import Derived.ProofKit
import Derived.OpenShut
import Derived.Deep.SlicePairs
import Derived.Lib.SmallJoins
import Derived.Test.YtnmdcdphpcpojaaGreatDoorRows
import Derived.HandedShaped
namespace Go.Proofs.YtnmdcdphpcpojaaGreatDoor
section
set_option linter.unusedVariables false
open Go.RowKit

theorem strOfNums_len (L : List Int) : (strOfNums L).data.toList.length = L.length := by simp [strOfNums]

theorem open_byt {H : Type} {enc : TypeId × Value → H} {W : World} {a : Option Addr} {len cap : Nat} {d : DataW H} {p : List MemPlace} (h : DataW.Trod enc Tryz.prog W 0 (fun _ => true) true 59 (.slice a len cap) d p) :
    ∃ l : List UInt8, l.length = len ∧ ∀ W', Below W.heap.size W W' → (convert 59 9 (.slice a len cap)).run Tryz.prog W' = .ok (.string ⟨l.toArray⟩) W' := by
  obtain ⟨fuel, hf⟩ := h
  rcases Go.ChangeShapes.open_ints Tryz.underlying59 Tryz.underlying5 (by kernel_rfl) hf with ⟨hcs, _⟩ | ⟨x, l, c, zs, hcs, _, hl, hm, hz, _, hcell, hwz⟩
  · simp [Value.cells] at hcs
    obtain ⟨rfl, rfl, rfl⟩ := hcs
    exact ⟨[], rfl, fun W' _ => Lib.run_convert_nil_bytes W' 59 9 5 0 Tryz.underlying59 Tryz.underlying5 Tryz.underlying9⟩
  · simp [Value.cells] at hcs
    obtain ⟨rfl, rfl, rfl⟩ := hcs
    have hz' : zs.length = cap := by simpa using hz
    have hlt : (zs.take len).length = len := by rw [List.length_take]; omega
    refine ⟨(strOfNums (zs.take len)).data.toList, by rw [strOfNums_len]; exact hlt, fun W' hb => ?_⟩
    obtain ⟨g, o, sp⟩ := x
    by_cases hp : 0 < cap
    · have h0 := hcell 0 (by omega)
      have hs : sp = none := by simpa [Addr.add] using World.cell?_spot h0
      subst hs
      have hg : g < W.heap.size := by have := cell_in h0; simpa [Addr.add] using this
      have := run_convert_bytes_arg (P := Tryz.prog) W' 59 5 Tryz.underlying59 Tryz.underlying5 g o len cap (zs.take len) hlt (fun i hi => by
        have h1 := hcell i (by omega)
        rw [fadd_none] at h1
        rw [World.cell?_of_block (hb.block g hg), h1]
        simp [List.getD, List.getElem?_take_of_lt hi]) 9 Tryz.underlying9
      rw [this]
    · obtain rfl : cap = 0 := by omega
      obtain rfl : len = 0 := by omega
      rw [run_convert_bytes_string W' 59 9 5 _ 0 0 Tryz.underlying59 Tryz.underlying5 Tryz.underlying9]
      simp [Conv.bytesToString, loadCells]
      rfl
end

section
set_option linter.unusedVariables false
open Go.RowKit

def Mv.cells (x : Mv) : List Value := [.int .i64 x.id.1, .int .i64 x.id.2, .int .i64 x.time, .int .i64 x.block.1, .int .i64 x.block.2, .int .i64 x.parent.1, .int .i64 x.parent.2, .string x.key]

section
open Go.ChangeShapes Go.WideShapes
variable {H : Type} {enc : TypeId × Value → H} {P : Program} {w : World} {base : Nat} {spare : Nat → Bool} {held : Bool}

end
end

section
set_option linter.unusedVariables false
open Go.RowKit

section
open Go.ChangeShapes Go.WideShapes
variable {H : Type} {enc : TypeId × Value → H} {P : Program} {w : World} {base : Nat} {spare : Nat → Bool} {held : Bool}

end

/-- The plain wrap, with the listed variables and the world's shape. -/
theorem ol_wrap {H : Type} {enc : TypeId × Value → H} {C : Checked} {os : Os} {f : FuncId} {fn : Func} {s : ChangeSpec} {laid : List (String × DataW Unit)}
    (own : ownKnob C.prog.godebug = Option.none) (started : os.Started) (noInit : C.prog.inits.idxOf? f = Option.none) (hfn : C.prog.funcs[f]? = some fn)
    (witness : ∃ (w : World) (tape : Tape) (i : Input), w.os = os ∧ (w.forCall tape i).Shaped C.prog ∧ i.vars = [] ∧ Input.okWide C.prog (w.forCall tape i) .any w.heap.size f i ∧
      ((s.pre enc C.prog fn [] false (w.forCall tape i).memory i.args ∧ laidMetH C.prog laid (w.forCall tape i).memory) ∧ sizedMet enc C.prog fn (OpenSpec.ofChange s) false (w.forCall tape i).memory i.args) ∧ ({} : Assume).holds C.prog (lone (Frame.enter C.prog f i.args .normal) [] (w.forCall tape i)))
    (contract : ∀ (W : World) (base : Nat) (args : Array Value) (ds gs : List (DataW H)) (before : List MemPlace),
      (∀ (j : Nat) t v, fn.params[j]? = some t → args[j]? = some v → Value.okWide C.prog W .any base t v) →
      DataW.Whole enc C.prog fn.params.toList s.vars false W args.toList ds gs before → W.ShapedOpen C.prog →
      Calls C.prog f args W fun e W' => ∃ v, e = .returned v ∧ s.post enc C.prog fn false true false false W args v W') :
    ReturnsInHanded {} C os f .any (fun w args => (s.pre enc C.prog fn [] false w args ∧ laidMetH C.prog laid w) ∧ sizedMet enc C.prog fn (OpenSpec.ofChange s) false w args) (s.post enc C.prog fn false true false false) := by
  refine returnsInHanded_of_calls own started noInit witness ?_
  rintro w tape i _ hsh _ ⟨_, _, _, fn', hfn', _, _, _, _, hval⟩ ⟨⟨⟨ds, gs, before, hw, _⟩, _⟩, _⟩ _
  obtain rfl : fn' = fn := Option.some.inj (hfn'.symm.trans hfn)
  exact (contract (w.forCall tape i) w.heap.size i.args ds gs before hval (DataW.Whole.of_heap (w' := w.forCall tape i) (by rfl) hw) hsh).mono fun e W' ⟨v, he, hp⟩ => by
    subst he
    exact ChangeSpec.post_blind hp
end
end Go.Proofs.YtnmdcdphpcpojaaGreatDoor
