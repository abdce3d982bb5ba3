/- For any two numbers NumOrder answers true: what has fewer bytes is the lesser number; of as many bytes the lesser number's bytes are ahead. No condition. -/
import Derived.Test.YtbhfnhciadhgmaaAwake
import Derived.Test.YtbhfnhciadhgmaaOrder
import Derived.WalkKit
import Derived.ProofKit
import Derived.OpenShut
import Derived.ShutString
namespace Go.Proofs.Ytbhfnhciadhgmaa
open Go.RowKit

set_option maxHeartbeats 400000 in
theorem numOrder_walk (a0 a1 : Int) (w0 : (Lit.int .u64 a0).wf = true) (w1 : (Lit.int .u64 a1).wf = true) (w : World) :
    Calls Try.prog 7 #[.int .u64 a0, .int .u64 a1] w fun e w' => e = .returned (.bool true) ∧ Below w.heap.size w w' := by
  have bd0 := bounds_u64 w0
  have bd1 := bounds_u64 w1
  have p0 := sz_pos a0
  have q0 := sz_le a0
  by_cases hs : sz a0 = sz a1
  · have hl := enc_less a0 a1 (by omega) (by omega) (by omega) (by omega) hs
    have hs2 : ((sz a0 : Int) == (sz a1 : Int)) = true := by simp; omega
    have hsH : Hid (sz a0 = sz a1) := hs
    clear hs
    go_enter Try.func7, Try.ntmps7
    go_wp2_with (first
      | (go_at_call 9; refine (awake_any _).mono ?_; rintro e w1 ⟨rfl, hb1⟩)
      | (go_at_call 10; have hq := hr2; refine (uint_any none 0 0 a1 [] _ (src_nil _) (by omega) (by omega) (by omega)).mono ?_; rintro e w3 ⟨rfl, hr3, hb3⟩; have c2 := conv_row (hr2.below hb3) (sz a0) (sz a0) (enc_length a0); have c3 := conv_row hr3 (sz a1) (sz a1) (enc_length a1); rw [List.nil_append] at c2 c3; clear hq)
      | (go_at_call 10; refine (uint_any none 0 0 a0 [] _ (src_nil _) (by omega) (by omega) (by omega)).mono ?_; rintro e w2 ⟨rfl, hr2, hb2⟩))
    go_ret
    exact ⟨rfl, bnext (bnext hb1 hb2) hb3⟩
  · have hl := sz_less a0 a1 hs
    have hs' : ((sz a0 : Int) == (sz a1 : Int)) = false := by simp; omega
    go_enter Try.func7, Try.ntmps7
    go_wp2_with (first
      | (go_at_call 9; refine (awake_any _).mono ?_; rintro e w1 ⟨rfl, hb1⟩)
      | (go_at_call 10; have hq := hr2; refine (uint_any none 0 0 a1 [] _ (src_nil _) (by omega) (by omega) (by omega)).mono ?_; rintro e w3 ⟨rfl, hr3, hb3⟩)
      | (go_at_call 10; refine (uint_any none 0 0 a0 [] _ (src_nil _) (by omega) (by omega) (by omega)).mono ?_; rintro e w2 ⟨rfl, hr2, hb2⟩))
    go_ret
    exact ⟨rfl, bnext (bnext hb1 hb2) hb3⟩

namespace numOrder
open Go.ChangeShapes Go.WideShapes Go.ChangeAt Go.RowKit
open Go.ChangeMaps (open_string shut_string)
set_option linter.unusedVariables false      -- a walk need not use every 'w<i>' (that an integer argument fits its kind)

theorem own : ownKnob Try.prog.godebug = none := by kernel_rfl

set_option maxRecDepth 100000 in
theorem lifted (os : Os) (started : os.Started) (H : Type) (enc : TypeId × Value → H) :
    ReturnsInHanded {} Try.checked os 7 .any (Rows.numOrderSpec.pre6 enc Try.prog Try.f7 Rows.numOrderRow.domain false) (Rows.numOrderSpec.post enc Try.prog Try.f7 false true false false) := by
  refine returnsInHanded_of_change (C := Try.checked) own started (by kernel_rfl) Try.func7
    (ChangeSpec.witness6 (enc := enc) (C := Try.checked) false ⟨#[], #[.int .u64 0, .int .u64 0], []⟩ 8 (by kernel_rfl) (by kernel_rfl) (by kernel_rfl) (by kernel_rfl)) ?_
  intro W base args ds gs before hval0 hW hcnd _
  have hval : ∀ (j : Nat) t v, Try.f7.params[j]? = some t → args[j]? = some v → Value.okWide Try.prog W .any base t v := hval0
  have hW' := hW
  obtain ⟨p, q, hA0, hV, rfl, hfz, hnd⟩ := hW
  have hA : DataW.TrodAll enc Try.prog W 0 (fun _ => true) true Try.f7.params.toList args.toList ds p := hA0
  rw [Try.params7] at hA hval
  obtain ⟨v0, vs0, d0, ds0, p0, q0, hargs, rfl, rfl, h0, r0⟩ := trodAll_cons hA
  obtain ⟨v1, vs1, d1, ds1, p1, q1, rfl, rfl, rfl, h1, r1⟩ := trodAll_cons r0
  obtain ⟨rfl, rfl, rfl⟩ := trodAll_nil r1
  obtain rfl : args = #[v0, v1] := by cases args; simp_all
  obtain ⟨rfl, rfl⟩ := trodVars_none hV
  obtain ⟨a0, rfl, rfl, rfl, w0⟩ := open_int Try.underlying23 (hval 0 23 v0 rfl rfl) h0
  obtain ⟨a1, rfl, rfl, rfl, w1⟩ := open_int Try.underlying23 (hval 1 23 v1 rfl rfl) h1
  clear hA0 hval0
  simp only [List.append_nil] at hW'
  refine (numOrder_walk a0 a1 w0 w1 W).mono fun e W' ⟨he, bel⟩ => ?_
  subst he
  exact ⟨_, rfl, _, _, _, [], _, [], hW', (trodAll_cons_mk (shut_bool Try.underlying4 _) trodAll_mk0), (trodAll_cons_mk (shut_int Try.underlying23 w0) (trodAll_cons_mk (shut_int Try.underlying23 w1) trodAll_mk0)), rfl, bel.frame _, fun h => by cases h⟩

theorem over : Rows.numOrderRow.holds Try.pinned (OpenSpec.ofChange Rows.numOrderSpec) :=
  OpenClaim.holds_of_wide 7 Try.f7 rfl rfl rfl rfl rfl rfl rfl ⟨rfl, rfl, rfl, rfl, rfl⟩ rfl rfl rfl rfl rfl (by kernel_rfl) Try.func7 (by kernel_rfl)
    (of_decide_eq_true (by kernel_rfl)) (by unfold Func.isWrapper; first | (rw [if_pos (by decide +kernel)]; kernel_rfl) | (rw [if_neg (by decide +kernel)]; exact ⟨rfl, rfl⟩))
    (fun os started H enc _ => lifted os started H enc)

end numOrder

/-- The statement. -/
theorem numOrder_holds : Rows.NumOrderSaid := numOrder.over
#print axioms numOrder_holds
end Go.Proofs.Ytbhfnhciadhgmaa
