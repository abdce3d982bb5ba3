/- For any operation OpsCheck answers true: Check tells what the document says. No condition. -/
import Derived.Test.YthipadnghdodlaaORCheck
import Derived.Test.YthipadnghdodlaaOArg
import Derived.WalkKit
import Derived.WalkSpells
import Derived.WalkLawsBesides
import Derived.ProofKit
import Derived.OpenShut
import Derived.ShutString
import Derived.ChangeOld
import Derived.Below
import Derived.ChangeMaps5
import Derived.Lib.SmallJoins
namespace Go.Proofs.Ythipadnghdodlaa
open Go.RowKit
open Go.Sort (grow)

set_option maxRecDepth 100000 in
set_option maxHeartbeats 4000000 in
theorem check_walk (o : OpIn) (a : Option Addr) (n c : Nat) (V : List Dt) (w : World) (hs : PS w a n c V) (hk : o.key.size ≤ maxLen) :
    Calls Try.prog 3 #[ov o (.slice a n c)] w fun e w' => e = .returned (.bool true) ∧ Below w.heap.size w w' := by
  have mixed := mixed
  have hA := opAt_alloc w o (.slice a n c) 27
  have b0 : Below w.heap.size w (w.alloc (.cells (o.cells (.slice a n c)) 27)) := (Below.refl _ w).alloc (Nat.le_refl _) _
  go_enter Try.func3, Try.ntmps3
  go_upto_region 4 with (first
    | (go_at_call 9; refine (awake_any _).mono ?_; rintro e w1 ⟨rfl, b1⟩))
  have hA1 := hA.below b1
  have B1 := below2 b0 b1
  have hs1 := hs.below B1
  clear hA b0 b1 hs
  have hlen := hs1.max
  unfold maxLen at hlen
  have hcap := hs1.cap
  generalize w.heap.size = q at hA1 ⊢
  have e3 := hA1.c3
  by_cases hbig : 200 < n
  · go_wp2_with fail
    go_ret
    exact ⟨rfl, B1⟩
  · go_upto_region 6 with fail
    clear e3
    have E0 := fun m os => (hA1.grow m os).c0
    have E1 := fun m os => (hA1.grow m os).c1
    have E2 := fun m os => (hA1.grow m os).c2
    have E3 := fun m os => (hA1.grow m os).c3
    have E4 := fun m os => (hA1.grow m os).c4
    have E5 := fun m os => (hA1.grow m os).c5
    have E6 := fun m os => (hA1.grow m os).c6
    have E7 := fun m os => (hA1.grow m os).c7
    have E8 := fun m os => (hA1.grow m os).c8
    have E9 := fun m os => (hA1.grow m os).c9
    have E10 := fun m os => (hA1.grow m os).c10
    have E11 := fun m os => (hA1.grow m os).c11
    have E12 := fun m os => (hA1.grow m os).c12
    have E13 := fun m os => (hA1.grow m os).c13
    have hC := fun m os => tells_q (check_any o a n c V _ (hs1.far ⟨m, os, rfl⟩) (by omega) hk)
    have hR := fun m os => tells_q (rcheck_any o a n c V _ (hs1.far ⟨m, os, rfl⟩) (by omega) hk)
    generalize chk o V = r at hC hR
    clear hA1 hs1 hk
    refine wp_region_quiet_grown mixed (by kernel_rfl) ?_
    repeat (go_big_quiet_step ((first | (go_at_call 10; exact hC _ _) | (go_at_call 11; exact hR _ _))))
    refine wpQuiet_nil ?_
    intro _ hw'
    obtain ⟨⟨nq, osq⟩, hw''⟩ := hw'
    subst hw''
    simp only []
    go_wp2
    go_ret
    exact ⟨by simp, below2 B1 (below_class _ _ _)⟩

namespace opsCheck
open Go.ChangeShapes Go.WideShapes Go.ChangeAt Go.RowKit
open Go.ChangeMaps (open_string shut_string)
set_option linter.unusedVariables false

theorem own : ownKnob Try.prog.godebug = none := by kernel_rfl
theorem laidOut : laidOutB Try.prog = true := by kernel_rfl

set_option maxRecDepth 100000 in
theorem lifted (os : Os) (started : os.Started) (H : Type) (enc : TypeId × Value → H) :
    ReturnsInHanded {} Try.checked os 3 .any (Rows.opsCheckSpec.pre6 enc Try.prog Try.f3 Rows.opsCheckRow.domain false) (Rows.opsCheckSpec.post enc Try.prog Try.f3 false true false false) := by
  refine returnsInHanded_of_change (C := Try.checked) own started (by kernel_rfl) Try.func3
    (ChangeSpec.witness6 (enc := enc) (C := Try.checked) false ⟨#[], #[.agg #[.int .i64 0, .int .i64 0, .int .i64 0, .slice none 0 0, .int .i64 0, .int .i64 0, .int .i64 0, .int .i64 0, .int .i64 0, .int .i64 0, .int .i64 0, .int .i64 0, .int .i64 0, .string ByteArray.empty]], []⟩ 8 (by kernel_rfl) (by kernel_rfl) (by kernel_rfl) (by kernel_rfl)) ?_
  intro W base args ds gs before hval0 hW hcnd _
  have hval : ∀ (j : Nat) t v, Try.f3.params[j]? = some t → args[j]? = some v → Value.okWide Try.prog W .any base t v := hval0
  have hW' := hW
  obtain ⟨p, q, hA0, hV, rfl, hfz, hnd⟩ := hW
  have hA : DataW.TrodAll enc Try.prog W 0 (fun _ => true) true Try.f3.params.toList args.toList ds p := hA0
  rw [Try.params3] at hA hval
  obtain ⟨v0, vs0, d0, ds0, p0, q0, hargs, rfl, rfl, h0, r0⟩ := trodAll_cons hA
  obtain ⟨rfl, rfl, rfl⟩ := trodAll_nil r0
  obtain rfl : args = #[v0] := by cases args; simp_all
  obtain ⟨rfl, rfl⟩ := trodVars_none hV
  have k0 := h0
  have lt0 : ∀ x ∈ p0, x.block < W.heap.size := by obtain ⟨m, hm⟩ := k0; exact DataW.trod_lt m _ _ _ hm
  obtain ⟨o0, a0, n0, c0, z0, rfl, f0, w0, u0⟩ := open_op7 (hval 0 27 v0 rfl rfl) h0
  clear hA0 hval0
  refine (check_walk o0 a0 n0 c0 z0 W w0 f0.key).mono fun e W' ⟨he, bel⟩ => ?_
  subst he
  exact ⟨_, rfl, _, _, _, [], _, [], hW', trodAll_mk1 (shut_bool Try.underlying4 _),
    (trodAll_cons_mk (Below.trod laidOut (by kernel_rfl) (of_decide_eq_true (by kernel_rfl)) k0 bel lt0) trodAll_mk0), rfl, bel.frame _, fun h => by cases h⟩

theorem over : Rows.opsCheckRow.holds Try.pinned (OpenSpec.ofChange Rows.opsCheckSpec) :=
  OpenClaim.holds_of_wide 3 Try.f3 rfl rfl rfl rfl rfl rfl rfl ⟨rfl, rfl, rfl, rfl, rfl⟩ rfl rfl rfl rfl rfl (by kernel_rfl) Try.func3 (by kernel_rfl)
    (of_decide_eq_true (by kernel_rfl)) (by unfold Func.isWrapper; first | (rw [if_pos (by decide +kernel)]; kernel_rfl) | (rw [if_neg (by decide +kernel)]; exact ⟨rfl, rfl⟩))
    (fun os started H enc _ => lifted os started H enc)

end opsCheck

/-- The statement. -/
theorem opsCheck_holds : Rows.OpsCheckSaid := opsCheck.over
#print axioms opsCheck_holds
end Go.Proofs.Ythipadnghdodlaa
