/- For any four numbers ClockPairs answers true: unlike replicas or branches are unlike actors, in the order of the replicas. No condition. -/
import Derived.Test.YtjilmhenakccjaaCAwake
import Derived.Test.YtjilmhenakccjaaRows
import Derived.WalkKit
import Derived.WalkSpells
import Derived.WalkLawsBesides
import Derived.ProofKit
import Derived.OpenShut
import Derived.ShutString
import Derived.ChangeOld
import Derived.Below
namespace Go.Proofs.Ytjilmhenakccjaa
open Go.RowKit

set_option maxHeartbeats 2000000 in
theorem pairs_walk (a b c d : Int) (w : World) : Calls Try.prog 7 #[.int .i64 a, .int .i64 b, .int .i64 c, .int .i64 d] w fun e w' => e = .returned (.bool true) ∧ RowKit.Below w.heap.size w w' := by
  by_cases h1 : 0 ≤ a ∧ a < 65536 ∧ 0 ≤ b ∧ b < 256
  · have A1 := fun w => actor_yes a b w h1.1 h1.2.1 h1.2.2.1 h1.2.2.2
    by_cases h2 : 0 ≤ c ∧ c < 65536 ∧ 0 ≤ d ∧ d < 256
    · have A2 := fun w => actor_yes c d w h2.1 h2.2.1 h2.2.2.1 h2.2.2.2
      obtain ⟨x, hx⟩ : ∃ x, x = a * 256 + b := ⟨_, rfl⟩
      obtain ⟨y, hy⟩ : ∃ y, y = c * 256 + d := ⟨_, rfl⟩
      rw [← hx] at A1
      rw [← hy] at A2
      have e1 : (x == y) = ((a == c) && (b == d)) := by
        rw [Bool.eq_iff_iff]
        simp only [beq_iff_eq, Bool.and_eq_true]
        omega
      have x0 : 0 ≤ x := by omega
      have x1 : x < 16777216 := by omega
      have o1 : c ≤ a ∨ x < y := by omega
      clear hx hy h1 h2
      by_cases hac : a = c
      · subst hac
        by_cases hbd : b = d
        · subst hbd
          have e2 : x = y := by simpa using e1
          clear e1 o1
          subst e2
          go_enter Try.func7, Try.ntmps7
          go_wp2_with (first
            | (go_at_call 8; refine (awake_any _).mono ?_; rintro e w1 ⟨rfl, b1⟩)
            | (go_at_call 9; refine (A1 _).mono ?_; rintro e w' ⟨rfl, rfl⟩))
          go_ret
          exact ⟨rfl, b1⟩
        · have e2 : (x == y) = false := by rw [e1]; simp [hbd]
          have e3 : (b == d) = false := by simp [hbd]
          clear e1 o1 hbd
          go_enter Try.func7, Try.ntmps7
          go_wp2_with (first
            | (go_at_call 8; refine (awake_any _).mono ?_; rintro e w1 ⟨rfl, b1⟩)
            | (go_at_call_of 9 (Value.int .i64 b); refine (A1 _).mono ?_; rintro e w' ⟨rfl, rfl⟩)
            | (go_at_call_of 9 (Value.int .i64 d); refine (A2 _).mono ?_; rintro e w' ⟨rfl, rfl⟩))
          go_ret
          exact ⟨rfl, b1⟩
      · have e2 : (x == y) = false := by rw [e1]; simp [hac]
        have e3 : (a == c) = false := by simp [hac]
        by_cases hle : c ≤ a
        · clear e1 o1 hac
          go_enter Try.func7, Try.ntmps7
          go_wp2_with (first
            | (go_at_call 8; refine (awake_any _).mono ?_; rintro e w1 ⟨rfl, b1⟩)
            | (go_at_call_of 9 (Value.int .i64 a); refine (A1 _).mono ?_; rintro e w' ⟨rfl, rfl⟩)
            | (go_at_call_of 9 (Value.int .i64 c); refine (A2 _).mono ?_; rintro e w' ⟨rfl, rfl⟩))
          go_ret
          exact ⟨rfl, b1⟩
        · have o2 : x < y := by omega
          clear e1 o1 hac
          go_enter Try.func7, Try.ntmps7
          go_wp2_with (first
            | (go_at_call 8; refine (awake_any _).mono ?_; rintro e w1 ⟨rfl, b1⟩)
            | (go_at_call_of 9 (Value.int .i64 a); refine (A1 _).mono ?_; rintro e w' ⟨rfl, rfl⟩)
            | (go_at_call_of 9 (Value.int .i64 c); refine (A2 _).mono ?_; rintro e w' ⟨rfl, rfl⟩))
          go_ret
          exact ⟨rfl, b1⟩
    · have A2 := fun w => actor_no c d w h2
      go_enter Try.func7, Try.ntmps7
      go_wp2_with (first
        | (go_at_call 8; refine (awake_any _).mono ?_; rintro e w1 ⟨rfl, b1⟩)
        | (go_at_call 9; have hq := p1; refine (A2 _).mono ?_; rintro e w' ⟨rfl, rfl⟩)
        | (go_at_call 9; refine (A1 _).mono ?_; rintro e w' ⟨rfl, rfl⟩; have p1 := trivial))
      go_ret
      exact ⟨rfl, b1⟩
  · have A1 := fun w => actor_no a b w h1
    obtain ⟨x, y, A2⟩ : ∃ x y, ∀ w, Calls Try.prog 9 #[.int .i64 c, .int .i64 d] w fun e w' => e = .returned (.tuple #[.int .i64 x, .int .i64 y]) ∧ w = w' := by
      by_cases h2 : 0 ≤ c ∧ c < 65536 ∧ 0 ≤ d ∧ d < 256
      · exact ⟨_, _, fun w => actor_yes c d w h2.1 h2.2.1 h2.2.2.1 h2.2.2.2⟩
      · exact ⟨_, _, fun w => actor_no c d w h2⟩
    clear h1
    go_enter Try.func7, Try.ntmps7
    go_wp2_with (first
      | (go_at_call 8; refine (awake_any _).mono ?_; rintro e w1 ⟨rfl, b1⟩)
      | (go_at_call 9; have hq := p1; refine (A2 _).mono ?_; rintro e w' ⟨rfl, rfl⟩)
      | (go_at_call 9; refine (A1 _).mono ?_; rintro e w' ⟨rfl, rfl⟩; have p1 := trivial))
    go_ret
    exact ⟨rfl, b1⟩

namespace clockPairs
open Go.ChangeShapes Go.WideShapes Go.ChangeAt Go.RowKit
open Go.ChangeMaps (open_string shut_string)
set_option linter.unusedVariables false

theorem own : ownKnob Try.prog.godebug = none := by kernel_rfl
theorem laidOut : laidOutB Try.prog = true := by kernel_rfl

set_option maxRecDepth 100000 in
theorem lifted (os : Os) (started : os.Started) (H : Type) (enc : TypeId × Value → H) :
    ReturnsInHanded {} Try.checked os 7 .any (Rows.clockPairsSpec.pre6 enc Try.prog Try.f7 Rows.clockPairsRow.domain false) (Rows.clockPairsSpec.post enc Try.prog Try.f7 false true false false) := by
  refine returnsInHanded_of_change (C := Try.checked) own started (by kernel_rfl) Try.func7
    (ChangeSpec.witness6 (enc := enc) (C := Try.checked) false ⟨#[], #[.int .i64 0, .int .i64 0, .int .i64 0, .int .i64 0], []⟩ 8 (by kernel_rfl) (by kernel_rfl) (by kernel_rfl) (by kernel_rfl)) ?_
  intro W base args ds gs before hval0 hW hcnd _
  have hval : ∀ (j : Nat) t v, Try.f7.params[j]? = some t → args[j]? = some v → Value.okWide Try.prog W .any base t v := hval0
  have hW' := hW
  obtain ⟨p, q, hA0, hV, rfl, hfz, hnd⟩ := hW
  have hA : DataW.TrodAll enc Try.prog W 0 (fun _ => true) true Try.f7.params.toList args.toList ds p := hA0
  rw [Try.params7] at hA hval
  obtain ⟨v0, vs0, d0, ds0, p0, q0, hargs, rfl, rfl, h0, r0⟩ := trodAll_cons hA
  obtain ⟨v1, vs1, d1, ds1, p1, q1, rfl, rfl, rfl, h1, r1⟩ := trodAll_cons r0
  obtain ⟨v2, vs2, d2, ds2, p2, q2, rfl, rfl, rfl, h2, r2⟩ := trodAll_cons r1
  obtain ⟨v3, vs3, d3, ds3, p3, q3, rfl, rfl, rfl, h3, r3⟩ := trodAll_cons r2
  obtain ⟨rfl, rfl, rfl⟩ := trodAll_nil r3
  obtain rfl : args = #[v0, v1, v2, v3] := by cases args; simp_all
  obtain ⟨rfl, rfl⟩ := trodVars_none hV
  obtain ⟨x0, rfl, w0⟩ : ∃ n, v0 = .int .i64 n ∧ (Lit.int .i64 n).wf = true := by
    obtain ⟨n, e, _, _, h⟩ := open_int Try.underlying3 (hval 0 3 v0 rfl rfl) h0
    exact ⟨n, e, h⟩
  obtain ⟨x1, rfl, w1⟩ : ∃ n, v1 = .int .i64 n ∧ (Lit.int .i64 n).wf = true := by
    obtain ⟨n, e, _, _, h⟩ := open_int Try.underlying3 (hval 1 3 v1 rfl rfl) h1
    exact ⟨n, e, h⟩
  obtain ⟨x2, rfl, w2⟩ : ∃ n, v2 = .int .i64 n ∧ (Lit.int .i64 n).wf = true := by
    obtain ⟨n, e, _, _, h⟩ := open_int Try.underlying3 (hval 2 3 v2 rfl rfl) h2
    exact ⟨n, e, h⟩
  obtain ⟨x3, rfl, w3⟩ : ∃ n, v3 = .int .i64 n ∧ (Lit.int .i64 n).wf = true := by
    obtain ⟨n, e, _, _, h⟩ := open_int Try.underlying3 (hval 3 3 v3 rfl rfl) h3
    exact ⟨n, e, h⟩
  have k0 := h0
  have k1 := h1
  have k2 := h2
  have k3 := h3
  have lt0 : ∀ x ∈ p0, x.block < W.heap.size := by obtain ⟨m, hm⟩ := k0; exact DataW.trod_lt m _ _ _ hm
  have lt1 : ∀ x ∈ p1, x.block < W.heap.size := by obtain ⟨m, hm⟩ := k1; exact DataW.trod_lt m _ _ _ hm
  have lt2 : ∀ x ∈ p2, x.block < W.heap.size := by obtain ⟨m, hm⟩ := k2; exact DataW.trod_lt m _ _ _ hm
  have lt3 : ∀ x ∈ p3, x.block < W.heap.size := by obtain ⟨m, hm⟩ := k3; exact DataW.trod_lt m _ _ _ hm
  clear hA0 hval0
  refine (pairs_walk x0 x1 x2 x3 W).mono fun e W' ⟨he, bel⟩ => ?_
  subst he
  exact ⟨_, rfl, _, _, _, [], _, [], hW', trodAll_mk1 (shut_bool Try.underlying4 _),
    (trodAll_cons_mk (Below.trod laidOut (by kernel_rfl) (of_decide_eq_true (by kernel_rfl)) k0 bel lt0) (trodAll_cons_mk (Below.trod laidOut (by kernel_rfl) (of_decide_eq_true (by kernel_rfl)) k1 bel lt1) (trodAll_cons_mk (Below.trod laidOut (by kernel_rfl) (of_decide_eq_true (by kernel_rfl)) k2 bel lt2) (trodAll_cons_mk (Below.trod laidOut (by kernel_rfl) (of_decide_eq_true (by kernel_rfl)) k3 bel lt3) trodAll_mk0)))), rfl, bel.frame _, fun h => by cases h⟩

theorem over : Rows.clockPairsRow.holds Try.pinned (OpenSpec.ofChange Rows.clockPairsSpec) :=
  OpenClaim.holds_of_wide 7 Try.f7 rfl rfl rfl rfl rfl rfl rfl ⟨rfl, rfl, rfl, rfl, rfl⟩ rfl rfl rfl rfl rfl (by kernel_rfl) Try.func7 (by kernel_rfl)
    (of_decide_eq_true (by kernel_rfl)) (by unfold Func.isWrapper; first | (rw [if_pos (by decide +kernel)]; kernel_rfl) | (rw [if_neg (by decide +kernel)]; exact ⟨rfl, rfl⟩))
    (fun os started H enc _ => lifted os started H enc)

end clockPairs

/-- The statement. -/
theorem clockPairs_holds : Rows.ClockPairsSaid := clockPairs.over
#print axioms clockPairs_holds
end Go.Proofs.Ytjilmhenakccjaa
