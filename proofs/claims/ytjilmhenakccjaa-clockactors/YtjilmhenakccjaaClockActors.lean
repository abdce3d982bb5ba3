/- For any three numbers ClockActors answers true: two numbers are an actor just where the document says, and an actor is split into its two. No condition. -/
import Derived.Test.YtjilmhenakccjaaCAwake
import Derived.Test.YtjilmhenakccjaaRows
import Derived.WalkKit
import Derived.WalkSpells
import Derived.WalkLawsBesides
import Derived.ProofKit
import Derived.OpenShut
import Derived.ShutString
import Derived.ChangeOld
import Derived.Below
namespace Go.Proofs.Ytjilmhenakccjaa
open Go.RowKit

/-- What Actor tells, and what Split tells of that. -/
theorem both_yes (r b : Int) (h : 0 ≤ r ∧ r < 65536 ∧ 0 ≤ b ∧ b < 256) : ∃ a : Int, a = r * 256 + b ∧ (∀ w, Calls Try.prog 9 #[.int .i64 r, .int .i64 b] w fun e w' => e = .returned (.tuple #[.int .i64 a, .int .i64 0]) ∧ w = w') ∧ ∀ w, Calls Try.prog 10 #[.int .i64 a] w fun e w' => e = .returned (.tuple #[.int .i64 r, .int .i64 b]) ∧ w = w' := by
  refine ⟨r * 256 + b, rfl, fun w => actor_yes r b w h.1 h.2.1 h.2.2.1 h.2.2.2, fun w => ?_⟩
  have := split_yes (r * 256 + b) w (by omega) (by omega)
  rw [show (r * 256 + b) / 256 = r by omega, show (r * 256 + b) % 256 = b by omega] at this
  exact this
theorem back_yes (a : Int) (h0 : 0 ≤ a) (h1 : a ≤ 16777215) : ∃ r b : Int, (∀ w, Calls Try.prog 10 #[.int .i64 a] w fun e w' => e = .returned (.tuple #[.int .i64 r, .int .i64 b]) ∧ w = w') ∧ ∀ w, Calls Try.prog 9 #[.int .i64 r, .int .i64 b] w fun e w' => e = .returned (.tuple #[.int .i64 a, .int .i64 0]) ∧ w = w' := by
  refine ⟨a / 256, a % 256, fun w => split_yes a w h0 h1, fun w => ?_⟩
  have := actor_yes (a / 256) (a % 256) w (by omega) (by omega) (by omega) (by omega)
  rw [show a / 256 * 256 + a % 256 = a by omega] at this
  exact this

set_option maxHeartbeats 4000000 in
theorem actors_walk (r b a : Int) (w : World) : Calls Try.prog 3 #[.int .i64 r, .int .i64 b, .int .i64 a] w fun e w' => e = .returned (.bool true) ∧ RowKit.Below w.heap.size w w' := by
  by_cases h1 : 0 ≤ r ∧ r < 65536 ∧ 0 ≤ b ∧ b < 256
  · obtain ⟨x, hx, A1, A2⟩ := both_yes r b h1
    obtain ⟨h2, h3, h4, h5⟩ := h1
    have e1 : r * 256 + b ≤ x := by omega
    have e2 : x ≤ r * 256 + b := by omega
    clear hx
    by_cases ha : 0 ≤ a ∧ a ≤ 16777215
    · obtain ⟨p, q, B1, B2⟩ := back_yes a ha.1 ha.2
      obtain ⟨a0, a1⟩ := ha
      go_enter Try.func3, Try.ntmps3
      go_wp2_with (first
        | (go_at_call 8; refine (awake_any _).mono ?_; rintro e w1 ⟨rfl, b1⟩)
        | (go_at_call 9; have hq := p3; refine (B2 _).mono ?_; rintro e w' ⟨rfl, rfl⟩)
        | (go_at_call 10; have hq := p2; refine (B1 _).mono ?_; rintro e w' ⟨rfl, rfl⟩; have p3 := trivial)
        | (go_at_call 10; have hq := p1; refine (A2 _).mono ?_; rintro e w' ⟨rfl, rfl⟩; have p2 := trivial)
        | (go_at_call 9; refine (A1 _).mono ?_; rintro e w' ⟨rfl, rfl⟩; have p1 := trivial))
      all_goals go_ret
      all_goals exact ⟨rfl, b1⟩
    · have B1 := fun w => split_no a w ha
      by_cases ha0 : a < 0
      · clear ha
        go_enter Try.func3, Try.ntmps3
        go_wp2_with (first
          | (go_at_call 8; refine (awake_any _).mono ?_; rintro e w1 ⟨rfl, b1⟩)
          | (go_at_call 10; have hq := p2; refine (B1 _).mono ?_; rintro e w' ⟨rfl, rfl⟩; have p3 := trivial)
          | (go_at_call 10; have hq := p1; refine (A2 _).mono ?_; rintro e w' ⟨rfl, rfl⟩; have p2 := trivial)
          | (go_at_call 9; refine (A1 _).mono ?_; rintro e w' ⟨rfl, rfl⟩; have p1 := trivial))
        all_goals go_ret
        all_goals exact ⟨rfl, b1⟩
      · have ha1 : 16777216 ≤ a := by omega
        clear ha
        go_enter Try.func3, Try.ntmps3
        go_wp2_with (first
          | (go_at_call 8; refine (awake_any _).mono ?_; rintro e w1 ⟨rfl, b1⟩)
          | (go_at_call 10; have hq := p2; refine (B1 _).mono ?_; rintro e w' ⟨rfl, rfl⟩; have p3 := trivial)
          | (go_at_call 10; have hq := p1; refine (A2 _).mono ?_; rintro e w' ⟨rfl, rfl⟩; have p2 := trivial)
          | (go_at_call 9; refine (A1 _).mono ?_; rintro e w' ⟨rfl, rfl⟩; have p1 := trivial))
        all_goals go_ret
        all_goals exact ⟨rfl, b1⟩
  · have A1 := fun w => actor_no r b w h1
    have A2 := fun w => split_yes 0 w (by omega) (by omega)
    rw [show (0 : Int) / 256 = 0 by omega, show (0 : Int) % 256 = 0 by omega] at A2
    by_cases ha : 0 ≤ a ∧ a ≤ 16777215
    · obtain ⟨p, q, B1, B2⟩ := back_yes a ha.1 ha.2
      obtain ⟨a0, a1⟩ := ha
      go_enter Try.func3, Try.ntmps3
      go_wp2_with (first
        | (go_at_call 8; refine (awake_any _).mono ?_; rintro e w1 ⟨rfl, b1⟩)
        | (go_at_call 9; have hq := p3; refine (B2 _).mono ?_; rintro e w' ⟨rfl, rfl⟩)
        | (go_at_call 10; have hq := p2; refine (B1 _).mono ?_; rintro e w' ⟨rfl, rfl⟩; have p3 := trivial)
        | (go_at_call 10; have hq := p1; refine (A2 _).mono ?_; rintro e w' ⟨rfl, rfl⟩; have p2 := trivial)
        | (go_at_call 9; refine (A1 _).mono ?_; rintro e w' ⟨rfl, rfl⟩; have p1 := trivial))
      all_goals go_ret
      all_goals exact ⟨rfl, b1⟩
    · have B1 := fun w => split_no a w ha
      by_cases ha0 : a < 0
      · clear ha
        go_enter Try.func3, Try.ntmps3
        go_wp2_with (first
          | (go_at_call 8; refine (awake_any _).mono ?_; rintro e w1 ⟨rfl, b1⟩)
          | (go_at_call 10; have hq := p2; refine (B1 _).mono ?_; rintro e w' ⟨rfl, rfl⟩; have p3 := trivial)
          | (go_at_call 10; have hq := p1; refine (A2 _).mono ?_; rintro e w' ⟨rfl, rfl⟩; have p2 := trivial)
          | (go_at_call 9; refine (A1 _).mono ?_; rintro e w' ⟨rfl, rfl⟩; have p1 := trivial))
        all_goals go_ret
        all_goals exact ⟨rfl, b1⟩
      · have ha1 : 16777216 ≤ a := by omega
        clear ha
        go_enter Try.func3, Try.ntmps3
        go_wp2_with (first
          | (go_at_call 8; refine (awake_any _).mono ?_; rintro e w1 ⟨rfl, b1⟩)
          | (go_at_call 10; have hq := p2; refine (B1 _).mono ?_; rintro e w' ⟨rfl, rfl⟩; have p3 := trivial)
          | (go_at_call 10; have hq := p1; refine (A2 _).mono ?_; rintro e w' ⟨rfl, rfl⟩; have p2 := trivial)
          | (go_at_call 9; refine (A1 _).mono ?_; rintro e w' ⟨rfl, rfl⟩; have p1 := trivial))
        all_goals go_ret
        all_goals exact ⟨rfl, b1⟩

namespace clockActors
open Go.ChangeShapes Go.WideShapes Go.ChangeAt Go.RowKit
open Go.ChangeMaps (open_string shut_string)
set_option linter.unusedVariables false

theorem own : ownKnob Try.prog.godebug = none := by kernel_rfl
theorem laidOut : laidOutB Try.prog = true := by kernel_rfl

set_option maxRecDepth 100000 in
theorem lifted (os : Os) (started : os.Started) (H : Type) (enc : TypeId × Value → H) :
    ReturnsInHanded {} Try.checked os 3 .any (Rows.clockActorsSpec.pre6 enc Try.prog Try.f3 Rows.clockActorsRow.domain false) (Rows.clockActorsSpec.post enc Try.prog Try.f3 false true false false) := by
  refine returnsInHanded_of_change (C := Try.checked) own started (by kernel_rfl) Try.func3
    (ChangeSpec.witness6 (enc := enc) (C := Try.checked) false ⟨#[], #[.int .i64 0, .int .i64 0, .int .i64 0], []⟩ 8 (by kernel_rfl) (by kernel_rfl) (by kernel_rfl) (by kernel_rfl)) ?_
  intro W base args ds gs before hval0 hW hcnd _
  have hval : ∀ (j : Nat) t v, Try.f3.params[j]? = some t → args[j]? = some v → Value.okWide Try.prog W .any base t v := hval0
  have hW' := hW
  obtain ⟨p, q, hA0, hV, rfl, hfz, hnd⟩ := hW
  have hA : DataW.TrodAll enc Try.prog W 0 (fun _ => true) true Try.f3.params.toList args.toList ds p := hA0
  rw [Try.params3] at hA hval
  obtain ⟨v0, vs0, d0, ds0, p0, q0, hargs, rfl, rfl, h0, r0⟩ := trodAll_cons hA
  obtain ⟨v1, vs1, d1, ds1, p1, q1, rfl, rfl, rfl, h1, r1⟩ := trodAll_cons r0
  obtain ⟨v2, vs2, d2, ds2, p2, q2, rfl, rfl, rfl, h2, r2⟩ := trodAll_cons r1
  obtain ⟨rfl, rfl, rfl⟩ := trodAll_nil r2
  obtain rfl : args = #[v0, v1, v2] := by cases args; simp_all
  obtain ⟨rfl, rfl⟩ := trodVars_none hV
  obtain ⟨x0, rfl, w0⟩ : ∃ n, v0 = .int .i64 n ∧ (Lit.int .i64 n).wf = true := by
    obtain ⟨n, e, _, _, h⟩ := open_int Try.underlying3 (hval 0 3 v0 rfl rfl) h0
    exact ⟨n, e, h⟩
  obtain ⟨x1, rfl, w1⟩ : ∃ n, v1 = .int .i64 n ∧ (Lit.int .i64 n).wf = true := by
    obtain ⟨n, e, _, _, h⟩ := open_int Try.underlying3 (hval 1 3 v1 rfl rfl) h1
    exact ⟨n, e, h⟩
  obtain ⟨x2, rfl, w2⟩ : ∃ n, v2 = .int .i64 n ∧ (Lit.int .i64 n).wf = true := by
    obtain ⟨n, e, _, _, h⟩ := open_int Try.underlying3 (hval 2 3 v2 rfl rfl) h2
    exact ⟨n, e, h⟩
  have k0 := h0
  have k1 := h1
  have k2 := h2
  have lt0 : ∀ x ∈ p0, x.block < W.heap.size := by obtain ⟨m, hm⟩ := k0; exact DataW.trod_lt m _ _ _ hm
  have lt1 : ∀ x ∈ p1, x.block < W.heap.size := by obtain ⟨m, hm⟩ := k1; exact DataW.trod_lt m _ _ _ hm
  have lt2 : ∀ x ∈ p2, x.block < W.heap.size := by obtain ⟨m, hm⟩ := k2; exact DataW.trod_lt m _ _ _ hm
  clear hA0 hval0
  refine (actors_walk x0 x1 x2 W).mono fun e W' ⟨he, bel⟩ => ?_
  subst he
  exact ⟨_, rfl, _, _, _, [], _, [], hW', trodAll_mk1 (shut_bool Try.underlying4 _),
    (trodAll_cons_mk (Below.trod laidOut (by kernel_rfl) (of_decide_eq_true (by kernel_rfl)) k0 bel lt0) (trodAll_cons_mk (Below.trod laidOut (by kernel_rfl) (of_decide_eq_true (by kernel_rfl)) k1 bel lt1) (trodAll_cons_mk (Below.trod laidOut (by kernel_rfl) (of_decide_eq_true (by kernel_rfl)) k2 bel lt2) trodAll_mk0))), rfl, bel.frame _, fun h => by cases h⟩

theorem over : Rows.clockActorsRow.holds Try.pinned (OpenSpec.ofChange Rows.clockActorsSpec) :=
  OpenClaim.holds_of_wide 3 Try.f3 rfl rfl rfl rfl rfl rfl rfl ⟨rfl, rfl, rfl, rfl, rfl⟩ rfl rfl rfl rfl rfl (by kernel_rfl) Try.func3 (by kernel_rfl)
    (of_decide_eq_true (by kernel_rfl)) (by unfold Func.isWrapper; first | (rw [if_pos (by decide +kernel)]; kernel_rfl) | (rw [if_neg (by decide +kernel)]; exact ⟨rfl, rfl⟩))
    (fun os started H enc _ => lifted os started H enc)

end clockActors

/-- The statement. -/
theorem clockActors_holds : Rows.ClockActorsSaid := clockActors.over
#print axioms clockActors_holds
end Go.Proofs.Ytjilmhenakccjaa
