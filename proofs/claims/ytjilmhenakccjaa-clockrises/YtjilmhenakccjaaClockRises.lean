/- For any numbers that are seen ClockRises answers true: of two operations the later one has the greater number and time, and a time above all that was seen. No condition. -/
import Derived.Test.YtjilmhenakccjaaCArg
import Derived.Test.YtjilmhenakccjaaRows
import Derived.WalkKit
import Derived.WalkSpells
import Derived.WalkLawsBesides
import Derived.ProofKit
import Derived.OpenShut
import Derived.ShutString
import Derived.ChangeOld
import Derived.Below
namespace Go.Proofs.Ytjilmhenakccjaa
open Go.RowKit

theorem seen_of {t x : Int} (h : x < 1000000000) : (t ≤ seen t x ∧ x ≤ seen t x) ∧ (seen t x = t ∨ seen t x = x) := by
  unfold seen
  split <;> omega

set_option maxRecDepth 100000 in
set_option maxHeartbeats 4000000 in
theorem rises_walk (a : Option Addr) (n c : Nat) (z : Nat → Int) (w : World) (hs : NS w a n c z) :
    Calls Try.prog 5 #[.slice a n c] w fun e w' => e = .returned (.bool true) ∧ RowKit.Below w.heap.size w w' := by
  have hcap := hs.cap
  have hmax := hs.max
  have hN := fun w => new_yes 7 0 0 w (by omega) (by omega) (by omega)
  have hcells := hid hs.cells
  have hfit := hid hs.fit
  clear hs
  go_enter Try.func5, Try.ntmps5
  go_wp2_with (first
    | (go_at_call 8; refine (awake_any _).mono ?_; rintro e w1 ⟨rfl, b1⟩)
    | (go_at_call 11; refine (hN _).mono ?_; rintro e w2 ⟨rfl, c2, b2⟩))
  have hq : Hid (w.heap.size ≤ w1.heap.size) := hid b1.size
  have B2 := hid (below2 b1 b2)
  have C2 := hid c2
  generalize w1.heap.size = q at C2 hq ⊢
  clear b1 b2 c2 hN
  go_loopw [6, 7, 8] (fun i6 i7 i8 wr => ∃ (k : Nat) (was most t : Int), k ≤ n ∧ k ≤ 100 ∧ i8 = .int .i64 k ∧ i6 = .int .i64 was ∧ i7 = .int .i64 most ∧ was ≤ t ∧ most ≤ t ∧ 0 ≤ t ∧ t ≤ 1000000000 + k ∧ Hid (Ck wr q 7 k t) ∧ Hid (RowKit.Below w.heap.size w wr)) (fun _ _ i8 _ => n - (intOf i8).toNat)
  case atStart => exact ⟨0, 0, 0, 0, by omega, by omega, rfl, rfl, rfl, by omega, by omega, by omega, by omega, C2, B2⟩
  case round =>
    obtain ⟨k, was, most, t, hk, hk1, rfl, rfl, rfl, hw1, hw2, ht0, ht1, hC, hB⟩ := hrel
    by_cases hkn : k < n
    · by_cases hk2 : k < 100
      · obtain ⟨g, o, rfl, hg, hcl⟩ := hcells.out (by omega)
        have hc := fun W (hW : RowKit.Below w.heap.size w W) => (hW.cell (p := ⟨g, o + k, none⟩) hg).trans (hcl k hkn)
        have hx := hfit.out k
        generalize z k = x at hc hx
        have h0 := hc wr hB.out
        have hH := hid hc
        clear hc hcl hcells hfit
        have hS := see_any wr q 7 k t x hC.out
        by_cases hbig : 1000000000 ≤ x
        · generalize seen t x = t' at hS
          go_wp2_with (first
            | (go_at_call 12; refine hS.mono ?_; rintro e w3 ⟨rfl, c3, u3⟩; have B3 := hid (hB.out.trans (u3.below hq.out hB.out.size)); have h3 := hH.out _ B3.out))
          all_goals go_ret
          all_goals exact ⟨rfl, B3.out⟩
        · obtain ⟨⟨s1, s2⟩, s3⟩ := seen_of (t := t) (x := x) (by omega)
          have s4 : seen t x ≤ 1000000000 + k := by omega
          clear s3
          generalize seen t x = t' at hS s1 s2 s4
          have hX := fun w b h => next_any w b 7 k t' h (by omega) (by omega) (by omega) (by omega)
          go_wp2_with (first
            | (go_at_call 14; have hz := u3; refine (hX _ _ c3).mono ?_; rintro e w4 ⟨rfl, c4, u4⟩)
            | (go_at_call 12; refine hS.mono ?_; rintro e w3 ⟨rfl, c3, u3⟩; have B3 := hid (hB.out.trans (u3.below hq.out hB.out.size)); have h3 := hH.out _ B3.out))
          all_goals
            (have B4 := hid ((hB.out.trans (u3.below hq.out hB.out.size)).trans ((u4.below hq.out (Nat.le_trans hB.out.size u3.size)).trans ((Below.refl _ w4).alloc (Nat.le_trans hB.out.size (Nat.le_trans u3.size u4.size)) (.cells #[.int .i64 7, .int .i64 ((k : Int) + 1)] 38))))
             have C4 : Hid (Ck (w4.alloc (.cells #[.int .i64 7, .int .i64 ((k : Int) + 1)] 38)) q 7 ((k + 1 : Nat) : Int) (t' + 1)) := hid (by rw [Int.natCast_add]; exact c4.below ((Below.refl _ _).alloc (Nat.le_refl _) _))
             go_roundw
             case rel => exact ⟨k + 1, _, _, t' + 1, by omega, by omega, by go_num, rfl, rfl, by omega, by omega, by omega, by omega, C4, B4⟩
             case measure => simp [intOf]; omega)
      · go_wp2
        go_ret
        exact ⟨rfl, hB.out⟩
    · go_wp2
      go_ret
      exact ⟨rfl, hB.out⟩

namespace clockRises
open Go.ChangeShapes Go.WideShapes Go.ChangeAt Go.RowKit
open Go.ChangeMaps (open_string shut_string)
set_option linter.unusedVariables false

theorem own : ownKnob Try.prog.godebug = none := by kernel_rfl
theorem laidOut : laidOutB Try.prog = true := by kernel_rfl

set_option maxRecDepth 100000 in
theorem lifted (os : Os) (started : os.Started) (H : Type) (enc : TypeId × Value → H) :
    ReturnsInHanded {} Try.checked os 5 .any (Rows.clockRisesSpec.pre6 enc Try.prog Try.f5 Rows.clockRisesRow.domain false) (Rows.clockRisesSpec.post enc Try.prog Try.f5 false true false false) := by
  refine returnsInHanded_of_change (C := Try.checked) own started (by kernel_rfl) Try.func5
    (ChangeSpec.witness6 (enc := enc) (C := Try.checked) false ⟨#[], #[.slice none 0 0], []⟩ 8 (by kernel_rfl) (by kernel_rfl) (by kernel_rfl) (by kernel_rfl)) ?_
  intro W base args ds gs before hval0 hW hcnd _
  have hval : ∀ (j : Nat) t v, Try.f5.params[j]? = some t → args[j]? = some v → Value.okWide Try.prog W .any base t v := hval0
  have hW' := hW
  obtain ⟨p, q, hA0, hV, rfl, hfz, hnd⟩ := hW
  have hA : DataW.TrodAll enc Try.prog W 0 (fun _ => true) true Try.f5.params.toList args.toList ds p := hA0
  rw [Try.params5] at hA hval
  obtain ⟨v0, vs0, d0, ds0, p0, q0, hargs, rfl, rfl, h0, r0⟩ := trodAll_cons hA
  obtain ⟨rfl, rfl, rfl⟩ := trodAll_nil r0
  obtain rfl : args = #[v0] := by cases args; simp_all
  obtain ⟨rfl, rfl⟩ := trodVars_none hV
  obtain ⟨a0, len0, cap0, rfl⟩ := okWide_slice Try.underlying29 (hval 0 29 v0 rfl rfl)
  have k0 := h0
  have lt0 : ∀ x ∈ p0, x.block < W.heap.size := by obtain ⟨m, hm⟩ := k0; exact DataW.trod_lt m _ _ _ hm
  obtain ⟨z0, w0⟩ := open_nums h0
  clear hA0 hval0
  refine (rises_walk a0 len0 cap0 z0 W w0).mono fun e W' ⟨he, bel⟩ => ?_
  subst he
  exact ⟨_, rfl, _, _, _, [], _, [], hW', trodAll_mk1 (shut_bool Try.underlying4 _),
    (trodAll_cons_mk (Below.trod laidOut (by kernel_rfl) (of_decide_eq_true (by kernel_rfl)) k0 bel lt0) trodAll_mk0), rfl, bel.frame _, fun h => by cases h⟩

theorem over : Rows.clockRisesRow.holds Try.pinned (OpenSpec.ofChange Rows.clockRisesSpec) :=
  OpenClaim.holds_of_wide 5 Try.f5 rfl rfl rfl rfl rfl rfl rfl ⟨rfl, rfl, rfl, rfl, rfl⟩ rfl rfl rfl rfl rfl (by kernel_rfl) Try.func5 (by kernel_rfl)
    (of_decide_eq_true (by kernel_rfl)) (by unfold Func.isWrapper; first | (rw [if_pos (by decide +kernel)]; kernel_rfl) | (rw [if_neg (by decide +kernel)]; exact ⟨rfl, rfl⟩))
    (fun os started H enc _ => lifted os started H enc)

end clockRises

/-- The statement. -/
theorem clockRises_holds : Rows.ClockRisesSaid := clockRises.over
#print axioms clockRises_holds
end Go.Proofs.Ytjilmhenakccjaa
