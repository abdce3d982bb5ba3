/- For any k and n NumSizes answers true: a number has one byte more each time that it is 128 times as great, and nine from 2^56 on. No condition. -/
import Derived.Test.YtbhfnhciadhgmabAwake
import Derived.WalkKit
import Derived.ProofKit
import Derived.OpenShut
import Derived.ShutString
namespace Go.Proofs.Ytbhfnhciadhgmab
open Go.RowKit

theorem pow_ge (k j : Nat) (h : j ≤ k) : (2 : Int) ^ j ≤ 2 ^ k := by
  have := Nat.pow_le_pow_right (n := 2) (by decide) h
  exact_mod_cast this

/-- A number whose highest bit is bit k has so many bytes. -/
theorem sz_pow (k : Nat) (n : Int) (hk : k ≤ 63) (h0 : 2 ^ k ≤ n) (h1 : n < 2 * 2 ^ k) : sz n = min (k / 7 + 1) 9 := by
  have lo : ∀ j, j ≤ k → (2 : Int) ^ j ≤ n := fun j hj => Int.le_trans (pow_ge k j hj) h0
  have hi : ∀ j, k + 1 ≤ j → n < 2 ^ j := fun j hj => by
    have := pow_ge j (k + 1) hj
    rw [Int.pow_succ] at this
    omega
  have c := sz_cases n
  by_cases h7 : k < 7
  · have := hi 7 (by omega); simp at this; omega
  by_cases h14 : k < 14
  · have := hi 14 (by omega); have := lo 7 (by omega); simp at *; omega
  by_cases h21 : k < 21
  · have := hi 21 (by omega); have := lo 14 (by omega); simp at *; omega
  by_cases h28 : k < 28
  · have := hi 28 (by omega); have := lo 21 (by omega); simp at *; omega
  by_cases h35 : k < 35
  · have := hi 35 (by omega); have := lo 28 (by omega); simp at *; omega
  by_cases h42 : k < 42
  · have := hi 42 (by omega); have := lo 35 (by omega); simp at *; omega
  by_cases h49 : k < 49
  · have := hi 49 (by omega); have := lo 42 (by omega); simp at *; omega
  by_cases h56 : k < 56
  · have := hi 56 (by omega); have := lo 49 (by omega); simp at *; omega
  · have := lo 56 (by omega); simp at *; omega

theorem wraps_u64 (n : Int) (h0 : 0 ≤ n) (h1 : n < 2 ^ 64) : IntKind.u64.wrap n = n := by
  simp [IntKind.wrap, IntKind.bits, IntKind.signed] at *; omega

theorem and_low (k : Nat) (hk : k ≤ 63) (n : Int) (h0 : 0 ≤ n) (h1 : n < 18446744073709551616) : bits .and .u64 n (2 ^ k - 1) = n % 2 ^ k :=
  bits_mask .u64 64 (by decide) wraps_u64 k (by omega) n h0 (by simp; omega)

theorem or_high (k : Nat) (hk : k ≤ 63) (m : Int) (h0 : 0 ≤ m) (h1 : m < 2 ^ k) : bits .or .u64 (2 ^ k) m = 2 ^ k + m := by
  have hp := pow_ge 63 k hk
  have hp' : (2 : Int) ^ k < 2 ^ 64 := by simp at *; omega
  refine bits_join .u64 64 (by decide) wraps_u64 k (2 ^ k) m (by omega) (by simp) hp' h0 h1 (by omega)

theorem len_any (n : Int) (W : Nat) (h : sz n = W) (h0 : 0 ≤ n) (h1 : n < 18446744073709551616) (w : World) :
    Calls Try.prog 5 #[.slice none 0 0, .int .u64 n] w fun e w' => e = .returned (.slice (some ⟨w.heap.size, 0, none⟩) W W) ∧ Below w.heap.size w w' := by
  refine (uint_any none 0 0 n [] w (src_nil _) (by omega) h0 h1).mono ?_
  rintro e w' ⟨rfl, _, hb⟩
  rw [h, Nat.zero_add]
  exact ⟨rfl, hb⟩

set_option maxHeartbeats 1000000 in
theorem numSizes_walk (a0 a1 : Int) (w0 : (Lit.int .i64 a0).wf = true) (w1 : (Lit.int .u64 a1).wf = true) (w : World) :
    Calls Try.prog 3 #[.int .i64 a0, .int .u64 a1] w fun e w' => e = .returned (.bool true) ∧ Below w.heap.size w w' := by
  have bd0 := bounds_i64 w0
  have bd1 := bounds_u64 w1
  clear w0 w1
  by_cases hk : 0 ≤ a0 ∧ a0 ≤ 63
  · obtain ⟨hk0, hk1⟩ := hk
    obtain ⟨k, rfl⟩ := Int.eq_ofNat_of_zero_le hk0
    have hk63 : k ≤ 63 := by omega
    have hp0 : (1 : Int) ≤ 2 ^ k := by have := pow_ge k 0 (by omega); simpa using this
    have hp1 : (2 : Int) ^ k ≤ 9223372036854775808 := by have := pow_ge 63 k hk63; simpa using this
    have hand := and_low k hk63 a1 bd1.1 (by omega)
    have hm0 : 0 ≤ a1 % 2 ^ k := Int.emod_nonneg _ (by omega)
    have hm1 : a1 % 2 ^ k < 2 ^ k := Int.emod_lt_of_pos _ (by omega)
    have hor := or_high k hk63 (a1 % 2 ^ k) hm0 hm1
    have s1 := sz_pow k (2 ^ k) hk63 (Int.le_refl _) (by omega)
    have s2 := sz_pow k (2 ^ k + a1 % 2 ^ k) hk63 (by omega) (by omega)
    generalize a1 % 2 ^ k = m at *
    have C1 := len_any (2 ^ k) _ s1 (by omega) (by omega)
    have C2 := len_any (2 ^ k + m) _ s2 (by omega) (by omega)
    clear s1 s2
    clear hm0 hk0
    by_cases h63 : 63 ≤ k
    · rw [show min (k / 7 + 1) 9 = 9 by omega] at C1 C2
      go_enter Try.func3, Try.ntmps3
      go_wp2_with (first
        | (go_at_call 4; refine (awake_any _).mono ?_; rintro e w1 ⟨rfl, hb1⟩)
        | (go_at_call 5; have hq := hb2; refine (C2 _).mono ?_; rintro e w3 ⟨rfl, hb3⟩)
        | (go_at_call 5; refine (C1 _).mono ?_; rintro e w2 ⟨rfl, hb2⟩))
      go_ret
      exact ⟨rfl, bnext (bnext hb1 hb2) hb3⟩
    · rw [show min (k / 7 + 1) 9 = k / 7 + 1 by omega] at C1 C2
      by_cases h7 : 0 < k % 7
      · go_enter Try.func3, Try.ntmps3
        go_wp2_with (first
          | (go_at_call 4; refine (awake_any _).mono ?_; rintro e w1 ⟨rfl, hb1⟩)
          | (go_at_call 5; have hq := hb2; refine (C2 _).mono ?_; rintro e w3 ⟨rfl, hb3⟩)
          | (go_at_call 5; refine (C1 _).mono ?_; rintro e w2 ⟨rfl, hb2⟩))
        go_ret
        exact ⟨rfl, bnext (bnext hb1 hb2) hb3⟩
      · by_cases h00 : k = 0
        · have h0I : (k : Int) < 1 := by omega
          clear h00
          go_enter Try.func3, Try.ntmps3
          go_wp2_with (first
            | (go_at_call 4; refine (awake_any _).mono ?_; rintro e w1 ⟨rfl, hb1⟩)
            | (go_at_call 5; have hq := hb2; refine (C2 _).mono ?_; rintro e w3 ⟨rfl, hb3⟩)
            | (go_at_call 5; refine (C1 _).mono ?_; rintro e w2 ⟨rfl, hb2⟩))
          all_goals go_ret
          all_goals exact ⟨rfl, bnext (bnext hb1 hb2) hb3⟩
        · have hdbl : (2 : Int) ^ k = 2 * 2 ^ (k - 1) := by
            have : (2 : Int) ^ (k - 1 + 1) = 2 ^ (k - 1) * 2 := Int.pow_succ 2 (k - 1)
            rw [show k - 1 + 1 = k by omega] at this
            omega
          have hp2 : (1 : Int) ≤ 2 ^ (k - 1) := by have := pow_ge (k - 1) 0 (by omega); simpa using this
          have s3 := sz_pow (k - 1) (2 ^ k - 1) (by omega) (by omega) (by omega)
          rw [show min ((k - 1) / 7 + 1) 9 = k / 7 by omega] at s3
          have C3 := len_any (2 ^ k - 1) _ s3 (by omega) (by omega)
          clear s3 hdbl hp2
          go_enter Try.func3, Try.ntmps3
          go_wp2_with (first
            | (go_at_call 4; refine (awake_any _).mono ?_; rintro e w1 ⟨rfl, hb1⟩)
            | (go_at_call 5; have hq := hb3; refine (C3 _).mono ?_; rintro e w4 ⟨rfl, hb4⟩)
            | (go_at_call 5; have hq := hb2; refine (C2 _).mono ?_; rintro e w3 ⟨rfl, hb3⟩)
            | (go_at_call 5; refine (C1 _).mono ?_; rintro e w2 ⟨rfl, hb2⟩))
          all_goals go_ret
          all_goals exact ⟨rfl, bnext (bnext (bnext hb1 hb2) hb3) hb4⟩
  · by_cases hk2 : a0 < 0
    · go_enter Try.func3, Try.ntmps3
      go_wp2_with (go_at_call 4; refine (awake_any _).mono ?_; rintro e w1 ⟨rfl, hb1⟩)
      go_ret
      exact ⟨rfl, hb1⟩
    · go_enter Try.func3, Try.ntmps3
      go_wp2_with (go_at_call 4; refine (awake_any _).mono ?_; rintro e w1 ⟨rfl, hb1⟩)
      go_ret
      exact ⟨rfl, hb1⟩

namespace numSizes
open Go.ChangeShapes Go.WideShapes Go.ChangeAt Go.RowKit
open Go.ChangeMaps (open_string shut_string)
set_option linter.unusedVariables false      -- a walk need not use every 'w<i>' (that an integer argument fits its kind)

theorem own : ownKnob Try.prog.godebug = none := by kernel_rfl

set_option maxRecDepth 100000 in
theorem lifted (os : Os) (started : os.Started) (H : Type) (enc : TypeId × Value → H) :
    ReturnsInHanded {} Try.checked os 3 .any (Rows.numSizesSpec.pre6 enc Try.prog Try.f3 Rows.numSizesRow.domain false) (Rows.numSizesSpec.post enc Try.prog Try.f3 false true false false) := by
  refine returnsInHanded_of_change (C := Try.checked) own started (by kernel_rfl) Try.func3
    (ChangeSpec.witness6 (enc := enc) (C := Try.checked) false ⟨#[], #[.int .i64 0, .int .u64 0], []⟩ 8 (by kernel_rfl) (by kernel_rfl) (by kernel_rfl) (by kernel_rfl)) ?_
  intro W base args ds gs before hval0 hW hcnd _
  have hval : ∀ (j : Nat) t v, Try.f3.params[j]? = some t → args[j]? = some v → Value.okWide Try.prog W .any base t v := hval0
  have hW' := hW
  obtain ⟨p, q, hA0, hV, rfl, hfz, hnd⟩ := hW
  have hA : DataW.TrodAll enc Try.prog W 0 (fun _ => true) true Try.f3.params.toList args.toList ds p := hA0
  rw [Try.params3] at hA hval
  obtain ⟨v0, vs0, d0, ds0, p0, q0, hargs, rfl, rfl, h0, r0⟩ := trodAll_cons hA
  obtain ⟨v1, vs1, d1, ds1, p1, q1, rfl, rfl, rfl, h1, r1⟩ := trodAll_cons r0
  obtain ⟨rfl, rfl, rfl⟩ := trodAll_nil r1
  obtain rfl : args = #[v0, v1] := by cases args; simp_all
  obtain ⟨rfl, rfl⟩ := trodVars_none hV
  obtain ⟨a0, rfl, rfl, rfl, w0⟩ := open_int Try.underlying3 (hval 0 3 v0 rfl rfl) h0
  obtain ⟨a1, rfl, rfl, rfl, w1⟩ := open_int Try.underlying22 (hval 1 22 v1 rfl rfl) h1
  clear hA0 hval0
  simp only [List.append_nil] at hW'
  refine (numSizes_walk a0 a1 w0 w1 W).mono fun e W' ⟨he, bel⟩ => ?_
  subst he
  exact ⟨_, rfl, _, _, _, [], _, [], hW', (trodAll_cons_mk (shut_bool Try.underlying4 _) trodAll_mk0), (trodAll_cons_mk (shut_int Try.underlying3 w0) (trodAll_cons_mk (shut_int Try.underlying22 w1) trodAll_mk0)), rfl, bel.frame _, fun h => by cases h⟩

theorem over : Rows.numSizesRow.holds Try.pinned (OpenSpec.ofChange Rows.numSizesSpec) :=
  OpenClaim.holds_of_wide 3 Try.f3 rfl rfl rfl rfl rfl rfl rfl ⟨rfl, rfl, rfl, rfl, rfl⟩ rfl rfl rfl rfl rfl (by kernel_rfl) Try.func3 (by kernel_rfl)
    (of_decide_eq_true (by kernel_rfl)) (by unfold Func.isWrapper; first | (rw [if_pos (by decide +kernel)]; kernel_rfl) | (rw [if_neg (by decide +kernel)]; exact ⟨rfl, rfl⟩))
    (fun os started H enc _ => lifted os started H enc)

end numSizes

/-- The statement. -/
theorem numSizes_holds : Rows.NumSizesSaid := numSizes.over
#print axioms numSizes_holds
end Go.Proofs.Ytbhfnhciadhgmab
