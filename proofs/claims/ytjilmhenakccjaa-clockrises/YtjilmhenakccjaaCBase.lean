/- Actors put together and taken apart: within, Actor, Split. -/
import Derived.Test.YtjilmhenakccjaaProg
import Derived.WalkKit
import Derived.WalkSpells
import Derived.WalkLawsBesides
import Derived.Below
import Derived.Laws.BitsLemmas
import Derived.Sort.AtCall
namespace Go.Proofs.Ytjilmhenakccjaa
open Go.RowKit

theorem hid {p : Prop} (h : p) : Hid p := h

theorem wraps_i64 (n : Int) (h0 : 0 ≤ n) (h1 : n < 2 ^ 32) : IntKind.i64.wrap n = n := by
  rw [IntKind.wrap_i64]; omega

/-- A replica's bits and a branch's, put together. -/
theorem or_actor (r b : Int) (hr0 : 0 ≤ r) (hr1 : r < 65536) (hb0 : 0 ≤ b) (hb1 : b < 256) : bits .or .i64 (r * 256) b = r * 256 + b :=
  bits_join .i64 32 (by decide) wraps_i64 8 (r * 256) b (by omega) (by omega) (by omega) hb0 (by omega) (by omega)

/-- The replica's bits turned off. -/
theorem xor_actor (r b : Int) (hr0 : 0 ≤ r) (hr1 : r < 65536) (hb0 : 0 ≤ b) (hb1 : b < 256) : bits .xor .i64 (r * 256 + b) (r * 256) = b := by
  obtain ⟨R, rfl⟩ := Int.eq_ofNat_of_zero_le hr0
  obtain ⟨B, rfl⟩ := Int.eq_ofNat_of_zero_le hb0
  have hR : R < 65536 := by omega
  have hB : B < 256 := by omega
  have e1 : ((R : Int) * 256 + (B : Int)) = ((256 * R + B : Nat) : Int) := by omega
  have e2 : ((R : Int) * 256) = ((256 * R : Nat) : Int) := by omega
  rw [e1, e2]
  have hj : 256 * R + B = 256 * R ||| B := by
    have := Nat.two_pow_add_eq_or_of_lt (i := 8) (b := B) (by omega) R
    simpa using this
  have hz : (256 * R) &&& B = 0 := by
    have h := Nat.two_pow_add_eq_or_of_lt (i := 8) (b := B) (by omega) R
    apply Nat.eq_of_testBit_eq
    intro i
    rw [Nat.testBit_and, Nat.zero_testBit]
    by_cases hi : i < 8
    · rw [show 256 * R = 2 ^ 8 * R from rfl, Nat.testBit_two_pow_mul]
      simp; omega
    · rw [Nat.testBit_lt_two_pow (x := B) (i := i) (Nat.lt_of_lt_of_le hB (by
        have := Nat.pow_le_pow_right (n := 2) (by decide) (show 8 ≤ i by omega)
        simpa using this))]
      simp
  show IntKind.i64.wrap ((BitVec.ofInt 64 ((256 * R + B : Nat) : Int) ^^^ BitVec.ofInt 64 ((256 * R : Nat) : Int)).toNat : Int) = _
  rw [BitVec.ofInt_natCast, BitVec.ofInt_natCast, BitVec.toNat_xor, BitVec.toNat_ofNat, BitVec.toNat_ofNat, Nat.mod_eq_of_lt (by omega : 256 * R + B < 2 ^ 64), Nat.mod_eq_of_lt (by omega : 256 * R < 2 ^ 64)]
  have hx : (256 * R + B) ^^^ (256 * R) = B := by
    rw [hj]
    apply Nat.eq_of_testBit_eq
    intro i
    have hzi := congrArg (fun n => n.testBit i) hz
    simp only [Nat.testBit_and, Nat.zero_testBit] at hzi
    rw [Nat.testBit_xor, Nat.testBit_or]
    cases h1 : (256 * R).testBit i <;> cases h2 : B.testBit i <;> simp_all
  rw [hx]
  exact wraps_i64 _ (by omega) (by omega)

theorem within_any (n m : Int) (w : World) : Calls Try.prog 19 #[.int .i64 n, .int .i64 m] w fun e w' => e = .returned (.bool (decide (0 ≤ n ∧ n ≤ m))) ∧ w = w' := by
  go_enter Try.func19, Try.ntmps19
  go_wp2
  all_goals (go_ret; refine ⟨?_, rfl⟩; simp; try omega)

theorem within_yes (n m : Int) (w : World) (h : 0 ≤ n ∧ n ≤ m) : Calls Try.prog 19 #[.int .i64 n, .int .i64 m] w fun e w' => e = .returned (.bool true) ∧ w = w' := by
  have := within_any n m w
  rw [decide_eq_true h] at this
  exact this
theorem within_no (n m : Int) (w : World) (h : ¬(0 ≤ n ∧ n ≤ m)) : Calls Try.prog 19 #[.int .i64 n, .int .i64 m] w fun e w' => e = .returned (.bool false) ∧ w = w' := by
  have := within_any n m w
  rw [decide_eq_false h] at this
  exact this

theorem actor_yes (r b : Int) (w : World) (hr0 : 0 ≤ r) (hr1 : r < 65536) (hb0 : 0 ≤ b) (hb1 : b < 256) :
    Calls Try.prog 9 #[.int .i64 r, .int .i64 b] w fun e w' => e = .returned (.tuple #[.int .i64 (r * 256 + b), .int .i64 0]) ∧ w = w' := by
  have ho := or_actor r b hr0 hr1 hb0 hb1
  have h1 := fun w => within_yes r 65535 w (by omega)
  have h2 := fun w => within_yes b 255 w (by omega)
  go_enter Try.func9, Try.ntmps9
  go_wp2_with (first
    | (go_at_call_of 19 (Value.int .i64 65535); refine (h1 _).mono ?_; rintro e w' ⟨rfl, rfl⟩)
    | (go_at_call_of 19 (Value.int .i64 255); refine (h2 _).mono ?_; rintro e w' ⟨rfl, rfl⟩))
  go_ret2
  exact ⟨rfl, rfl⟩

theorem actor_no (r b : Int) (w : World) (h : ¬(0 ≤ r ∧ r < 65536 ∧ 0 ≤ b ∧ b < 256)) :
    Calls Try.prog 9 #[.int .i64 r, .int .i64 b] w fun e w' => e = .returned (.tuple #[.int .i64 0, .int .i64 1]) ∧ w = w' := by
  by_cases hr : 0 ≤ r ∧ r ≤ 65535
  · have h1 := fun w => within_yes r 65535 w hr
    have h2 := fun w => within_no b 255 w (by omega)
    go_enter Try.func9, Try.ntmps9
    go_wp2_with (first
      | (go_at_call_of 19 (Value.int .i64 65535); refine (h1 _).mono ?_; rintro e w' ⟨rfl, rfl⟩)
      | (go_at_call_of 19 (Value.int .i64 255); refine (h2 _).mono ?_; rintro e w' ⟨rfl, rfl⟩))
    go_ret2
    exact ⟨rfl, rfl⟩
  · have h1 := fun w => within_no r 65535 w hr
    go_enter Try.func9, Try.ntmps9
    go_wp2_with (first
      | (go_at_call_of 19 (Value.int .i64 65535); refine (h1 _).mono ?_; rintro e w' ⟨rfl, rfl⟩))
    go_ret2
    exact ⟨rfl, rfl⟩

theorem split_no (a : Int) (w : World) (h : ¬(0 ≤ a ∧ a ≤ 16777215)) :
    Calls Try.prog 10 #[.int .i64 a] w fun e w' => e = .returned (.tuple #[.int .i64 (-1), .int .i64 (-1)]) ∧ w = w' := by
  have h1 := fun w => within_no a 16777215 w h
  go_enter Try.func10, Try.ntmps10
  go_wp2_with (first
    | (go_at_call 19; refine (h1 _).mono ?_; rintro e w' ⟨rfl, rfl⟩))
  go_ret2
  exact ⟨rfl, rfl⟩

theorem split_yes (a : Int) (w : World) (h0 : 0 ≤ a) (h1 : a ≤ 16777215) :
    Calls Try.prog 10 #[.int .i64 a] w fun e w' => e = .returned (.tuple #[.int .i64 (a / 256), .int .i64 (a % 256)]) ∧ w = w' := by
  have hw := fun w => within_yes a 16777215 w ⟨h0, h1⟩
  have hx : bits .xor .i64 a (a / 256 * 256) = a % 256 := by
    have := xor_actor (a / 256) (a % 256) (by omega) (by omega) (by omega) (by omega)
    rw [show a / 256 * 256 + a % 256 = a by omega] at this
    exact this
  go_enter Try.func10, Try.ntmps10
  go_wp2_with (first
    | (go_at_call 19; refine (hw _).mono ?_; rintro e w' ⟨rfl, rfl⟩))
  go_ret2
  exact ⟨rfl, rfl⟩

end Go.Proofs.Ytjilmhenakccjaa
