/- What the call that writes a number of either sign does to memory. -/
import Derived.Test.YthipadnghdodlaaEnds
import Derived.Test.YthipadnghdodlaaBack
import Derived.OpenShut
import Derived.Lib.BufferWrite
namespace Go.Proofs.Ythipadnghdodlaa
open Go.RowKit

/-- The number that stands for one of either sign. -/
def zig (n : Int) : Int := if 0 ≤ n then 2 * n else -2 * n - 1

theorem not_u64 (m : Int) (h0 : 0 ≤ m) (h1 : m < 18446744073709551616) : bits .xor .u64 IntKind.u64.max m = 18446744073709551615 - m := by
  obtain ⟨a, rfl⟩ := Int.eq_ofNat_of_zero_le h0
  have ha : a < 18446744073709551616 := by omega
  have e0 : IntKind.u64.max = 18446744073709551615 := by decide
  have e1 : BitVec.ofInt 64 18446744073709551615 = BitVec.allOnes 64 := by decide
  have e2 : (BitVec.allOnes 64 ^^^ BitVec.ofNat 64 a) = ~~~ (BitVec.ofNat 64 a) := by rw [BitVec.allOnes_xor]
  rw [e0]
  show IntKind.u64.wrap ((BitVec.ofInt 64 18446744073709551615 ^^^ BitVec.ofInt 64 (a : Int)).toNat : Int) = _
  rw [e1, BitVec.ofInt_natCast, e2, BitVec.toNat_not, BitVec.toNat_ofNat]
  have : a % 2 ^ 64 = a := Nat.mod_eq_of_lt ha
  rw [this]
  simp [IntKind.wrap, IntKind.bits, IntKind.signed]
  omega

theorem zig_neg (n : Int) (h : n < 0) (h0 : -9223372036854775808 ≤ n) : zig n = bits .xor .u64 IntKind.u64.max (IntKind.u64.wrap (IntKind.u64.wrap n * 2)) := by
  have e1 : IntKind.u64.wrap (IntKind.u64.wrap n * 2) = 18446744073709551616 + 2 * n := by
    simp [IntKind.wrap, IntKind.bits, IntKind.signed]; omega
  rw [e1, not_u64 _ (by omega) (by omega)]
  unfold zig; rw [if_neg (by omega)]; omega

theorem zig_range (n : Int) (h0 : -9223372036854775808 ≤ n) (h1 : n ≤ 9223372036854775807) : 0 ≤ zig n ∧ zig n < 18446744073709551616 := by
  unfold zig; split <;> omega

set_option maxHeartbeats 400000 in
theorem int_any (a : Option Addr) (len cap : Nat) (n : Int) (L : List Int) (w : World) (hs : Src w a len L) (hm : len ≤ 140737488351232) (h0 : -9223372036854775808 ≤ n) (h1 : n ≤ 9223372036854775807) :
    Calls Try.prog 39 #[.slice a len cap, .int .i64 n] w fun e w' => e = .returned (.slice (some ⟨w.heap.size, 0, none⟩) (len + sz (zig n)) (len + sz (zig n))) ∧ Row w' w.heap.size (L ++ enc (zig n)) ∧ Below w.heap.size w w' := by
  have hr := zig_range n h0 h1
  have hu := uint_any a len cap (zig n) L w hs hm hr.1 hr.2
  by_cases hn : n < 0
  · rw [zig_neg n hn h0] at hu ⊢
    clear hr
    go_enter Try.func39, Try.ntmps39
    go_wp2_with (go_at_call 68; refine hu.mono ?_; rintro e w1 ⟨rfl, hr1, hb1⟩)
    go_ret
    exact ⟨rfl, hr1, hb1⟩
  · have e : zig n = n * 2 := by unfold zig; rw [if_pos (by omega)]; omega
    rw [e] at hu ⊢
    clear hr
    go_enter Try.func39, Try.ntmps39
    go_wp2_with (go_at_call 68; refine hu.mono ?_; rintro e w1 ⟨rfl, hr1, hb1⟩)
    go_ret
    exact ⟨rfl, hr1, hb1⟩

end Go.Proofs.Ythipadnghdodlaa
