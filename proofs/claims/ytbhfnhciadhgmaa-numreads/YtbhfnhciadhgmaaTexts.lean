/- What the calls that write numbers of either sign, and texts, do to memory. -/
import Derived.Test.YtbhfnhciadhgmaaArgs
import Derived.Lib.BufferWrite
namespace Go.Proofs.Ytbhfnhciadhgmaa
open Go.RowKit

/-- The number that stands for one of either sign. -/
def zig (n : Int) : Int := if 0 ≤ n then 2 * n else -2 * n - 1

theorem not_u64 (m : Int) (h0 : 0 ≤ m) (h1 : m < 18446744073709551616) : bits .xor .u64 IntKind.u64.max m = 18446744073709551615 - m := by
  obtain ⟨a, rfl⟩ := Int.eq_ofNat_of_zero_le h0
  have ha : a < 18446744073709551616 := by omega
  have e0 : IntKind.u64.max = 18446744073709551615 := by decide
  have e1 : BitVec.ofInt 64 18446744073709551615 = BitVec.allOnes 64 := by decide
  have e2 : (BitVec.allOnes 64 ^^^ BitVec.ofNat 64 a) = ~~~ (BitVec.ofNat 64 a) := by rw [BitVec.allOnes_xor]
  rw [e0]
  show IntKind.u64.wrap ((BitVec.ofInt 64 18446744073709551615 ^^^ BitVec.ofInt 64 (a : Int)).toNat : Int) = _
  rw [e1, BitVec.ofInt_natCast, e2, BitVec.toNat_not, BitVec.toNat_ofNat]
  have : a % 2 ^ 64 = a := Nat.mod_eq_of_lt ha
  rw [this]
  simp [IntKind.wrap, IntKind.bits, IntKind.signed]
  omega

theorem zig_neg (n : Int) (h : n < 0) (h0 : -9223372036854775808 ≤ n) : zig n = bits .xor .u64 IntKind.u64.max (IntKind.u64.wrap (IntKind.u64.wrap n * 2)) := by
  have e1 : IntKind.u64.wrap (IntKind.u64.wrap n * 2) = 18446744073709551616 + 2 * n := by
    simp [IntKind.wrap, IntKind.bits, IntKind.signed]; omega
  rw [e1, not_u64 _ (by omega) (by omega)]
  unfold zig; rw [if_neg (by omega)]; omega

theorem zig_range (n : Int) (h0 : -9223372036854775808 ≤ n) (h1 : n ≤ 9223372036854775807) : 0 ≤ zig n ∧ zig n < 18446744073709551616 := by
  unfold zig; split <;> omega

set_option maxHeartbeats 400000 in
theorem int_any (a : Option Addr) (len cap : Nat) (n : Int) (L : List Int) (w : World) (hs : Src w a len L) (hm : len ≤ 140737488351232) (h0 : -9223372036854775808 ≤ n) (h1 : n ≤ 9223372036854775807) :
    Calls Try.prog 11 #[.slice a len cap, .int .i64 n] w fun e w' => e = .returned (.slice (some ⟨w.heap.size, 0, none⟩) (len + sz (zig n)) (len + sz (zig n))) ∧ Row w' w.heap.size (L ++ enc (zig n)) ∧ Below w.heap.size w w' := by
  have hr := zig_range n h0 h1
  have hu := uint_any a len cap (zig n) L w hs hm hr.1 hr.2
  by_cases hn : n < 0
  · rw [zig_neg n hn h0] at hu ⊢
    clear hr
    go_enter Try.func11, Try.ntmps11
    go_wp2_with (go_at_call 10; refine hu.mono ?_; rintro e w1 ⟨rfl, hr1, hb1⟩)
    go_ret
    exact ⟨rfl, hr1, hb1⟩
  · have e : zig n = n * 2 := by unfold zig; rw [if_pos (by omega)]; omega
    rw [e] at hu ⊢
    clear hr
    go_enter Try.func11, Try.ntmps11
    go_wp2_with (go_at_call 10; refine hu.mono ?_; rintro e w1 ⟨rfl, hr1, hb1⟩)
    go_ret
    exact ⟨rfl, hr1, hb1⟩

/-- The bytes of a string, as numbers. -/
def sb (s : ByteArray) : List Int := s.data.toList.map fun b => (b.toNat : Int)
theorem sb_length (s : ByteArray) : (sb s).length = s.size := by simp [sb]
theorem sb_cells (s : ByteArray) : Lib.byteCells s.data.toList = (sb s).map (Value.int .u8) := by simp [sb, Lib.byteCells]
theorem bts_sb (s : ByteArray) : Bts (sb s) := by
  intro x hx
  simp only [sb, List.mem_map] at hx
  obtain ⟨b, _, rfl⟩ := hx
  have := b.toNat_lt
  omega

theorem Only.setRow (g : Nat) (w : World) (cs : Array Value) : Only g w (w.setRow g cs) :=
  ⟨rfl, rfl, rfl, by simp [World.setRow], fun k hk => setRow_other w g k cs hk⟩

theorem text_copy {w : World} {g len k : Nat} {s : ByteArray} {L E : List Int} (hr : Row w g (L ++ (E ++ List.replicate s.size 0))) (hL : L.length = len) (hE : E.length = k) (d c : Nat) (hd : s.size ≤ d) :
    ∃ w', (Builtin.copy_ #[22, 9] 3 #[.slice (some ⟨g, len + k, none⟩) d c, .string s]).run Try.prog w = .ok (goInt s.size) w' ∧ Row w' g (L ++ (E ++ sb s)) ∧ Only g w w' := by
  refine ⟨_, Lib.run_copy_row_string (P := Try.prog) w 22 9 3 5 g (len + k) d c s _ 5 Try.underlying22 Try.size5 hr hd (by simp; omega), ?_, Only.setRow _ _ _⟩
  have := setRow_heap w g _ (((L ++ (E ++ List.replicate s.size 0)).map (Value.int .u8)).toArray.toList.take (len + k) ++ Lib.byteCells s.data.toList ++ ((L ++ (E ++ List.replicate s.size 0)).map (Value.int .u8)).toArray.toList.drop (len + k + s.size)).toArray 5 _ hr
  unfold Row
  rw [this, sb_cells]
  congr 3
  rw [← List.map_take, ← List.map_drop, ← List.map_append, ← List.map_append]
  congr 1
  have e1 : (L ++ (E ++ List.replicate s.size 0)).take (len + k) = L ++ E := by
    rw [← List.append_assoc, List.take_append_of_le_length (by simp; omega), List.take_of_length_le (by simp; omega)]
  have e2 : (L ++ (E ++ List.replicate s.size 0)).drop (len + k + s.size) = [] := by
    apply List.drop_eq_nil_of_le; simp; omega
  rw [e1, e2]; simp

theorem row_empty {w : World} {g : Nat} {L E : List Int} {s : ByteArray} (h : s.size = 0) (hr : Row w g (L ++ (E ++ List.replicate s.size 0))) : Row w g (L ++ (E ++ sb s)) := by
  have e1 : sb s = [] := List.eq_nil_of_length_eq_zero (by rw [sb_length]; exact h)
  have e2 : List.replicate s.size (0 : Int) = [] := List.eq_nil_of_length_eq_zero (by rw [List.length_replicate]; exact h)
  rw [e1]; rw [e2] at hr; exact hr

set_option maxHeartbeats 400000 in
theorem text_empty (a : Option Addr) (len cap : Nat) (L : List Int) (w : World) (hs : Src w a len L) (hm : len ≤ 140737488351232) :
    Calls Try.prog 12 #[.slice a len cap, .string ByteArray.empty] w fun e w' => e = .returned (.slice (some ⟨w.heap.size, 0, none⟩) (len + (sz ByteArray.empty.size + ByteArray.empty.size)) (len + (sz ByteArray.empty.size + ByteArray.empty.size))) ∧ Row w' w.heap.size (L ++ (enc ByteArray.empty.size ++ sb ByteArray.empty)) ∧ Below w.heap.size w w' := by
  have e0 : sz ByteArray.empty.size + ByteArray.empty.size = 1 := by decide
  have e1 : enc ByteArray.empty.size ++ sb ByteArray.empty = [0] := by decide
  rw [e0, e1]
  have hbh := behind_any a len cap 1 L w hs (by omega)
  have hL := hs.1
  have hz := size_any 0 w (by omega)
  rw [show sz 0 = 1 from by decide] at hz
  have hcp : ∀ (w : World) d dl dc, (Builtin.copy_ #[22, 9] 3 #[.slice d dl dc, .string ByteArray.empty]).run Try.prog w = .ok (goInt 0) w := fun w d dl dc => Lib.run_copy_empty_string (P := Try.prog) w 22 9 3 5 d dl dc _ Try.underlying22 (by rw [Try.size5]; rfl) rfl
  clear e0 e1
  go_enter Try.func12, Try.ntmps12
  go_wp2_with (first
    | (go_at_call 31; refine hz.mono ?_; rintro e w' ⟨rfl, rfl⟩)
    | (go_at_call 32; refine hbh.mono ?_; rintro e w1 ⟨rfl, hr1, hb1⟩)
    | (go_at_call 33; refine (cut_any w.heap.size len 1 _ L [] 0 _ (fits_sz 0 (by omega) (by omega)) (by rw [List.append_nil]; exact hr1) hL).mono ?_; rintro e w2 ⟨rfl, hr2, ho2⟩))
  go_ret
  rw [show be 1 (0 + hd 1) ++ [] = [0] from by decide] at hr2
  exact ⟨rfl, hr2, hb1.trans (ho2.below (Nat.le_refl _))⟩

theorem empty_of {s : ByteArray} (h : s.size = 0) : s = ByteArray.empty :=
  ByteArray.ext (Array.eq_empty_of_size_eq_zero h)

set_option maxHeartbeats 400000 in
theorem text_any (a : Option Addr) (len cap : Nat) (s : ByteArray) (L : List Int) (w : World) (hs : Src w a len L) (hm : len + s.size ≤ 140737488351232) :
    Calls Try.prog 12 #[.slice a len cap, .string s] w fun e w' => e = .returned (.slice (some ⟨w.heap.size, 0, none⟩) (len + (sz s.size + s.size)) (len + (sz s.size + s.size))) ∧ Row w' w.heap.size (L ++ (enc s.size ++ sb s)) ∧ Below w.heap.size w w' := by
  have hz1 := sz_pos s.size
  have hz9 := sz_le s.size
  have hL := hs.1
  have hbh := behind_any a len cap (sz s.size + s.size) L w hs (by omega)
  rw [Int.natCast_add, ← List.replicate_append_replicate] at hbh
  have hf := fits_sz s.size (by omega) (by omega)
  by_cases h0 : s.size = 0
  · obtain rfl : s = ByteArray.empty := empty_of h0
    exact text_empty a len cap L w hs (by omega)
  · go_enter Try.func12, Try.ntmps12
    go_wp2_with (first
      | (go_at_call 31; refine (size_any _ _ (by omega)).mono ?_; rintro e w' ⟨rfl, rfl⟩)
      | (go_at_call 32; refine hbh.mono ?_; rintro e w1 ⟨rfl, hr1, hb1⟩)
      | (go_at_call 33; refine (cut_any w.heap.size len (sz s.size) _ L (List.replicate s.size 0) s.size _ hf hr1 hL).mono ?_; rintro e w2 ⟨rfl, hr2, ho2⟩; obtain ⟨w3, hcp, hr3, ho3⟩ := text_copy hr2 hL (be_length _ _) (len + (sz s.size + s.size) - (len + sz s.size)) (len + (sz s.size + s.size) - (len + sz s.size)) (by omega)))
    go_ret
    exact ⟨rfl, hr3, hb1.trans ((ho2.below (Nat.le_refl _)).trans (ho3.below (Nat.le_refl _)))⟩
end Go.Proofs.Ytbhfnhciadhgmaa
