/- What the program's small calls do: a frame's size, four bytes written and read, a copy. -/
import Derived.Test.YtajopapcknnfoaaFSum
import Derived.OwnWalk
import Derived.ArgAppend
import Derived.Maps.AppendAt
namespace Go.Proofs.Ytajopapcknnfoaa
open Go.RowKit

set_option maxHeartbeats 400000 in
theorem size_any (a : Option Addr) (len cap : Nat) (w : World) (hm : len ≤ 140737488355328) :
    Calls Try.prog 19 #[.slice a len cap] w fun e w' => e = .returned (.int .i64 ((len + 8 : Nat) : Int)) ∧ w = w' := by
  go_enter Try.func19, Try.ntmps19
  go_wp2
  go_ret
  refine ⟨ret_int ?_, rfl⟩
  omega

/-- The number that the first j bytes say. -/
def numk (L : List Int) : Nat → Int
  | 0 => 0
  | j + 1 => numk L j + L[j]?.getD 0 * 2 ^ (8 * j)
theorem numk_four (L : List Int) : numk L 4 = num4 L := by
  simp [numk, num4]; omega
theorem bits_or32 (n x : Int) (j : Nat) (hj : j < 4) (hn0 : 0 ≤ n) (hn1 : n < 2 ^ (8 * j)) (hx0 : 0 ≤ x) (hx1 : x < 256) : bits .or .u32 n (x * 2 ^ (8 * j) % 4294967296) = n + x * 2 ^ (8 * j) ∧ n + x * 2 ^ (8 * j) < 2 ^ (8 * (j + 1)) := by
  obtain ⟨a, rfl⟩ := Int.eq_ofNat_of_zero_le hn0
  obtain ⟨b, rfl⟩ := Int.eq_ofNat_of_zero_le hx0
  have hb : b < 256 := by omega
  have ha : a < 2 ^ (8 * j) := by exact_mod_cast hn1
  have hp : (256 : Nat) * 2 ^ (8 * j) = 2 ^ (8 * (j + 1)) := by rw [show 8 * (j + 1) = 8 * j + 8 by omega, Nat.pow_add, Nat.mul_comm]
  have h32 : (2 : Nat) ^ (8 * (j + 1)) ≤ 4294967296 := by
    have : (2 : Nat) ^ (8 * (j + 1)) ≤ 2 ^ 32 := Nat.pow_le_pow_right (by omega) (by omega)
    omega
  have hm : b * 2 ^ (8 * j) + 2 ^ (8 * j) ≤ 256 * 2 ^ (8 * j) := by
    rw [← Nat.succ_mul]; exact Nat.mul_le_mul_right _ hb
  have hsum : a + b * 2 ^ (8 * j) < 2 ^ (8 * (j + 1)) := by omega
  have eq : ((2 : Int) ^ (8 * (j + 1))) = ((2 ^ (8 * (j + 1)) : Nat) : Int) := by simp
  have hor : a ||| (b * 2 ^ (8 * j)) = a + b * 2 ^ (8 * j) := by
    have := Nat.two_pow_add_eq_or_of_lt ha b
    rw [Nat.mul_comm (2 ^ (8 * j)) b] at this
    rw [Nat.or_comm, ← this, Nat.add_comm]
  have e1 : ((b : Int) * 2 ^ (8 * j)) = ((b * 2 ^ (8 * j) : Nat) : Int) := by simp
  rw [e1]
  generalize b * 2 ^ (8 * j) = c at *
  generalize (2 : Nat) ^ (8 * (j + 1)) = q at *
  have hc : ((c : Int) % 4294967296) = (c : Int) := by omega
  rw [hc]
  refine ⟨?_, ?_⟩
  · show IntKind.u32.wrap ((BitVec.ofInt 32 (a : Int) ||| BitVec.ofInt 32 (c : Int)).toNat : Int) = _
    rw [BitVec.ofInt_natCast, BitVec.ofInt_natCast, BitVec.toNat_or, BitVec.toNat_ofNat, BitVec.toNat_ofNat, Nat.mod_eq_of_lt (by omega : a < 2 ^ 32), Nat.mod_eq_of_lt (by omega : c < 2 ^ 32), hor]
    simp [IntKind.wrap, IntKind.bits, IntKind.signed]
    omega
  · rw [eq]; omega

set_option maxHeartbeats 400000 in
theorem read_any (a : Option Addr) (len cap : Nat) (L : List Int) (w : World) (hs : Src w a len L) (hb : Bts L) (h4 : 4 ≤ len) (hm : len ≤ 140737488355328) :
    Calls Try.prog 26 #[.slice a len cap] w fun e w' => e = .returned (.int .u32 (num4 L)) ∧ w = w' := by
  obtain ⟨g, off, rfl, hc⟩ := hs.flat (by omega)
  go_enter Try.func26, Try.ntmps26
  go_wp2
  go_loop [5, 3] (fun i r => ∃ (j : Nat) (n : Int), j ≤ 4 ∧ i = .int .i64 j ∧ r = .int .u32 n ∧ 0 ≤ n ∧ n < 2 ^ (8 * j) ∧ Hid (n = numk L j)) (fun i _ => 4 - (intOf i).toNat)
  case atStart => exact ⟨0, 0, by omega, rfl, rfl, by omega, by omega, rfl⟩
  case round =>
    obtain ⟨j, n, hj, rfl, rfl, hn0, hn1, hn⟩ := hrel
    by_cases hlt : j < 4
    · have hcj := hc j (by omega)
      have hv := hb.at j
      go_wp2
      go_round
      case rel =>
        have h := bits_or32 n _ j hlt hn0 hn1 hv.1 hv.2
        have hp : (0 : Int) ≤ L[j]?.getD 0 * 2 ^ (8 * j) := Int.mul_nonneg hv.1 (Int.le_of_lt (Int.pow_pos (by decide)))
        exact ⟨j + 1, n + L[j]?.getD 0 * 2 ^ (8 * j), by omega, by go_num, by rw [h.1], by omega, h.2, by show _ = numk L j + _; rw [hn.out]⟩
      case measure => simp [intOf]; omega
    · obtain rfl : j = 4 := by omega
      go_wp2
      go_ret
      exact ⟨ret_int (by rw [hn.out, numk_four]), rfl⟩

theorem le4_get (n : Int) (j : Nat) (hj : j < 4) : (le4 n)[j]? = some (n / 2 ^ (8 * j) % 256) := by
  have cases : j = 0 ∨ j = 1 ∨ j = 2 ∨ j = 3 := by omega
  rcases cases with rfl | rfl | rfl | rfl <;> simp [le4]
theorem le4_take (n : Int) (j : Nat) (hj : j < 4) : (le4 n).take (j + 1) = (le4 n).take j ++ [n / 2 ^ (8 * j) % 256] := by
  rw [List.take_add_one, le4_get n j hj]; rfl
theorem ones_int {k : IntKind} (L : List Int) : ∀ u ∈ L.map (Value.int k), u.oneCell' = true := by
  intro u hu
  obtain ⟨x, _, rfl⟩ := List.mem_map.1 hu
  rfl

set_option maxHeartbeats 400000 in
theorem lay_any (B g k cap : Nat) (L : List Int) (n : Int) (w : World) (hB : B ≤ w.heap.size) (hk : k + 4 ≤ cap)
    (ho : w.ownsRow B 5 1 (.slice (some ⟨g, 0, none⟩) k cap) k (L.map (Value.int .u8))) (hBg : B ≤ g) :
    Calls Try.prog 20 #[.slice (some ⟨g, 0, none⟩) k cap, .int .u32 n] w fun e w' => e = .returned (.slice (some ⟨g, 0, none⟩) (k + 4) cap) ∧ w'.ownsRow B 5 1 (.slice (some ⟨g, 0, none⟩) (k + 4) cap) (k + 4) ((L ++ le4 n).map (Value.int .u8)) ∧ Below B w w' := by
  obtain ⟨i0, hi, hz0, hz1, hz2⟩ := info_parts Try.info5
  go_enter Try.func20, Try.ntmps20
  go_wp2
  go_loopw [0, 6] (fun v i wr => ∃ (j : Nat), j ≤ 4 ∧ i = .int .i64 j ∧ v = .slice (some ⟨g, 0, none⟩) (k + j) cap ∧ wr.ownsRow B 5 1 (.slice (some ⟨g, 0, none⟩) (k + j) cap) (k + j) ((L ++ (le4 n).take j).map (Value.int .u8)) ∧ Below B w wr) (fun _ i _ => 4 - (intOf i).toNat)
  case atStart => exact ⟨0, by omega, rfl, rfl, by simpa using ho, Below.refl _ _⟩
  case round =>
    obtain ⟨j, hj, rfl, rfl, hown, hb⟩ := hrel
    have hbs := hb.size
    by_cases hlt : j < 4
    · go_wp2_with (at_builtin; refine wpList_append_fits _ rfl _ _ 22 rfl B 5 i0 1 Try.underlying22 hi hz1 g (k + j) cap _ rfl (hown.alloc _) ⟨wr.heap.size, 0, none⟩ 1 1 [.int .u8 (n / 2 ^ (8 * j) % 256)] rfl rfl (cell_one_new _ _ _) (by simp [Value.oneCell']) (by omega) ?_; intro w1 hown' hgrow)
      go_roundw
      case rel =>
        refine ⟨j + 1, by omega, by go_num, rfl, ?_, (hb.alloc (by omega) _).grown hgrow (by simp; omega) (fun i hi => by cases hi; exact hBg)⟩
        rw [le4_take n j hlt, ← Nat.add_assoc]
        simpa using hown'
      case measure => simp [intOf]; omega
    · obtain rfl : j = 4 := by omega
      go_wp2
      go_ret
      exact ⟨rfl, hown, hb⟩

theorem run_eql_nil (w : World) (a : Option Addr) (l c : Nat) : (binOp BinOp.eql 22 (Value.slice a l c) (Value.slice none 0 0)).run Try.prog w = .ok (.bool a.isNone) w := by
  simp [binOp, go_sem, run_equal_slice_nil w 22 5 a l c Try.underlying22]

set_option maxHeartbeats 400000 in
theorem clone_any (a : Option Addr) (len cap : Nat) (L : List Int) (w : World) (hs : Src w a len L) (hnil : a = none → len = 0) (hm : len ≤ 140737488355328) :
    Calls Try.prog 23 #[.slice a len cap] w fun e w' => ∃ v, e = .returned v ∧ w'.ownsRow w.heap.size 5 1 v len (L.map (Value.int .u8)) ∧ Below w.heap.size w w' := by
  obtain ⟨i0, hi, hz0, hz1, hz2⟩ := info_parts Try.info5
  have hq := run_eql_nil
  cases a with
  | none =>
    obtain rfl := hnil rfl
    obtain rfl : L = [] := List.eq_nil_of_length_eq_zero hs.1
    go_enter Try.func23, Try.ntmps23
    go_wp2
    go_ret
    exact ⟨_, rfl, World.ownsRow_nil _ _ _ _, Below.refl _ _⟩
  | some ad =>
    go_enter Try.func23, Try.ntmps23
    have hw : Below w.heap.size w (w.alloc (.cells #[] 5)) := new_below w _
    have ho : (w.alloc (.cells #[] 5)).ownsRow w.heap.size 5 1 (.slice (some ⟨w.heap.size, 0, none⟩) 0 0) 0 [] := World.ownsRow_made w #[] 0 (Nat.le_refl _) (by unfold maxLen; omega) rfl
    have hl : (L.map (Value.int .u8)).length = len * 1 := by rw [List.length_map, hs.1]; omega
    have hc : ∀ j u, (L.map (Value.int .u8))[j]? = some u → (w.alloc (.cells #[] 5)).cell? (ad.add j) = some u := by
      intro j u hj
      have hp : 0 < (L.map (Value.int .u8)).length := by
        rcases Nat.eq_zero_or_pos (L.map (Value.int .u8)).length with h | h
        · rw [List.getElem?_eq_none (by omega)] at hj; simp at hj
        · exact h
      obtain ⟨_, ad', ha, hcc⟩ := src_pos (g := 0) hs hw hp
      obtain rfl := Option.some.inj ha
      exact hcc j u hj
    go_wp2_with (at_builtin; refine wpList_append_own _ rfl _ _ 22 rfl w.heap.size 5 i0 (.int .u8 0) 1 1 Try.underlying22 hi hz0 hz1 hz2 rfl (by decide) _ _ _ rfl ho ad len cap (L.map (Value.int .u8)) rfl hl hc (ones_int L) (by unfold maxLen; omega) (by omega) (by simp) ?_; intro v' w1 hown' hgrow _)
    have hbel : Below w.heap.size w w1 := hw.grown hgrow (by simp) (fun k hk => (ho.lt k hk).1)
    rw [Nat.zero_add, List.nil_append] at hown'
    go_ret
    exact ⟨_, rfl, hown', hbel⟩
end Go.Proofs.Ytajopapcknnfoaa
