/- The program's walk over the bodies: the function that is ranged over. -/
import Derived.Test.YtegikicpffoglaaFSum
import Derived.OwnWalk
import Derived.ArgAppend
import Derived.Maps.AppendAt
import Derived.BigQuiet
import Derived.Deep.CutBlock
import Derived.RangeFuncNested
import Derived.RangeFuncBound
import Derived.RangeFuncCalls
import Derived.RangeFuncLeaves
import Derived.Shelf.Abstract
import Derived.Shelf.RegionOpen
import Derived.WalkKit
import Derived.OwnWalkIn
import Derived.TacticsInMore
import Derived.LoopNIn
import Derived.LoopIn
namespace Go.Proofs.Ytegikicpffoglaa
section
open Go.RowKit

set_option maxHeartbeats 400000 in
theorem size_any (a : Option Addr) (len cap : Nat) (w : World) (hm : len ≤ 140737488355328) :
    Calls Try.prog 42 #[.slice a len cap] w fun e w' => e = .returned (.int .i64 ((len + 8 : Nat) : Int)) ∧ w = w' := by
  go_enter Try.func42, Try.ntmps42
  go_wp2
  go_ret
  refine ⟨ret_int ?_, rfl⟩
  omega

/-- The number that the first j bytes say. -/
def numk (L : List Int) : Nat → Int
  | 0 => 0
  | j + 1 => numk L j + L[j]?.getD 0 * 2 ^ (8 * j)
theorem numk_four (L : List Int) : numk L 4 = num4 L := by
  simp [numk, num4]; omega
theorem bits_or32 (n x : Int) (j : Nat) (hj : j < 4) (hn0 : 0 ≤ n) (hn1 : n < 2 ^ (8 * j)) (hx0 : 0 ≤ x) (hx1 : x < 256) : bits .or .u32 n (x * 2 ^ (8 * j) % 4294967296) = n + x * 2 ^ (8 * j) ∧ n + x * 2 ^ (8 * j) < 2 ^ (8 * (j + 1)) := by
  obtain ⟨a, rfl⟩ := Int.eq_ofNat_of_zero_le hn0
  obtain ⟨b, rfl⟩ := Int.eq_ofNat_of_zero_le hx0
  have hb : b < 256 := by omega
  have ha : a < 2 ^ (8 * j) := by exact_mod_cast hn1
  have hp : (256 : Nat) * 2 ^ (8 * j) = 2 ^ (8 * (j + 1)) := by rw [show 8 * (j + 1) = 8 * j + 8 by omega, Nat.pow_add, Nat.mul_comm]
  have h32 : (2 : Nat) ^ (8 * (j + 1)) ≤ 4294967296 := by
    have : (2 : Nat) ^ (8 * (j + 1)) ≤ 2 ^ 32 := Nat.pow_le_pow_right (by omega) (by omega)
    omega
  have hm : b * 2 ^ (8 * j) + 2 ^ (8 * j) ≤ 256 * 2 ^ (8 * j) := by
    rw [← Nat.succ_mul]; exact Nat.mul_le_mul_right _ hb
  have hsum : a + b * 2 ^ (8 * j) < 2 ^ (8 * (j + 1)) := by omega
  have eq : ((2 : Int) ^ (8 * (j + 1))) = ((2 ^ (8 * (j + 1)) : Nat) : Int) := by simp
  have hor : a ||| (b * 2 ^ (8 * j)) = a + b * 2 ^ (8 * j) := by
    have := Nat.two_pow_add_eq_or_of_lt ha b
    rw [Nat.mul_comm (2 ^ (8 * j)) b] at this
    rw [Nat.or_comm, ← this, Nat.add_comm]
  have e1 : ((b : Int) * 2 ^ (8 * j)) = ((b * 2 ^ (8 * j) : Nat) : Int) := by simp
  rw [e1]
  generalize b * 2 ^ (8 * j) = c at *
  generalize (2 : Nat) ^ (8 * (j + 1)) = q at *
  have hc : ((c : Int) % 4294967296) = (c : Int) := by omega
  rw [hc]
  refine ⟨?_, ?_⟩
  · show IntKind.u32.wrap ((BitVec.ofInt 32 (a : Int) ||| BitVec.ofInt 32 (c : Int)).toNat : Int) = _
    rw [BitVec.ofInt_natCast, BitVec.ofInt_natCast, BitVec.toNat_or, BitVec.toNat_ofNat, BitVec.toNat_ofNat, Nat.mod_eq_of_lt (by omega : a < 2 ^ 32), Nat.mod_eq_of_lt (by omega : c < 2 ^ 32), hor]
    simp [IntKind.wrap, IntKind.bits, IntKind.signed]
    omega
  · rw [eq]; omega

set_option maxHeartbeats 400000 in
theorem fread_any (a : Option Addr) (len cap : Nat) (L : List Int) (w : World) (hs : Src w a len L) (hb : Bts L) (h4 : 4 ≤ len) (hm : len ≤ 140737488355328) :
    Calls Try.prog 53 #[.slice a len cap] w fun e w' => e = .returned (.int .u32 (num4 L)) ∧ w = w' := by
  obtain ⟨g, off, rfl, hc⟩ := hs.flat (by omega)
  go_enter Try.func53, Try.ntmps53
  go_wp2
  go_loop [5, 3] (fun i r => ∃ (j : Nat) (n : Int), j ≤ 4 ∧ i = .int .i64 j ∧ r = .int .u32 n ∧ 0 ≤ n ∧ n < 2 ^ (8 * j) ∧ Hid (n = numk L j)) (fun i _ => 4 - (intOf i).toNat)
  case atStart => exact ⟨0, 0, by omega, rfl, rfl, by omega, by omega, rfl⟩
  case round =>
    obtain ⟨j, n, hj, rfl, rfl, hn0, hn1, hn⟩ := hrel
    by_cases hlt : j < 4
    · have hcj := hc j (by omega)
      have hv := hb.at j
      go_wp2
      go_round
      case rel =>
        have h := bits_or32 n _ j hlt hn0 hn1 hv.1 hv.2
        have hp : (0 : Int) ≤ L[j]?.getD 0 * 2 ^ (8 * j) := Int.mul_nonneg hv.1 (Int.le_of_lt (Int.pow_pos (by decide)))
        exact ⟨j + 1, n + L[j]?.getD 0 * 2 ^ (8 * j), by omega, by go_num, by rw [h.1], by omega, h.2, by show _ = numk L j + _; rw [hn.out]⟩
      case measure => simp [intOf]; omega
    · obtain rfl : j = 4 := by omega
      go_wp2
      go_ret
      exact ⟨ret_int (by rw [hn.out, numk_four]), rfl⟩

theorem le4_get (n : Int) (j : Nat) (hj : j < 4) : (le4 n)[j]? = some (n / 2 ^ (8 * j) % 256) := by
  have cases : j = 0 ∨ j = 1 ∨ j = 2 ∨ j = 3 := by omega
  rcases cases with rfl | rfl | rfl | rfl <;> simp [le4]
theorem le4_take (n : Int) (j : Nat) (hj : j < 4) : (le4 n).take (j + 1) = (le4 n).take j ++ [n / 2 ^ (8 * j) % 256] := by
  rw [List.take_add_one, le4_get n j hj]; rfl
theorem ones_int {k : IntKind} (L : List Int) : ∀ u ∈ L.map (Value.int k), u.oneCell' = true := by
  intro u hu
  obtain ⟨x, _, rfl⟩ := List.mem_map.1 hu
  rfl

set_option maxHeartbeats 400000 in
theorem lay_any (B g k cap : Nat) (L : List Int) (n : Int) (w : World) (hB : B ≤ w.heap.size) (hk : k + 4 ≤ cap)
    (ho : w.ownsRow B 5 1 (.slice (some ⟨g, 0, none⟩) k cap) k (L.map (Value.int .u8))) (hBg : B ≤ g) :
    Calls Try.prog 49 #[.slice (some ⟨g, 0, none⟩) k cap, .int .u32 n] w fun e w' => e = .returned (.slice (some ⟨g, 0, none⟩) (k + 4) cap) ∧ w'.ownsRow B 5 1 (.slice (some ⟨g, 0, none⟩) (k + 4) cap) (k + 4) ((L ++ le4 n).map (Value.int .u8)) ∧ Below B w w' := by
  obtain ⟨i0, hi, hz0, hz1, hz2⟩ := info_parts Try.info5
  go_enter Try.func49, Try.ntmps49
  go_wp2
  go_loopw [0, 6] (fun v i wr => ∃ (j : Nat), j ≤ 4 ∧ i = .int .i64 j ∧ v = .slice (some ⟨g, 0, none⟩) (k + j) cap ∧ wr.ownsRow B 5 1 (.slice (some ⟨g, 0, none⟩) (k + j) cap) (k + j) ((L ++ (le4 n).take j).map (Value.int .u8)) ∧ Below B w wr) (fun _ i _ => 4 - (intOf i).toNat)
  case atStart => exact ⟨0, by omega, rfl, rfl, by simpa using ho, Below.refl _ _⟩
  case round =>
    obtain ⟨j, hj, rfl, rfl, hown, hb⟩ := hrel
    have hbs := hb.size
    by_cases hlt : j < 4
    · go_wp2_with (at_builtin; refine wpList_append_fits _ rfl _ _ 22 rfl B 5 i0 1 Try.underlying22 hi hz1 g (k + j) cap _ rfl (hown.alloc _) ⟨wr.heap.size, 0, none⟩ 1 1 [.int .u8 (n / 2 ^ (8 * j) % 256)] rfl rfl (cell_one_new _ _ _) (by simp [Value.oneCell']) (by omega) ?_; intro w1 hown' hgrow)
      go_roundw
      case rel =>
        refine ⟨j + 1, by omega, by go_num, rfl, ?_, (hb.alloc (by omega) _).grown hgrow (by simp; omega) (fun i hi => by cases hi; exact hBg)⟩
        rw [le4_take n j hlt, ← Nat.add_assoc]
        simpa using hown'
      case measure => simp [intOf]; omega
    · obtain rfl : j = 4 := by omega
      go_wp2
      go_ret
      exact ⟨rfl, hown, hb⟩

theorem run_eql_nil (w : World) (a : Option Addr) (l c : Nat) : (binOp BinOp.eql 22 (Value.slice a l c) (Value.slice none 0 0)).run Try.prog w = .ok (.bool a.isNone) w := by
  simp [binOp, go_sem, run_equal_slice_nil w 22 5 a l c Try.underlying22]

set_option maxHeartbeats 400000 in
theorem fclone_any (a : Option Addr) (len cap : Nat) (L : List Int) (w : World) (hs : Src w a len L) (hnil : a = none → len = 0) (hm : len ≤ 140737488355328) :
    Calls Try.prog 41 #[.slice a len cap] w fun e w' => ∃ v, e = .returned v ∧ w'.ownsRow w.heap.size 5 1 v len (L.map (Value.int .u8)) ∧ Below w.heap.size w w' := by
  obtain ⟨i0, hi, hz0, hz1, hz2⟩ := info_parts Try.info5
  have hq := run_eql_nil
  cases a with
  | none =>
    obtain rfl := hnil rfl
    obtain rfl : L = [] := List.eq_nil_of_length_eq_zero hs.1
    go_enter Try.func41, Try.ntmps41
    go_wp2
    go_ret
    exact ⟨_, rfl, World.ownsRow_nil _ _ _ _, Below.refl _ _⟩
  | some ad =>
    go_enter Try.func41, Try.ntmps41
    have hw : Below w.heap.size w (w.alloc (.cells #[] 5)) := new_below w _
    have ho : (w.alloc (.cells #[] 5)).ownsRow w.heap.size 5 1 (.slice (some ⟨w.heap.size, 0, none⟩) 0 0) 0 [] := World.ownsRow_made w #[] 0 (Nat.le_refl _) (by unfold maxLen; omega) rfl
    have hl : (L.map (Value.int .u8)).length = len * 1 := by rw [List.length_map, hs.1]; omega
    have hc : ∀ j u, (L.map (Value.int .u8))[j]? = some u → (w.alloc (.cells #[] 5)).cell? (ad.add j) = some u := by
      intro j u hj
      have hp : 0 < (L.map (Value.int .u8)).length := by
        rcases Nat.eq_zero_or_pos (L.map (Value.int .u8)).length with h | h
        · rw [List.getElem?_eq_none (by omega)] at hj; simp at hj
        · exact h
      obtain ⟨_, ad', ha, hcc⟩ := src_pos (g := 0) hs hw hp
      obtain rfl := Option.some.inj ha
      exact hcc j u hj
    go_wp2_with (at_builtin; refine wpList_append_own _ rfl _ _ 22 rfl w.heap.size 5 i0 (.int .u8 0) 1 1 Try.underlying22 hi hz0 hz1 hz2 rfl (by decide) _ _ _ rfl ho ad len cap (L.map (Value.int .u8)) rfl hl hc (ones_int L) (by unfold maxLen; omega) (by omega) (by simp) ?_; intro v' w1 hown' hgrow _)
    have hbel : Below w.heap.size w w1 := hw.grown hgrow (by simp) (fun k hk => (ho.lt k hk).1)
    rw [Nat.zero_add, List.nil_append] at hown'
    go_ret
    exact ⟨_, rfl, hown', hbel⟩
end

section
open Go.RowKit

/-- The first frame's body, as a piece of the bytes. -/
def pc (a : Option Addr) (cap : Nat) (L : List Int) : Value := if (nx L).1 = 0 then .slice (a.map (·.add 4)) (nx L).2.1.length (cap - 4) else .slice none 0 0
theorem Src.drewN {w : World} {a : Option Addr} {len : Nat} {L : List Int} (h : Src w a len L) (q : Nat) : Src (w.drewN q) a len L := h
theorem src_drop {w : World} {g off len : Nat} {L : List Int} (h : Src w (some ⟨g, off, none⟩) len L) (k : Nat) : Src w (some ⟨g, off + k, none⟩) (len - k) (L.drop k) := by
  refine ⟨by rw [List.length_drop, h.1], fun hp => ⟨_, rfl, fun j v hj => ?_⟩⟩
  obtain ⟨ad, ha, hc⟩ := h.2 (by omega)
  obtain rfl := Option.some.inj ha
  rw [List.getElem?_drop] at hj
  have := hc (k + j) v hj
  rw [Addr.add_lit] at this ⊢
  rw [Nat.add_assoc]; exact this

theorem nx_short {L : List Int} (h : L.length < 4) : nx L = (10, [], 0) := by unfold nx; rw [if_pos h]
theorem nx_great {L : List Int} (h : ¬ L.length < 4) (h2 : 4194304 < num4 L) : nx L = (11, [], 0) := by unfold nx; rw [if_neg h, if_pos h2]
theorem nx_early {L : List Int} (h : ¬ L.length < 4) (h2 : ¬ 4194304 < num4 L) (h3 : (L.length : Int) < num4 L + 8) : nx L = (10, [], 0) := by unfold nx; rw [if_neg h, if_neg h2, if_pos h3]
theorem nx_other {L : List Int} (h : ¬ L.length < 4) (h2 : ¬ 4194304 < num4 L) (h3 : ¬ (L.length : Int) < num4 L + 8) (h4 : num4 (L.drop ((num4 L).toNat + 4)) ≠ sumI (L.take ((num4 L).toNat + 4))) : nx L = (12, [], 0) := by unfold nx; rw [if_neg h, if_neg h2, if_neg h3, if_pos h4]
theorem nx_right {L : List Int} (h : ¬ L.length < 4) (h2 : ¬ 4194304 < num4 L) (h3 : ¬ (L.length : Int) < num4 L + 8) (h4 : num4 (L.drop ((num4 L).toNat + 4)) = sumI (L.take ((num4 L).toNat + 4))) : nx L = (0, (L.drop 4).take (num4 L).toNat, (num4 L).toNat + 8) := by unfold nx; rw [if_neg h, if_neg h2, if_neg h3, if_neg (by simp [h4])]

set_option maxHeartbeats 1000000 in
theorem first_any (a : Option Addr) (len cap : Nat) (L : List Int) (w : World) (hs : Src w a len L) (hb : Bts L) (hlc : len ≤ cap) (hm : len ≤ 140737488355328) :
    Calls Try.prog 52 #[.slice a len cap] w fun e w' => e = .returned (.tuple #[pc a cap L, .int .i64 (nx L).1]) ∧ ∃ q, w' = w.drewN q := by
  by_cases h4 : len < 4
  · have e1 := nx_short (L := L) (by rw [hs.1]; exact h4)
    go_enter Try.func52, Try.ntmps52
    go_wp2_with fail
    go_ret2
    exact ⟨by unfold pc; rw [e1]; rfl, 0, rfl⟩
  · have hL4 : ¬ L.length < 4 := by rw [hs.1]; exact h4
    have hn := num4_bounds hb
    obtain ⟨n, hn'⟩ : ∃ n : Nat, num4 L = (n : Int) := ⟨(num4 L).toNat, by omega⟩
    have hR := fread_any a len cap L w hs hb (by omega) hm
    rw [hn'] at hR hn
    by_cases h5 : 4194304 < n
    · have e1 := nx_great (L := L) hL4 (by rw [hn']; omega)
      go_enter Try.func52, Try.ntmps52
      go_wp2_with (go_at_call 53; refine hR.mono ?_; rintro e w' ⟨rfl, rfl⟩)
      go_ret2
      exact ⟨by unfold pc; rw [e1]; rfl, 0, rfl⟩
    · by_cases h6 : len < n + 8
      · have e1 := nx_early (L := L) hL4 (by rw [hn']; omega) (by rw [hn', hs.1]; omega)
        go_enter Try.func52, Try.ntmps52
        go_wp2_with (go_at_call 53; refine hR.mono ?_; rintro e w' ⟨rfl, rfl⟩)
        go_ret2
        exact ⟨by unfold pc; rw [e1]; rfl, 0, rfl⟩
      · obtain ⟨g, off, rfl, hc⟩ := hs.flat (by omega)
        have sd := src_drop hs (4 + n)
        have stt := src_take hs (4 + n) (by rw [hs.1]; omega)
        have hLr := fun q => Calls.quiet_of_same (w := w) (n := q) ((fread_any _ (len - (4 + n)) (cap - (4 + n)) _ _ (sd.drewN q) (hb.drop _) (by omega) (by omega)).mono (fun _ _ h => ⟨h.1, h.2.symm⟩))
        have hLs := fun q => Calls.quiet_of_same (w := w) (n := q) ((sum_any _ (4 + n) cap _ _ (stt.drewN q) (hb.take _) (by omega)).mono (fun _ _ h => ⟨h.1, h.2.symm⟩))
        go_enter Try.func52, Try.ntmps52
        go_wp2_with (go_at_call 53; refine hR.mono ?_; rintro e w' ⟨rfl, rfl⟩)
        have hcn : ¬ cap = 4 + n := by omega
        have hc0 : ¬ cap = 0 := by omega
        clear hR hc
        go_quiet (first | (go_at_call 53; exact hLr _) | (go_at_call 50; exact hLs _))
        by_cases h7 : num4 (L.drop (4 + n)) = sumI (L.take (4 + n))
        · have e1 := nx_right (L := L) hL4 (by rw [hn']; omega) (by rw [hn', hs.1]; omega) (by rw [hn', Int.toNat_natCast, Nat.add_comm n 4]; exact h7)
          have hbq : (num4 (L.drop (4 + n)) != sumI (L.take (4 + n))) = false := by simp [h7]
          rw [hn', Int.toNat_natCast] at e1
          rw [hbq]
          clear hLr hLs hbq h7
          have hc4 : ¬ cap = 4 := by omega
          go_wp2_with fail
          go_ret2
          refine ⟨?_, _, rfl⟩
          have hl : ((L.drop 4).take n).length = n := by rw [List.length_take, List.length_drop, hs.1]; omega
          unfold pc
          rw [e1]
          simp only [if_true, hl, Option.map_some, Addr.add_lit]
          congr 4
          show Value.slice _ (4 + n - 4) _ = _
          rw [Nat.add_sub_cancel_left]
        · have e1 := nx_other (L := L) hL4 (by rw [hn']; omega) (by rw [hn', hs.1]; omega) (by rw [hn', Int.toNat_natCast, Nat.add_comm n 4]; exact h7)
          have hbq : (num4 (L.drop (4 + n)) != sumI (L.take (4 + n))) = true := by simp [h7]
          rw [hbq]
          clear hLr hLs hbq h7
          go_wp2_with fail
          go_ret2
          exact ⟨by unfold pc; rw [e1]; rfl, _, rfl⟩
theorem src_pc {w : World} {a : Option Addr} {len : Nat} {L : List Int} (hs : Src w a len L) (hb : Bts L) (h : (nx L).1 = 0) : Src w (a.map (·.add 4)) (nx L).2.1.length (nx L).2.1 ∧ 8 ≤ len := by
  have hk := nx_ok hb h
  rw [hs.1] at hk
  obtain ⟨g, off, rfl, _⟩ := hs.flat (by omega)
  have e : (nx L).2.1 = (L.drop 4).take (nx L).2.1.length := by
    have h1 : ∃ m, (nx L).2.1 = (L.drop 4).take m := by
      by_cases a1 : L.length < 4
      · rw [nx_short a1] at h; simp at h
      · by_cases a2 : 4194304 < num4 L
        · rw [nx_great a1 a2] at h; simp at h
        · by_cases a3 : (L.length : Int) < num4 L + 8
          · rw [nx_early a1 a2 a3] at h; simp at h
          · by_cases a4 : num4 (L.drop ((num4 L).toNat + 4)) = sumI (L.take ((num4 L).toNat + 4))
            · exact ⟨_, by rw [nx_right a1 a2 a3 a4]⟩
            · rw [nx_other a1 a2 a3 a4] at h; simp at h
    obtain ⟨m, hm⟩ := h1
    rw [hm, List.length_take, ← List.take_eq_take_min]
  refine ⟨?_, by omega⟩
  have s4 := src_drop hs 4
  have := src_take s4 (nx L).2.1.length (by rw [List.length_drop, hs.1]; omega)
  rw [← e] at this
  exact this
end

section
open Go.RowKit

theorem owns_src {w : World} {B g n cap : Nat} {L : List Int} (h : w.ownsRow B 5 1 (.slice (some ⟨g, 0, none⟩) n cap) n (L.map (Value.int .u8))) : Src w (some ⟨g, 0, none⟩) n L := by
  have hl := h.1
  rw [List.length_map, Nat.mul_one] at hl
  refine ⟨hl, fun _ => ⟨_, rfl, fun j v hj => ?_⟩⟩
  have hlt : j < n := by
    rw [← hl]
    rcases Nat.lt_or_ge j L.length with h | h
    · exact h
    · rw [List.getElem?_eq_none h] at hj; simp at hj
  have := h.cellAt j (by omega)
  rw [List.getElem?_map, hj, Option.map_some] at this
  by_cases hj0 : j = 0
  · subst hj0; simpa [Addr.add] using this
  · simpa [Addr.add, hj0] using this
theorem owns_row {w : World} {B g n : Nat} {L : List Int} (h : w.ownsRow B 5 1 (.slice (some ⟨g, 0, none⟩) n n) n (L.map (Value.int .u8))) : Row w g L := by
  rcases h.2 with ⟨h', _⟩ | ⟨g', cap, cur, h', _, hg, _, _, hcs, ht⟩
  · simp at h'
  · simp only [Value.slice.injEq, Option.some.injEq, Addr.mk.injEq, and_true, true_and] at h'
    obtain ⟨rfl, rfl⟩ := h'
    unfold Row
    rw [hg]
    have e1 : cur.toList = L.map (Value.int .u8) := by
      rw [← List.take_of_length_le (l := cur.toList) (i := n * 1) (by simp [hcs]), ht]
    rw [← e1]
/-- What a slice that a call owns leads to. -/
theorem owns_any {w : World} {B n : Nat} {v : Value} {L : List Int} (h : w.ownsRow B 5 1 v n (L.map (Value.int .u8))) : ∃ a c, v = .slice a n c ∧ n ≤ c ∧ c ≤ 9223372036854775807 ∧ (a = none → n = 0 ∧ c = 0) ∧ Src w a n L := by
  rcases h.2 with ⟨rfl, rfl⟩ | ⟨g, cap, cur, rfl, hB, hg, hn, hc, _⟩
  · have : L = [] := List.eq_nil_of_length_eq_zero (by simpa using h.1)
    subst this
    exact ⟨none, 0, rfl, by omega, by omega, fun _ => ⟨rfl, rfl⟩, src_nil w⟩
  · exact ⟨_, cap, rfl, hn, by unfold maxLen at hc; omega, (fun h => absurd h (by simp)), owns_src h⟩

set_option maxHeartbeats 1000000 in
theorem frame_any (a : Option Addr) (len cap : Nat) (L : List Int) (w : World) (hs : Src w a len L) (hb : Bts L) (hnil : a = none → len = 0 ∧ cap = 0) (hm : len ≤ 4194304) :
    Calls Try.prog 36 #[.slice a len cap] w fun e w' => e = .returned (.tuple #[.slice (some ⟨w.heap.size, 0, none⟩) (len + 8) (len + 8), .int .i64 0]) ∧ Row w' w.heap.size (fr L) ∧ Below w.heap.size w w' := by
  obtain ⟨i0, hi, hz0, hz1, hz2⟩ := info_parts Try.info5
  go_enter Try.func36, Try.ntmps36
  go_wp2_with (first
    | (go_at_call 42; refine (size_any a len cap _ (by omega)).mono ?_; rintro e w' ⟨rfl, rfl⟩)
    | (at_make; refine wpList_make_own _ rfl _ _ 22 rfl w.heap.size 5 i0 (.int .u8 0) 1 Try.underlying22 hi hz0 hz1 _ _ _ (len + 8) rfl rfl (by omega) (by rw [hz2]; omega) (by unfold maxLen; omega) (Nat.le_refl _) ?_; intro w1 hown1 hgrow1))
  have hb1 : Below w.heap.size w w1 := (Below.refl _ _).grown hgrow1 (Nat.le_refl _) (fun k hk => by cases hk)
  refine (lay_any w.heap.size w.heap.size 0 (len + 8) [] len w1 hb1.size (by omega) (by simpa using hown1) (Nat.le_refl _)).mono ?_
  rintro e w2 ⟨rfl, hown2, hb2⟩
  have hb2' := hb1.trans hb2
  have hs2 := hs.below hb2'
  have hc2 : ∀ ad, a = some ad → ∀ j u, (L.map (Value.int .u8))[j]? = some u → w2.cell? (ad.add j) = some u := by
    intro ad ha j u hj
    have hp : 0 < (L.map (Value.int .u8)).length := by
      rcases Nat.eq_zero_or_pos (L.map (Value.int .u8)).length with h | h
      · rw [List.getElem?_eq_none (by omega)] at hj; simp at hj
      · exact h
    obtain ⟨_, ad', ha', hcc⟩ := src_pos (g := 0) hs hb2' hp
    rw [ha] at ha'
    obtain rfl := Option.some.inj ha'
    exact hcc j u hj
  rw [List.nil_append] at hown2
  have hl4 : (le4 (len : Int)).length = 4 := le4_length _
  go_wp2_with (at_builtin; refine wpList_append_fits_any _ rfl _ _ 22 rfl w.heap.size 5 i0 1 Try.underlying22 hi hz1 w.heap.size (0 + 4) (len + 8) _ rfl hown2 a len cap (L.map (Value.int .u8)) rfl (by rw [List.length_map, hs.1]; omega) hnil hc2 (ones_int L) (by omega) ?_; intro w3 hown3 hgrow3)
  have hb3 : Below w.heap.size w w3 := hb2'.grown hgrow3 hb2'.size (fun k hk => by cases hk; exact Nat.le_refl _)
  rw [← List.map_append, Nat.zero_add] at hown3
  have hs3 := owns_src hown3
  have hbt : Bts (le4 (len : Int) ++ L) := (le4_bts _).app hb
  have hsr := sumI_range (le4 (len : Int) ++ L)
  refine (sum_any _ (4 + len) (len + 8) _ w3 hs3 hbt (by omega)).mono ?_
  rintro e w4 ⟨rfl, rfl⟩
  go_wp2_with fail
  refine (lay_any w.heap.size w.heap.size (4 + len) (len + 8) _ (sumI (le4 (len : Int) ++ L)) w3 hb3.size (by omega) hown3 (Nat.le_refl _)).mono ?_
  rintro e w5 ⟨rfl, hown5, hb5⟩
  have hlen : 4 + len + 4 = len + 8 := by omega
  rw [hlen] at hown5 ⊢
  have hrow : Row w5 w.heap.size (fr L) := by
    have := owns_row hown5
    unfold fr
    rw [hs.1]
    exact this
  go_wp2_with fail
  go_ret2
  exact ⟨rfl, hrow, hb3.trans hb5⟩

/-- Where a piece begins that leaves the first i bytes out. -/
def cutA (a : Option Addr) (cap i : Nat) : Option Addr := if cap = i then a else a.map (·.add i)
theorem src_cut {w : World} {a : Option Addr} {len : Nat} {L : List Int} (h : Src w a len L) (cap i : Nat) (hc : len ≤ cap) : Src w (cutA a cap i) (len - i) (L.drop i) := by
  by_cases hp : i < len
  · obtain ⟨g, off, rfl, _⟩ := h.flat (by omega)
    unfold cutA
    rw [if_neg (by omega), Option.map_some, Addr.add_lit]
    exact src_drop h i
  · have : L.drop i = [] := List.drop_eq_nil_of_le (by rw [h.1]; omega)
    rw [this, show len - i = 0 by omega]
    exact ⟨rfl, fun h => absurd h (by omega)⟩
end

section
open Go.RowKit Go.Shelf
attribute [local go_sem] Oper.semAt_some

/-- A piece of bytes: where it begins, its length, its room, its bytes. -/
structure PV where
  a : Option Addr
  len : Nat
  cap : Nat
  L : List Int
/-- Pieces that lead to their bytes in w. -/
abbrev PA (w : World) : Type := { x : PV // Src w x.a x.len x.L ∧ Bts x.L ∧ (x.a = none → x.len = 0) ∧ x.len ≤ 4194304 }
/-- The bodies of the frames that lie one behind the other, as pieces. -/
def Wk (w : World) : List (PA w) → Option Addr → Nat → Nat → List Int → Prop
  | [], _, _, _, L => (nx L).1 ≠ 0
  | x :: xs, a, len, cap, L => (nx L).1 = 0 ∧ x.1 = ⟨a.map (·.add 4), (nx L).2.1.length, cap - 4, (nx L).2.1⟩ ∧ Wk w xs (cutA a cap (nx L).2.2) (len - (nx L).2.2) (cap - (nx L).2.2) (L.drop (nx L).2.2)
/-- Where the pieces' frames end. -/
def tot {w : World} (xs : List (PA w)) : Nat := (xs.map fun x => x.1.len + 8).sum
theorem tot_snoc {w : World} (xs : List (PA w)) (x : PA w) : tot (xs ++ [x]) = tot xs + (x.1.len + 8) := by simp [tot]
theorem tot_len {w : World} (xs : List (PA w)) : xs.length ≤ tot xs := by
  induction xs with
  | nil => simp [tot]
  | cons x xs ih => simp [tot] at ih ⊢; omega

theorem nx_small {L : List Int} (hb : Bts L) (h : (nx L).1 = 0) : (nx L).2.1.length ≤ 4194304 := by
  have hn := num4_bounds hb
  by_cases a1 : L.length < 4
  · rw [nx_short a1] at h; simp at h
  · by_cases a2 : 4194304 < num4 L
    · rw [nx_great a1 a2] at h; simp at h
    · by_cases a3 : (L.length : Int) < num4 L + 8
      · rw [nx_early a1 a2 a3] at h; simp at h
      · by_cases a4 : num4 (L.drop ((num4 L).toNat + 4)) = sumI (L.take ((num4 L).toNat + 4))
        · rw [nx_right a1 a2 a3 a4]; simp only [List.length_take]; omega
        · rw [nx_other a1 a2 a3 a4] at h; simp at h

theorem wk_any (w : World) (m : Nat) (a : Option Addr) (len cap : Nat) (L : List Int) (hs : Src w a len L) (hb : Bts L) (hlc : len ≤ cap) (hm : len ≤ m) :
    ∃ xs, Wk w xs a len cap L ∧ xs.map (fun x => x.1.L) = (spl L).1 ∧ tot xs = (spl L).2 := by
  induction m generalizing a len cap L with
  | zero =>
    have h : (nx L).1 ≠ 0 := by
      intro h0
      have := nx_ok hb h0
      rw [hs.1] at this
      omega
    exact ⟨[], h, by rw [spl_bad h]; rfl, by rw [spl_bad h]; rfl⟩
  | succ m ih =>
    by_cases h : (nx L).1 = 0
    · have hk := nx_ok hb h
      rw [hs.1] at hk
      have hp := src_pc hs hb h
      obtain ⟨xs, h1, h2, h3⟩ := ih (cutA a cap (nx L).2.2) (len - (nx L).2.2) (cap - (nx L).2.2) (L.drop (nx L).2.2) (src_cut hs cap _ hlc) (hb.drop _) (by omega) (by omega)
      have hn : (a.map (·.add 4)) = none → (nx L).2.1.length = 0 := by
        intro hn
        obtain ⟨g, off, rfl, _⟩ := hs.flat (by omega)
        simp at hn
      refine ⟨⟨⟨a.map (·.add 4), (nx L).2.1.length, cap - 4, (nx L).2.1⟩, hp.1, nx_bts hb, hn, nx_small hb h⟩ :: xs, ⟨h, rfl, h1⟩, ?_, ?_⟩
      · rw [spl_ok hb h, List.map_cons, h2]
      · rw [spl_ok hb h]
        show (nx L).2.1.length + 8 + tot xs = _
        rw [h3, hk.1]
    · exact ⟨[], h, by rw [spl_bad h]; rfl, by rw [spl_bad h]; rfl⟩

/-- The length of a slice. -/
def lenOf : Value → Nat
  | .slice _ n _ => n
  | _ => 0

set_option maxRecDepth 100000 in
set_option maxHeartbeats 1000000 in
theorem walk1_in (n : Nat) (hn : 1 ≤ n) (l Bn : Nat) (w : World) (a0 : Option Addr) (len0 cap0 : Nat) (L0 : List Int) (xs : List (PA w)) (J Jx : List (PA w) → World → Prop)
    (hm : len0 ≤ 140737488355328) (hs : Src w a0 len0 L0) (hb : Bts L0) (hlc : len0 ≤ cap0) (hwk : Wk w xs a0 len0 cap0 L0)
    (W : World) (hW : Below w.heap.size w W) (hJ : AbidesFrom W.heap.size J)
    (hY : ∀ pre x W1, J pre W1 → pre.length < xs.length → YieldAt Fence.wide (n - 1) Try.prog l #[.slice x.1.a x.1.len x.1.cap] W1 fun e W' =>
      (e = .returned (.bool true) ∧ J (pre ++ [x]) W' ∧ Below w.heap.size W1 W') ∨ (e = .returned (.bool false) ∧ Jx (pre ++ [x]) W'))
    (hBn : W.cell? ⟨Bn, 0, none⟩ = some (.slice a0 len0 cap0)) (h0 : J [] W) :
    CallsIn Fence.wide n Try.prog 51 #[.func (.yield l) #[] #[], .pointer (some ⟨Bn, 0, none⟩)] W fun e W' => (∃ v, e = .returned v) ∧
      ((∃ ys, ys = xs ∧ J ys W') ∨ (∃ pre, pre <+: xs ∧ Jx pre W')) := by
  refine callsIn_of_wp Try.func51 rfl trivial ?_ rfl
  simp only [Try.ntmps51, List.size_toArray, List.length_cons, List.length_nil, Nat.reduceAdd, Nat.reduceSub, Array.replicate_succ, Array.replicate_zero, List.push_toArray, List.append_toArray, List.nil_append, List.cons_append]
  gi_wp2
  gi_loopw [3] (fun v wr => ∃ (pre rest : List (PA w)) (a : Option Addr) (len cap : Nat) (L : List Int), v = .slice a len cap ∧ Hid (xs = pre ++ rest) ∧ Wk w rest a len cap L ∧ Src w a len L ∧ Bts L ∧ len ≤ cap ∧ len ≤ 140737488355328 ∧ J pre wr ∧ Below w.heap.size w wr)
    (fun v _ => lenOf v)
  case atStart =>
    exact ⟨[], xs, a0, len0, cap0, L0, rfl, rfl, hwk, hs, hb, hlc, hm, h0, hW⟩
  case round =>
    obtain ⟨pre, rest, a, len, cap, L, rfl, hx, hl, hsr, hbr, hlcr, hmr, hJs, hBr⟩ := hrel
    have hF := first_any a len cap L wr (hsr.below hBr) hbr hlcr hmr
    cases rest with
    | nil =>
      have h : (nx L).1 ≠ 0 := hl
      have hpc : pc a cap L = .slice none 0 0 := by unfold pc; rw [if_neg h]
      rw [hpc] at hF
      have hne : ((nx L).1 != 0) = true := by simp [h]
      clear hpc h hl
      generalize (nx L).1 = E at *
      gi_wp2_with (refine ⟨trivial, ?_⟩; gi_at_call 52; refine (callsIn_wide.2 hF).mono ?_; rintro e w' ⟨rfl, q, rfl⟩)
      refine ⟨fun _ h => (by cases h), ?_⟩
      gi_wp2
      refine bodyPost_ret (results_none rfl _ _ _) rfl ?_
      exact ⟨⟨_, rfl⟩, .inl ⟨pre, by rw [hx.out, List.append_nil], hJ pre _ _ none hJs ⟨rfl, rfl, rfl, Nat.le_refl _, fun _ _ _ => rfl⟩ (fun _ h => by cases h)⟩⟩
    | cons x rest' =>
      obtain ⟨h, hxv, hr⟩ := hl
      have hk := nx_ok hbr h
      rw [hsr.1] at hk
      obtain ⟨g, off, rfl, _⟩ := hsr.flat (by omega)
      have hsm := nx_small hbr h
      obtain ⟨m, hmm⟩ : ∃ m, m = (nx L).2.1.length := ⟨_, rfl⟩
      have hpc : pc (some ⟨g, off, none⟩) cap L = .slice (some ⟨g, off + 4, none⟩) m (cap - 4) := by unfold pc; rw [if_pos h, ← hmm, Option.map_some, Addr.add_lit]
      rw [hpc, h] at hF
      have h22 : (nx L).2.2 = m + 8 := by rw [hk.1, hmm]
      rw [Option.map_some, Addr.add_lit, ← hmm] at hxv
      rw [h22] at hr hk
      have hY' := fun q => hY pre x (wr.drewN q) (hJ pre _ _ none hJs ⟨rfl, rfl, rfl, Nat.le_refl _, fun _ _ _ => rfl⟩ (fun _ h => by cases h)) (by rw [hx.out]; simp)
      rw [hxv] at hY'
      have hle : m + 8 ≤ len := hk.2
      rw [← hmm] at hsm
      have hcut := src_cut hsr cap (m + 8) hlcr
      have hxx : Hid (xs = (pre ++ [x]) ++ rest') := by show _ = _; rw [hx.out]; simp
      have hr' := hid hr
      clear hpc hmm h22 hk h hxv hr hx
      gi_wp2_with (refine ⟨trivial, ?_⟩; gi_at_call 52; refine (callsIn_wide.2 hF).mono ?_; rintro e w' ⟨rfl, q, rfl⟩; obtain ⟨fn, tmps, assign, body, hy, hR⟩ := hY' q)
      refine hR.mono ?_
      rintro e W3 (⟨rfl, hJ3, hk3⟩ | ⟨rfl, hJx3⟩)
      · have hB3 : Below w.heap.size w W3 := (below_drewN hBr q).trans hk3
        clear hF hY' hR hy
        have hmi : (m : Int) + 8 ≤ (len : Int) := by omega
        gi_wp2_with (refine ⟨trivial, ?_⟩; gi_at_call 42; refine (callsIn_wide.2 (size_any _ m _ _ (by omega))).mono ?_; rintro e w' ⟨rfl, rfl⟩)
        go_roundw
        case rel =>
          refine ⟨pre ++ [x], rest', _, _, _, L.drop (m + 8), ?_, hxx, hr'.out, hcut, hbr.drop _, by omega, by omega, hJ3, hB3⟩
          unfold cutA
          rw [Option.map_some, Addr.add_lit]
        case measure => show len - (m + 8) < len; omega
      · clear hF hY' hR hy
        gi_wp2
        refine bodyPost_ret (results_none rfl _ _ _) rfl ?_
        exact ⟨⟨_, rfl⟩, .inr ⟨pre ++ [x], ⟨rest', by rw [hxx.out]⟩, hJx3⟩⟩

set_option maxHeartbeats 1000000 in
theorem walk_in (n : Nat) (a0 : Option Addr) (len0 cap0 : Nat) (w : World) :
    CallsIn Fence.wide n Try.prog 40 #[.slice a0 len0 cap0] w fun e w' => e = .returned (.func (.func 51) #[] #[.pointer (some ⟨w.heap.size, 0, none⟩)]) ∧ w' = w.alloc (.cells #[.slice a0 len0 cap0] 22) := by
  refine callsIn_of_wp Try.func40 rfl trivial ?_ rfl
  simp only [Try.ntmps40, List.size_toArray, List.length_cons, List.length_nil, Nat.reduceAdd, Nat.reduceSub, Array.replicate_succ, Array.replicate_zero, List.push_toArray, List.append_toArray, List.nil_append, List.cons_append]
  gi_wp2
  go_ret
  exact ⟨rfl, rfl⟩

theorem walk_stops (n : Nat) (hn : 1 ≤ n) (Bn : Nat) (w : World) (a0 : Option Addr) (len0 cap0 : Nat) (L0 : List Int) (xs : List (PA w))
    (hm : len0 ≤ 140737488355328) (hs : Src w a0 len0 L0) (hb : Bts L0) (hlc : len0 ≤ cap0) (hwk : Wk w xs a0 len0 cap0 L0)
    (w2 : World) (h2 : Below w.heap.size w w2) (hBn : Bn < w2.heap.size) (hc : w2.cell? ⟨Bn, 0, none⟩ = some (.slice a0 len0 cap0)) :
    SeqStopsK Fence.wide n Try.prog 51 #[.pointer (some ⟨Bn, 0, none⟩)] (fun x : PA w => #[Value.slice x.1.a x.1.len x.1.cap]) (Below w.heap.size) (fun ys => ys = xs) (fun pre => pre <+: xs) xs.length w2 := fun l J Jx W hW hJ _ hY h0 =>
  walk1_in n hn l Bn w a0 len0 cap0 L0 xs J Jx hm hs hb hlc hwk W (h2.trans (hW.mono h2.size)) hJ hY ((hW.cell (p := ⟨Bn, 0, none⟩) hBn).trans hc) h0
end
end Go.Proofs.Ytegikicpffoglaa
