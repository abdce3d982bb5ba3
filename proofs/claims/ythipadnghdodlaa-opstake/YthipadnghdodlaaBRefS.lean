/- What the reference's calls do: the size of a number, its bytes. -/
import Derived.Test.YthipadnghdodlaaBInt
namespace Go.Proofs.Ythipadnghdodlaa
open Go.RowKit

theorem sz_between (n : Int) (k : Nat) (h2 : 2 ≤ k) (h8 : k ≤ 8) (hlo : 2 ^ (7 * (k - 1)) ≤ n) (hhi : n < 2 ^ (7 * (k - 1)) * 128) : sz n = k := by
  have cases : k = 2 ∨ k = 3 ∨ k = 4 ∨ k = 5 ∨ k = 6 ∨ k = 7 ∨ k = 8 := by omega
  have := sz_cases n
  rcases cases with rfl | rfl | rfl | rfl | rfl | rfl | rfl <;> simp at hlo hhi <;> omega
theorem sz_top (n : Int) (hlo : 2 ^ (7 * (9 - 1)) ≤ n) : sz n = 9 := by
  have := sz_cases n
  simp at hlo; omega
theorem pow_small (k : Nat) (h8 : k ≤ 8) : (0 : Int) < 2 ^ (7 * (k - 1)) ∧ (2 : Int) ^ (7 * (k - 1)) ≤ 562949953421312 := by
  have cases : k = 0 ∨ k = 1 ∨ k = 2 ∨ k = 3 ∨ k = 4 ∨ k = 5 ∨ k = 6 ∨ k = 7 ∨ k = 8 := by omega
  rcases cases with rfl | rfl | rfl | rfl | rfl | rfl | rfl | rfl | rfl <;> simp
theorem pow_next (k : Nat) (h : 1 ≤ k) : (2 : Int) ^ (7 * (k - 1)) * 128 = 2 ^ (7 * (k + 1 - 1)) := by
  rw [show 7 * (k + 1 - 1) = 7 * (k - 1) + 7 by omega, Int.pow_add]; rfl

set_option maxHeartbeats 400000 in
theorem rsize_any (n : Int) (w : World) (h0 : 0 ≤ n) (h1 : n < 18446744073709551616) :
    Calls Try.prog 83 #[.int .u64 n] w fun e w' => e = .returned (.int .i64 (sz n)) ∧ w = w' := by
  by_cases hs : n < 128
  · have e1 : sz n = 1 := by have := sz_cases n; omega
    rw [e1]
    clear e1
    go_enter Try.func83, Try.ntmps83
    go_wp2
    go_ret
    exact ⟨rfl, rfl⟩
  · go_enter Try.func83, Try.ntmps83
    go_wp2
    go_loop [3, 4] (fun m i => ∃ (k : Nat) (M : Int), 2 ≤ k ∧ k ≤ 9 ∧ i = .int .i64 k ∧ m = .int .u64 M ∧ Hid (M = 2 ^ (7 * (k - 1))) ∧ M ≤ n) (fun _ i => 9 - (intOf i).toNat)
    case atStart => exact ⟨2, 128, by omega, by omega, rfl, rfl, rfl, by omega⟩
    case round =>
      obtain ⟨k, M, hk2, hk9, rfl, rfl, hM, hMn⟩ := hrel
      by_cases hk : k ≤ 8
      · have hp := pow_small k hk
        rw [← hM.out] at hp
        go_wp2
        · go_ret
          have hlt : n < M * 128 := by assumption
          have e1 := sz_between n k hk2 hk (by rw [← hM.out]; exact hMn) (by rw [← hM.out]; exact hlt)
          exact ⟨ret_int (by rw [e1]), rfl⟩
        · go_round
          case rel => exact ⟨k + 1, M * 128, by omega, by omega, by go_num, rfl, by show _ = _; rw [hM.out]; exact pow_next k (by omega), by omega⟩
          case measure => simp [intOf]; omega
      · obtain rfl : k = 9 := by omega
        go_wp2
        go_ret
        have e1 := sz_top n (by rw [← hM.out]; exact hMn)
        exact ⟨ret_int (by rw [e1]; rfl), rfl⟩
end Go.Proofs.Ythipadnghdodlaa
