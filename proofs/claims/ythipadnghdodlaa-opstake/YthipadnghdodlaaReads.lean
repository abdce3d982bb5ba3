/- What the calls of a reader do to memory: the first byte's word, bytes put together, what is left, the error. -/
import Derived.Test.YthipadnghdodlaaWrites
namespace Go.Proofs.Ythipadnghdodlaa
open Go.RowKit
theorem ret_int {k : IntKind} {a b : Int} (h : a = b) : Ending.returned (.int k a) = .returned (.int k b) := by rw [h]

set_option maxHeartbeats 400000 in
theorem said_any (x : Int) (w : World) (h0 : 0 ≤ x) (h1 : x < 256) :
    Calls Try.prog 84 #[.int .u8 x] w fun e w' => e = .returned (.int .i64 (sd x)) ∧ w = w' := by
  go_enter Try.func84, Try.ntmps84
  go_wp2
  go_loop [2,4] (fun r i => ∃ k : Nat, k ≤ 8 ∧ i = .int .i64 k ∧ r = .int .i64 0 ∧ 256 - 2 ^ (8 - k) ≤ x) (fun _ i => 8 - (intOf i).toNat)
  case atStart => exact ⟨0, by omega, rfl, rfl, by simp; omega⟩
  case round =>
    obtain ⟨k, hk, rfl, rfl, H0⟩ := hrel
    have H : Hid (256 - 2 ^ (8 - k) ≤ x) := H0
    clear H0
    go_wp2
    · go_ret
      have e1 := sd_hit x k (by omega) h0 h1 H.out (by assumption)
      exact ⟨by rw [e1]; go_num, rfl⟩
    · go_round
      case rel => exact ⟨k + 1, by omega, by go_num, rfl, sd_step x k (by omega) h0 h1 H.out (by assumption)⟩
      case measure => simp [intOf]; omega
    · go_ret
      have e1 := sd_nine x k (by omega) hk h1 H.out
      exact ⟨by rw [e1]; rfl, rfl⟩

set_option maxHeartbeats 400000 in
theorem njoin_any (b off k cap : Nat) (L : List Int) (w : World) (hk : 1 ≤ k) (hk9 : k ≤ 9) (hc : ∀ j : Nat, j < k → w.cell? ⟨b, off + j, none⟩ = some (.int .u8 (L[j]?.getD 0))) (hb : ∀ j : Nat, 0 ≤ L[j]?.getD 0 ∧ L[j]?.getD 0 < 256) :
    Calls Try.prog 85 #[.slice (some ⟨b, off, none⟩) k cap] w fun e w' => e = .returned (.int .u64 (jacc L k (k - 1))) ∧ w = w' := by
  have hpos : (0 : Int) < (k : Int) := by omega
  have hc0 := hc 0 (by omega)
  have hb0 := hb 0
  have hj0 : Hid (IntKind.u64.wrap (L[0]?.getD 0 * 2 ^ min k 8 % 256 / 2 ^ min k 8) = jacc L k 0) := by
    have := jacc_u64 L k hk hk9 hb 0 (by omega)
    show IntKind.u64.wrap (jacc L k 0) = jacc L k 0
    simp [IntKind.wrap, IntKind.bits, IntKind.signed]; omega
  simp only [Nat.add_zero] at hc0
  go_enter Try.func85, Try.ntmps85
  go_wp2
  go_loop [4,18] (fun r i => ∃ (j : Nat) (acc : Int), j ≤ k - 1 ∧ i = .int .i64 j ∧ r = .int .u64 acc ∧ Hid (acc = jacc L k j)) (fun _ i => k - (intOf i).toNat)
  case atStart => exact ⟨0, _, by omega, rfl, rfl, hj0⟩
  case round =>
    obtain ⟨j, acc, hj, rfl, rfl, ha⟩ := hrel
    by_cases hlt : j + 1 < k
    · have hs := jacc_small L k hk hk9 hb j hlt
      rw [← ha.out] at hs
      have hb1 := hb (j + 1)
      have hc1 := hc (j + 1) hlt
      have ho : Hid (bits .or .u64 (acc * 256) (L[j + 1]?.getD 0) = jacc L k (j + 1)) := by
        show _ = _
        rw [or_low _ _ hs.1 hs.2 hb1.1 hb1.2, ha.out]; rfl
      clear hc hb
      go_wp2
      go_round
      case rel => exact ⟨j + 1, _, by omega, by go_num, rfl, ho⟩
      case measure => simp [intOf]; omega
    · go_wp2
      go_ret
      have e1 : j = k - 1 := by omega
      exact ⟨ret_int (by rw [ha.out, e1]), rfl⟩

/-- A reader lies in block b: what is left, the error. -/
structure Rd (w : World) (b : Nat) (v : Value) (e : Int) : Prop where
  c0 : w.cell? ⟨b, 0, none⟩ = some v
  c1 : w.cell? ⟨b, 1, none⟩ = some (.int .i64 e)
  f0 : w.frozen? ⟨b, 0, none⟩ = false
  f1 : w.frozen? ⟨b, 1, none⟩ = false

theorem left_nil (w : World) : Calls Try.prog 22 #[.pointer none] w fun e w' => e = .returned (.int .i64 0) ∧ w = w' := by
  go_enter Try.func22, Try.ntmps22
  go_wp2
  go_ret
  exact ⟨rfl, rfl⟩

theorem left_any (w : World) (b : Nat) (a : Option Addr) (len cap : Nat) (x : Int) (h : Rd w b (.slice a len cap) x) :
    Calls Try.prog 22 #[.pointer (some ⟨b, 0, none⟩)] w fun e w' => e = .returned (.int .i64 len) ∧ w = w' := by
  have h0 := h.c0
  go_enter Try.func22, Try.ntmps22
  go_wp2
  go_ret
  exact ⟨rfl, rfl⟩

theorem err_nil (w : World) : Calls Try.prog 23 #[.pointer none] w fun e w' => e = .returned (.int .i64 1) ∧ w = w' := by
  go_enter Try.func23, Try.ntmps23
  go_wp2
  go_ret
  exact ⟨rfl, rfl⟩

theorem err_any (w : World) (b : Nat) (v : Value) (x : Int) (h : Rd w b v x) :
    Calls Try.prog 23 #[.pointer (some ⟨b, 0, none⟩)] w fun e w' => e = .returned (.int .i64 x) ∧ w = w' := by
  have h1 := h.c1
  go_enter Try.func23, Try.ntmps23
  go_wp2
  go_ret
  exact ⟨rfl, rfl⟩

theorem fail_nil (w : World) (x : Int) : Calls Try.prog 52 #[.pointer none, .int .i64 x] w fun e w' => e = .returned (.tuple #[]) ∧ w = w' := by
  go_enter Try.func52, Try.ntmps52
  go_wp2
  exact bodyPost_ret (results_none rfl _ _ _) rfl ⟨rfl, rfl⟩

theorem fail_dead (w : World) (b : Nat) (v : Value) (y x : Int) (h : Rd w b v y) (hy : (y == 0) = false) :
    Calls Try.prog 52 #[.pointer (some ⟨b, 0, none⟩), .int .i64 x] w fun e w' => e = .returned (.tuple #[]) ∧ w = w' := by
  have h1 := h.c1
  go_enter Try.func52, Try.ntmps52
  go_wp2
  exact bodyPost_ret (results_none rfl _ _ _) rfl ⟨rfl, rfl⟩

theorem fail_zero (w : World) (b : Nat) (v : Value) (y : Int) (h : Rd w b v y) :
    Calls Try.prog 52 #[.pointer (some ⟨b, 0, none⟩), .int .i64 0] w fun e w' => e = .returned (.tuple #[]) ∧ w = w' := by
  have h1 := h.c1
  go_enter Try.func52, Try.ntmps52
  go_wp2
  all_goals exact bodyPost_ret (results_none rfl _ _ _) rfl ⟨rfl, rfl⟩

theorem fail_any (w : World) (b : Nat) (v : Value) (x : Int) (h : Rd w b v 0) (hx : (x == 0) = false) :
    Calls Try.prog 52 #[.pointer (some ⟨b, 0, none⟩), .int .i64 x] w fun e w' => e = .returned (.tuple #[]) ∧ Rd w' b (.slice none 0 0) x ∧ Only b w w' := by
  obtain ⟨h0, h1, f0, f1⟩ := h
  go_enter Try.func52, Try.ntmps52
  go_wp2
  go_end0
  refine ⟨rfl, ⟨?_, ?_, ?_, ?_⟩, ((Only.refl b w).setCell _ _).setCell _ _⟩
  all_goals go_simp

theorem read_any (w : World) (v : Value) (a : Option Addr) (len cap : Nat) (hv : v = .slice a len cap) : Calls Try.prog 18 #[v] w fun e w' => e = .returned (.pointer (some ⟨w.heap.size, 0, none⟩)) ∧ Rd w' w.heap.size v 0 ∧ Below w.heap.size w w' := by
  subst hv
  go_enter Try.func18, Try.ntmps18
  go_wp2
  go_ret
  refine ⟨rfl, ⟨?_, ?_, ?_, ?_⟩, (Below.refl _ _).alloc (Nat.le_refl _) _⟩
  all_goals go_simp
end Go.Proofs.Ythipadnghdodlaa
