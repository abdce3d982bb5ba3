/- The reference's clock: See, Next. -/
import Derived.Test.YtjilmhenakccjaaCClock
namespace Go.Proofs.Ytjilmhenakccjaa
open Go.RowKit

abbrev cv (a s t : Int) : Value := .agg #[.int .i64 a, .int .i64 s, .int .i64 t]

theorem three_set (w : World) (g : Nat) (x y z : Value) (c0 c1 c2 : Value) (h0 : w.cell? ⟨g, 0, none⟩ = some c0) (h1 : w.cell? ⟨g, 1, none⟩ = some c1) (h2 : w.cell? ⟨g, 2, none⟩ = some c2) :
    (((w.setCell ⟨g, 0, none⟩ x).setCell ⟨g, 1, none⟩ y).setCell ⟨g, 2, none⟩ z).cell? ⟨g, 0, none⟩ = some x ∧ (((w.setCell ⟨g, 0, none⟩ x).setCell ⟨g, 1, none⟩ y).setCell ⟨g, 2, none⟩ z).cell? ⟨g, 1, none⟩ = some y ∧ (((w.setCell ⟨g, 0, none⟩ x).setCell ⟨g, 1, none⟩ y).setCell ⟨g, 2, none⟩ z).cell? ⟨g, 2, none⟩ = some z := by
  refine ⟨?_, ?_, ?_⟩ <;> go_simp

set_option maxHeartbeats 2000000 in
theorem rsee_any (a s t x : Int) (w : World) : Calls Try.prog 13 #[cv a s t, .int .i64 x] w fun e w' => e = .returned (cv a s (seen t x)) ∧ RowKit.Below w.heap.size w w' := by
  by_cases ht : t < x
  · by_cases hx : x ≤ 1099511627776
    · rw [show seen t x = x from if_pos ⟨ht, hx⟩]
      go_enter Try.func13, Try.ntmps13
      go_wp2
      refine bodyPost_ret (v := cv a s x) (by simp [results, Try.results13, go_sem]) rfl ⟨rfl, ?_⟩
      exact (((Upon.refl w.heap.size w).alloc _).alloc _).below (Nat.le_refl _) (Nat.le_refl _)
    · rw [show seen t x = t from if_neg (by omega)]
      go_enter Try.func13, Try.ntmps13
      go_wp2
      refine bodyPost_ret (v := cv a s t) (by simp [results, Try.results13, go_sem]) rfl ⟨rfl, ?_⟩
      exact (((Upon.refl w.heap.size w).alloc _).alloc _).below (Nat.le_refl _) (Nat.le_refl _)
  · rw [show seen t x = t from if_neg (by omega)]
    go_enter Try.func13, Try.ntmps13
    go_wp2
    refine bodyPost_ret (v := cv a s t) (by simp [results, Try.results13, go_sem]) rfl ⟨rfl, ?_⟩
    exact (((Upon.refl w.heap.size w).alloc _).alloc _).below (Nat.le_refl _) (Nat.le_refl _)

set_option maxHeartbeats 2000000 in
theorem rnext_any (a s t : Int) (w : World) (hs0 : 0 ≤ s) (hs : s < 1073741824) (ht0 : 0 ≤ t) (ht : t < 1099511627776) :
    Calls Try.prog 15 #[cv a s t] w fun e w' => e = .returned (.tuple #[.agg #[.int .i64 a, .int .i64 (s + 1)], .int .i64 (t + 1), cv a (s + 1) (t + 1), .bool true]) ∧ RowKit.Below w.heap.size w w' := by
  have e1 : (s == 1073741824) = false := by simp; omega
  have e2 : (t == 1099511627776) = false := by simp; omega
  go_enter Try.func15, Try.ntmps15
  go_wp2
  go_region
  go_wp2
  refine bodyPost_ret (v := .tuple #[.agg #[.int .i64 a, .int .i64 (s + 1)], .int .i64 (t + 1), cv a (s + 1) (t + 1), .bool true]) (by simp [results, Try.results15, go_sem]) rfl ⟨rfl, ?_⟩
  exact (((((Upon.refl w.heap.size w).alloc _).alloc _).alloc _).drew).below (Nat.le_refl _) (Nat.le_refl _)

set_option maxHeartbeats 2000000 in
theorem rnext_spent (a s t : Int) (w : World) (hs : s ≤ 1073741824) (ht : t ≤ 1099511627776) (hu : used s t = true) :
    Calls Try.prog 15 #[cv a s t] w fun e w' => e = .returned (.tuple #[.agg #[.int .i64 0, .int .i64 0], .int .i64 0, cv a s t, .bool false]) ∧ RowKit.Below w.heap.size w w' := by
  have hor : 1073741824 ≤ s ∨ 1099511627776 ≤ t := by simpa [used] using hu
  clear hu
  by_cases h1 : 1073741824 ≤ s
  · obtain rfl : s = 1073741824 := by omega
    go_enter Try.func15, Try.ntmps15
    go_wp2
    go_region
    go_wp2
    refine bodyPost_ret (v := .tuple #[.agg #[.int .i64 0, .int .i64 0], .int .i64 0, cv a 1073741824 t, .bool false]) (by simp [results, Try.results15, go_sem]) rfl ⟨rfl, ?_⟩
    exact (((((Upon.refl w.heap.size w).alloc _).alloc _).alloc _).drew).below (Nat.le_refl _) (Nat.le_refl _)
  · obtain rfl : t = 1099511627776 := by omega
    have e1 : (s == 1073741824) = false := by simp; omega
    clear hor
    go_enter Try.func15, Try.ntmps15
    go_wp2
    go_region
    go_wp2
    refine bodyPost_ret (v := .tuple #[.agg #[.int .i64 0, .int .i64 0], .int .i64 0, cv a s 1099511627776, .bool false]) (by simp [results, Try.results15, go_sem]) rfl ⟨rfl, ?_⟩
    exact (((((Upon.refl w.heap.size w).alloc _).alloc _).alloc _).drew).below (Nat.le_refl _) (Nat.le_refl _)

end Go.Proofs.Ytjilmhenakccjaa
