/- The library's sort of nothing. -/
import Derived.Test.YtlncokkpdkddlaaGreatORow
namespace Go.Proofs.YtlncokkpdkddlaaGreat
open Go.RowKit

set_option maxRecDepth 100000 in
theorem len64_0 (w : World) : Calls Tryz.prog 89 #[.int .u64 0] w fun e w' => (∃ r, e = .returned (.int .i64 r)) ∧ w = w' := by
  go_enter Tryz.func89, Tryz.ntmps89
  go_wp2
  go_ret
  exact ⟨⟨_, rfl⟩, rfl⟩

set_option maxRecDepth 100000 in
theorem len_0 (w : World) : Calls Tryz.prog 64 #[.int .u64 0] w fun e w' => (∃ r, e = .returned (.int .i64 r)) ∧ w = w' := by
  go_enter Tryz.func64, Tryz.ntmps64
  go_wp2_with (first
    | (go_at_call 89; refine (len64_0 _).mono ?_; rintro e w1 ⟨⟨r, rfl⟩, rfl⟩))
  go_ret
  exact ⟨⟨_, rfl⟩, rfl⟩

set_option maxRecDepth 100000 in
theorem insert_0 (a : Option Addr) (c : Nat) (f : Value) (w : World) : Calls Tryz.prog 80 #[.slice a 0 c, .int .i64 0, .int .i64 0, f] w fun e w' => e = .returned (.tuple #[]) ∧ w = w' := by
  go_enter Tryz.func80, Tryz.ntmps80
  go_wp2
  go_loopw [8] (fun i wr => i = .int .i64 1 ∧ w = wr) (fun _ _ => 0)
  case atStart => exact ⟨rfl, rfl⟩
  case round =>
    obtain ⟨rfl, rfl⟩ := hrel
    go_wp2
    go_end0
    exact ⟨rfl, rfl⟩

set_option maxRecDepth 100000 in
theorem pdq_0 (a : Option Addr) (c : Nat) (f : Value) (r : Int) (w : World) : Calls Tryz.prog 63 #[.slice a 0 c, .int .i64 0, .int .i64 0, .int .i64 r, f] w fun e w' => e = .returned (.tuple #[]) ∧ w = w' := by
  have hI := fun W => insert_0 a c f W
  go_enter Tryz.func63, Tryz.ntmps63
  go_wp2
  go_loopw [1, 2] (fun i j wr => i = .int .i64 0 ∧ j = .int .i64 0 ∧ w = wr) (fun _ _ _ => 0)
  case atStart => exact ⟨rfl, rfl, rfl⟩
  case round =>
    obtain ⟨rfl, rfl, rfl⟩ := hrel
    go_wp2_with (first
      | (go_at_call 80; refine (hI _).mono ?_; rintro e w1 ⟨rfl, rfl⟩))
    refine bodyPost_ret (results_none rfl _ _ _) rfl ?_
    exact ⟨rfl, rfl⟩

set_option maxRecDepth 100000 in
theorem sort_0 (a : Option Addr) (c : Nat) (f : Value) (w : World) : Calls Tryz.prog 43 #[.slice a 0 c, f] w fun e w' => e = .returned (.tuple #[]) ∧ w = w' := by
  have hL := fun W => len_0 W
  have hP := fun r W => pdq_0 a c f r W
  go_enter Tryz.func43, Tryz.ntmps43
  go_wp2_with (first
    | (go_at_call 63; refine (hP _ _).mono ?_; rintro e w2 ⟨rfl, rfl⟩)
    | (go_at_call 64; refine (hL _).mono ?_; rintro e w1 ⟨⟨r, rfl⟩, rfl⟩))
  go_end0
  exact ⟨rfl, rfl⟩
end Go.Proofs.YtlncokkpdkddlaaGreat
