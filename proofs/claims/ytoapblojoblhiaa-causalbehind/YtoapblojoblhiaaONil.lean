/- The library's sort of nothing. -/
import Derived.Test.YtoapblojoblhiaaORow
namespace Go.Proofs.Ytoapblojoblhiaa
open Go.RowKit

set_option maxRecDepth 100000 in
theorem len64_0 (w : World) : Calls Try.prog 76 #[.int .u64 0] w fun e w' => (∃ r, e = .returned (.int .i64 r)) ∧ w = w' := by
  go_enter Try.func76, Try.ntmps76
  go_wp2
  go_ret
  exact ⟨⟨_, rfl⟩, rfl⟩

set_option maxRecDepth 100000 in
theorem len_0 (w : World) : Calls Try.prog 61 #[.int .u64 0] w fun e w' => (∃ r, e = .returned (.int .i64 r)) ∧ w = w' := by
  go_enter Try.func61, Try.ntmps61
  go_wp2_with (first
    | (go_at_call 76; refine (len64_0 _).mono ?_; rintro e w1 ⟨⟨r, rfl⟩, rfl⟩))
  go_ret
  exact ⟨⟨_, rfl⟩, rfl⟩

set_option maxRecDepth 100000 in
theorem insert_0 (a : Option Addr) (c : Nat) (f : Value) (w : World) : Calls Try.prog 67 #[.slice a 0 c, .int .i64 0, .int .i64 0, f] w fun e w' => e = .returned (.tuple #[]) ∧ w = w' := by
  go_enter Try.func67, Try.ntmps67
  go_wp2
  go_loopw [8] (fun i wr => i = .int .i64 1 ∧ w = wr) (fun _ _ => 0)
  case atStart => exact ⟨rfl, rfl⟩
  case round =>
    obtain ⟨rfl, rfl⟩ := hrel
    go_wp2
    go_end0
    exact ⟨rfl, rfl⟩

set_option maxRecDepth 100000 in
theorem pdq_0 (a : Option Addr) (c : Nat) (f : Value) (r : Int) (w : World) : Calls Try.prog 60 #[.slice a 0 c, .int .i64 0, .int .i64 0, .int .i64 r, f] w fun e w' => e = .returned (.tuple #[]) ∧ w = w' := by
  have hI := fun W => insert_0 a c f W
  go_enter Try.func60, Try.ntmps60
  go_wp2
  go_loopw [1, 2] (fun i j wr => i = .int .i64 0 ∧ j = .int .i64 0 ∧ w = wr) (fun _ _ _ => 0)
  case atStart => exact ⟨rfl, rfl, rfl⟩
  case round =>
    obtain ⟨rfl, rfl, rfl⟩ := hrel
    go_wp2_with (first
      | (go_at_call 67; refine (hI _).mono ?_; rintro e w1 ⟨rfl, rfl⟩))
    refine bodyPost_ret (results_none rfl _ _ _) rfl ?_
    exact ⟨rfl, rfl⟩

set_option maxRecDepth 100000 in
theorem sort_0 (a : Option Addr) (c : Nat) (f : Value) (w : World) : Calls Try.prog 44 #[.slice a 0 c, f] w fun e w' => e = .returned (.tuple #[]) ∧ w = w' := by
  have hL := fun W => len_0 W
  have hP := fun r W => pdq_0 a c f r W
  go_enter Try.func44, Try.ntmps44
  go_wp2_with (first
    | (go_at_call 60; refine (hP _ _).mono ?_; rintro e w2 ⟨rfl, rfl⟩)
    | (go_at_call 61; refine (hL _).mono ?_; rintro e w1 ⟨⟨r, rfl⟩, rfl⟩))
  go_end0
  exact ⟨rfl, rfl⟩
end Go.Proofs.Ytoapblojoblhiaa
