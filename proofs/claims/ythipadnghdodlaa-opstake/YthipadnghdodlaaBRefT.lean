/- What the reference's bytes of a number of either sign, and of a text, do to memory. -/
import Derived.Test.YthipadnghdodlaaBRefU
import Derived.Lib.AppendStr
namespace Go.Proofs.Ythipadnghdodlaa
open Go.RowKit

/-- A call that hands back new bytes. -/
def Makes (w : World) (L : List Int) (e : Ending) (w' : World) : Prop :=
  ∃ g cap, e = .returned (.slice (some ⟨g, 0, none⟩) L.length cap) ∧ w.heap.size ≤ g ∧ Src w' (some ⟨g, 0, none⟩) L.length L ∧ Below w.heap.size w w'

theorem rint_ref (n : Int) (w : World) (h0 : -9223372036854775808 ≤ n) (h1 : n ≤ 9223372036854775807) : Calls Try.prog 45 #[.int .i64 n] w (Makes w (enc (zig n))) := by
  have hr := zig_range n h0 h1
  have hu := ruintref_any (zig n) w hr.1 hr.2
  unfold Makes
  rw [enc_length]
  by_cases hn : 0 ≤ n
  · have e : zig n = 2 * n := by unfold zig; rw [if_pos hn]
    rw [e] at hu ⊢
    clear hr e
    go_enter Try.func45, Try.ntmps45
    go_wp2_with (go_at_call 71; refine hu.mono ?_; rintro r w1 ⟨g, cap, rfl, hg, hown, hb⟩)
    go_ret
    exact ⟨g, cap, rfl, hg, owns_src hown, hb⟩
  · have e : zig n = 2 * -(n + 1) + 1 := by unfold zig; rw [if_neg hn]; omega
    rw [e] at hu ⊢
    clear hr e
    go_enter Try.func45, Try.ntmps45
    go_wp2_with (go_at_call 71; refine hu.mono ?_; rintro r w1 ⟨g, cap, rfl, hg, hown, hb⟩)
    go_ret
    exact ⟨g, cap, rfl, hg, owns_src hown, hb⟩

theorem ruint_ref (n : Int) (w : World) (h0 : 0 ≤ n) (h1 : n < 18446744073709551616) : Calls Try.prog 71 #[.int .u64 n] w (Makes w (enc n)) := by
  refine (ruintref_any n w h0 h1).mono ?_
  rintro r w1 ⟨g, cap, rfl, hg, hown, hb⟩
  unfold Makes
  rw [enc_length]
  exact ⟨g, cap, rfl, hg, owns_src hown, hb⟩

end Go.Proofs.Ythipadnghdodlaa
