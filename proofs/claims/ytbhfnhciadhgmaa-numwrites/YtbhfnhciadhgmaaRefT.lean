/- What the reference's bytes of a number of either sign, and of a text, do to memory. -/
import Derived.Test.YtbhfnhciadhgmaaRefU
import Derived.Lib.AppendStr
namespace Go.Proofs.Ytbhfnhciadhgmaa
open Go.RowKit

/-- A call that hands back new bytes. -/
def Makes (w : World) (L : List Int) (e : Ending) (w' : World) : Prop :=
  ∃ g cap, e = .returned (.slice (some ⟨g, 0, none⟩) L.length cap) ∧ w.heap.size ≤ g ∧ Src w' (some ⟨g, 0, none⟩) L.length L ∧ Below w.heap.size w w'

theorem rint_ref (n : Int) (w : World) (h0 : -9223372036854775808 ≤ n) (h1 : n ≤ 9223372036854775807) : Calls Try.prog 14 #[.int .i64 n] w (Makes w (enc (zig n))) := by
  have hr := zig_range n h0 h1
  have hu := ruintref_any (zig n) w hr.1 hr.2
  unfold Makes
  rw [enc_length]
  by_cases hn : 0 ≤ n
  · have e : zig n = 2 * n := by unfold zig; rw [if_pos hn]
    rw [e] at hu ⊢
    clear hr e
    go_enter Try.func14, Try.ntmps14
    go_wp2_with (go_at_call 13; refine hu.mono ?_; rintro r w1 ⟨g, cap, rfl, hg, hown, hb⟩)
    go_ret
    exact ⟨g, cap, rfl, hg, owns_src hown, hb⟩
  · have e : zig n = 2 * -(n + 1) + 1 := by unfold zig; rw [if_neg hn]; omega
    rw [e] at hu ⊢
    clear hr e
    go_enter Try.func14, Try.ntmps14
    go_wp2_with (go_at_call 13; refine hu.mono ?_; rintro r w1 ⟨g, cap, rfl, hg, hown, hb⟩)
    go_ret
    exact ⟨g, cap, rfl, hg, owns_src hown, hb⟩

theorem ruint_ref (n : Int) (w : World) (h0 : 0 ≤ n) (h1 : n < 18446744073709551616) : Calls Try.prog 13 #[.int .u64 n] w (Makes w (enc n)) := by
  refine (ruintref_any n w h0 h1).mono ?_
  rintro r w1 ⟨g, cap, rfl, hg, hown, hb⟩
  unfold Makes
  rw [enc_length]
  exact ⟨g, cap, rfl, hg, owns_src hown, hb⟩

theorem rtext_ref (s : ByteArray) (w : World) (hs : s.size ≤ 1000) : Calls Try.prog 15 #[.string s] w (Makes w (enc s.size ++ sb s)) := by
  obtain ⟨i0, hi, hz0, hz1, hz2⟩ := info_parts Try.info5
  have hu := ruintref_any s.size w (by omega) (by omega)
  have hz9 := sz_le s.size
  have hz1' := sz_pos s.size
  go_enter Try.func15, Try.ntmps15
  go_wp2_with (first
    | (go_at_call 13; refine hu.mono ?_; rintro r w1 ⟨g, cap, rfl, hg, hown, hb⟩; have hbs := hb.size)
    | (at_builtin; refine Lib.wpList_append_own_string _ rfl (.tmp 6) (.tmp 7) 22 9 rfl w.heap.size 5 i0 Try.underlying22 Try.underlying9 hi hz0 hz1 hz2 _ _ _ rfl hown s rfl (by unfold maxLen; omega) (by omega) hbs ?_; intro v' w2 hown' hgrow hnil))
  have hg2 : w1.grownBy w2 (some g) := hgrow
  have hb2 : Below w.heap.size w w2 := hb.grown hg2 hbs (fun k hk => by simp at hk; omega)
  have hl : (enc s.size ++ sb s).length = sz s.size + s.size := by rw [List.length_append, enc_length, sb_length]
  have hcells : (enc s.size).map (Value.int .u8) ++ Lib.strCells s = (enc s.size ++ sb s).map (Value.int .u8) := by simp [Lib.strCells, sb]
  rw [hcells] at hown'
  obtain ⟨g2, cap2, hv, hBg, _⟩ := owns_open hown' (by omega)
  rw [hv] at hown'
  clear hgrow hnil
  subst hv
  go_ret
  exact ⟨g2, cap2, by rw [hl]; rfl, hBg, by rw [hl]; exact owns_src hown', hb2⟩
end Go.Proofs.Ytbhfnhciadhgmaa
