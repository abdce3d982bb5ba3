/- What KeysOne walks through, by its cases. -/
import Derived.Test.YtbjeienmhglddaaKDense
namespace Go.Proofs.Ytbjeienmhglddaa
open Go.RowKit

set_option maxHeartbeats 4000000 in
theorem one_walk (a b : ByteArray) (w : World) (ha : a.size ≤ maxLen) (hb : b.size ≤ maxLen) :
    Calls Try.prog 8 #[.string a, .string b] w fun e w' => e = .returned (.bool true) ∧ Below w.heap.size w w' := by
  obtain ⟨k, hk⟩ := ex_str (btw a.toList b.toList)
  have E := tl_empty
  by_cases hn : btw a.toList b.toList = []
  · have c1 := between_is hk (er_none hn) ha hb
    clear hk hn
    go_enter Try.func8, Try.ntmps8
    go_wp2_with (first
      | (go_at_call 9; refine (awake_any _).mono ?_; rintro e w1 ⟨rfl, b1⟩)
      | (have hq := b2; go_at_call 10; refine (c1 _).mono ?_; rintro e w3 ⟨rfl, b3⟩)
      | (go_at_call 10; refine (c1 _).mono ?_; rintro e w2 ⟨rfl, b2⟩))
    go_ret
    exact ⟨rfl, below2 (below2 b1 b2) b3⟩
  have c1 := between_is hk (er_some hn) ha hb
  have hks := btw_size hk
  have ht := told_of hk (by rw [hk]; exact hn)
  have mk := may_is ht.ky hks
  have nk : (k.toList == []) = false := by rw [beq_eq_false_iff_ne, hk]; exact hn
  clear hk hn ht
  obtain ⟨x, hx⟩ := ex_str (btw a.toList k.toList)
  obtain ⟨y, hy⟩ := ex_str (btw k.toList b.toList)
  by_cases hX : btw a.toList k.toList = []
  · have c2 := between_is hx (er_none hX) ha hks
    by_cases hY : btw k.toList b.toList = []
    · have c3 := between_is hy (er_none hY) hks hb
      clear hx hy hX hY nk hks
      go_enter Try.func8, Try.ntmps8
      go_wp2_with (first
        | (go_at_call 9; refine (awake_any _).mono ?_; rintro e w1 ⟨rfl, b1⟩)
        | (have hq := b4; go_at_call 10; refine (c3 _).mono ?_; rintro e w5 ⟨rfl, b5⟩)
        | (go_at_call_of 10 (Value.string k); refine (c2 _).mono ?_; rintro e w4 ⟨rfl, b4⟩)
        | (have hq := b2; go_at_call 10; refine (c1 _).mono ?_; rintro e w3 ⟨rfl, b3⟩)
        | (go_at_call 10; refine (c1 _).mono ?_; rintro e w2 ⟨rfl, b2⟩)
        | (go_at_call 12; refine (mk _).mono ?_; rintro e w' ⟨rfl, rfl⟩))
      go_ret
      exact ⟨rfl, below2 (below2 (below2 (below2 b1 b2) b3) b4) b5⟩
    · have c3 := between_is hy (er_some hY) hks hb
      have hty := told_of hy (by rw [hy]; exact hY)
      have yo := hty.lo
      cases e2 : (b.toList == [])
      · have yi := hty.hi e2
        clear hx hy hX hY nk hty hks
        go_enter Try.func8, Try.ntmps8
        go_wp2_with (first
          | (go_at_call 9; refine (awake_any _).mono ?_; rintro e w1 ⟨rfl, b1⟩)
          | (have hq := b4; go_at_call 10; refine (c3 _).mono ?_; rintro e w5 ⟨rfl, b5⟩)
          | (go_at_call_of 10 (Value.string k); refine (c2 _).mono ?_; rintro e w4 ⟨rfl, b4⟩)
          | (have hq := b2; go_at_call 10; refine (c1 _).mono ?_; rintro e w3 ⟨rfl, b3⟩)
          | (go_at_call 10; refine (c1 _).mono ?_; rintro e w2 ⟨rfl, b2⟩)
          | (go_at_call 12; refine (mk _).mono ?_; rintro e w' ⟨rfl, rfl⟩))
        go_ret
        exact ⟨rfl, below2 (below2 (below2 (below2 b1 b2) b3) b4) b5⟩
      · clear hx hy hX hY nk hty hks
        go_enter Try.func8, Try.ntmps8
        go_wp2_with (first
          | (go_at_call 9; refine (awake_any _).mono ?_; rintro e w1 ⟨rfl, b1⟩)
          | (have hq := b4; go_at_call 10; refine (c3 _).mono ?_; rintro e w5 ⟨rfl, b5⟩)
          | (go_at_call_of 10 (Value.string k); refine (c2 _).mono ?_; rintro e w4 ⟨rfl, b4⟩)
          | (have hq := b2; go_at_call 10; refine (c1 _).mono ?_; rintro e w3 ⟨rfl, b3⟩)
          | (go_at_call 10; refine (c1 _).mono ?_; rintro e w2 ⟨rfl, b2⟩)
          | (go_at_call 12; refine (mk _).mono ?_; rintro e w' ⟨rfl, rfl⟩))
        go_ret
        exact ⟨rfl, below2 (below2 (below2 (below2 b1 b2) b3) b4) b5⟩
  · have c2 := between_is hx (er_some hX) ha hks
    have htx := told_of hx (by rw [hx]; exact hX)
    have xo := htx.lo
    have xi := htx.hi nk
    clear htx
    by_cases hY : btw k.toList b.toList = []
    · have c3 := between_is hy (er_none hY) hks hb
      clear hx hy hX hY nk hks
      go_enter Try.func8, Try.ntmps8
      go_wp2_with (first
        | (go_at_call 9; refine (awake_any _).mono ?_; rintro e w1 ⟨rfl, b1⟩)
        | (have hq := b4; go_at_call 10; refine (c3 _).mono ?_; rintro e w5 ⟨rfl, b5⟩)
        | (go_at_call_of 10 (Value.string k); refine (c2 _).mono ?_; rintro e w4 ⟨rfl, b4⟩)
        | (have hq := b2; go_at_call 10; refine (c1 _).mono ?_; rintro e w3 ⟨rfl, b3⟩)
        | (go_at_call 10; refine (c1 _).mono ?_; rintro e w2 ⟨rfl, b2⟩)
        | (go_at_call 12; refine (mk _).mono ?_; rintro e w' ⟨rfl, rfl⟩))
      go_ret
      exact ⟨rfl, below2 (below2 (below2 (below2 b1 b2) b3) b4) b5⟩
    · have c3 := between_is hy (er_some hY) hks hb
      have hty := told_of hy (by rw [hy]; exact hY)
      have yo := hty.lo
      cases e2 : (b.toList == [])
      · have yi := hty.hi e2
        clear hx hy hX hY nk hty hks
        go_enter Try.func8, Try.ntmps8
        go_wp2_with (first
          | (go_at_call 9; refine (awake_any _).mono ?_; rintro e w1 ⟨rfl, b1⟩)
          | (have hq := b4; go_at_call 10; refine (c3 _).mono ?_; rintro e w5 ⟨rfl, b5⟩)
          | (go_at_call_of 10 (Value.string k); refine (c2 _).mono ?_; rintro e w4 ⟨rfl, b4⟩)
          | (have hq := b2; go_at_call 10; refine (c1 _).mono ?_; rintro e w3 ⟨rfl, b3⟩)
          | (go_at_call 10; refine (c1 _).mono ?_; rintro e w2 ⟨rfl, b2⟩)
          | (go_at_call 12; refine (mk _).mono ?_; rintro e w' ⟨rfl, rfl⟩))
        go_ret
        exact ⟨rfl, below2 (below2 (below2 (below2 b1 b2) b3) b4) b5⟩
      · clear hx hy hX hY nk hty hks
        go_enter Try.func8, Try.ntmps8
        go_wp2_with (first
          | (go_at_call 9; refine (awake_any _).mono ?_; rintro e w1 ⟨rfl, b1⟩)
          | (have hq := b4; go_at_call 10; refine (c3 _).mono ?_; rintro e w5 ⟨rfl, b5⟩)
          | (go_at_call_of 10 (Value.string k); refine (c2 _).mono ?_; rintro e w4 ⟨rfl, b4⟩)
          | (have hq := b2; go_at_call 10; refine (c1 _).mono ?_; rintro e w3 ⟨rfl, b3⟩)
          | (go_at_call 10; refine (c1 _).mono ?_; rintro e w2 ⟨rfl, b2⟩)
          | (go_at_call 12; refine (mk _).mono ?_; rintro e w' ⟨rfl, rfl⟩))
        go_ret
        exact ⟨rfl, below2 (below2 (below2 (below2 b1 b2) b3) b4) b5⟩
end Go.Proofs.Ytbjeienmhglddaa
