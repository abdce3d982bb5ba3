/- What KeysStarts walks through. -/
import Derived.Test.YtbjeienmhglddaaKDense
namespace Go.Proofs.Ytbjeienmhglddaa
open Go.RowKit

theorem size_empty : (ByteArray.size { data := #[] }) ≤ maxLen := by unfold maxLen; simp [ByteArray.size]
theorem lt_ne {a b : Bs} (h : Op.bytesLess a b = true) : Op.bytesLess b a = false ∧ (b == a) = false := ⟨bl_asym h, ne_comm (bl_ne h)⟩

set_option maxHeartbeats 4000000 in
set_option maxRecDepth 20000 in
theorem starts_walk (n : Int) (w : World) : Calls Try.prog 7 #[.int .i64 n] w fun e w' => e = .returned (.bool true) ∧ Below w.heap.size w w' := by
  by_cases hn : 0 ≤ n ∧ n ≤ 150
  · obtain ⟨m, rfl⟩ := Int.eq_ofNat_of_zero_le hn.1
    have hm : m ≤ 150 := by omega
    clear hn
    have E := tl_empty
    go_enter Try.func7, Try.ntmps7
    go_wp2_with (first
      | (go_at_call 9; refine (awake_any _).mono ?_; rintro e w1 ⟨rfl, b1⟩))
    go_loopw [6, 4, 5] (fun i f l wx => ∃ (j : Nat) (ff ll : ByteArray), j ≤ m + 1 ∧ i = .int .i64 j ∧ f = .string ff ∧ l = .string ll ∧ Hid (ff.toList = fst_ j) ∧ Hid (ll.toList = lst_ j) ∧ Hid (ff.size ≤ maxLen) ∧ Hid (ll.size ≤ maxLen) ∧ Hid (Below w.heap.size w wx)) (fun i _ _ _ => m + 1 - (intOf i).toNat)
    case atStart => exact ⟨0, _, _, by omega, rfl, rfl, rfl, hid E, hid E, hid size_empty, hid size_empty, hid b1⟩
    case round =>
      obtain ⟨j, f, l, hj, rfl, rfl, rfl, HF, HL, SF, SL, HB⟩ := hrel
      by_cases hlt : j ≤ m
      · obtain ⟨f', hf'⟩ := ex_str (fst_ (j + 1))
        obtain ⟨l', hl'⟩ := ex_str (lst_ (j + 1))
        obtain ⟨s1, s2, _⟩ := starts (j + 1) (by omega) (by omega)
        have e1 : f'.toList = btw (ByteArray.toList { data := #[] }) f.toList := by rw [E, HF.out]; exact hf'
        have e2 : l'.toList = btw l.toList (ByteArray.toList { data := #[] }) := by rw [E, HL.out]; exact hl'
        have c1 := between_is e1 (er_some (by rw [← e1, hf']; exact s1)) size_empty SF.out
        have c2 := between_is e2 (er_some (by rw [← e2, hl']; exact s2)) SL.out size_empty
        have t1 := told_of e1 (by rw [hf']; exact s1)
        have t2 := (told_of e2 (by rw [hl']; exact s2)).lo
        obtain ⟨t3, t4⟩ := lt_ne t2
        have HF' := hid hf'
        have HL' := hid hl'
        have SF' := hid (btw_size e1)
        have SL' := hid (btw_size e2)
        clear e1 e2 hf' hl' s1 s2
        cases e : (f.toList == [])
        · have t5 := t1.hi e
          clear t1
          go_wp2_with (first
            | (have hq := b3; go_at_call 10; refine (c2 _).mono ?_; rintro e w4 ⟨rfl, b4⟩)
            | (go_at_call 10; refine (c1 _).mono ?_; rintro e w3 ⟨rfl, b3⟩))
          go_roundw
          case rel => exact ⟨j + 1, f', l', by omega, by go_num, rfl, rfl, HF', HL', SF', SL', hid (below2 (below2 HB.out b3) b4)⟩
          case measure => simp [intOf]; omega
        · clear t1
          go_wp2_with (first
            | (have hq := b3; go_at_call 10; refine (c2 _).mono ?_; rintro e w4 ⟨rfl, b4⟩)
            | (go_at_call 10; refine (c1 _).mono ?_; rintro e w3 ⟨rfl, b3⟩))
          go_roundw
          case rel => exact ⟨j + 1, f', l', by omega, by go_num, rfl, rfl, HF', HL', SF', SL', hid (below2 (below2 HB.out b3) b4)⟩
          case measure => simp [intOf]; omega
      · obtain ⟨k, hk⟩ := ex_str (btw f.toList l.toList)
        have hj1 : j = m + 1 := by omega
        by_cases h0 : m = 0
        · subst h0
          obtain rfl : j = 1 := by omega
          have e1 : f.toList = [110] := HF.out.trans fst_one
          have e2 : l.toList = [110] := HL.out.trans lst_one
          have c1 := between_is hk (er_none (by rw [e1, e2]; exact mid_one)) SF.out SL.out
          clear hk hj1 hlt
          go_wp2_with (first
            | (go_at_call 10; refine (c1 _).mono ?_; rintro e w3 ⟨rfl, b3⟩))
          go_ret
          exact ⟨rfl, below2 HB.out b3⟩
        · obtain ⟨_, _, s3⟩ := starts j (by omega) (by omega)
          obtain ⟨s4, s5⟩ := s3 (by omega)
          rw [← HF.out, ← HL.out] at s4 s5
          have c1 := between_is hk (er_some s5) SF.out SL.out
          have t := told_of hk (by rw [hk]; exact s5)
          have t1 := t.lo
          have t2 := t.hi (by
            cases he : (l.toList == [])
            · rfl
            · rw [beq_iff_eq] at he
              rw [he, bl_nil] at s4
              cases s4)
          have hz : ((m : Int) == 0) = false := beq_eq_false_iff_ne.2 (by omega)
          have l1 : Op.bytesLess f.toList l.toList = true := s4
          clear hk hj1 t s4 s5 s3 h0
          go_wp2_with (first
            | (go_at_call 10; refine (c1 _).mono ?_; rintro e w3 ⟨rfl, b3⟩))
          go_ret
          exact ⟨rfl, below2 HB.out b3⟩
  · by_cases h0 : n < 0
    · clear hn
      go_enter Try.func7, Try.ntmps7
      go_wp2_with (first
        | (go_at_call 9; refine (awake_any _).mono ?_; rintro e w1 ⟨rfl, b1⟩))
      go_ret
      exact ⟨rfl, b1⟩
    · have h1 : 150 < n := by omega
      clear hn
      go_enter Try.func7, Try.ntmps7
      go_wp2_with (first
        | (go_at_call 9; refine (awake_any _).mono ?_; rintro e w1 ⟨rfl, b1⟩))
      go_ret
      exact ⟨rfl, b1⟩
end Go.Proofs.Ytbjeienmhglddaa
