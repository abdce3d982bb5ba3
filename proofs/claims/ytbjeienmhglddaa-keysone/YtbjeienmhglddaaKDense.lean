/- What KeysDense walks through, by its cases. -/
import Derived.Test.YtbjeienmhglddaaKCalls
namespace Go.Proofs.Ytbjeienmhglddaa
open Go.RowKit

theorem bl_asym {a b : Bs} (h : bl a b = true) : bl b a = false := by
  cases hc : bl b a with
  | false => rfl
  | true => have := bl_trans h hc; rw [bl_irrefl] at this; cases this
theorem bl_ne {a b : Bs} (h : bl a b = true) : (a == b) = false := by
  rw [beq_eq_false_iff_ne]
  intro e
  subst e
  rw [bl_irrefl] at h
  cases h
theorem ne_comm {a b : Bs} (h : (a == b) = false) : (b == a) = false := by
  rw [beq_eq_false_iff_ne] at h ⊢
  exact Ne.symm h

/-- What is known of a text that Between told. -/
structure Told (a b k : Bs) : Prop where
  ky : kyb k = true
  lo : Op.bytesLess a k = true
  hi : (b == []) = false → Op.bytesLess k b = true
theorem told_of {a b k : Bs} (hk : k = btw a b) (h : k ≠ []) : Told a b k := by
  subst hk
  obtain ⟨_, h1, h2, h3⟩ := btw_says h
  refine ⟨(kyb_iff _).2 h1, h2, fun he => ?_⟩
  rcases h3 with h3 | h3
  · subst h3; simp at he
  · exact h3

theorem dense_bad (a b : ByteArray) (w : World) (ha : a.size ≤ maxLen) (hb : b.size ≤ maxLen) (h : ((a.toList == []) = false ∧ kyb a.toList = false) ∨ ((b.toList == []) = false ∧ kyb b.toList = false)) :
    Calls Try.prog 5 #[.string a, .string b] w fun e w' => e = .returned (.bool true) ∧ Below w.heap.size w w' := by
  have m1 := fun w => may_any a w ha
  have m2 := fun w => may_any b w hb
  have E := tl_empty
  cases e1 : (a.toList == []) <;> cases e2 : (b.toList == []) <;> cases e3 : kyb a.toList <;> cases e4 : kyb b.toList
  all_goals (rw [e3] at m1; rw [e4] at m2; rw [e1, e2, e3, e4] at h)
  all_goals first
    | (exfalso; simp at h; done)
    | (clear h e3 e4
       go_enter Try.func5, Try.ntmps5
       go_wp2_with (first
         | (go_at_call 9; refine (awake_any _).mono ?_; rintro e w1 ⟨rfl, b1⟩)
         | (go_at_call_of 12 (Value.string a); refine (m1 _).mono ?_; rintro e w' ⟨rfl, rfl⟩)
         | (go_at_call_of 12 (Value.string b); refine (m2 _).mono ?_; rintro e w' ⟨rfl, rfl⟩))
       go_ret
       exact ⟨rfl, b1⟩)

set_option maxHeartbeats 4000000 in
/-- Both in order: Between is asked of a and b. -/
theorem dense_row (a b : ByteArray) (w : World) (ha : a.size ≤ maxLen) (hb : b.size ≤ maxLen) (hr : Rt a.toList b.toList) :
    Calls Try.prog 5 #[.string a, .string b] w fun e w' => e = .returned (.bool true) ∧ Below w.heap.size w w' := by
  obtain ⟨k, hk⟩ := ex_str (btw a.toList b.toList)
  have E := tl_empty
  have hA : (a.toList == []) = false → kyb a.toList = true := fun h => by
    rcases hr.1 with h' | h'
    · rw [h'] at h; simp at h
    · exact (kyb_iff _).2 h'
  have hB : (b.toList == []) = false → kyb b.toList = true := fun h => by
    rcases hr.2.1 with h' | h'
    · rw [h'] at h; simp at h
    · exact (kyb_iff _).2 h'
  have hO : (a.toList == []) = false → (b.toList == []) = false → Op.bytesLess a.toList b.toList = true := fun h1 h2 => by
    rcases hr.2.2 with h' | h' | h'
    · rw [h'] at h1; simp at h1
    · rw [h'] at h2; simp at h2
    · exact h'
  by_cases hn : btw a.toList b.toList = []
  · have c1 := between_is hk (er_none hn) ha hb
    have kn : (k.toList == []) = true := by rw [hk, hn]; rfl
    have hl := btw_full hr hn
    rw [tl_length, tl_length] at hl
    have HL := hid hl
    clear hk hn hr hl
    cases e1 : (a.toList == []) <;> cases e2 : (b.toList == [])
    · have ma := may_is (hA e1) ha
      have mb := may_is (hB e2) hb
      have l1 := hO e1 e2
      have l2 := bl_ne l1
      clear hA hB hO
      go_enter Try.func5, Try.ntmps5
      go_wp2_with (first
        | (go_at_call 9; refine (awake_any _).mono ?_; rintro e w1 ⟨rfl, b1⟩)
        | (go_at_call_of 12 (Value.string a); refine (ma _).mono ?_; rintro e w' ⟨rfl, rfl⟩)
        | (go_at_call_of 12 (Value.string b); refine (mb _).mono ?_; rintro e w' ⟨rfl, rfl⟩)
        | (go_at_call 10; refine (c1 _).mono ?_; rintro e w2 ⟨rfl, b2⟩))
      all_goals (go_ret; refine ⟨?_, below2 b1 b2⟩; rcases HL.out with h | h <;> simp [h])
    · have ma := may_is (hA e1) ha
      have l2 : (a.toList == b.toList) = false := by rw [beq_iff_eq] at e2; rw [e2]; exact e1
      clear hA hB hO
      go_enter Try.func5, Try.ntmps5
      go_wp2_with (first
        | (go_at_call 9; refine (awake_any _).mono ?_; rintro e w1 ⟨rfl, b1⟩)
        | (go_at_call_of 12 (Value.string a); refine (ma _).mono ?_; rintro e w' ⟨rfl, rfl⟩)
        | (go_at_call 10; refine (c1 _).mono ?_; rintro e w2 ⟨rfl, b2⟩))
      all_goals (go_ret; refine ⟨?_, below2 b1 b2⟩; rcases HL.out with h | h <;> simp [h])
    · have mb := may_is (hB e2) hb
      have l2 : (a.toList == b.toList) = false := by rw [beq_iff_eq] at e1; rw [e1]; exact ne_comm e2
      clear hA hB hO
      go_enter Try.func5, Try.ntmps5
      go_wp2_with (first
        | (go_at_call 9; refine (awake_any _).mono ?_; rintro e w1 ⟨rfl, b1⟩)
        | (go_at_call_of 12 (Value.string b); refine (mb _).mono ?_; rintro e w' ⟨rfl, rfl⟩)
        | (go_at_call 10; refine (c1 _).mono ?_; rintro e w2 ⟨rfl, b2⟩))
      all_goals (go_ret; refine ⟨?_, below2 b1 b2⟩; rcases HL.out with h | h <;> simp [h])
    · have l2 : (a.toList == b.toList) = true := by rw [beq_iff_eq] at e1 e2; rw [e1, e2]; rfl
      clear hA hB hO
      go_enter Try.func5, Try.ntmps5
      go_wp2_with (first
        | (go_at_call 9; refine (awake_any _).mono ?_; rintro e w1 ⟨rfl, b1⟩)
        | (go_at_call 10; refine (c1 _).mono ?_; rintro e w2 ⟨rfl, b2⟩))
      all_goals (go_ret; refine ⟨?_, below2 b1 b2⟩; rcases HL.out with h | h <;> simp [h])
  · have c1 := between_is hk (er_some hn) ha hb
    have hks := btw_size hk
    have ht := told_of hk (by rw [hk]; exact hn)
    clear hk hn hr
    cases e1 : (a.toList == []) <;> cases e2 : (b.toList == [])
    · have ma := may_is (hA e1) ha
      have mb := may_is (hB e2) hb
      have l1 := hO e1 e2
      have l2 := bl_ne l1
      have mk := may_is ht.ky hks
      have lo := ht.lo
      have hi := ht.hi e2
      clear ht hks
      clear hA hB hO
      go_enter Try.func5, Try.ntmps5
      go_wp2_with (first
        | (go_at_call 9; refine (awake_any _).mono ?_; rintro e w1 ⟨rfl, b1⟩)
        | (go_at_call_of 12 (Value.string a); refine (ma _).mono ?_; rintro e w' ⟨rfl, rfl⟩)
        | (go_at_call_of 12 (Value.string b); refine (mb _).mono ?_; rintro e w' ⟨rfl, rfl⟩)
        | (go_at_call_of 12 (Value.string k); refine (mk _).mono ?_; rintro e w' ⟨rfl, rfl⟩)
        | (go_at_call 10; refine (c1 _).mono ?_; rintro e w2 ⟨rfl, b2⟩))
      go_ret
      exact ⟨rfl, below2 b1 b2⟩
    · have ma := may_is (hA e1) ha
      have l2 : (a.toList == b.toList) = false := by rw [beq_iff_eq] at e2; rw [e2]; exact e1
      have mk := may_is ht.ky hks
      have lo := ht.lo
      clear ht hks
      clear hA hB hO
      go_enter Try.func5, Try.ntmps5
      go_wp2_with (first
        | (go_at_call 9; refine (awake_any _).mono ?_; rintro e w1 ⟨rfl, b1⟩)
        | (go_at_call_of 12 (Value.string a); refine (ma _).mono ?_; rintro e w' ⟨rfl, rfl⟩)
        | (go_at_call_of 12 (Value.string k); refine (mk _).mono ?_; rintro e w' ⟨rfl, rfl⟩)
        | (go_at_call 10; refine (c1 _).mono ?_; rintro e w2 ⟨rfl, b2⟩))
      go_ret
      exact ⟨rfl, below2 b1 b2⟩
    · have mb := may_is (hB e2) hb
      have l2 : (a.toList == b.toList) = false := by rw [beq_iff_eq] at e1; rw [e1]; exact ne_comm e2
      have mk := may_is ht.ky hks
      have lo := ht.lo
      have hi := ht.hi e2
      clear ht hks
      clear hA hB hO
      go_enter Try.func5, Try.ntmps5
      go_wp2_with (first
        | (go_at_call 9; refine (awake_any _).mono ?_; rintro e w1 ⟨rfl, b1⟩)
        | (go_at_call_of 12 (Value.string b); refine (mb _).mono ?_; rintro e w' ⟨rfl, rfl⟩)
        | (go_at_call_of 12 (Value.string k); refine (mk _).mono ?_; rintro e w' ⟨rfl, rfl⟩)
        | (go_at_call 10; refine (c1 _).mono ?_; rintro e w2 ⟨rfl, b2⟩))
      go_ret
      exact ⟨rfl, below2 b1 b2⟩
    · have l2 : (a.toList == b.toList) = true := by rw [beq_iff_eq] at e1 e2; rw [e1, e2]; rfl
      have mk := may_is ht.ky hks
      have lo := ht.lo
      clear ht hks
      clear hA hB hO
      go_enter Try.func5, Try.ntmps5
      go_wp2_with (first
        | (go_at_call 9; refine (awake_any _).mono ?_; rintro e w1 ⟨rfl, b1⟩)
        | (go_at_call_of 12 (Value.string k); refine (mk _).mono ?_; rintro e w' ⟨rfl, rfl⟩)
        | (go_at_call 10; refine (c1 _).mono ?_; rintro e w2 ⟨rfl, b2⟩))
      go_ret
      exact ⟨rfl, below2 b1 b2⟩

set_option maxHeartbeats 4000000 in
/-- Both are one: there is none between. -/
theorem dense_same (a : ByteArray) (w : World) (ha : a.size ≤ maxLen) (hk : kyb a.toList = true) :
    Calls Try.prog 5 #[.string a, .string a] w fun e w' => e = .returned (.bool true) ∧ Below w.heap.size w w' := by
  obtain ⟨k, h⟩ := ex_str (btw a.toList a.toList)
  have e1 : (a.toList == []) = false := by
    rw [beq_eq_false_iff_ne]
    exact ((kyb_iff _).1 hk).ne
  have hn : btw a.toList a.toList = [] := btw_no (by unfold rtb; rw [e1, bl_irrefl]; simp)
  have c1 := between_is h (er_none hn) ha ha
  have kn : (k.toList == []) = true := by rw [h, hn]; rfl
  have ma := may_is hk ha
  have E := tl_empty
  clear h hn hk
  go_enter Try.func5, Try.ntmps5
  go_wp2_with (first
    | (go_at_call 9; refine (awake_any _).mono ?_; rintro e w1 ⟨rfl, b1⟩)
    | (go_at_call 12; refine (ma _).mono ?_; rintro e w' ⟨rfl, rfl⟩)
    | (go_at_call 10; refine (c1 _).mono ?_; rintro e w2 ⟨rfl, b2⟩))
  go_ret
  exact ⟨rfl, below2 b1 b2⟩

set_option maxHeartbeats 4000000 in
/-- The wrong way round: Between is asked of b and a. -/
theorem dense_turned (a b : ByteArray) (w : World) (ha : a.size ≤ maxLen) (hb : b.size ≤ maxLen) (kA : kyb a.toList = true) (kB : kyb b.toList = true) (hlt : Op.bytesLess b.toList a.toList = true) :
    Calls Try.prog 5 #[.string a, .string b] w fun e w' => e = .returned (.bool true) ∧ Below w.heap.size w w' := by
  obtain ⟨k, hk⟩ := ex_str (btw b.toList a.toList)
  have e1 : (a.toList == []) = false := by
    rw [beq_eq_false_iff_ne]
    exact ((kyb_iff _).1 kA).ne
  have e2 : (b.toList == []) = false := by
    rw [beq_eq_false_iff_ne]
    exact ((kyb_iff _).1 kB).ne
  have hr : Rt b.toList a.toList := ⟨.inr ((kyb_iff _).1 kB), .inr ((kyb_iff _).1 kA), .inr (.inr hlt)⟩
  have l1 : Op.bytesLess a.toList b.toList = false := bl_asym hlt
  have l2 : (b.toList == a.toList) = false := bl_ne hlt
  have l3 := ne_comm l2
  have ma := may_is kA ha
  have mb := may_is kB hb
  have E := tl_empty
  clear kA kB
  by_cases hn : btw b.toList a.toList = []
  · have c1 := between_is hk (er_none hn) hb ha
    have kn : (k.toList == []) = true := by rw [hk, hn]; rfl
    have hl := btw_full hr hn
    rw [tl_length, tl_length] at hl
    have HL := hid hl
    clear hk hn hr hl
    go_enter Try.func5, Try.ntmps5
    go_wp2_with (first
      | (go_at_call 9; refine (awake_any _).mono ?_; rintro e w1 ⟨rfl, b1⟩)
      | (go_at_call_of 12 (Value.string a); refine (ma _).mono ?_; rintro e w' ⟨rfl, rfl⟩)
      | (go_at_call_of 12 (Value.string b); refine (mb _).mono ?_; rintro e w' ⟨rfl, rfl⟩)
      | (go_at_call 10; refine (c1 _).mono ?_; rintro e w2 ⟨rfl, b2⟩))
    all_goals (go_ret; refine ⟨?_, below2 b1 b2⟩; rcases HL.out with h | h <;> simp [h])
  · have c1 := between_is hk (er_some hn) hb ha
    have hks := btw_size hk
    have ht := told_of hk (by rw [hk]; exact hn)
    have mk := may_is ht.ky hks
    have lo := ht.lo
    have hi := ht.hi e1
    clear hk hn hr ht hks
    go_enter Try.func5, Try.ntmps5
    go_wp2_with (first
      | (go_at_call 9; refine (awake_any _).mono ?_; rintro e w1 ⟨rfl, b1⟩)
      | (go_at_call_of 12 (Value.string a); refine (ma _).mono ?_; rintro e w' ⟨rfl, rfl⟩)
      | (go_at_call_of 12 (Value.string b); refine (mb _).mono ?_; rintro e w' ⟨rfl, rfl⟩)
      | (go_at_call_of 12 (Value.string k); refine (mk _).mono ?_; rintro e w' ⟨rfl, rfl⟩)
      | (go_at_call 10; refine (c1 _).mono ?_; rintro e w2 ⟨rfl, b2⟩))
    go_ret
    exact ⟨rfl, below2 b1 b2⟩

theorem kz_of {k : Bs} (h : k = [] ∨ kyb k = true) : Kz k := by
  rcases h with h | h
  · exact .inl h
  · exact .inr ((kyb_iff k).1 h)

/-- Whatever the texts. -/
theorem dense_walk (a b : ByteArray) (w : World) (ha : a.size ≤ maxLen) (hb : b.size ≤ maxLen) :
    Calls Try.prog 5 #[.string a, .string b] w fun e w' => e = .returned (.bool true) ∧ Below w.heap.size w w' := by
  by_cases h1 : a.toList = [] ∨ kyb a.toList = true
  · by_cases h2 : b.toList = [] ∨ kyb b.toList = true
    · have k1 := kz_of h1
      have k2 := kz_of h2
      rcases h1 with h1 | h1
      · exact dense_row a b w ha hb ⟨k1, k2, .inl h1⟩
      rcases h2 with h2 | h2
      · exact dense_row a b w ha hb ⟨k1, k2, .inr (.inl h2)⟩
      cases hl : bl a.toList b.toList
      · by_cases e : a.toList = b.toList
        · obtain rfl := str_inj e
          exact dense_same a w ha h1
        · exact dense_turned a b w ha hb h1 h2 (bl_total hl e)
      · exact dense_row a b w ha hb ⟨k1, k2, .inr (.inr hl)⟩
    · exact dense_bad a b w ha hb (.inr ⟨by rw [beq_eq_false_iff_ne]; exact fun e => h2 (.inl e), by cases h : kyb b.toList with | false => rfl | true => exact absurd (.inr h) h2⟩)
  · exact dense_bad a b w ha hb (.inl ⟨by rw [beq_eq_false_iff_ne]; exact fun e => h1 (.inl e), by cases h : kyb a.toList with | false => rfl | true => exact absurd (.inr h) h1⟩)
end Go.Proofs.Ytbjeienmhglddaa
