/- What KeysRises walks through. -/
import Derived.Test.YtbjeienmhglddaaKRows
import Derived.Test.YtbjeienmhglddaaKDense
namespace Go.Proofs.Ytbjeienmhglddaa
open Go.RowKit

theorem less_ne {a b : Bs} (h : Op.bytesLess a b = true) : Op.bytesLess b a = false ∧ (b == a) = false := ⟨bl_asym h, ne_comm (bl_ne h)⟩

/-- All of the first m keys are there, or one is the first that isn't. -/
theorem first_none (a b : Bs) (m : Nat) : (∀ i, 1 ≤ i → i ≤ m → nth b a i ≠ []) ∨ ∃ j, 1 ≤ j ∧ j ≤ m ∧ nth b a j = [] ∧ ∀ i, 1 ≤ i → i < j → nth b a i ≠ [] := by
  induction m with
  | zero => exact .inl fun i h1 h2 => by omega
  | succ m ih =>
    rcases ih with h | ⟨j, h1, h2, h3, h4⟩
    · by_cases e : nth b a (m + 1) = []
      · exact .inr ⟨m + 1, by omega, Nat.le_refl _, e, fun i h1 h2 => h i h1 (by omega)⟩
      · refine .inl fun i h1 h2 => ?_
        by_cases hi : i = m + 1
        · subst hi; exact e
        · exact h i h1 (by omega)
    · exact .inr ⟨j, h1, by omega, h3, h4⟩
theorem rsp_cases (a b : Bs) (m : Nat) (hm : m ≤ 1000) : rsp a b m = (43, []) ∨ (rtb a b = true ∧ ∀ i, 1 ≤ i → i ≤ m → nth b a i ≠ []) := by
  cases hr : rtb a b
  · exact .inl (rsp_key (by omega) hr)
  · rcases first_none a b m with h | ⟨j, h1, h2, h3, h4⟩
    · exact .inr ⟨rfl, h⟩
    · exact .inl (rsp_full hm hr h1 h2 h3 h4)

theorem rises_none (a b : ByteArray) (m : Nat) (w : World) (ha : a.size ≤ maxLen) (hb : b.size ≤ maxLen) (hm : m ≤ 1000) (h : rsp a.toList b.toList m = (43, [])) :
    Calls Try.prog 6 #[.string a, .string b, .int .i64 m] w fun e w' => e = .returned (.bool true) ∧ Below w.heap.size w w' := by
  have c1 := fun w => row_any a b m w ha hb
  unfold RowOut at c1
  rw [h] at c1
  clear h
  go_enter Try.func6, Try.ntmps6
  go_wp2_with (first
    | (go_at_call 9; refine (awake_any _).mono ?_; rintro e w1 ⟨rfl, b1⟩)
    | (go_at_call 14; refine (c1 _).mono ?_; rintro e w2 ⟨v, L, rfl, s2, hL, b2⟩; obtain rfl : L = [] := List.map_eq_nil_iff.1 hL; obtain ⟨ad, cap, rfl, hc, hcm, f2⟩ := s2.form; clear f2 hL))
  go_ret
  exact ⟨rfl, below2 b1 b2⟩

/-- A row that was told, as it lies in memory. -/
theorem row_told {a b : ByteArray} {m : Nat} (ha : a.size ≤ maxLen) (hb : b.size ≤ maxLen) (hm : m ≤ 1000) (hr : rtb a.toList b.toList = true) (hi : ∀ i, 1 ≤ i → i ≤ m → nth b.toList a.toList i ≠ []) (w : World) :
    Calls Try.prog 14 #[.string a, .string b, .int .i64 m] w fun e w' => ∃ ad cap, e = .returned (.tuple #[.slice ad m cap, .int .i64 0]) ∧ m ≤ cap ∧ cap ≤ maxLen ∧ (0 < m → ∃ g, ad = some ⟨g, 0, none⟩ ∧ g < w'.heap.size ∧ ∀ i, i < m → ∃ s : ByteArray, s.toList = nth b.toList a.toList (i + 1) ∧ w'.cell? ⟨g, i, none⟩ = some (.string s)) ∧ Below w.heap.size w w' := by
  have c1 := row_any a b m w ha hb
  unfold RowOut at c1
  rw [rsp_all hm hr hi] at c1
  refine c1.mono fun e w' ⟨v, L, h1, h2, h3, h4⟩ => ?_
  obtain ⟨ad, cap, rfl, q1, q2, q3⟩ := h2.form
  have hl : L.length = m := by have := congrArg List.length h3; simpa using this
  subst hl
  refine ⟨ad, cap, h1, q1, q2, fun hp => ?_, h4⟩
  obtain ⟨g, r1, r2, r3⟩ := q3 hp
  refine ⟨g, r1, r2, fun i hi => ⟨L[i], ?_, r3 i (by omega)⟩⟩
  have := congrArg (fun l => l[i]?) h3
  simp only [List.getElem?_map] at this
  rw [List.getElem?_eq_getElem (by omega), List.getElem?_range hi] at this
  simpa using this

set_option maxHeartbeats 4000000 in
set_option maxRecDepth 20000 in
theorem rises_some (a b : ByteArray) (m : Nat) (w : World) (ha : a.size ≤ maxLen) (hb : b.size ≤ maxLen) (hm : m ≤ 1000) (hr : rtb a.toList b.toList = true) (hi : ∀ i, 1 ≤ i → i ≤ m → nth b.toList a.toList i ≠ []) :
    Calls Try.prog 6 #[.string a, .string b, .int .i64 m] w fun e w' => e = .returned (.bool true) ∧ Below w.heap.size w w' := by
  have c1 := row_told ha hb hm hr hi
  have HI := hid hi
  have HR := hid hr
  clear hi hr
  have E := tl_empty
  go_enter Try.func6, Try.ntmps6
  go_wp2_with (first
    | (go_at_call 9; refine (awake_any _).mono ?_; rintro e w1 ⟨rfl, b1⟩)
    | (go_at_call 14; refine (c1 _).mono ?_; rintro e w2 ⟨ad, cap, rfl, hc, hcm, f2, b2⟩; have F2 := hid f2; clear f2))
  unfold maxLen at hcm
  by_cases hp : 0 < m
  · obtain ⟨g, rfl, lg, q⟩ := F2.out hp
    have Q := hid q
    have BB := hid (below2 b1 b2)
    clear q F2 b1 b2 c1
    go_loop [11, 10] (fun i t => ∃ (j : Nat) (s : ByteArray), j ≤ m ∧ i = .int .i64 j ∧ t = .string s ∧ Hid (s.toList = nth b.toList a.toList j)) (fun i _ => m - (intOf i).toNat)
    case atStart => exact ⟨0, a, by omega, rfl, rfl, hid rfl⟩
    case round =>
      obtain ⟨j, s, hj, rfl, rfl, HS⟩ := hrel
      by_cases hlt : j < m
      · obtain ⟨t, ht, ct⟩ := Q.out j hlt
        obtain ⟨r1, r2, r3⟩ := nth_rises j (HI.out (j + 1) (by omega) (by omega))
        rw [← ht] at r1 r2 r3
        rw [← HS.out] at r2
        have mt := may_is ((kyb_iff _).2 r1) (by have := r1.len; rw [tl_length] at this; unfold maxLen; omega)
        obtain ⟨l1, l2⟩ := less_ne r2
        have HT := hid ht
        clear ht r1 r2
        cases e2 : (b.toList == [])
        · have l3 : Op.bytesLess t.toList b.toList = true := by
            rcases r3 with r3 | r3
            · rw [r3] at e2; simp at e2
            · exact r3
          clear r3
          go_wp2_with (first
            | (go_at_call 12; refine (mt _).mono ?_; rintro e w' ⟨rfl, rfl⟩))
          go_round
          case rel => exact ⟨j + 1, t, by omega, by go_num, rfl, HT⟩
          case measure => simp [intOf]; omega
        · clear r3
          go_wp2_with (first
            | (go_at_call 12; refine (mt _).mono ?_; rintro e w' ⟨rfl, rfl⟩))
          go_round
          case rel => exact ⟨j + 1, t, by omega, by go_num, rfl, HT⟩
          case measure => simp [intOf]; omega
      · obtain ⟨q, hq⟩ : ∃ q, m = q + 1 := ⟨m - 1, by omega⟩
        have e3 : (m : Int) - 1 = (q : Int) := by omega
        have hz : ((m : Int) == 0) = false := beq_eq_false_iff_ne.2 (by omega)
        have c2 := row_told ha hb (m := q) (by omega) HR.out (fun i h1 h2 => HI.out i h1 (by omega))
        by_cases h1 : q = 0
        · have hz1 : ((m : Int) == 1) = true := by rw [hq, h1]; rfl
          clear hq h1
          go_wp2_with (first
            | (go_at_call 14; refine (c2 _).mono ?_; rintro e w3 ⟨ad3, cap3, rfl, hc3, hcm3, f3, b3⟩; clear f3))
          go_region
          all_goals (try go_wp2)
          all_goals (go_ret; exact ⟨rfl, (below2 BB.out b3).drew⟩)
        · obtain ⟨p, hpq⟩ : ∃ p, q = p + 1 := ⟨q - 1, by omega⟩
          have e4 : (m : Int) - 2 = (p : Int) := by omega
          have hz1 : ((m : Int) == 1) = false := beq_eq_false_iff_ne.2 (by omega)
          obtain ⟨t, ht, ct⟩ := Q.out p (by omega)
          have hpm : p < m := by omega
          have hpq' : p < q := by omega
          have HT := hid ht
          clear hq h1 hpq ht
          go_wp2_with (first
            | (go_at_call 14; refine (c2 _).mono ?_; rintro e w3 ⟨ad3, cap3, rfl, hc3, hcm3, f3, b3⟩; obtain ⟨g3, rfl, lg3, q3⟩ := f3 (by omega); obtain ⟨t3, ht3, ct3⟩ := q3 p hpq'; obtain rfl := str_inj (ht3.trans HT.out.symm); have ct' := (b3.cell (p := ⟨g, p, none⟩) lg).trans ct; clear q3 f3 ht3; unfold maxLen at hcm3))
          go_region
          all_goals (try go_wp2)
          all_goals (go_ret; exact ⟨rfl, (below2 BB.out b3).drew⟩)
  · have hz : m = 0 := by omega
    have BB := hid (below2 b1 b2)
    subst hz
    go_loop [11, 10] (fun i t => i = .int .i64 0) (fun _ _ => 0)
    case atStart => rfl
    case round =>
      obtain rfl := hrel
      go_wp2
      go_ret
      exact ⟨rfl, BB.out⟩

theorem rises_walk (a b : ByteArray) (n : Int) (w : World) (ha : a.size ≤ maxLen) (hb : b.size ≤ maxLen) :
    Calls Try.prog 6 #[.string a, .string b, .int .i64 n] w fun e w' => e = .returned (.bool true) ∧ Below w.heap.size w w' := by
  by_cases h0 : n < 0
  · go_enter Try.func6, Try.ntmps6
    go_wp2_with (first
      | (go_at_call 9; refine (awake_any _).mono ?_; rintro e w1 ⟨rfl, b1⟩))
    go_ret
    exact ⟨rfl, b1⟩
  by_cases h1 : 1000 < n
  · go_enter Try.func6, Try.ntmps6
    go_wp2_with (first
      | (go_at_call 9; refine (awake_any _).mono ?_; rintro e w1 ⟨rfl, b1⟩))
    go_ret
    exact ⟨rfl, b1⟩
  obtain ⟨m, rfl⟩ := Int.eq_ofNat_of_zero_le (show 0 ≤ n by omega)
  rcases rsp_cases a.toList b.toList m (by omega) with h | ⟨h2, h3⟩
  · exact rises_none a b m w ha hb (by omega) h
  · exact rises_some a b m w ha hb (by omega) h2 h3
end Go.Proofs.Ytbjeienmhglddaa
