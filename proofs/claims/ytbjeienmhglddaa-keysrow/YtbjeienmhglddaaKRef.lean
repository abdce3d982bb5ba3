/- The reference: a digit, the digits from a place on, Between; what KeysBetween walks through. -/
import Derived.Test.YtbjeienmhglddaaKCalls
namespace Go.Proofs.Ytbjeienmhglddaa
open Go.RowKit

theorem digit_any (k : ByteArray) (i : Nat) (w : World) (hk : Kz k.toList) :
    Calls Try.prog 22 #[.string k, .int .i64 i] w fun e w' => e = .returned (.int .i64 (dg k.toList i)) ∧ w = w' := by
  have hl := hk.len
  rw [tl_length] at hl
  by_cases h : i < k.size
  · have h1 := hk.rng _ (tl_mem k i h)
    have h2 := dg_in hk.rng (i := i) (by rw [tl_length]; exact h)
    rw [tl_get k i h] at h2
    have e : ((k[i].toNat : Int) - 97) = (dg k.toList i : Int) := by omega
    rw [← e]
    clear e h2 hk
    go_enter Try.func22, Try.ntmps22
    go_wp2
    go_ret
    exact ⟨rfl, rfl⟩
  · rw [dg_out (by rw [tl_length]; omega)]
    clear hk
    go_enter Try.func22, Try.ntmps22
    go_wp2
    go_ret
    exact ⟨rfl, rfl⟩

theorem conv_one (w : World) (v : Int) (cap : Nat) (fr : Nat × Nat) : (convert 40 9 (.slice (some ⟨w.heap.size, 0, none⟩) 1 cap)).run Try.prog (w.alloc (.cells #[.int .u8 v] 5 fr)) = .ok (.string (strOfNums [v])) (w.alloc (.cells #[.int .u8 v] 5 fr)) :=
  run_convert_bytes_arg (P := Try.prog) _ 40 5 Try.underlying40 Try.underlying5 w.heap.size 0 1 cap [v] rfl (fun i hi => by
    obtain rfl : i = 0 := by omega
    rw [World.cell?_alloc_mark]; rfl) 9 Try.underlying9

theorem fr_end {a b : Bs} {n i : Nat} {o : Bool} (h : dg a i + 1 < top b i o) : fr a b (n + 1) i o = [by_ ((dg a i + top b i o) / 2)] := by
  show (if dg a i + 1 < top b i o then _ else _) = _
  rw [if_pos h]; rfl
theorem fr_on {a b : Bs} {n i : Nat} {o : Bool} (h : ¬ dg a i + 1 < top b i o) :
    fr a b (n + 1) i o = if fr a b n (i + 1) (o || top b i o == dg a i + 1) = [] then [] else by_ (dg a i) :: fr a b n (i + 1) (o || top b i o == dg a i + 1) := by
  show (if dg a i + 1 < top b i o then _ else _) = _
  rw [if_neg h]
  exact put_match _ _

theorem sub_free (x y : Nat) : ((y : Int) - (x : Int) == 1) = (false || y == x + 1) := by
  rw [Bool.eq_iff_iff]; simp; omega
theorem str_one (v : Int) (z : Nat) (h : v = 97 + (z : Int)) : (strOfNums [v]).toList = [by_ z] := by
  subst h
  rw [ByteArray.toList_eq, strOfNums_data]
  rfl
theorem str_cons (x : Nat) (r : ByteArray) : (strOfNums [97 + (x : Int)] ++ r).toList = by_ x :: r.toList := by
  rw [ByteArray.toList_eq, ByteArray.data_append, Array.toList_append, strOfNums_data, ByteArray.toList_eq]
  rfl
theorem fr_len (a b : Bs) (n : Nat) : ∀ i o, (fr a b n i o).length ≤ n := by
  induction n with
  | zero => intro i o; exact Nat.le_refl 0
  | succ n ih =>
    intro i o
    by_cases h : dg a i + 1 < top b i o
    · rw [fr_end h]; simp
    · rw [fr_on h]
      have := ih (i + 1) (o || top b i o == dg a i + 1)
      split
      · simp
      · simp only [List.length_cons]; omega
theorem fr_size {a b : Bs} {i : Nat} {o : Bool} {r : ByteArray} (n : Nat) (h : r.toList = fr a b n i o) : r.size ≤ n := by
  have := fr_len a b n i o
  rw [← h, tl_length] at this
  exact this
theorem from_named {f : FuncId} {args : Array Value} {w : World} {l : Bs} {r : ByteArray} (h : Calls Try.prog f args w fun e w' => ∃ s : ByteArray, e = .returned (.string s) ∧ s.toList = l ∧ Below w.heap.size w w') (hr : r.toList = l) :
    Calls Try.prog f args w fun e w' => e = .returned (.string r) ∧ Below w.heap.size w w' :=
  h.mono fun e w' ⟨s, h1, h2, h3⟩ => ⟨by rw [h1, str_inj (h2.trans hr.symm)], h3⟩

set_option maxHeartbeats 2000000 in
set_option maxRecDepth 20000 in
theorem from_any (a b : ByteArray) (ha : Kz a.toList) (hb : Kz b.toList) (n : Nat) : ∀ (i : Nat) (o : Bool) (w : World), i + n = 200 →
    Calls Try.prog 20 #[.string a, .string b, .int .i64 i, .bool o] w fun e w' => ∃ s : ByteArray, e = .returned (.string s) ∧ s.toList = fr a.toList b.toList n i o ∧ Below w.heap.size w w' := by
  induction n with
  | zero =>
    intro i o w hi
    obtain rfl : i = 200 := by omega
    go_enter Try.func20, Try.ntmps20
    go_wp2
    go_ret
    exact ⟨_, rfl, tl_empty, Below.refl _ _⟩
  | succ n ih =>
    intro i o w hi
    have hi2 : i < 200 := by omega
    have hz : ((i : Int) == 200) = false := beq_eq_false_iff_ne.2 (by omega)
    have dA := fun w => digit_any a i w ha
    have dB := fun w => digit_any b i w hb
    have rA := dg_le ha.rng i
    have rB := dg_le hb.rng i
    have E := tl_empty
    have hcv := conv_one
    obtain ⟨x, hx⟩ : ∃ x, x = dg a.toList i := ⟨_, rfl⟩
    obtain ⟨y, hy⟩ : ∃ y, y = dg b.toList i := ⟨_, rfl⟩
    rw [← hx] at rA
    rw [← hy] at rB
    rw [← hx] at dA
    rw [← hy] at dB
    cases o
    · have hT : top b.toList i false = y := by simp [top, ← hy]
      by_cases h1 : x + 1 < y
      · rw [fr_end (o := false) (by rw [← hx, hT]; exact h1), ← hx, hT]
        clear ih hx hy hT
        go_enter Try.func20, Try.ntmps20
        go_wp2_with (first
          | (go_at_call_of 22 (Value.string a); refine (dA _).mono ?_; rintro e w' ⟨rfl, rfl⟩)
          | (go_at_call_of 22 (Value.string b); refine (dB _).mono ?_; rintro e w' ⟨rfl, rfl⟩))
        go_ret
        exact ⟨_, rfl, str_one _ _ (by omega), (Below.refl _ _).alloc (Nat.le_refl _) _⟩
      · rw [fr_on (o := false) (by rw [← hx, hT]; exact h1), ← hx, hT, ← sub_free]
        obtain ⟨r, hr⟩ := ex_str (fr a.toList b.toList n (i + 1) ((y : Int) - (x : Int) == 1))
        have cF := fun w => from_named (ih (i + 1) ((y : Int) - (x : Int) == 1) w (by omega)) hr
        have hs := fr_size n hr
        have hs2 : r.size ≤ 200 := by omega
        have hss := fun v => strOfNums_size [v]
        simp only [List.length_singleton] at hss
        rw [← hr]
        clear ih hx hy hT hr
        by_cases h2 : r.toList = []
        · have h3 : (r.toList == []) = true := by rw [h2]; rfl
          rw [if_pos h2]
          clear h2
          go_enter Try.func20, Try.ntmps20
          go_wp2_with (first
            | (go_at_call_of 22 (Value.string a); refine (dA _).mono ?_; rintro e w' ⟨rfl, rfl⟩)
            | (go_at_call_of 22 (Value.string b); refine (dB _).mono ?_; rintro e w' ⟨rfl, rfl⟩)
            | (go_at_call 20; refine (cF _).mono ?_; rintro e w1 ⟨rfl, b1⟩))
          go_ret
          exact ⟨_, rfl, tl_empty, b1⟩
        · have h3 : (r.toList == []) = false := beq_eq_false_iff_ne.2 h2
          rw [if_neg h2]
          clear h2
          go_enter Try.func20, Try.ntmps20
          go_wp2_with (first
            | (go_at_call_of 22 (Value.string a); refine (dA _).mono ?_; rintro e w' ⟨rfl, rfl⟩)
            | (go_at_call_of 22 (Value.string b); refine (dB _).mono ?_; rintro e w' ⟨rfl, rfl⟩)
            | (go_at_call 20; refine (cF _).mono ?_; rintro e w1 ⟨rfl, b1⟩))
          go_ret
          exact ⟨_, rfl, str_cons x r, below2 b1 ((Below.refl _ _).alloc (Nat.le_refl _) _)⟩
    · have hT : top b.toList i true = 26 := by simp [top]
      by_cases h1 : x + 1 < 26
      · rw [fr_end (o := true) (by rw [← hx, hT]; exact h1), ← hx, hT]
        clear ih hx hy hT
        go_enter Try.func20, Try.ntmps20
        go_wp2_with (first
          | (go_at_call_of 22 (Value.string a); refine (dA _).mono ?_; rintro e w' ⟨rfl, rfl⟩)
          | (go_at_call_of 22 (Value.string b); refine (dB _).mono ?_; rintro e w' ⟨rfl, rfl⟩))
        go_ret
        exact ⟨_, rfl, str_one _ _ (by omega), (Below.refl _ _).alloc (Nat.le_refl _) _⟩
      · rw [fr_on (o := true) (by rw [← hx, hT]; exact h1), ← hx, hT, Bool.true_or]
        obtain ⟨r, hr⟩ := ex_str (fr a.toList b.toList n (i + 1) true)
        have cF := fun w => from_named (ih (i + 1) true w (by omega)) hr
        have hs := fr_size n hr
        have hs2 : r.size ≤ 200 := by omega
        have hss := fun v => strOfNums_size [v]
        simp only [List.length_singleton] at hss
        rw [← hr]
        clear ih hx hy hT hr
        by_cases h2 : r.toList = []
        · have h3 : (r.toList == []) = true := by rw [h2]; rfl
          rw [if_pos h2]
          clear h2
          go_enter Try.func20, Try.ntmps20
          go_wp2_with (first
            | (go_at_call_of 22 (Value.string a); refine (dA _).mono ?_; rintro e w' ⟨rfl, rfl⟩)
            | (go_at_call_of 22 (Value.string b); refine (dB _).mono ?_; rintro e w' ⟨rfl, rfl⟩)
            | (go_at_call 20; refine (cF _).mono ?_; rintro e w1 ⟨rfl, b1⟩))
          go_ret
          exact ⟨_, rfl, tl_empty, b1⟩
        · have h3 : (r.toList == []) = false := beq_eq_false_iff_ne.2 h2
          rw [if_neg h2]
          clear h2
          go_enter Try.func20, Try.ntmps20
          go_wp2_with (first
            | (go_at_call_of 22 (Value.string a); refine (dA _).mono ?_; rintro e w' ⟨rfl, rfl⟩)
            | (go_at_call_of 22 (Value.string b); refine (dB _).mono ?_; rintro e w' ⟨rfl, rfl⟩)
            | (go_at_call 20; refine (cF _).mono ?_; rintro e w1 ⟨rfl, b1⟩))
          go_ret
          exact ⟨_, rfl, str_cons x r, below2 b1 ((Below.refl _ _).alloc (Nat.le_refl _) _)⟩

set_option maxHeartbeats 2000000 in
/-- What the reference's Between tells, of whatever texts. -/
theorem rbetween_is {a b k : ByteArray} {x : Int} (hk : k.toList = btw a.toList b.toList) (hx : er (btw a.toList b.toList) = x) (ha : a.size ≤ maxLen) (hb : b.size ≤ maxLen) (w : World) :
    Calls Try.prog 11 #[.string a, .string b] w fun e w' => e = .returned (.tuple #[.string k, .int .i64 x]) ∧ Below w.heap.size w w' := by
  have hR := right_any a b w ha hb
  have E := tl_empty
  cases hr : rtb a.toList b.toList
  · rw [hr] at hR
    rw [btw_no hr] at hk hx
    obtain rfl : x = 43 := by rw [← hx]; exact er_none rfl
    obtain rfl : k = { data := #[] } := str_inj (hk.trans E.symm)
    clear hr hx hk
    go_enter Try.func11, Try.ntmps11
    go_wp2_with (first
      | (go_at_call 19; refine hR.mono ?_; rintro e w' ⟨rfl, rfl⟩))
    go_ret2
    exact ⟨rfl, Below.refl _ _⟩
  · rw [hr] at hR
    rw [btw_yes hr] at hk hx
    have hrt := (rtb_iff _ _).1 hr
    have cF := fun w => from_named (from_any a b hrt.1 hrt.2.1 200 0 (b.toList == []) w (by omega)) hk
    by_cases hn : mid a.toList b.toList = []
    · obtain rfl : x = 43 := by rw [← hx]; exact er_none hn
      have kn : (k.toList == []) = true := by rw [hk, hn]; rfl
      obtain rfl : k = { data := #[] } := str_inj ((hk.trans hn).trans E.symm)
      clear hr hx hk hn hrt kn
      cases e2 : (b.toList == [])
      all_goals
        rw [e2] at cF
        go_enter Try.func11, Try.ntmps11
        go_wp2_with (first
          | (go_at_call 19; refine hR.mono ?_; rintro e w' ⟨rfl, rfl⟩)
          | (go_at_call 20; refine (cF _).mono ?_; rintro e w1 ⟨rfl, b1⟩))
        go_ret2
        exact ⟨rfl, b1⟩
    · obtain rfl : x = 0 := by rw [← hx]; exact er_some hn
      have kn : (k.toList == []) = false := by rw [beq_eq_false_iff_ne, hk]; exact hn
      clear hr hx hk hn hrt
      cases e2 : (b.toList == [])
      all_goals
        rw [e2] at cF
        go_enter Try.func11, Try.ntmps11
        go_wp2_with (first
          | (go_at_call 19; refine hR.mono ?_; rintro e w' ⟨rfl, rfl⟩)
          | (go_at_call 20; refine (cF _).mono ?_; rintro e w1 ⟨rfl, b1⟩))
        go_ret2
        exact ⟨rfl, b1⟩

set_option maxHeartbeats 2000000 in
theorem kbetween_walk (a b : ByteArray) (w : World) (ha : a.size ≤ maxLen) (hb : b.size ≤ maxLen) :
    Calls Try.prog 3 #[.string a, .string b] w fun e w' => e = .returned (.bool true) ∧ Below w.heap.size w w' := by
  obtain ⟨k, hk⟩ := ex_str (btw a.toList b.toList)
  obtain ⟨x, hx⟩ : ∃ x, er (btw a.toList b.toList) = x := ⟨_, rfl⟩
  have c1 := between_is hk hx ha hb
  have c2 := rbetween_is hk hx ha hb
  have m1 := fun w => may_any a w ha
  have m2 := fun w => rmay_any a w ha
  obtain ⟨q, hq⟩ : ∃ q, kyb a.toList = q := ⟨_, rfl⟩
  rw [hq] at m1 m2
  clear hk hx hq
  go_enter Try.func3, Try.ntmps3
  go_wp2_with (first
    | (go_at_call 9; refine (awake_any _).mono ?_; rintro e w1 ⟨rfl, b1⟩)
    | (go_at_call 10; refine (c1 _).mono ?_; rintro e w2 ⟨rfl, b2⟩)
    | (go_at_call 11; refine (c2 _).mono ?_; rintro e w3 ⟨rfl, b3⟩)
    | (go_at_call 12; refine (m1 _).mono ?_; rintro e w' ⟨rfl, rfl⟩)
    | (go_at_call 13; refine (m2 _).mono ?_; rintro e w' ⟨rfl, rfl⟩))
  go_ret
  exact ⟨rfl, below2 (below2 b1 b2) b3⟩
end Go.Proofs.Ytbjeienmhglddaa
