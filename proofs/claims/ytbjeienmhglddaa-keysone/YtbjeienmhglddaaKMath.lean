/- Keys as rows of bytes: what is a key, which comes ahead, what is between two, and what follows. -/
import Derived.WalkKit
namespace Go.Proofs.Ytbjeienmhglddaa

abbrev Bs := List UInt8

/-- Which row of bytes comes ahead, as the language says. -/
abbrev bl (a b : Bs) : Bool := Op.bytesLess a b

theorem bl_nil_cons (y : UInt8) (b : Bs) : bl [] (y :: b) = true := rfl
theorem bl_nil (a : Bs) : bl a [] = false := by cases a <;> rfl
theorem bl_cons (x y : UInt8) (a b : Bs) : bl (x :: a) (y :: b) = (decide (x < y) || (x == y && bl a b)) := by
  show Op.bytesLess (x :: a) (y :: b) = _
  simp [Op.bytesLess]
theorem bl_less {x y : UInt8} (h : x.toNat < y.toNat) (a b : Bs) : bl (x :: a) (y :: b) = true := by
  rw [bl_cons, decide_eq_true (UInt8.lt_iff_toNat_lt.2 h)]; rfl
theorem bl_same {x y : UInt8} (h : x.toNat = y.toNat) (a b : Bs) : bl (x :: a) (y :: b) = bl a b := by
  obtain rfl := UInt8.toNat_inj.1 h
  rw [bl_cons, decide_eq_false (by rw [UInt8.lt_iff_toNat_lt]; omega)]; simp
theorem bl_more {x y : UInt8} (h : y.toNat < x.toNat) (a b : Bs) : bl (x :: a) (y :: b) = false := by
  have hne : x ≠ y := fun e => by subst e; omega
  rw [bl_cons, decide_eq_false (by rw [UInt8.lt_iff_toNat_lt]; omega)]; simp [hne]

theorem bl_irrefl (a : Bs) : bl a a = false := by
  induction a with
  | nil => rfl
  | cons x a ih => rw [bl_same rfl]; exact ih

theorem bl_trans {a b c : Bs} (h : bl a b = true) (k : bl b c = true) : bl a c = true := by
  induction a generalizing b c with
  | nil =>
    cases c with
    | nil => rw [bl_nil] at k; cases k
    | cons => rfl
  | cons x a ih =>
    cases b with
    | nil => rw [bl_nil] at h; cases h
    | cons y b =>
      cases c with
      | nil => rw [bl_nil] at k; cases k
      | cons z c =>
        rcases Nat.lt_trichotomy x.toNat y.toNat with h1 | h1 | h1
        · rcases Nat.lt_trichotomy y.toNat z.toNat with k1 | k1 | k1
          · exact bl_less (by omega) _ _
          · exact bl_less (by omega) _ _
          · rw [bl_more k1] at k; cases k
        · rw [bl_same h1] at h
          rcases Nat.lt_trichotomy y.toNat z.toNat with k1 | k1 | k1
          · exact bl_less (by omega) _ _
          · rw [bl_same k1] at k
            rw [bl_same (by omega)]
            exact ih h k
          · rw [bl_more k1] at k; cases k
        · rw [bl_more h1] at h; cases h

/-- Of two unlike rows one comes ahead. -/
theorem bl_total {a b : Bs} (h : bl a b = false) (hne : a ≠ b) : bl b a = true := by
  induction a generalizing b with
  | nil =>
    cases b with
    | nil => exact absurd rfl hne
    | cons => cases h
  | cons x a ih =>
    cases b with
    | nil => rfl
    | cons y b =>
      rcases Nat.lt_trichotomy x.toNat y.toNat with h1 | h1 | h1
      · rw [bl_less h1] at h; cases h
      · rw [bl_same h1] at h
        rw [bl_same h1.symm]
        exact ih h (fun e => hne (by rw [e, UInt8.toNat_inj.1 h1]))
      · exact bl_less h1 _ _

/-- The digit of a key at a place, 0 behind its end. -/
def dg (k : Bs) (i : Nat) : Nat := (k.getD i 97).toNat - 97

/-- A digit's byte. -/
abbrev by_ (x : Nat) : UInt8 := UInt8.ofNat (97 + x)

theorem by_toNat {x : Nat} (h : x ≤ 25) : (by_ x).toNat = 97 + x := by
  rw [UInt8.toNat_ofNat']
  omega

/-- A key. -/
structure Ky (k : Bs) : Prop where
  ne : k ≠ []
  len : k.length ≤ 200
  rng : ∀ c ∈ k, 97 ≤ c.toNat ∧ c.toNat ≤ 122
  last : ∀ i (h : i < k.length), i + 1 = k.length → k[i].toNat ≠ 97

/-- A key, or empty. -/
abbrev Kz (k : Bs) : Prop := k = [] ∨ Ky k

theorem Kz.rng {k : Bs} (h : Kz k) : ∀ c ∈ k, 97 ≤ c.toNat ∧ c.toNat ≤ 122 := by
  rcases h with rfl | h
  · intro c hc; simp at hc
  · exact h.rng
theorem Kz.len {k : Bs} (h : Kz k) : k.length ≤ 200 := by
  rcases h with rfl | h
  · simp
  · exact h.len

theorem dg_in {k : Bs} {i : Nat} (hr : ∀ c ∈ k, 97 ≤ c.toNat ∧ c.toNat ≤ 122) (h : i < k.length) : k[i].toNat = 97 + dg k i ∧ dg k i ≤ 25 := by
  have := hr k[i] (List.getElem_mem h)
  unfold dg
  rw [List.getD_eq_getElem?_getD, List.getElem?_eq_getElem h, Option.getD_some]
  omega
theorem dg_out {k : Bs} {i : Nat} (h : k.length ≤ i) : dg k i = 0 := by
  unfold dg
  rw [List.getD_eq_getElem?_getD, List.getElem?_eq_none h]
  rfl
theorem dg_le {k : Bs} (hr : ∀ c ∈ k, 97 ≤ c.toNat ∧ c.toNat ≤ 122) (i : Nat) : dg k i ≤ 25 := by
  rcases Nat.lt_or_ge i k.length with h | h
  · exact (dg_in hr h).2
  · rw [dg_out h]; omega

/-- The digits from place i on, n of them at most; o: there is no upper bound any more. None: they are too many. -/
def fr (a b : Bs) : Nat → Nat → Bool → Bs
  | 0, _, _ => []
  | n + 1, i, o =>
    if dg a i + 1 < (if o then 26 else dg b i) then [by_ ((dg a i + (if o then 26 else dg b i)) / 2)]
    else match fr a b n (i + 1) (o || (if o then 26 else dg b i) == dg a i + 1) with
      | [] => []
      | c :: r => by_ (dg a i) :: c :: r

theorem put_match (x : UInt8) (r : Bs) : (match r with | [] => [] | c :: r => x :: c :: r) = if r = [] then [] else x :: r := by
  cases r <;> simp

/-- What is between two, or none. -/
def mid (a b : Bs) : Bs := fr a b 200 0 (b == [])

/-- The first sentence of P6.2. -/
def Rt (a b : Bs) : Prop := Kz a ∧ Kz b ∧ (a = [] ∨ b = [] ∨ bl a b = true)

section
variable {a b : Bs}

theorem drop_step {k : Bs} {i : Nat} (h : i < k.length) : k.drop i = k[i] :: k.drop (i + 1) := List.drop_eq_getElem_cons h

/-- What the digits from place i on are. -/
theorem fr_says (ha : ∀ c ∈ a, 97 ≤ c.toNat ∧ c.toNat ≤ 122) (hb : ∀ c ∈ b, 97 ≤ c.toNat ∧ c.toNat ≤ 122) (hl : ∀ i (h : i < b.length), i + 1 = b.length → b[i].toNat ≠ 97) (n : Nat) :
    ∀ (i : Nat) (o : Bool), (o = false → bl (a.drop i) (b.drop i) = true) →
      (fr a b n i o = [] → n = 0 ∨ i + n ≤ a.length ∨ (o = false ∧ i + n ≤ b.length)) ∧
      (fr a b n i o ≠ [] → (fr a b n i o).length ≤ n ∧ (∀ c ∈ fr a b n i o, 97 ≤ c.toNat ∧ c.toNat ≤ 122) ∧
        (∀ j (h : j < (fr a b n i o).length), j + 1 = (fr a b n i o).length → (fr a b n i o)[j].toNat ≠ 97) ∧
        bl (a.drop i) (fr a b n i o) = true ∧ (o = false → bl (fr a b n i o) (b.drop i) = true)) := by
  induction n with
  | zero => intro i o ho; exact ⟨fun _ => .inl rfl, fun h => absurd rfl h⟩
  | succ n ih =>
    intro i o ho
    have hx := dg_le ha i
    have hy := dg_le hb i
    -- where the upper bound still holds there is a byte of it, and the digits are in order
    have hbi : o = false → i < b.length := fun h => by
      have := ho h
      rcases Nat.lt_or_ge i b.length with h' | h'
      · exact h'
      · rw [List.drop_eq_nil_of_le h', bl_nil] at this; cases this
    have hxy : o = false → dg a i ≤ dg b i := fun h => by
      have hl1 := ho h
      have hi := hbi h
      rcases Nat.lt_or_ge i a.length with h' | h'
      · rw [drop_step h', drop_step hi] at hl1
        have e1 := (dg_in ha h').1
        have e2 := (dg_in hb hi).1
        rcases Nat.lt_or_ge (dg b i) (dg a i) with h'' | h''
        · rw [bl_more (by omega)] at hl1; cases hl1
        · exact h''
      · rw [dg_out h']; omega
    have hnext : o = false → dg a i = dg b i → bl (a.drop (i + 1)) (b.drop (i + 1)) = true := fun h he => by
      have hl1 := ho h
      have hi := hbi h
      have e2 := (dg_in hb hi).1
      rcases Nat.lt_or_ge i a.length with h' | h'
      · rw [drop_step h', drop_step hi] at hl1
        have e1 := (dg_in ha h').1
        rw [bl_same (by omega)] at hl1
        exact hl1
      · rw [dg_out h'] at he
        have hi1 : i + 1 < b.length := by
          rcases Nat.lt_or_ge (i + 1) b.length with h'' | h''
          · exact h''
          · exact absurd (by omega : b[i].toNat = 97) (hl i hi (by omega))
        rw [List.drop_eq_nil_of_le (by omega), drop_step hi1]
        rfl
    by_cases hend : dg a i + 1 < (if o then 26 else dg b i)
    · -- the last digit
      have e : fr a b (n + 1) i o = [by_ ((dg a i + (if o then 26 else dg b i)) / 2)] := by
        show (if dg a i + 1 < _ then _ else _) = _
        rw [if_pos hend]
      have hd : dg a i < (dg a i + (if o then 26 else dg b i)) / 2 ∧ (dg a i + (if o then 26 else dg b i)) / 2 < (if o then 26 else dg b i) := by omega
      have hle : (if o then 26 else dg b i) ≤ 26 := by split <;> omega
      have hbv := by_toNat (x := (dg a i + (if o then 26 else dg b i)) / 2) (by omega)
      rw [e]
      refine ⟨fun h => by simp at h, fun _ => ⟨by simp, ?_, ?_, ?_, ?_⟩⟩
      · intro c hc
        simp only [List.mem_singleton] at hc
        subst hc
        omega
      · intro j hj _
        simp only [List.length_singleton] at hj
        obtain rfl : j = 0 := by omega
        show (by_ _).toNat ≠ 97
        omega
      · rcases Nat.lt_or_ge i a.length with h' | h'
        · rw [drop_step h']
          have e1 := (dg_in ha h').1
          exact bl_less (by omega) _ _
        · rw [List.drop_eq_nil_of_le h']; rfl
      · intro h
        have hi := hbi h
        subst h
        rw [drop_step hi]
        have e2 := (dg_in hb hi).1
        simp only [Bool.false_eq_true, if_false] at hbv hd ⊢
        exact bl_less (by omega) _ _
    · -- the same digit, and on
      have hstep : ∀ o', o' = (o || (if o then 26 else dg b i) == dg a i + 1) → fr a b (n + 1) i o = (if fr a b n (i + 1) o' = [] then [] else by_ (dg a i) :: fr a b n (i + 1) o') := by
        intro o' ho'
        subst ho'
        show (if dg a i + 1 < _ then _ else _) = _
        rw [if_neg hend]
        exact put_match _ _
      obtain ⟨o', ho'⟩ : ∃ o', o' = (o || (if o then 26 else dg b i) == dg a i + 1) := ⟨_, rfl⟩
      have e := hstep o' ho'
      have hbx := by_toNat hx
      have hrest : o' = false → bl (a.drop (i + 1)) (b.drop (i + 1)) = true := by
        intro h
        rw [h] at ho'
        have ho1 : o = false := by cases o with | false => rfl | true => simp at ho'
        subst ho1
        simp only [Bool.false_eq_true, if_false, Bool.false_or] at ho' hend
        have : dg b i ≠ dg a i + 1 := fun h' => by rw [h'] at ho'; simp at ho'
        have := hxy rfl
        exact hnext rfl (by omega)
      have hIH := ih (i + 1) o' hrest
      have hoo : o' = false → o = false := by
        intro h
        rw [h] at ho'
        cases o with
        | false => rfl
        | true => simp at ho'
      by_cases hr : fr a b n (i + 1) o' = []
      · rw [e, if_pos hr]
        refine ⟨fun _ => ?_, fun h => absurd rfl h⟩
        right
        have hia : o = true → i < a.length := fun h => by
          subst h
          simp only [if_true] at hend
          rcases Nat.lt_or_ge i a.length with h' | h'
          · exact h'
          · rw [dg_out h'] at hend; omega
        rcases hIH.1 hr with rfl | h1 | ⟨h1, h2⟩
        · cases o with
          | true => left; have := hia rfl; omega
          | false => right; exact ⟨rfl, by have := hbi rfl; omega⟩
        · left; omega
        · right; exact ⟨hoo h1, by omega⟩
      · obtain ⟨i1, i2, i3, i4, i5⟩ := hIH.2 hr
        rw [e, if_neg hr]
        refine ⟨fun h => by simp at h, fun _ => ⟨by simp; omega, ?_, ?_, ?_, ?_⟩⟩
        · intro c hc
          rcases List.mem_cons.1 hc with rfl | hc
          · omega
          · exact i2 c hc
        · intro j hj hj1
          cases j with
          | zero =>
            have : (fr a b n (i + 1) o').length ≠ 0 := fun h => hr (List.eq_nil_of_length_eq_zero h)
            simp only [List.length_cons] at hj1
            omega
          | succ j =>
            simp only [List.length_cons] at hj hj1
            exact i3 j (by omega) (by omega)
        · rcases Nat.lt_or_ge i a.length with h' | h'
          · rw [drop_step h']
            have e1 := (dg_in ha h').1
            rw [bl_same (by omega)]
            exact i4
          · rw [List.drop_eq_nil_of_le h']; rfl
        · intro h
          have hi := hbi h
          rw [drop_step hi]
          have e2 := (dg_in hb hi).1
          have hle := hxy h
          subst h
          simp only [Bool.false_eq_true, if_false, Bool.false_or] at ho' hend
          rcases Nat.lt_or_ge (dg a i) (dg b i) with h'' | h''
          · exact bl_less (by omega) _ _
          · have : o' = false := by
              rw [ho']
              simp
              omega
            rw [bl_same (by omega)]
            exact i5 this
end

/-- What is between two is a key, behind the one and ahead of the other. -/
theorem mid_says {a b : Bs} (h : Rt a b) : (mid a b = [] → a.length = 200 ∨ b.length = 200) ∧ (mid a b ≠ [] → Ky (mid a b) ∧ bl a (mid a b) = true ∧ (b = [] ∨ bl (mid a b) b = true)) := by
  obtain ⟨ha, hb, hab⟩ := h
  have hl : ∀ i (h : i < b.length), i + 1 = b.length → b[i].toNat ≠ 97 := by
    rcases hb with rfl | hb
    · intro i h; simp at h
    · exact hb.last
  have ho : (b == []) = false → bl (a.drop 0) (b.drop 0) = true := by
    intro h
    have hb0 : b ≠ [] := by simpa using h
    simp only [List.drop_zero]
    rcases hab with rfl | h' | h'
    · cases b with
      | nil => exact absurd rfl hb0
      | cons => rfl
    · exact absurd h' hb0
    · exact h'
  obtain ⟨h1, h2⟩ := fr_says ha.rng hb.rng hl 200 0 (b == []) ho
  refine ⟨fun h => ?_, fun h => ?_⟩
  · have := ha.len
    have := hb.len
    rcases h1 h with h | h | ⟨_, h⟩ <;> omega
  · obtain ⟨i1, i2, i3, i4, i5⟩ := h2 h
    refine ⟨⟨h, i1, i2, i3⟩, by rw [List.drop_zero] at i4; exact i4, ?_⟩
    by_cases hb0 : b = []
    · exact .inl hb0
    · have := i5 (by simpa using hb0)
      rw [List.drop_zero] at this
      exact .inr this

/-- Whether a row of bytes is a key. -/
def kyb (k : Bs) : Bool := !(k == []) && decide (k.length ≤ 200) && k.all (fun c => decide (97 ≤ c.toNat) && decide (c.toNat ≤ 122)) && !(k.getLast? == some 97)

theorem kyb_iff (k : Bs) : kyb k = true ↔ Ky k := by
  unfold kyb
  simp only [Bool.and_eq_true, Bool.not_eq_true', beq_eq_false_iff_ne, decide_eq_true_eq, List.all_eq_true]
  constructor
  · rintro ⟨⟨⟨h1, h2⟩, h3⟩, h4⟩
    refine ⟨h1, h2, h3, fun i hi he hc => h4 ?_⟩
    rw [List.getLast?_eq_getElem?, show k.length - 1 = i by omega, List.getElem?_eq_getElem hi]
    congr 1
    exact UInt8.toNat_inj.1 hc
  · intro h
    refine ⟨⟨⟨h.ne, h.len⟩, h.rng⟩, fun hc => ?_⟩
    have hp : 0 < k.length := by
      rcases Nat.eq_zero_or_pos k.length with h0 | h0
      · exact absurd (List.eq_nil_of_length_eq_zero h0) h.ne
      · exact h0
    rw [List.getLast?_eq_getElem?, List.getElem?_eq_getElem (by omega : k.length - 1 < k.length)] at hc
    have := h.last (k.length - 1) (by omega) (by omega)
    rw [Option.some.inj hc] at this
    exact this rfl

theorem kyb_false {k : Bs} (h : ¬ Ky k) : kyb k = false := by
  cases hk : kyb k with
  | false => rfl
  | true => exact absurd ((kyb_iff k).1 hk) h

/-- Whether the first sentence of P6.2 has nothing against them. -/
def rtb (a b : Bs) : Bool := ((a == []) || kyb a) && ((b == []) || kyb b) && ((a == []) || (b == []) || bl a b)

theorem rtb_iff (a b : Bs) : rtb a b = true ↔ Rt a b := by
  unfold rtb Rt Kz
  simp only [Bool.and_eq_true, Bool.or_eq_true, beq_iff_eq, kyb_iff, and_assoc, or_assoc]

/-- What is between two, or none: what a call tells. -/
def btw (a b : Bs) : Bs := if rtb a b = true then mid a b else []

theorem btw_says {a b : Bs} (h : btw a b ≠ []) : Rt a b ∧ Ky (btw a b) ∧ bl a (btw a b) = true ∧ (b = [] ∨ bl (btw a b) b = true) := by
  unfold btw at h ⊢
  by_cases hr : rtb a b = true
  · rw [if_pos hr] at h ⊢
    exact ⟨(rtb_iff a b).1 hr, (mid_says ((rtb_iff a b).1 hr)).2 h⟩
  · rw [if_neg hr] at h
    exact absurd rfl h

theorem btw_full {a b : Bs} (h : Rt a b) (he : btw a b = []) : a.length = 200 ∨ b.length = 200 := by
  unfold btw at he
  rw [if_pos ((rtb_iff a b).2 h)] at he
  exact (mid_says h).1 he

/-- A row of n keys between two, each made of the one ahead of it; none where one can't be. -/
def rw_ (b : Bs) : Nat → Bs → Option (List Bs)
  | 0, _ => some []
  | n + 1, a => if btw a b = [] then none else (rw_ b n (btw a b)).map (btw a b :: ·)

/-- The key that is last of the first so many, a itself where there is none. -/
def nth (b : Bs) (a : Bs) : Nat → Bs
  | 0 => a
  | n + 1 => btw (nth b a n) b

theorem nth_shift (b a : Bs) (n : Nat) : nth b (btw a b) n = nth b a (n + 1) := by
  induction n with
  | zero => rfl
  | succ n ih => show btw _ _ = btw _ _; rw [ih]

/-- Where all of the first n are there, the row is those. -/
theorem rw_all (b : Bs) (n : Nat) : ∀ a, (∀ j, 1 ≤ j → j ≤ n → nth b a j ≠ []) → rw_ b n a = some ((List.range n).map fun j => nth b a (j + 1)) := by
  induction n with
  | zero => intro a _; rfl
  | succ n ih =>
    intro a h
    have h1 : btw a b ≠ [] := h 1 (by omega) (by omega)
    show (if _ then _ else _) = _
    rw [if_neg h1, ih (btw a b) (fun j h1 h2 => by rw [nth_shift]; exact h (j + 1) (by omega) (by omega))]
    rw [List.range_succ_eq_map]
    simp only [Option.map_some, List.map_cons, List.map_map]
    congr 2
    apply List.map_congr_left
    intro j _
    exact nth_shift b a (j + 1)
theorem rw_none (b : Bs) (n : Nat) : ∀ a j, 1 ≤ j → j ≤ n → nth b a j = [] → (∀ i, 1 ≤ i → i < j → nth b a i ≠ []) → rw_ b n a = none := by
  induction n with
  | zero => intro a j h1 h2; omega
  | succ n ih =>
    intro a j h1 h2 hj hi
    show (if _ then _ else _) = _
    by_cases h : btw a b = []
    · rw [if_pos h]
    · rw [if_neg h]
      have hj1 : j ≠ 1 := fun e => by subst e; exact h hj
      rw [ih (btw a b) (j - 1) (by omega) (by omega) (by rw [nth_shift, show j - 1 + 1 = j by omega]; exact hj) (fun i h3 h4 => by rw [nth_shift]; exact hi (i + 1) (by omega) (by omega))]
      rfl

/-- A row rises, within its bounds. -/
theorem nth_rises {a b : Bs} (j : Nat) (h : nth b a (j + 1) ≠ []) : Ky (nth b a (j + 1)) ∧ bl (nth b a j) (nth b a (j + 1)) = true ∧ (b = [] ∨ bl (nth b a (j + 1)) b = true) := (btw_says h).2

/-- Keys at the beginning, one ahead of the other; at the end, one behind the other. -/
def fst_ : Nat → Bs
  | 0 => []
  | n + 1 => btw [] (fst_ n)
def lst_ : Nat → Bs
  | 0 => []
  | n + 1 => btw (lst_ n) []

/-- From a beginning and an end on: n times there is room, in order, and one between them. -/
def chk : Nat → Bs → Bs → Bool
  | 0, _, _ => true
  | n + 1, f, l => !(btw [] f).isEmpty && !(btw l []).isEmpty && bl (btw [] f) (btw l []) && !(btw (btw [] f) (btw l [])).isEmpty && chk n (btw [] f) (btw l [])

theorem chk_all : chk 150 [110] [110] = true := by decide +kernel

theorem chk_step (n : Nat) : ∀ j, chk n (fst_ j) (lst_ j) = true → ∀ i, j < i → i ≤ j + n → fst_ i ≠ [] ∧ lst_ i ≠ [] ∧ bl (fst_ i) (lst_ i) = true ∧ btw (fst_ i) (lst_ i) ≠ [] := by
  induction n with
  | zero => intro j _ i h1 h2; omega
  | succ n ih =>
    intro j h i h1 h2
    have h' : (!(fst_ (j + 1)).isEmpty && !(lst_ (j + 1)).isEmpty && bl (fst_ (j + 1)) (lst_ (j + 1)) && !(btw (fst_ (j + 1)) (lst_ (j + 1))).isEmpty && chk n (fst_ (j + 1)) (lst_ (j + 1))) = true := h
    simp only [Bool.and_eq_true, Bool.not_eq_true', List.isEmpty_eq_false_iff] at h'
    obtain ⟨⟨⟨⟨k1, k2⟩, k3⟩, k4⟩, k5⟩ := h'
    by_cases hi : i = j + 1
    · subst hi; exact ⟨k1, k2, k3, k4⟩
    · exact ih (j + 1) k5 i (by omega) (by omega)

theorem fst_one : fst_ 1 = [110] := by decide +kernel
theorem lst_one : lst_ 1 = [110] := by decide +kernel
theorem mid_one : btw [110] [110] = [] := by decide +kernel

/-- At the beginning and at the end there is room, and one between them. -/
theorem starts (i : Nat) (h1 : 1 ≤ i) (h2 : i ≤ 151) : fst_ i ≠ [] ∧ lst_ i ≠ [] ∧ (2 ≤ i → bl (fst_ i) (lst_ i) = true ∧ btw (fst_ i) (lst_ i) ≠ []) := by
  by_cases h : i = 1
  · subst h
    refine ⟨by rw [fst_one]; simp, by rw [lst_one]; simp, fun h => by omega⟩
  · have := chk_step 150 1 (by rw [fst_one, lst_one]; exact chk_all) i (by omega) (by omega)
    exact ⟨this.1, this.2.1, fun _ => this.2.2⟩

end Go.Proofs.Ytbjeienmhglddaa
