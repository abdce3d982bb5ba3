/- What a kind has, by the switch; whether an operation is empty where its kind has nothing. -/
import Derived.Test.YtnmdcdphpcpojaaGreatDoorMKeys
import Derived.WalkKit
import Derived.Test.YtnmdcdphpcpojaaGreatDoorTrMath
import Derived.Maps.OwnSet
import Derived.Sort.KeysCollected
import Derived.Deep.CutBlock
import Derived.Deep.CutRange
namespace Go.Proofs.YtnmdcdphpcpojaaGreatDoor
section
set_option linter.unusedVariables false

/-- An order of things that have identities. -/
structure Lin {α : Type} (lt : α → α → Bool) (f : α → Dt) : Prop where
  irr : ∀ a, lt a a = false
  tr : ∀ a b c, lt a b = true → lt b c = true → lt a c = true
  tot : ∀ a b, f a ≠ f b → lt a b = false → lt b a = true

/-- A row in order. -/
def Srt {α : Type} (lt : α → α → Bool) (l : List α) : Prop := l.Pairwise (fun a b => lt a b = true)

theorem Lin.asym {α : Type} {lt : α → α → Bool} {f : α → Dt} (h : Lin lt f) {a b : α} (k : lt a b = true) : lt b a = false := by
  cases e : lt b a with
  | false => rfl
  | true => have := h.tr a b a k e; rw [h.irr] at this; cases this

/-- Rows in order with the same things are one row. -/
theorem srt_ext {α : Type} {lt : α → α → Bool} {f : α → Dt} (hL : Lin lt f) : ∀ {l l' : List α}, Srt lt l → Srt lt l' → (∀ d, d ∈ l ↔ d ∈ l') → l = l'
  | [], [], _, _, _ => rfl
  | [], b :: s, _, _, h => by have := (h b).2 (by simp); simp at this
  | a :: r, [], _, _, h => by have := (h a).1 (by simp); simp at this
  | a :: r, b :: s, h1, h2, h => by
    have h1' := List.pairwise_cons.1 h1
    have h2' := List.pairwise_cons.1 h2
    have hab : a = b := by
      rcases List.mem_cons.1 ((h a).1 (by simp)) with e | ha
      · exact e
      · rcases List.mem_cons.1 ((h b).2 (by simp)) with e | hb
        · exact e.symm
        · have k1 := h2'.1 a ha
          have k2 := hL.asym k1
          rw [h1'.1 b hb] at k2
          cases k2
    subst hab
    congr 1
    refine srt_ext hL h1'.2 h2'.2 (fun d => ?_)
    have hd := h d
    rw [List.mem_cons, List.mem_cons] at hd
    constructor
    · intro hm
      rcases hd.1 (Or.inr hm) with e | h'
      · subst e; have := h1'.1 d hm; rw [hL.irr] at this; cases this
      · exact h'
    · intro hm
      rcases hd.2 (Or.inr hm) with e | h'
      · subst e; have := h2'.1 d hm; rw [hL.irr] at this; cases this
      · exact h'

/-- How many come ahead of one. -/
def rkL {α : Type} (lt : α → α → Bool) (l : List α) (x : α) : Nat := (l.filter (fun y => lt y x)).length

theorem rk_le {α : Type} (lt : α → α → Bool) (l : List α) (x : α) : rkL lt l x ≤ l.length := List.length_filter_le _ _

/-- Those that come ahead are the first ones. -/
theorem rk_split {α : Type} {lt : α → α → Bool} {f : α → Dt} (hL : Lin lt f) : ∀ {l : List α}, Srt lt l → ∀ x, l = l.filter (fun y => lt y x) ++ l.filter (fun y => !(lt y x))
  | [], _, _ => rfl
  | a :: r, h, x => by
    have h' := List.pairwise_cons.1 h
    cases e : lt a x with
    | true =>
      rw [List.filter_cons_of_pos (by simpa using e), List.filter_cons_of_neg (by simp [e]), List.cons_append, ← rk_split hL h'.2 x]
    | false =>
      have hn : r.filter (fun y => lt y x) = [] := List.filter_eq_nil_iff.2 (fun y hy k => by
        have := hL.tr a y x (h'.1 y hy) k
        rw [e] at this
        cases this)
      have ha : r.filter (fun y => !(lt y x)) = r := by
        have := rk_split hL h'.2 x
        rw [hn, List.nil_append] at this
        exact this.symm
      rw [List.filter_cons_of_neg (by simp [e]), hn, List.filter_cons_of_pos (by simp [e]), ha, List.nil_append]

theorem rk_take {α : Type} {lt : α → α → Bool} {f : α → Dt} (hL : Lin lt f) {l : List α} (h : Srt lt l) (x : α) : l.take (rkL lt l x) = l.filter (fun y => lt y x) := by
  have e := congrArg (List.take (rkL lt l x)) (rk_split hL h x)
  rw [List.take_left' (by rfl)] at e
  exact e

theorem rk_drop {α : Type} {lt : α → α → Bool} {f : α → Dt} (hL : Lin lt f) {l : List α} (h : Srt lt l) (x : α) : l.drop (rkL lt l x) = l.filter (fun y => !(lt y x)) := by
  have e := congrArg (List.drop (rkL lt l x)) (rk_split hL h x)
  rw [List.drop_left' (by rfl)] at e
  exact e

/-- The first so many come ahead, the others don't. -/
theorem rk_lt {α : Type} {lt : α → α → Bool} {f : α → Dt} (hL : Lin lt f) {l : List α} (h : Srt lt l) (x : α) {i : Nat} {y : α} (hi : l[i]? = some y) : lt y x = decide (i < rkL lt l x) := by
  have hil := (List.getElem?_eq_some_iff.1 hi).1
  by_cases hr : i < rkL lt l x
  · rw [decide_eq_true hr]
    have : y ∈ l.take (rkL lt l x) := List.mem_of_getElem? (i := i) (by rw [List.getElem?_take, if_pos hr]; exact hi)
    rw [rk_take hL h] at this
    exact (List.mem_filter.1 this).2
  · rw [decide_eq_false hr]
    have : y ∈ l.drop (rkL lt l x) := List.mem_of_getElem? (i := i - rkL lt l x) (by rw [List.getElem?_drop, show rkL lt l x + (i - rkL lt l x) = i by omega]; exact hi)
    rw [rk_drop hL h] at this
    have := (List.mem_filter.1 this).2
    simpa using this

/-- With one more. -/
def insL {α : Type} (lt : α → α → Bool) (l : List α) (x : α) : List α := l.take (rkL lt l x) ++ x :: l.drop (rkL lt l x)

theorem ins_perm {α : Type} (lt : α → α → Bool) (l : List α) (x : α) : (insL lt l x).Perm (x :: l) := by
  unfold insL
  refine List.perm_middle.trans ?_
  rw [List.take_append_drop]

theorem ins_srt {α : Type} {lt : α → α → Bool} {f : α → Dt} (hL : Lin lt f) {l : List α} (h : Srt lt l) {x : α} (hf : ∀ y ∈ l, f y ≠ f x) : Srt lt (insL lt l x) := by
  unfold insL
  rw [rk_take hL h, rk_drop hL h]
  refine List.pairwise_append.2 ⟨h.sublist List.filter_sublist, List.pairwise_cons.2 ⟨fun y hy => ?_, h.sublist List.filter_sublist⟩, fun a ha b hb => ?_⟩
  · obtain ⟨h1, h2⟩ := List.mem_filter.1 hy
    exact hL.tot y x (hf y h1) (by simpa using h2)
  · obtain ⟨h1, h2⟩ := List.mem_filter.1 ha
    rcases List.mem_cons.1 hb with rfl | hb
    · exact h2
    · obtain ⟨h3, h4⟩ := List.mem_filter.1 hb
      have := hL.tot b x (hf b h3) (by simpa using h4)
      exact hL.tr a x b h2 this

/-- One that is there lies where it comes. -/
theorem rk_at {α : Type} {lt : α → α → Bool} {f : α → Dt} (hL : Lin lt f) {l : List α} (h : Srt lt l) {x : α} (hx : x ∈ l) : l[rkL lt l x]? = some x := by
  obtain ⟨i, hi⟩ := List.mem_iff_getElem?.1 hx
  have hil := (List.getElem?_eq_some_iff.1 hi).1
  have h1 : ¬ i < rkL lt l x := fun hlt => by
    have := rk_lt hL h x hi
    rw [hL.irr, decide_eq_true hlt] at this
    cases this
  rcases Nat.lt_or_ge (rkL lt l x) i with h2 | h2
  · exfalso
    have hrl : rkL lt l x < l.length := by omega
    have h3 := rk_lt hL h x (List.getElem?_eq_getElem hrl)
    rw [decide_eq_false (by omega)] at h3
    have h4 := List.pairwise_iff_getElem.1 h (rkL lt l x) i hrl hil h2
    rw [(List.getElem?_eq_some_iff.1 hi).2, h3] at h4
    cases h4
  · have : i = rkL lt l x := by omega
    rw [← this]
    exact hi

/-- With one less. -/
theorem del_srt {α : Type} {lt : α → α → Bool} {f : α → Dt} (hL : Lin lt f) {l : List α} (h : Srt lt l) (k : Nat) : Srt lt (l.take k ++ l.drop (k + 1)) := by
  rw [← List.eraseIdx_eq_take_drop_succ]
  exact h.sublist (List.eraseIdx_sublist l k)

theorem del_mem {α : Type} {lt : α → α → Bool} {f : α → Dt} (hL : Lin lt f) {l : List α} (h : Srt lt l) (hn : (l.map f).Nodup) {x : α} (hx : x ∈ l) (y : α) : y ∈ l.take (rkL lt l x) ++ l.drop (rkL lt l x + 1) ↔ y ∈ l ∧ f y ≠ f x := by
  have hat := rk_at hL h hx
  have hl := (List.getElem?_eq_some_iff.1 hat).1
  have e : l = l.take (rkL lt l x) ++ x :: l.drop (rkL lt l x + 1) := by
    have e0 : x = l[rkL lt l x]'hl := (List.getElem?_eq_some_iff.1 hat).2.symm
    have e1 : x :: l.drop (rkL lt l x + 1) = l.drop (rkL lt l x) := by
      rw [List.drop_eq_getElem_cons hl, ← e0]
    rw [e1, List.take_append_drop]
  have hn2 := hn
  rw [e, List.map_append, List.map_cons, List.nodup_append] at hn2
  obtain ⟨n1, n2, n3⟩ := hn2
  have n4 := List.nodup_cons.1 n2
  constructor
  · intro hy
    rcases List.mem_append.1 hy with hy | hy
    · exact ⟨List.mem_of_mem_take hy, fun e' => n3 _ (List.mem_map.2 ⟨y, hy, rfl⟩) (f x) (by simp) e'⟩
    · exact ⟨List.mem_of_mem_drop hy, fun e' => n4.1 (List.mem_map.2 ⟨y, hy, e'⟩)⟩
  · rintro ⟨hy, hne⟩
    rw [e] at hy
    rcases List.mem_append.1 hy with hy | hy
    · exact List.mem_append_left _ hy
    · rcases List.mem_cons.1 hy with rfl | hy
      · exact absurd rfl hne
      · exact List.mem_append_right _ hy

/-- A row put in order. -/
def srtL {α : Type} (lt : α → α → Bool) (l : List α) : List α := l.foldl (insL lt) []

theorem fold_srt {α : Type} {lt : α → α → Bool} {f : α → Dt} (hL : Lin lt f) : ∀ (l out : List α), Srt lt out → ((out ++ l).map f).Nodup → Srt lt (l.foldl (insL lt) out) ∧ (l.foldl (insL lt) out).Perm (out ++ l)
  | [], out, h, _ => ⟨h, by simp⟩
  | x :: l, out, h, hn => by
    have hf : ∀ y ∈ out, f y ≠ f x := fun y hy e => by
      rw [List.map_append, List.nodup_append] at hn
      exact hn.2.2 _ (List.mem_map.2 ⟨y, hy, rfl⟩) (f x) (by simp) e
    have hp : ((insL lt out x) ++ l).Perm (out ++ x :: l) := ((ins_perm lt out x).append_right l).trans (by simpa using (List.perm_middle (a := x) (l₁ := out) (l₂ := l)).symm)
    obtain ⟨h1, h2⟩ := fold_srt hL l (insL lt out x) (ins_srt hL h hf) ((hp.map f).nodup_iff.2 hn)
    exact ⟨h1, h2.trans hp⟩

theorem srtL_srt {α : Type} {lt : α → α → Bool} {f : α → Dt} (hL : Lin lt f) {l : List α} (hn : (l.map f).Nodup) : Srt lt (srtL lt l) := (fold_srt hL l [] List.Pairwise.nil (by simpa using hn)).1
theorem srtL_perm {α : Type} {lt : α → α → Bool} {f : α → Dt} (hL : Lin lt f) {l : List α} (hn : (l.map f).Nodup) : (srtL lt l).Perm l := by
  have := (fold_srt hL l [] List.Pairwise.nil (by simpa using hn)).2
  rw [List.nil_append] at this
  exact this

theorem srtL_of {α : Type} {lt : α → α → Bool} {f : α → Dt} (hL : Lin lt f) {l m : List α} (hn : (l.map f).Nodup) (hm : Srt lt m) (h : ∀ x, x ∈ m ↔ x ∈ l) : m = srtL lt l :=
  srt_ext hL hm (srtL_srt hL hn) (fun x => (h x).trans (srtL_perm hL hn).mem_iff.symm)
end

section

abbrev Bys := List UInt8

/-- Which row of bytes comes ahead, as the language says. -/
abbrev bl (a b : Bys) : Bool := Op.bytesLess a b

theorem bl_nil (a : Bys) : bl a [] = false := by cases a <;> rfl
theorem bl_cons (x y : UInt8) (a b : Bys) : bl (x :: a) (y :: b) = (decide (x < y) || (x == y && bl a b)) := by
  show Op.bytesLess (x :: a) (y :: b) = _
  simp [Op.bytesLess]
theorem bl_less {x y : UInt8} (h : x.toNat < y.toNat) (a b : Bys) : bl (x :: a) (y :: b) = true := by
  rw [bl_cons, decide_eq_true (UInt8.lt_iff_toNat_lt.2 h)]; rfl
theorem bl_same {x y : UInt8} (h : x.toNat = y.toNat) (a b : Bys) : bl (x :: a) (y :: b) = bl a b := by
  obtain rfl := UInt8.toNat_inj.1 h
  rw [bl_cons, decide_eq_false (by rw [UInt8.lt_iff_toNat_lt]; omega)]; simp
theorem bl_more {x y : UInt8} (h : y.toNat < x.toNat) (a b : Bys) : bl (x :: a) (y :: b) = false := by
  have hne : x ≠ y := fun e => by subst e; omega
  rw [bl_cons, decide_eq_false (by rw [UInt8.lt_iff_toNat_lt]; omega)]; simp [hne]

theorem bl_irrefl (a : Bys) : bl a a = false := by
  induction a with
  | nil => rfl
  | cons x a ih => rw [bl_same rfl]; exact ih

theorem bl_trans {a b c : Bys} (h : bl a b = true) (k : bl b c = true) : bl a c = true := by
  induction a generalizing b c with
  | nil =>
    cases c with
    | nil => rw [bl_nil] at k; cases k
    | cons => rfl
  | cons x a ih =>
    cases b with
    | nil => rw [bl_nil] at h; cases h
    | cons y b =>
      cases c with
      | nil => rw [bl_nil] at k; cases k
      | cons z c =>
        rcases Nat.lt_trichotomy x.toNat y.toNat with h1 | h1 | h1
        · rcases Nat.lt_trichotomy y.toNat z.toNat with k1 | k1 | k1
          · exact bl_less (by omega) _ _
          · exact bl_less (by omega) _ _
          · rw [bl_more k1] at k; cases k
        · rw [bl_same h1] at h
          rcases Nat.lt_trichotomy y.toNat z.toNat with k1 | k1 | k1
          · exact bl_less (by omega) _ _
          · rw [bl_same k1] at k
            rw [bl_same (by omega)]
            exact ih h k
          · rw [bl_more k1] at k; cases k
        · rw [bl_more h1] at h; cases h

/-- Of two unlike rows one comes ahead. -/
theorem bl_total {a b : Bys} (h : bl a b = false) (hne : a ≠ b) : bl b a = true := by
  induction a generalizing b with
  | nil =>
    cases b with
    | nil => exact absurd rfl hne
    | cons => cases h
  | cons x a ih =>
    cases b with
    | nil => rfl
    | cons y b =>
      rcases Nat.lt_trichotomy x.toNat y.toNat with h1 | h1 | h1
      · rw [bl_less h1] at h; cases h
      · rw [bl_same h1] at h
        rw [bl_same h1.symm]
        exact ih h (fun e => hne (by rw [e, UInt8.toNat_inj.1 h1]))
      · exact bl_less h1 _ _
end

section
set_option linter.unusedVariables false

/-- Is a move done ahead of another one? -/
def mvl (a b : Mv) : Bool := decide (a.time < b.time) || (decide (a.time = b.time) && dl a.id b.id)

theorem mvl_iff (a b : Mv) : mvl a b = true ↔ a.time < b.time ∨ (a.time = b.time ∧ dl a.id b.id = true) := by simp [mvl]

theorem mvl_lin : Lin mvl Mv.id := by
  refine ⟨fun a => ?_, fun a b c h k => ?_, fun a b h k => ?_⟩
  · cases e : mvl a a with
    | false => rfl
    | true =>
      rcases (mvl_iff a a).1 e with h | ⟨_, h⟩
      · omega
      · rw [dl_irrefl] at h; cases h
  · rw [mvl_iff] at h k ⊢
    rcases h with h | ⟨h1, h2⟩
    · rcases k with k | ⟨k1, k2⟩
      · exact Or.inl (by omega)
      · exact Or.inl (by omega)
    · rcases k with k | ⟨k1, k2⟩
      · exact Or.inl (by omega)
      · exact Or.inr ⟨by omega, dl_trans h2 k2⟩
  · have k' : ¬ (a.time < b.time ∨ (a.time = b.time ∧ dl a.id b.id = true)) := fun e => by rw [(mvl_iff a b).2 e] at k; cases k
    rw [mvl_iff]
    rcases Int.lt_trichotomy a.time b.time with h1 | h1 | h1
    · exact absurd (Or.inl h1) k'
    · refine Or.inr ⟨h1.symm, dl_total h ?_⟩
      cases e : dl a.id b.id with
      | false => rfl
      | true => exact absurd (Or.inr ⟨h1, e⟩) k'
    · exact Or.inl h1

/-- A key's bytes. -/
def kb (k : ByteArray) : Bys := k.toList

/-- Does a block come ahead of another one under the same parent? -/
def kdl (a b : Sp) : Bool := bl (kb a.k) (kb b.k) || (decide (kb a.k = kb b.k) && dl a.b b.b)

theorem kdl_iff (a b : Sp) : kdl a b = true ↔ bl (kb a.k) (kb b.k) = true ∨ (kb a.k = kb b.k ∧ dl a.b b.b = true) := by
  unfold kdl
  rw [Bool.or_eq_true, Bool.and_eq_true, decide_eq_true_eq]

theorem kdl_lin : Lin kdl Sp.b := by
  refine ⟨fun a => ?_, fun a b c h k => ?_, fun a b h k => ?_⟩
  · cases e : kdl a a with
    | false => rfl
    | true =>
      rcases (kdl_iff a a).1 e with h | ⟨_, h⟩
      · rw [bl_irrefl] at h; cases h
      · rw [dl_irrefl] at h; cases h
  · rw [kdl_iff] at h k ⊢
    rcases h with h | ⟨h1, h2⟩
    · rcases k with k | ⟨k1, k2⟩
      · exact Or.inl (bl_trans h k)
      · rw [k1] at h; exact Or.inl h
    · rcases k with k | ⟨k1, k2⟩
      · rw [h1]; exact Or.inl k
      · exact Or.inr ⟨h1.trans k1, dl_trans h2 k2⟩
  · have k' : ¬ (bl (kb a.k) (kb b.k) = true ∨ (kb a.k = kb b.k ∧ dl a.b b.b = true)) := fun e => by rw [(kdl_iff a b).2 e] at k; cases k
    rw [kdl_iff]
    by_cases e : kb a.k = kb b.k
    · refine Or.inr ⟨e.symm, dl_total h ?_⟩
      cases e2 : dl a.b b.b with
      | false => rfl
      | true => exact absurd (Or.inr ⟨e, e2⟩) k'
    · refine Or.inl (bl_total ?_ e)
      cases e2 : bl (kb a.k) (kb b.k) with
      | false => rfl
      | true => exact absurd (Or.inl e2) k'

/-- Those that lie under one. -/
def undr (S : List Sp) (p : Dt) : List Sp := S.filter (fun s => decide (s.p = p))

theorem undr_mem {S : List Sp} {p : Dt} {s : Sp} : s ∈ undr S p ↔ s ∈ S ∧ s.p = p := by
  unfold undr
  rw [List.mem_filter, decide_eq_true_eq]

theorem undr_nodup {S : List Sp} (h : (S.map Sp.b).Nodup) (p : Dt) : ((undr S p).map Sp.b).Nodup := (List.Sublist.map Sp.b List.filter_sublist).nodup h

/-- In their order. -/
def kidS (S : List Sp) (p : Dt) : List Sp := srtL kdl (undr S p)

theorem kidS_srt {S : List Sp} (h : (S.map Sp.b).Nodup) (p : Dt) : Srt kdl (kidS S p) := srtL_srt kdl_lin (undr_nodup h p)
theorem kidS_mem {S : List Sp} (h : (S.map Sp.b).Nodup) {p : Dt} {s : Sp} : s ∈ kidS S p ↔ s ∈ S ∧ s.p = p := ((srtL_perm kdl_lin (undr_nodup h p)).mem_iff).trans undr_mem
theorem kidS_nodup {S : List Sp} (h : (S.map Sp.b).Nodup) (p : Dt) : ((kidS S p).map Sp.b).Nodup := ((srtL_perm kdl_lin (undr_nodup h p)).map _).nodup_iff.2 (undr_nodup h p)
theorem kidS_len {S : List Sp} (h : (S.map Sp.b).Nodup) (p : Dt) : (kidS S p).length ≤ S.length := by
  unfold kidS
  rw [(srtL_perm kdl_lin (undr_nodup h p)).length_eq]
  exact List.length_filter_le _ _

theorem kidS_of {S : List Sp} (h : (S.map Sp.b).Nodup) {p : Dt} {m : List Sp} (hm : Srt kdl m) (he : ∀ x, x ∈ m ↔ x ∈ S ∧ x.p = p) : kidS S p = m :=
  (srtL_of kdl_lin (undr_nodup h p) hm (fun x => (he x).trans undr_mem.symm)).symm

theorem kidS_perm {S S' : List Sp} (h : (S.map Sp.b).Nodup) (hp : S.Perm S') (p : Dt) : kidS S p = kidS S' p :=
  kidS_of h (kidS_srt ((hp.map _).nodup_iff.1 h) p) (fun x => by rw [kidS_mem ((hp.map _).nodup_iff.1 h), hp.mem_iff])

/-- A block that isn't there is laid. -/
theorem kidS_lay {S : List Sp} {s : Sp} (h : ((S ++ [s]).map Sp.b).Nodup) : kidS (S ++ [s]) s.p = insL kdl (kidS S s.p) s := by
  have h1 : (S.map Sp.b).Nodup := by rw [List.map_append, List.nodup_append] at h; exact h.1
  have hf : ∀ y ∈ S, y.b ≠ s.b := fun y hy e => by
    rw [List.map_append, List.nodup_append] at h
    exact h.2.2 _ (List.mem_map.2 ⟨y, hy, rfl⟩) s.b (by simp) e
  refine kidS_of h (ins_srt kdl_lin (kidS_srt h1 s.p) (fun y hy => hf y ((kidS_mem h1).1 hy).1)) (fun x => ?_)
  rw [(ins_perm kdl _ s).mem_iff, List.mem_cons, kidS_mem h1, List.mem_append, List.mem_singleton]
  constructor
  · rintro (rfl | ⟨h2, h3⟩)
    · exact ⟨Or.inr rfl, rfl⟩
    · exact ⟨Or.inl h2, h3⟩
  · rintro ⟨h2 | h2, h3⟩
    · exact Or.inr ⟨h2, h3⟩
    · exact Or.inl h2

theorem kidS_lay_else {S : List Sp} {s : Sp} (h : ((S ++ [s]).map Sp.b).Nodup) {p : Dt} (hp : p ≠ s.p) : kidS (S ++ [s]) p = kidS S p := by
  have h1 : (S.map Sp.b).Nodup := by rw [List.map_append, List.nodup_append] at h; exact h.1
  refine kidS_of h (kidS_srt h1 p) (fun x => ?_)
  rw [kidS_mem h1, List.mem_append, List.mem_singleton]
  constructor
  · rintro ⟨h2, h3⟩; exact ⟨Or.inl h2, h3⟩
  · rintro ⟨h2 | rfl, h3⟩
    · exact ⟨h2, h3⟩
    · exact absurd h3.symm hp

theorem lift_nodup {S : List Sp} (h : (S.map Sp.b).Nodup) (b : Dt) : ((lift S b).map Sp.b).Nodup := (List.Sublist.map Sp.b List.filter_sublist).nodup h
theorem lift_mem {S : List Sp} {b : Dt} {x : Sp} : x ∈ lift S b ↔ x ∈ S ∧ x.b ≠ b := by
  unfold lift
  rw [List.mem_filter, decide_eq_true_eq]
theorem lift_lk {S : List Sp} (h : (S.map Sp.b).Nodup) (b d : Dt) : lk (lift S b) d = if d = b then none else lk S d := by
  split
  · rename_i e
    subst e
    exact lk_none.2 (fun x hx => (lift_mem.1 hx).2)
  · rename_i e
    cases hd : lk S d with
    | none => exact lk_none.2 (fun x hx => lk_none.1 hd x (lift_mem.1 hx).1)
    | some q =>
      obtain ⟨x, hx, rfl, rfl⟩ := lk_some hd
      exact lk_mem (lift_nodup h b) (lift_mem.2 ⟨hx, e⟩)

/-- A block that is there is taken away. -/
theorem kidS_lift {S : List Sp} (h : (S.map Sp.b).Nodup) {s : Sp} (hs : s ∈ S) : kidS (lift S s.b) s.p = (kidS S s.p).take (rkL kdl (kidS S s.p) s) ++ (kidS S s.p).drop (rkL kdl (kidS S s.p) s + 1) := by
  refine kidS_of (lift_nodup h _) (del_srt kdl_lin (kidS_srt h s.p) _) (fun x => ?_)
  rw [del_mem kdl_lin (kidS_srt h s.p) (kidS_nodup h s.p) ((kidS_mem h).2 ⟨hs, rfl⟩), kidS_mem h, lift_mem]
  constructor
  · rintro ⟨⟨h1, h2⟩, h3⟩; exact ⟨⟨h1, h3⟩, h2⟩
  · rintro ⟨⟨h1, h3⟩, h2⟩; exact ⟨⟨h1, h2⟩, h3⟩

theorem kidS_lift_else {S : List Sp} (h : (S.map Sp.b).Nodup) {s : Sp} (hs : s ∈ S) {p : Dt} (hp : p ≠ s.p) : kidS (lift S s.b) p = kidS S p := by
  refine kidS_of (lift_nodup h _) (kidS_srt h p) (fun x => ?_)
  rw [kidS_mem h, lift_mem]
  constructor
  · rintro ⟨h1, h2⟩
    exact ⟨⟨h1, fun e => hp (by have := sp_one h h1 hs e; subst this; exact h2.symm)⟩, h2⟩
  · rintro ⟨⟨h1, _⟩, h2⟩; exact ⟨h1, h2⟩

/-- Moves in their order, each once. -/
structure Lg (l : List Mv) : Prop where
  srt : Srt mvl l
  ids : (l.map Mv.id).Nodup
  may : Mvs l
  nz : ∀ m ∈ l, m.id ≠ (0, 0) ∧ ¬ isEnd m.id

theorem Lg.nil : Lg [] := ⟨List.Pairwise.nil, List.nodup_nil, by intro m hm; simp at hm, by simp⟩

/-- One more. -/
theorem Lg.ins {l : List Mv} (h : Lg l) {m : Mv} (hf : ∀ x ∈ l, x.id ≠ m.id) (hz : m.block ≠ (0, 0) ∧ ¬ isEnd m.block) (hi : m.id ≠ (0, 0) ∧ ¬ isEnd m.id) : Lg (insL mvl l m) := by
  have hp := ins_perm mvl l m
  refine ⟨ins_srt mvl_lin h.srt hf, (hp.map _).nodup_iff.2 ?_, fun x hx => ?_, fun x hx => ?_⟩
  · rw [List.map_cons, List.nodup_cons]
    exact ⟨fun hm => by obtain ⟨x, hx, e⟩ := List.mem_map.1 hm; exact hf x hx e, h.ids⟩
  · rcases List.mem_cons.1 (hp.mem_iff.1 hx) with rfl | hx
    · exact hz
    · exact h.may x hx
  · rcases List.mem_cons.1 (hp.mem_iff.1 hx) with rfl | hx
    · exact hi
    · exact h.nz x hx

/-- The same moves, in whatever order they came: the same log. -/
theorem Lg.one {l l' : List Mv} (h : Lg l) (h' : Lg l') (he : ∀ m, m ∈ l ↔ m ∈ l') : l = l' := srt_ext mvl_lin h.srt h'.srt he
end

section
set_option linter.unusedVariables false
open Go.RowKit Go.Sort Go.Maps

/-- A place. -/
def plv (q : Pl) : Value := .agg #[.int .i64 q.1.1, .int .i64 q.1.2, .string q.2]
def pl0 : Pl := ((0, 0), ⟨#[]⟩)
/-- How such a one reads, as an element of a map. -/
def pld (q : Pl) : DataW Unit := .agg [.lit (.int .i64 q.1.1), .lit (.int .i64 q.1.2), .lit (.string q.2.data.toList)]
def plR (v : Value) : Option (DataW Unit × List MemPlace) :=
  match v with
  | .agg ⟨[.int .i64 a, .int .i64 b, .string s]⟩ => some (pld ((a, b), s), [])
  | _ => none

theorem plR_mk (q : Pl) : plR (plv q) = some (pld q, []) := rfl

theorem pld_inj {q q' : Pl} (h : pld q = pld q') : q = q' := by
  obtain ⟨⟨a, b⟩, s⟩ := q
  obtain ⟨⟨a', b'⟩, s'⟩ := q'
  obtain ⟨⟨l⟩⟩ := s
  obtain ⟨⟨l'⟩⟩ := s'
  simp [pld] at h
  simp [h]

theorem plR_inv {v : Value} {q : Pl} {ps : List MemPlace} (h : plR v = some (pld q, ps)) : v = plv q := by
  unfold plR at h
  split at h
  · rename_i a b s
    have h1 : pld ((a, b), s) = pld q := by simpa using congrArg Prod.fst (Option.some.inj h)
    rw [← pld_inj h1]
    rfl
  · cases h

/-- Block m is the map of these places. -/
def PLM (w : World) (m : Nat) (S : List Sp) : Prop := ∃ D : DataW Unit, w.ownsMap Tryz.prog 24 plR m S.length D ∧ ∀ d, Dw d → Maps.has D (kl d) = (lk S d).isSome ∧ D.atKey (kl d) (pld pl0) = pld ((lk S d).getD pl0)

theorem zeroPl (w : World) : (zeroValue 113).run Tryz.prog w = .ok (plv pl0) w := Tryz.zeroValue113 w

theorem PLM.made (w : World) : PLM (w.alloc (.map #[] 0)) w.heap.size [] := ⟨_, World.ownsMap_made _ _ _ _, fun _ _ => ⟨rfl, rfl⟩⟩

theorem PLM.lt {w : World} {m : Nat} {S : List Sp} (h : PLM w m S) : m < w.heap.size := by
  obtain ⟨D, ho, _⟩ := h
  exact ho.lt

theorem PLM.same {w w' : World} {m : Nat} {S : List Sp} (h : PLM w m S) (hs : w'.heap[m]? = w.heap[m]?) : PLM w' m S := by
  obtain ⟨D, ⟨es, clock, h1, h2⟩, hT⟩ := h
  exact ⟨D, ⟨es, clock, by rw [hs]; exact h1, h2⟩, hT⟩

theorem PLM.perm {w : World} {m : Nat} {S S' : List Sp} (h : PLM w m S) (hn : (S.map Sp.b).Nodup) (hp : S.Perm S') : PLM w m S' := by
  obtain ⟨D, ho, hT⟩ := h
  exact ⟨D, by rw [← hp.length_eq]; exact ho, fun d hd => by rw [← lk_perm hn hp]; exact hT d hd⟩

theorem PLM.look {w : World} {m : Nat} {S : List Sp} (h : PLM w m S) {d : Dt} (hd : Dw d) : (Instr.lookup 111 (.map (some m)) (dv d) false).run Tryz.prog w = .ok (plv ((lk S d).getD pl0)) w := by
  obtain ⟨D, ho, hT⟩ := h
  obtain ⟨v, ps, hr, hv⟩ := ho.lookup law Tryz.underlying111 (zeroPl w) (plR_mk pl0) (keyOf_dot hd)
  rw [(hT d hd).2] at hv
  rw [hr, plR_inv hv]

theorem PLM.lookOk {w : World} {m : Nat} {S : List Sp} (h : PLM w m S) {d : Dt} (hd : Dw d) : (Instr.lookup 111 (.map (some m)) (dv d) true).run Tryz.prog w = .ok (.tuple #[plv ((lk S d).getD pl0), .bool (lk S d).isSome]) w := by
  obtain ⟨D, ho, hT⟩ := h
  obtain ⟨v, ps, hr, hv⟩ := ho.look_ok law Tryz.underlying111 (zeroPl w) (plR_mk pl0) (keyOf_dot hd)
  rw [(hT d hd).2] at hv
  rw [hr, plR_inv hv, (hT d hd).1]

theorem pl_nil (w : World) {d : Dt} (hd : Dw d) : (Instr.lookup 111 (.map none) (dv d) false).run Tryz.prog w = .ok (plv pl0) w := by
  have := Maps.look_nil (w := w) false law Tryz.underlying111 (zeroPl w) (keyOf_dot hd)
  simpa using this
theorem pl_nilOk (w : World) {d : Dt} (hd : Dw d) : (Instr.lookup 111 (.map none) (dv d) true).run Tryz.prog w = .ok (.tuple #[plv pl0, .bool false]) w := by
  have := Maps.look_nil (w := w) true law Tryz.underlying111 (zeroPl w) (keyOf_dot hd)
  simpa using this

theorem lk_snoc {S : List Sp} {s : Sp} (h : lk S s.b = none) (d : Dt) : lk (S ++ [s]) d = if d = s.b then some (s.p, s.k) else lk S d := by
  unfold lk at h ⊢
  rw [List.find?_append]
  split
  · rename_i e
    subst e
    rw [Option.map_eq_none_iff] at h
    rw [h]
    simp
  · rename_i e
    cases hd : S.find? (fun x => decide (x.b = d)) with
    | some x => rfl
    | none =>
      have : ¬ s.b = d := fun e' => e e'.symm
      simp [this]

/-- A block that isn't there is laid. -/
theorem PLM.lay {w : World} {m : Nat} {S : List Sp} (h : PLM w m S) {s : Sp} (hd : Dw s.b) (hno : lk S s.b = none) (hn : S.length < maxLen) : ∃ w', (Instr.mapUpdate 111 (.map (some m)) (dv s.b) (plv (s.p, s.k))).run Tryz.prog w = .ok () w' ∧ PLM w' m (S ++ [s]) ∧ w.grownBy w' (some m) := by
  obtain ⟨D, ho, hT⟩ := h
  obtain ⟨w', hr, ho', hg⟩ := ho.update law Tryz.underlying111 hn (keyOf_dot hd) (plR_mk (s.p, s.k))
  refine ⟨w', hr, ⟨_, by rw [List.length_append]; exact ho', fun e he => ?_⟩, hg⟩
  rw [lk_snoc hno]
  by_cases hea : e = s.b
  · subst hea
    simp only [if_true]
    exact ⟨by rw [has_put_same ho.isMap (kl_isKey _)]; rfl, atKey_put_same ho.isMap (kl_isKey _) _ _⟩
  · have hne : kl e ≠ kl s.b := fun h' => hea (kl_inj he hd h')
    simp only [hea, if_false]
    exact ⟨by rw [has_put_other hne]; exact (hT e he).1, by rw [atKey_put_other hne]; exact (hT e he).2⟩

theorem own_tight {w : World} {b n n' : Nat} {D : DataW Unit} {R : Value → Option (DataW Unit × List MemPlace)} (h : w.ownsMap Tryz.prog 24 R b n D) (hs : Maps.size D ≤ n') : w.ownsMap Tryz.prog 24 R b n' D := by
  obtain ⟨es, clock, h1, h2, h3, rfl⟩ := h
  refine ⟨es, clock, h1, h2, ?_, rfl⟩
  simpa [Maps.size, length_sorted] using hs

/-- A block that is there is taken away. -/
theorem PLM.lift {w : World} {m : Nat} {S : List Sp} (h : PLM w m S) (hn : (S.map Sp.b).Nodup) {s : Sp} (hs : s ∈ S) (hd : Dw s.b) (ty : TypeId) : ∃ w', (Builtin.delete_ #[111, 24] ty #[.map (some m), dv s.b]).run Tryz.prog w = .ok (.tuple #[]) w' ∧ PLM w' m (lift S s.b) ∧ w.mapTurned w' m := by
  obtain ⟨D, ho, hT⟩ := h
  obtain ⟨w', hr, ho', hg⟩ := ho.drop law Tryz.underlying111 (keyOf_dot hd) ty
  refine ⟨w', hr, ⟨_, own_tight ho' ?_, fun e he => ?_⟩, hg⟩
  · have h1 := (perm_lift hn hs).length_eq
    rw [List.length_append] at h1
    have h2 := ho.size_le
    have h3 : Maps.has D (kl s.b) = true := by rw [(hT _ hd).1, lk_mem hn hs]; rfl
    have h4 := size_del (k := kl s.b) (ho.tidy law)
    rw [h3] at h4
    simp at h1 h4
    omega
  · rw [lift_lk hn]
    by_cases hea : e = s.b
    · subst hea
      simp only [if_true]
      exact ⟨by rw [has_del_same]; rfl, atKey_del_same _⟩
    · have hne : kl e ≠ kl s.b := fun h' => hea (kl_inj he hd h')
      simp only [hea, if_false]
      exact ⟨by rw [has_del_other hne]; exact (hT e he).1, by rw [atKey_del_other hne]; exact (hT e he).2⟩
end

section
set_option linter.unusedVariables false
open Go.RowKit Go.Sort Go.Maps

/-- Where a row lies: its block, how many, its room; none: there is none. -/
def slv : Option (Nat × Nat × Nat) → Value
  | none => .slice none 0 0
  | some q => .slice (some ⟨q.1, 0, none⟩) q.2.1 q.2.2
def sld : Option (Nat × Nat × Nat) → DataW Unit
  | none => .lit (.int .i64 (-1))
  | some q => .agg [.lit (.int .i64 (q.1 : Int)), .lit (.int .i64 (q.2.1 : Int)), .lit (.int .i64 (q.2.2 : Int))]
/-- How such a one reads, as an element of a map. -/
def slR (v : Value) : Option (DataW Unit × List MemPlace) :=
  match v with
  | .slice none 0 0 => some (sld none, [])
  | .slice (some ⟨g, 0, none⟩) n c => some (sld (some (g, n, c)), [])
  | _ => none

theorem slR_mk (o : Option (Nat × Nat × Nat)) : slR (slv o) = some (sld o, []) := by cases o <;> rfl

theorem sld_inj {o p : Option (Nat × Nat × Nat)} (h : sld o = sld p) : o = p := by
  cases o with
  | none => cases p with
    | none => rfl
    | some q => simp [sld] at h
  | some q => cases p with
    | none => simp [sld] at h
    | some q' =>
      obtain ⟨a, b, c⟩ := q
      obtain ⟨a', b', c'⟩ := q'
      simp [sld] at h
      obtain ⟨h1, h2, h3⟩ := h
      have e1 : a = a' := by omega
      have e2 : b = b' := by omega
      have e3 : c = c' := by omega
      rw [e1, e2, e3]

theorem slR_inv {v : Value} {o : Option (Nat × Nat × Nat)} {ps : List MemPlace} (h : slR v = some (sld o, ps)) : v = slv o := by
  unfold slR at h
  split at h
  · have h1 : sld none = sld o := by simpa using congrArg Prod.fst (Option.some.inj h)
    rw [← sld_inj h1]; rfl
  · rename_i g n c
    have h1 : sld (some (g, n, c)) = sld o := by simpa using congrArg Prod.fst (Option.some.inj h)
    rw [← sld_inj h1]; rfl
  · cases h

/-- Block m is a map of at most n rows, that tells f. -/
def KM (w : World) (m n : Nat) (f : Dt → Option (Nat × Nat × Nat)) : Prop := ∃ D : DataW Unit, w.ownsMap Tryz.prog 24 slR m n D ∧ ∀ d, Dw d → Maps.has D (kl d) = (f d).isSome ∧ D.atKey (kl d) (sld none) = sld (f d)

theorem zeroSl (w : World) : (zeroValue 32).run Tryz.prog w = .ok (slv none) w := Tryz.zeroValue32 w

theorem KM.made (w : World) : KM (w.alloc (.map #[] 0)) w.heap.size 0 (fun _ => none) := ⟨_, World.ownsMap_made _ _ _ _, fun _ _ => ⟨rfl, rfl⟩⟩

theorem KM.lt {w : World} {m n : Nat} {f : Dt → Option (Nat × Nat × Nat)} (h : KM w m n f) : m < w.heap.size := by
  obtain ⟨D, ho, _⟩ := h
  exact ho.lt

theorem KM.same {w w' : World} {m n : Nat} {f : Dt → Option (Nat × Nat × Nat)} (h : KM w m n f) (hs : w'.heap[m]? = w.heap[m]?) : KM w' m n f := by
  obtain ⟨D, ⟨es, clock, h1, h2⟩, hT⟩ := h
  exact ⟨D, ⟨es, clock, by rw [hs]; exact h1, h2⟩, hT⟩

theorem KM.look {w : World} {m n : Nat} {f : Dt → Option (Nat × Nat × Nat)} (h : KM w m n f) {d : Dt} (hd : Dw d) : (Instr.lookup 114 (.map (some m)) (dv d) false).run Tryz.prog w = .ok (slv (f d)) w := by
  obtain ⟨D, ho, hT⟩ := h
  obtain ⟨v, ps, hr, hv⟩ := ho.lookup law Tryz.underlying114 (zeroSl w) (slR_mk none) (keyOf_dot hd)
  rw [(hT d hd).2] at hv
  rw [hr, slR_inv hv]

theorem sl_nil (w : World) {d : Dt} (hd : Dw d) : (Instr.lookup 114 (.map none) (dv d) false).run Tryz.prog w = .ok (slv none) w := by
  have := Maps.look_nil (w := w) false law Tryz.underlying114 (zeroSl w) (keyOf_dot hd)
  simpa using this

theorem KM.put {w : World} {m n : Nat} {f : Dt → Option (Nat × Nat × Nat)} (h : KM w m n f) {d : Dt} (hd : Dw d) (q : Nat × Nat × Nat) (hn : n < maxLen) : ∃ w', (Instr.mapUpdate 114 (.map (some m)) (dv d) (slv (some q))).run Tryz.prog w = .ok () w' ∧ KM w' m (n + 1) (fun e => if e = d then some q else f e) ∧ w.grownBy w' (some m) := by
  obtain ⟨D, ho, hT⟩ := h
  obtain ⟨w', hr, ho', hg⟩ := ho.update law Tryz.underlying114 hn (keyOf_dot hd) (slR_mk (some q))
  refine ⟨w', hr, ⟨_, ho', fun e he => ?_⟩, hg⟩
  by_cases hea : e = d
  · subst hea
    simp only [if_true]
    exact ⟨by rw [has_put_same ho.isMap (kl_isKey _)]; rfl, atKey_put_same ho.isMap (kl_isKey _) _ _⟩
  · have hne : kl e ≠ kl d := fun h' => hea (kl_inj he hd h')
    simp only [hea, if_false]
    exact ⟨by rw [has_put_other hne]; exact (hT e he).1, by rw [atKey_put_other hne]; exact (hT e he).2⟩

theorem KM.drop {w : World} {m n : Nat} {f : Dt → Option (Nat × Nat × Nat)} (h : KM w m n f) {d : Dt} (hd : Dw d) (ty : TypeId) : ∃ w', (Builtin.delete_ #[114, 24] ty #[.map (some m), dv d]).run Tryz.prog w = .ok (.tuple #[]) w' ∧ KM w' m n (fun e => if e = d then none else f e) ∧ w.mapTurned w' m := by
  obtain ⟨D, ho, hT⟩ := h
  obtain ⟨w', hr, ho', hg⟩ := ho.drop law Tryz.underlying114 (keyOf_dot hd) ty
  refine ⟨w', hr, ⟨_, ho', fun e he => ?_⟩, hg⟩
  by_cases hea : e = d
  · subst hea
    simp only [if_true]
    exact ⟨by rw [has_del_same]; rfl, atKey_del_same _⟩
  · have hne : kl e ≠ kl d := fun h' => hea (kl_inj he hd h')
    simp only [hea, if_false]
    exact ⟨by rw [has_del_other hne]; exact (hT e he).1, by rw [atKey_del_other hne]; exact (hT e he).2⟩

/-- No more room is asked for than there are rows. -/
theorem KM.tight {w : World} {m n : Nat} {f : Dt → Option (Nat × Nat × Nat)} (h : KM w m n f) {S : List Dt} (hm : ∀ d, Dw d → (f d).isSome = true → d ∈ S) : KM w m S.length f := by
  obtain ⟨D, hown, hT⟩ := h
  refine ⟨D, own_tight hown ?_, hT⟩
  obtain ⟨es, hD, hpw, _⟩ := hown.entries law
  obtain ⟨es', hD', hko⟩ := hown.keysOf
  obtain rfl : es = es' := by rw [hD] at hD'; simpa using hD'
  subst hD
  have hsub : ∀ x ∈ es.map Prod.fst, x ∈ S.map kl := fun x hx => by
    obtain ⟨p, hp, rfl⟩ := List.mem_map.1 hx
    obtain ⟨v, hv⟩ := hko p hp
    obtain ⟨d, _, hdw, hk⟩ := keyOf_dot_inv hv
    have hh : Maps.has (.map es) (kl d) = true := List.any_eq_true.2 ⟨p, hp, by rw [hk]; exact WideAt.sameKey_self (kl_isKey d)⟩
    rw [(hT d hdw).1] at hh
    exact List.mem_map.2 ⟨d, hm d hdw hh, hk.symm⟩
  have hnd : (es.map Prod.fst).Nodup := List.pairwise_map.2 hpw
  have := List.Nodup.length_le_of_subset hnd hsub
  simpa [Maps.size] using this
end

section
open Go.RowKit
open Go.Sort (grow)

/-- What a kind has, as a value. -/
abbrev pv (k : Int) : Value := .agg #[.bool (pat k), .bool (pch k), .bool (ppl k)]

theorem root_any (w : World) : Tells 12 #[] w (dv (0, -1)) := by
  go_enter Tryz.func12, Tryz.ntmps12
  go_wp2
  exact bodyPost_ret (v := dv (0, -1)) (by simp [results, Tryz.results12, go_sem]) rfl ⟨rfl, (Far.refl w).alloc _⟩

theorem trash_any (w : World) : Tells 13 #[] w (dv (0, -2)) := by
  go_enter Tryz.func13, Tryz.ntmps13
  go_wp2
  exact bodyPost_ret (v := dv (0, -2)) (by simp [results, Tryz.results13, go_sem]) rfl ⟨rfl, (Far.refl w).alloc _⟩
end
end Go.Proofs.YtnmdcdphpcpojaaGreatDoor
