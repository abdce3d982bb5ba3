/- The map of places by blocks. No function of the program. -/
import Derived.Test.YtplcohjpchfkkaaMKeys
import Derived.WalkKit
import Derived.Maps.OwnSet
import Derived.Sort.KeysCollected
namespace Go.Proofs.Ytplcohjpchfkkaa
section
set_option linter.unusedVariables false

/-- Where a block lies: under what, and its key. -/
structure Sp where
  b : Dt
  p : Dt
  k : ByteArray

/-- A move. -/
structure Mv where
  id : Dt
  time : Int
  block : Dt
  parent : Dt
  key : ByteArray

def Mv.sp (m : Mv) : Sp := ⟨m.block, m.parent, m.key⟩

abbrev Pl := Dt × ByteArray

/-- Where a block lies, if it is there. -/
def lk (S : List Sp) (b : Dt) : Option Pl := (S.find? (fun s => decide (s.b = b))).map (fun s => (s.p, s.k))

theorem lk_none {S : List Sp} {b : Dt} : lk S b = none ↔ ∀ s ∈ S, s.b ≠ b := by
  unfold lk
  rw [Option.map_eq_none_iff, List.find?_eq_none]
  constructor
  · intro h s hs e; exact h s hs (by simpa using e)
  · intro h s hs e; exact h s hs (by simpa using e)

theorem lk_some {S : List Sp} {b : Dt} {q : Pl} (h : lk S b = some q) : ∃ s ∈ S, s.b = b ∧ (s.p, s.k) = q := by
  unfold lk at h
  obtain ⟨s, hs, e⟩ := Option.map_eq_some_iff.1 h
  exact ⟨s, List.mem_of_find?_eq_some hs, by simpa using List.find?_some hs, e⟩

theorem sp_one {S : List Sp} (hn : (S.map Sp.b).Nodup) {s s' : Sp} (hs : s ∈ S) (hs' : s' ∈ S) (e : s.b = s'.b) : s = s' := by
  obtain ⟨i, hi⟩ := List.mem_iff_getElem?.1 hs
  obtain ⟨j, hj⟩ := List.mem_iff_getElem?.1 hs'
  have hil := (List.getElem?_eq_some_iff.1 hi).1
  have : i = j := by
    refine (List.getElem?_inj (l := S.map Sp.b) (by simpa using hil) hn).1 ?_
    rw [List.getElem?_map, List.getElem?_map, hi, hj]
    simp [e]
  subst this
  rw [hi] at hj
  cases hj
  rfl

theorem lk_mem {S : List Sp} (hn : (S.map Sp.b).Nodup) {s : Sp} (hs : s ∈ S) : lk S s.b = some (s.p, s.k) := by
  cases h : lk S s.b with
  | none => exact absurd rfl (lk_none.1 h s hs)
  | some q =>
    obtain ⟨s', hs', e, e2⟩ := lk_some h
    have := sp_one hn hs hs' e.symm
    subst this
    rw [e2]

theorem lk_perm {S S' : List Sp} (hn : (S.map Sp.b).Nodup) (hp : S.Perm S') (b : Dt) : lk S b = lk S' b := by
  have hn' : (S'.map Sp.b).Nodup := (hp.map _).nodup_iff.1 hn
  cases h : lk S b with
  | none => exact (lk_none.2 (fun s hs => lk_none.1 h s (hp.mem_iff.2 hs))).symm
  | some q =>
    obtain ⟨s, hs, rfl, rfl⟩ := lk_some h
    exact (lk_mem hn' (hp.mem_iff.1 hs)).symm

/-- The root, the trash. -/
def isEnd (d : Dt) : Prop := d = (0, -1) ∨ d = (0, -2)

/-- What is above a block, at most so many. -/
def up (σ : Dt → Option Pl) : Nat → Dt → List Dt
  | 0, _ => []
  | n + 1, b => match σ b with
    | none => []
    | some q => q.1 :: up σ n q.1

/-- The blocks that are passed on the way. -/
def dn (σ : Dt → Option Pl) : Nat → Dt → List Dt
  | 0, _ => []
  | n + 1, b => match σ b with
    | none => []
    | some q => b :: dn σ n q.1

theorem up_len (σ : Dt → Option Pl) : ∀ (n : Nat) (b : Dt), (up σ n b).length = (dn σ n b).length
  | 0, _ => rfl
  | n + 1, b => by
    unfold up dn
    cases h : σ b with
    | none => rfl
    | some q => simp only [List.length_cons, up_len σ n q.1]

/-- A tree: blocks once each, under the root, the trash or a block that is there; r: how deep. -/
structure Tk (S : List Sp) (r : Dt → Nat) : Prop where
  nd : (S.map Sp.b).Nodup
  nz : ∀ s ∈ S, s.b ≠ (0, 0) ∧ ¬ isEnd s.b
  par : ∀ s ∈ S, isEnd s.p ∨ ∃ s' ∈ S, s'.b = s.p
  rk : ∀ s ∈ S, r s.p < r s.b

theorem Tk.nil : Tk [] (fun _ => 0) := ⟨List.nodup_nil, by simp, by simp, by simp⟩

theorem Tk.perm {S S' : List Sp} {r : Dt → Nat} (h : Tk S r) (hp : S.Perm S') : Tk S' r :=
  ⟨(hp.map _).nodup_iff.1 h.nd, fun s hs => h.nz s (hp.mem_iff.2 hs), fun s hs => (h.par s (hp.mem_iff.2 hs)).imp id (fun ⟨s', h1, h2⟩ => ⟨s', hp.mem_iff.1 h1, h2⟩), fun s hs => h.rk s (hp.mem_iff.2 hs)⟩

theorem Tk.dn_mem {S : List Sp} {r : Dt → Nat} (h : Tk S r) : ∀ (n : Nat) (b : Dt), ∀ x ∈ dn (lk S) n b, x ∈ S.map Sp.b ∧ r x ≤ r b
  | 0, _, x, hx => by simp [dn] at hx
  | n + 1, b, x, hx => by
    unfold dn at hx
    cases e : lk S b with
    | none => rw [e] at hx; simp at hx
    | some q =>
      rw [e] at hx
      obtain ⟨s, hs, rfl, rfl⟩ := lk_some e
      rcases List.mem_cons.1 hx with rfl | hx
      · exact ⟨List.mem_map.2 ⟨s, hs, rfl⟩, Nat.le_refl _⟩
      · obtain ⟨h1, h2⟩ := h.dn_mem n s.p x hx
        have := h.rk s hs
        exact ⟨h1, by omega⟩

theorem Tk.dn_nodup {S : List Sp} {r : Dt → Nat} (h : Tk S r) : ∀ (n : Nat) (b : Dt), (dn (lk S) n b).Nodup
  | 0, _ => List.nodup_nil
  | n + 1, b => by
    unfold dn
    cases e : lk S b with
    | none => exact List.nodup_nil
    | some q =>
      obtain ⟨s, hs, rfl, rfl⟩ := lk_some e
      simp only [List.nodup_cons]
      refine ⟨fun hm => ?_, h.dn_nodup n s.p⟩
      have := (h.dn_mem n s.p s.b hm).2
      have := h.rk s hs
      omega

/-- No way up is longer than there are blocks. -/
theorem Tk.up_len {S : List Sp} {r : Dt → Nat} (h : Tk S r) (n : Nat) (b : Dt) : (up (lk S) n b).length ≤ S.length := by
  rw [Proofs.Ytplcohjpchfkkaa.up_len]
  have := List.Nodup.length_le_of_subset (h.dn_nodup n b) (fun x hx => (h.dn_mem n b x hx).1)
  simpa using this

/-- It ends: more steps tell no more. -/
theorem up_more (σ : Dt → Option Pl) : ∀ (n : Nat) (b : Dt), (up σ n b).length < n → ∀ m, n ≤ m → up σ m b = up σ n b
  | 0, b, h, m, hm => by omega
  | n + 1, b, h, 0, hm => by omega
  | n + 1, b, h, m + 1, hm => by
    unfold up at h ⊢
    cases e : σ b with
    | none => rfl
    | some q =>
      rw [e] at h
      simp only [List.length_cons] at h
      simp only [List.cons.injEq, true_and]
      exact up_more σ n q.1 (by omega) m (by omega)

/-- All that is above a block. -/
def pth (S : List Sp) (b : Dt) : List Dt := up (lk S) (S.length + 1) b

theorem Tk.pth_more {S : List Sp} {r : Dt → Nat} (h : Tk S r) (b : Dt) {m : Nat} (hm : S.length + 1 ≤ m) : up (lk S) m b = pth S b :=
  up_more _ _ _ (Nat.lt_succ_of_le (h.up_len _ _)) m hm

theorem Tk.pth_none {S : List Sp} {b : Dt} (h : lk S b = none) : pth S b = [] := by
  unfold pth up
  rw [h]

theorem Tk.pth_some {S : List Sp} {r : Dt → Nat} (h : Tk S r) {b : Dt} {q : Pl} (hq : lk S b = some q) : pth S b = q.1 :: pth S q.1 := by
  rw [← h.pth_more b (m := S.length + 1 + 1) (by omega)]
  show up (lk S) (S.length + 1 + 1) b = _
  unfold up
  rw [hq]
  rfl

theorem up_congr {σ τ : Dt → Option Pl} (h : ∀ b, σ b = τ b) : ∀ (n : Nat) (b : Dt), up σ n b = up τ n b
  | 0, _ => rfl
  | n + 1, b => by
    unfold up
    rw [h b]
    cases τ b with
    | none => rfl
    | some q => simp only [up_congr h n q.1]

theorem Tk.pth_perm {S S' : List Sp} {r : Dt → Nat} (h : Tk S r) (hp : S.Perm S') (b : Dt) : pth S b = pth S' b := by
  unfold pth
  rw [hp.length_eq]
  exact up_congr (lk_perm h.nd hp) _ _

/-- What is above is the root, the trash or there. -/
theorem Tk.pth_there {S : List Sp} {r : Dt → Nat} (h : Tk S r) : ∀ (n : Nat) (b : Dt), ∀ x ∈ up (lk S) n b, isEnd x ∨ ∃ s ∈ S, s.b = x
  | 0, _, x, hx => by simp [up] at hx
  | n + 1, b, x, hx => by
    unfold up at hx
    cases e : lk S b with
    | none => rw [e] at hx; simp at hx
    | some q =>
      rw [e] at hx
      obtain ⟨s, hs, rfl, rfl⟩ := lk_some e
      rcases List.mem_cons.1 hx with rfl | hx
      · exact h.par s hs
      · exact h.pth_there n s.p x hx

/-- Can blocks lie under it? -/
def holds (S : List Sp) (p : Dt) : Prop := isEnd p ∨ lk S p ≠ none

/-- Does a move take effect? -/
def takesP (S : List Sp) (m : Mv) : Prop := holds S m.parent ∧ (lk S m.block ≠ none ∨ m.block = m.id) ∧ m.block ≠ m.parent ∧ m.block ∉ pth S m.parent

/-- A block is laid somewhere, wherever it lay. -/
def put (S : List Sp) (s : Sp) : List Sp := S.filter (fun x => decide (x.b ≠ s.b)) ++ [s]

theorem put_mem {S : List Sp} {s x : Sp} : x ∈ put S s ↔ (x ∈ S ∧ x.b ≠ s.b) ∨ x = s := by
  unfold put
  rw [List.mem_append, List.mem_filter]
  simp

theorem put_nodup {S : List Sp} (hn : (S.map Sp.b).Nodup) (s : Sp) : ((put S s).map Sp.b).Nodup := by
  unfold put
  rw [List.map_append, List.nodup_append]
  refine ⟨(List.Sublist.map Sp.b List.filter_sublist).nodup hn, by simp, fun a ha b hb => ?_⟩
  obtain ⟨x, hx, rfl⟩ := List.mem_map.1 ha
  simp at hb
  subst hb
  have := (List.mem_filter.1 hx).2
  simpa using this

/-- What lies below a block, or is it, gets deeper. -/
theorem Tk.put {S : List Sp} {r : Dt → Nat} (h : Tk S r) {m : Mv} (hm : takesP S m) (hz : m.block ≠ (0, 0)) (he : ¬ isEnd m.block) : ∃ r', Tk (put S m.sp) r' := by
  obtain ⟨h1, h2, h3, h4⟩ := hm
  have hpth : ∀ x : Dt, (∃ s ∈ S, s.b = x) ∨ lk S x = none := fun x => by
    cases e : lk S x with
    | none => exact Or.inr rfl
    | some q => obtain ⟨s, hs, rfl, _⟩ := lk_some e; exact Or.inl ⟨s, hs, rfl⟩
  refine ⟨fun x => if x = m.block ∨ m.block ∈ pth S x then r x + r m.parent + 1 else r x, put_nodup h.nd _, fun s hs => ?_, fun s hs => ?_, fun s hs => ?_⟩
  · rcases put_mem.1 hs with ⟨hs, _⟩ | rfl
    · exact h.nz s hs
    · exact ⟨hz, he⟩
  · rcases put_mem.1 hs with ⟨hs, hne⟩ | rfl
    · rcases h.par s hs with e | ⟨s', hs', e⟩
      · exact Or.inl e
      · refine Or.inr ?_
        by_cases hb : s'.b = m.sp.b
        · exact ⟨m.sp, put_mem.2 (Or.inr rfl), hb.symm.trans e⟩
        · exact ⟨s', put_mem.2 (Or.inl ⟨hs', hb⟩), e⟩
    · rcases h1 with e | hl
      · exact Or.inl e
      · refine Or.inr ?_
        rcases hpth m.parent with ⟨s', hs', e⟩ | e
        · refine ⟨s', put_mem.2 (Or.inl ⟨hs', fun e2 => h3 ?_⟩), e⟩
          exact e2.symm.trans e
        · exact absurd e hl
  · rcases put_mem.1 hs with ⟨hs, hne⟩ | rfl
    · have hrk := h.rk s hs
      have hpp := h.pth_some (lk_mem h.nd hs)
      have hne' : ¬ s.b = m.block := hne
      by_cases hb : s.p = m.block ∨ m.block ∈ pth S s.p
      · rw [if_pos hb, if_pos (Or.inr (by rw [hpp]; rcases hb with e | e; exact List.mem_cons.2 (Or.inl e.symm); exact List.mem_cons_of_mem _ e))]
        omega
      · rw [if_neg hb, if_neg (fun e => by
          rcases e with e | e
          · exact hne' e
          · rw [hpp] at e
            rcases List.mem_cons.1 e with e | e
            · exact hb (Or.inl e.symm)
            · exact hb (Or.inr e))]
        exact hrk
    · have e1 : (if m.sp.p = m.block ∨ m.block ∈ pth S m.sp.p then r m.sp.p + r m.parent + 1 else r m.sp.p) = r m.parent := if_neg (fun e => by rcases e with e | e; exact h3 e.symm; exact h4 e)
      have e2 : (if m.sp.b = m.block ∨ m.block ∈ pth S m.sp.b then r m.sp.b + r m.parent + 1 else r m.sp.b) = r m.block + r m.parent + 1 := if_pos (Or.inl rfl)
      exact Nat.lt_of_le_of_lt (Nat.le_of_eq e1) (Nat.lt_of_lt_of_le (by omega) (Nat.le_of_eq e2.symm))

/-- Does a move take effect? As a Bool. -/
def takes (S : List Sp) (m : Mv) : Bool := (decide (m.parent = (0, -1)) || decide (m.parent = (0, -2)) || (lk S m.parent).isSome) && ((lk S m.block).isSome || decide (m.block = m.id)) && decide (m.block ≠ m.parent) && decide (m.block ∉ pth S m.parent)

theorem takes_iff {S : List Sp} {m : Mv} : takes S m = true ↔ takesP S m := by
  unfold takes takesP holds isEnd
  simp only [Bool.and_eq_true, Bool.or_eq_true, decide_eq_true_eq, Option.isSome_iff_ne_none]
  constructor
  · rintro ⟨⟨⟨h1, h2⟩, h3⟩, h4⟩; exact ⟨h1, h2, h3, h4⟩
  · rintro ⟨h1, h2, h3, h4⟩; exact ⟨⟨⟨h1, h2⟩, h3⟩, h4⟩

/-- A move is done. -/
def step (S : List Sp) (m : Mv) : List Sp := if takes S m then put S m.sp else S

/-- Moves are done one by one, from nothing. -/
def run (l : List Mv) : List Sp := l.foldl step []

theorem run_snoc (l : List Mv) (m : Mv) : run (l ++ [m]) = step (run l) m := by
  unfold run
  rw [List.foldl_append]
  rfl

/-- Moves that may be: of blocks that may be. -/
def Mvs (l : List Mv) : Prop := ∀ m ∈ l, m.block ≠ (0, 0) ∧ ¬ isEnd m.block

theorem Tk.step {S : List Sp} {r : Dt → Nat} (h : Tk S r) {m : Mv} (hz : m.block ≠ (0, 0)) (he : ¬ isEnd m.block) : ∃ r', Tk (step S m) r' := by
  unfold Proofs.Ytplcohjpchfkkaa.step
  split
  · rename_i ht
    exact h.put (takes_iff.1 ht) hz he
  · exact ⟨r, h⟩

theorem fold_tk : ∀ (l : List Mv) (S : List Sp) (r : Dt → Nat), Tk S r → Mvs l → ∃ r', Tk (l.foldl Proofs.Ytplcohjpchfkkaa.step S) r'
  | [], S, r, h, _ => ⟨r, h⟩
  | m :: l, S, r, h, hm => by
    obtain ⟨r1, h1⟩ := h.step (hm m (by simp)).1 (hm m (by simp)).2
    exact fold_tk l _ r1 h1 (fun x hx => hm x (List.mem_cons_of_mem _ hx))

theorem run_tk (l : List Mv) (h : Mvs l) : ∃ r, Tk (run l) r := fold_tk l [] _ Tk.nil h

theorem takes_perm {S S' : List Sp} {r : Dt → Nat} (h : Tk S r) (hp : S.Perm S') (m : Mv) : takes S m = takes S' m := by
  unfold takes
  rw [lk_perm h.nd hp, lk_perm h.nd hp, h.pth_perm hp]

theorem put_perm {S S' : List Sp} (hp : S.Perm S') (s : Sp) : (put S s).Perm (put S' s) := (hp.filter _).append_right _

theorem step_perm {S S' : List Sp} {r : Dt → Nat} (h : Tk S r) (hp : S.Perm S') (m : Mv) : (step S m).Perm (step S' m) := by
  unfold step
  rw [takes_perm h hp]
  split
  · exact put_perm hp _
  · exact hp

/-- A block is taken away. -/
def lift (S : List Sp) (b : Dt) : List Sp := S.filter (fun x => decide (x.b ≠ b))

/-- What was there ahead of a move is brought back. -/
def back (S : List Sp) (b : Dt) (was : Option Pl) : List Sp := match was with
  | none => lift S b
  | some q => lift S b ++ [⟨b, q.1, q.2⟩]

theorem lift_put (S : List Sp) (s : Sp) : lift (put S s) s.b = lift S s.b := by
  unfold lift put
  rw [List.filter_append, List.filter_filter]
  simp

theorem perm_lift {S : List Sp} (hn : (S.map Sp.b).Nodup) {s : Sp} (hs : s ∈ S) : S.Perm (lift S s.b ++ [s]) := by
  obtain ⟨A, B, rfl⟩ := List.append_of_mem hs
  have hA : ∀ x ∈ A, x.b ≠ s.b := fun x hx e => by
    rw [List.map_append, List.nodup_append] at hn
    exact hn.2.2 _ (List.mem_map.2 ⟨x, hx, rfl⟩) s.b (by simp) e
  have hB : ∀ x ∈ B, x.b ≠ s.b := fun x hx e => by
    rw [List.map_append, List.nodup_append] at hn
    have := hn.2.1
    rw [List.map_cons, List.nodup_cons] at this
    exact this.1 (List.mem_map.2 ⟨x, hx, e⟩)
  have e : lift (A ++ s :: B) s.b = A ++ B := by
    unfold lift
    rw [List.filter_append, List.filter_cons_of_neg (by simp), List.filter_eq_self.2 (fun x hx => by simpa using hA x hx), List.filter_eq_self.2 (fun x hx => by simpa using hB x hx)]
  rw [e]
  refine List.perm_middle.trans ?_
  exact (List.perm_append_singleton s (A ++ B)).symm

theorem lift_none {S : List Sp} {b : Dt} (h : lk S b = none) : lift S b = S := List.filter_eq_self.2 (fun x hx => by simpa using lk_none.1 h x hx)

/-- Undone is as it was. -/
theorem back_put {S : List Sp} (hn : (S.map Sp.b).Nodup) (s : Sp) : (back (put S s) s.b (lk S s.b)).Perm S := by
  unfold back
  cases e : lk S s.b with
  | none => simp only; rw [lift_put, lift_none e]
  | some q =>
    obtain ⟨x, hx, hxb, rfl⟩ := lk_some e
    simp only
    rw [lift_put]
    have hx' : (⟨s.b, x.p, x.k⟩ : Sp) = x := by cases x; simp_all
    rw [hx', ← hxb]
    exact (perm_lift hn hx).symm

theorem lift_perm {S S' : List Sp} (hp : S.Perm S') (b : Dt) : (lift S b).Perm (lift S' b) := hp.filter _

theorem back_perm {S S' : List Sp} (hp : S.Perm S') (b : Dt) (was : Option Pl) : (back S b was).Perm (back S' b was) := by
  unfold back
  cases was with
  | none => exact lift_perm hp b
  | some q => exact (lift_perm hp b).append_right _
end

section
set_option linter.unusedVariables false

/-- An order of things that have identities. -/
structure Lin {α : Type} (lt : α → α → Bool) (f : α → Dt) : Prop where
  irr : ∀ a, lt a a = false
  tr : ∀ a b c, lt a b = true → lt b c = true → lt a c = true
  tot : ∀ a b, f a ≠ f b → lt a b = false → lt b a = true

/-- A row in order. -/
def Srt {α : Type} (lt : α → α → Bool) (l : List α) : Prop := l.Pairwise (fun a b => lt a b = true)

theorem Lin.asym {α : Type} {lt : α → α → Bool} {f : α → Dt} (h : Lin lt f) {a b : α} (k : lt a b = true) : lt b a = false := by
  cases e : lt b a with
  | false => rfl
  | true => have := h.tr a b a k e; rw [h.irr] at this; cases this

/-- Rows in order with the same things are one row. -/
theorem srt_ext {α : Type} {lt : α → α → Bool} {f : α → Dt} (hL : Lin lt f) : ∀ {l l' : List α}, Srt lt l → Srt lt l' → (∀ d, d ∈ l ↔ d ∈ l') → l = l'
  | [], [], _, _, _ => rfl
  | [], b :: s, _, _, h => by have := (h b).2 (by simp); simp at this
  | a :: r, [], _, _, h => by have := (h a).1 (by simp); simp at this
  | a :: r, b :: s, h1, h2, h => by
    have h1' := List.pairwise_cons.1 h1
    have h2' := List.pairwise_cons.1 h2
    have hab : a = b := by
      rcases List.mem_cons.1 ((h a).1 (by simp)) with e | ha
      · exact e
      · rcases List.mem_cons.1 ((h b).2 (by simp)) with e | hb
        · exact e.symm
        · have k1 := h2'.1 a ha
          have k2 := hL.asym k1
          rw [h1'.1 b hb] at k2
          cases k2
    subst hab
    congr 1
    refine srt_ext hL h1'.2 h2'.2 (fun d => ?_)
    have hd := h d
    rw [List.mem_cons, List.mem_cons] at hd
    constructor
    · intro hm
      rcases hd.1 (Or.inr hm) with e | h'
      · subst e; have := h1'.1 d hm; rw [hL.irr] at this; cases this
      · exact h'
    · intro hm
      rcases hd.2 (Or.inr hm) with e | h'
      · subst e; have := h2'.1 d hm; rw [hL.irr] at this; cases this
      · exact h'

/-- How many come ahead of one. -/
def rkL {α : Type} (lt : α → α → Bool) (l : List α) (x : α) : Nat := (l.filter (fun y => lt y x)).length

theorem rk_le {α : Type} (lt : α → α → Bool) (l : List α) (x : α) : rkL lt l x ≤ l.length := List.length_filter_le _ _

/-- Those that come ahead are the first ones. -/
theorem rk_split {α : Type} {lt : α → α → Bool} {f : α → Dt} (hL : Lin lt f) : ∀ {l : List α}, Srt lt l → ∀ x, l = l.filter (fun y => lt y x) ++ l.filter (fun y => !(lt y x))
  | [], _, _ => rfl
  | a :: r, h, x => by
    have h' := List.pairwise_cons.1 h
    cases e : lt a x with
    | true =>
      rw [List.filter_cons_of_pos (by simpa using e), List.filter_cons_of_neg (by simp [e]), List.cons_append, ← rk_split hL h'.2 x]
    | false =>
      have hn : r.filter (fun y => lt y x) = [] := List.filter_eq_nil_iff.2 (fun y hy k => by
        have := hL.tr a y x (h'.1 y hy) k
        rw [e] at this
        cases this)
      have ha : r.filter (fun y => !(lt y x)) = r := by
        have := rk_split hL h'.2 x
        rw [hn, List.nil_append] at this
        exact this.symm
      rw [List.filter_cons_of_neg (by simp [e]), hn, List.filter_cons_of_pos (by simp [e]), ha, List.nil_append]

theorem rk_take {α : Type} {lt : α → α → Bool} {f : α → Dt} (hL : Lin lt f) {l : List α} (h : Srt lt l) (x : α) : l.take (rkL lt l x) = l.filter (fun y => lt y x) := by
  have e := congrArg (List.take (rkL lt l x)) (rk_split hL h x)
  rw [List.take_left' (by rfl)] at e
  exact e

theorem rk_drop {α : Type} {lt : α → α → Bool} {f : α → Dt} (hL : Lin lt f) {l : List α} (h : Srt lt l) (x : α) : l.drop (rkL lt l x) = l.filter (fun y => !(lt y x)) := by
  have e := congrArg (List.drop (rkL lt l x)) (rk_split hL h x)
  rw [List.drop_left' (by rfl)] at e
  exact e

/-- The first so many come ahead, the others don't. -/
theorem rk_lt {α : Type} {lt : α → α → Bool} {f : α → Dt} (hL : Lin lt f) {l : List α} (h : Srt lt l) (x : α) {i : Nat} {y : α} (hi : l[i]? = some y) : lt y x = decide (i < rkL lt l x) := by
  have hil := (List.getElem?_eq_some_iff.1 hi).1
  by_cases hr : i < rkL lt l x
  · rw [decide_eq_true hr]
    have : y ∈ l.take (rkL lt l x) := List.mem_of_getElem? (i := i) (by rw [List.getElem?_take, if_pos hr]; exact hi)
    rw [rk_take hL h] at this
    exact (List.mem_filter.1 this).2
  · rw [decide_eq_false hr]
    have : y ∈ l.drop (rkL lt l x) := List.mem_of_getElem? (i := i - rkL lt l x) (by rw [List.getElem?_drop, show rkL lt l x + (i - rkL lt l x) = i by omega]; exact hi)
    rw [rk_drop hL h] at this
    have := (List.mem_filter.1 this).2
    simpa using this

/-- With one more. -/
def insL {α : Type} (lt : α → α → Bool) (l : List α) (x : α) : List α := l.take (rkL lt l x) ++ x :: l.drop (rkL lt l x)

theorem ins_perm {α : Type} (lt : α → α → Bool) (l : List α) (x : α) : (insL lt l x).Perm (x :: l) := by
  unfold insL
  refine List.perm_middle.trans ?_
  rw [List.take_append_drop]

theorem ins_srt {α : Type} {lt : α → α → Bool} {f : α → Dt} (hL : Lin lt f) {l : List α} (h : Srt lt l) {x : α} (hf : ∀ y ∈ l, f y ≠ f x) : Srt lt (insL lt l x) := by
  unfold insL
  rw [rk_take hL h, rk_drop hL h]
  refine List.pairwise_append.2 ⟨h.sublist List.filter_sublist, List.pairwise_cons.2 ⟨fun y hy => ?_, h.sublist List.filter_sublist⟩, fun a ha b hb => ?_⟩
  · obtain ⟨h1, h2⟩ := List.mem_filter.1 hy
    exact hL.tot y x (hf y h1) (by simpa using h2)
  · obtain ⟨h1, h2⟩ := List.mem_filter.1 ha
    rcases List.mem_cons.1 hb with rfl | hb
    · exact h2
    · obtain ⟨h3, h4⟩ := List.mem_filter.1 hb
      have := hL.tot b x (hf b h3) (by simpa using h4)
      exact hL.tr a x b h2 this

/-- One that is there lies where it comes. -/
theorem rk_at {α : Type} {lt : α → α → Bool} {f : α → Dt} (hL : Lin lt f) {l : List α} (h : Srt lt l) {x : α} (hx : x ∈ l) : l[rkL lt l x]? = some x := by
  obtain ⟨i, hi⟩ := List.mem_iff_getElem?.1 hx
  have hil := (List.getElem?_eq_some_iff.1 hi).1
  have h1 : ¬ i < rkL lt l x := fun hlt => by
    have := rk_lt hL h x hi
    rw [hL.irr, decide_eq_true hlt] at this
    cases this
  rcases Nat.lt_or_ge (rkL lt l x) i with h2 | h2
  · exfalso
    have hrl : rkL lt l x < l.length := by omega
    have h3 := rk_lt hL h x (List.getElem?_eq_getElem hrl)
    rw [decide_eq_false (by omega)] at h3
    have h4 := List.pairwise_iff_getElem.1 h (rkL lt l x) i hrl hil h2
    rw [(List.getElem?_eq_some_iff.1 hi).2, h3] at h4
    cases h4
  · have : i = rkL lt l x := by omega
    rw [← this]
    exact hi

/-- With one less. -/
theorem del_srt {α : Type} {lt : α → α → Bool} {f : α → Dt} (hL : Lin lt f) {l : List α} (h : Srt lt l) (k : Nat) : Srt lt (l.take k ++ l.drop (k + 1)) := by
  rw [← List.eraseIdx_eq_take_drop_succ]
  exact h.sublist (List.eraseIdx_sublist l k)

theorem del_mem {α : Type} {lt : α → α → Bool} {f : α → Dt} (hL : Lin lt f) {l : List α} (h : Srt lt l) (hn : (l.map f).Nodup) {x : α} (hx : x ∈ l) (y : α) : y ∈ l.take (rkL lt l x) ++ l.drop (rkL lt l x + 1) ↔ y ∈ l ∧ f y ≠ f x := by
  have hat := rk_at hL h hx
  have hl := (List.getElem?_eq_some_iff.1 hat).1
  have e : l = l.take (rkL lt l x) ++ x :: l.drop (rkL lt l x + 1) := by
    have e0 : x = l[rkL lt l x]'hl := (List.getElem?_eq_some_iff.1 hat).2.symm
    have e1 : x :: l.drop (rkL lt l x + 1) = l.drop (rkL lt l x) := by
      rw [List.drop_eq_getElem_cons hl, ← e0]
    rw [e1, List.take_append_drop]
  have hn2 := hn
  rw [e, List.map_append, List.map_cons, List.nodup_append] at hn2
  obtain ⟨n1, n2, n3⟩ := hn2
  have n4 := List.nodup_cons.1 n2
  constructor
  · intro hy
    rcases List.mem_append.1 hy with hy | hy
    · exact ⟨List.mem_of_mem_take hy, fun e' => n3 _ (List.mem_map.2 ⟨y, hy, rfl⟩) (f x) (by simp) e'⟩
    · exact ⟨List.mem_of_mem_drop hy, fun e' => n4.1 (List.mem_map.2 ⟨y, hy, e'⟩)⟩
  · rintro ⟨hy, hne⟩
    rw [e] at hy
    rcases List.mem_append.1 hy with hy | hy
    · exact List.mem_append_left _ hy
    · rcases List.mem_cons.1 hy with rfl | hy
      · exact absurd rfl hne
      · exact List.mem_append_right _ hy

/-- A row put in order. -/
def srtL {α : Type} (lt : α → α → Bool) (l : List α) : List α := l.foldl (insL lt) []

theorem fold_srt {α : Type} {lt : α → α → Bool} {f : α → Dt} (hL : Lin lt f) : ∀ (l out : List α), Srt lt out → ((out ++ l).map f).Nodup → Srt lt (l.foldl (insL lt) out) ∧ (l.foldl (insL lt) out).Perm (out ++ l)
  | [], out, h, _ => ⟨h, by simp⟩
  | x :: l, out, h, hn => by
    have hf : ∀ y ∈ out, f y ≠ f x := fun y hy e => by
      rw [List.map_append, List.nodup_append] at hn
      exact hn.2.2 _ (List.mem_map.2 ⟨y, hy, rfl⟩) (f x) (by simp) e
    have hp : ((insL lt out x) ++ l).Perm (out ++ x :: l) := ((ins_perm lt out x).append_right l).trans (by simpa using (List.perm_middle (a := x) (l₁ := out) (l₂ := l)).symm)
    obtain ⟨h1, h2⟩ := fold_srt hL l (insL lt out x) (ins_srt hL h hf) ((hp.map f).nodup_iff.2 hn)
    exact ⟨h1, h2.trans hp⟩

theorem srtL_srt {α : Type} {lt : α → α → Bool} {f : α → Dt} (hL : Lin lt f) {l : List α} (hn : (l.map f).Nodup) : Srt lt (srtL lt l) := (fold_srt hL l [] List.Pairwise.nil (by simpa using hn)).1
theorem srtL_perm {α : Type} {lt : α → α → Bool} {f : α → Dt} (hL : Lin lt f) {l : List α} (hn : (l.map f).Nodup) : (srtL lt l).Perm l := by
  have := (fold_srt hL l [] List.Pairwise.nil (by simpa using hn)).2
  rw [List.nil_append] at this
  exact this

theorem srtL_of {α : Type} {lt : α → α → Bool} {f : α → Dt} (hL : Lin lt f) {l m : List α} (hn : (l.map f).Nodup) (hm : Srt lt m) (h : ∀ x, x ∈ m ↔ x ∈ l) : m = srtL lt l :=
  srt_ext hL hm (srtL_srt hL hn) (fun x => (h x).trans (srtL_perm hL hn).mem_iff.symm)
end

section

abbrev Bys := List UInt8

/-- Which row of bytes comes ahead, as the language says. -/
abbrev bl (a b : Bys) : Bool := Op.bytesLess a b

theorem bl_nil (a : Bys) : bl a [] = false := by cases a <;> rfl
theorem bl_cons (x y : UInt8) (a b : Bys) : bl (x :: a) (y :: b) = (decide (x < y) || (x == y && bl a b)) := by
  show Op.bytesLess (x :: a) (y :: b) = _
  simp [Op.bytesLess]
theorem bl_less {x y : UInt8} (h : x.toNat < y.toNat) (a b : Bys) : bl (x :: a) (y :: b) = true := by
  rw [bl_cons, decide_eq_true (UInt8.lt_iff_toNat_lt.2 h)]; rfl
theorem bl_same {x y : UInt8} (h : x.toNat = y.toNat) (a b : Bys) : bl (x :: a) (y :: b) = bl a b := by
  obtain rfl := UInt8.toNat_inj.1 h
  rw [bl_cons, decide_eq_false (by rw [UInt8.lt_iff_toNat_lt]; omega)]; simp
theorem bl_more {x y : UInt8} (h : y.toNat < x.toNat) (a b : Bys) : bl (x :: a) (y :: b) = false := by
  have hne : x ≠ y := fun e => by subst e; omega
  rw [bl_cons, decide_eq_false (by rw [UInt8.lt_iff_toNat_lt]; omega)]; simp [hne]

theorem bl_irrefl (a : Bys) : bl a a = false := by
  induction a with
  | nil => rfl
  | cons x a ih => rw [bl_same rfl]; exact ih

theorem bl_trans {a b c : Bys} (h : bl a b = true) (k : bl b c = true) : bl a c = true := by
  induction a generalizing b c with
  | nil =>
    cases c with
    | nil => rw [bl_nil] at k; cases k
    | cons => rfl
  | cons x a ih =>
    cases b with
    | nil => rw [bl_nil] at h; cases h
    | cons y b =>
      cases c with
      | nil => rw [bl_nil] at k; cases k
      | cons z c =>
        rcases Nat.lt_trichotomy x.toNat y.toNat with h1 | h1 | h1
        · rcases Nat.lt_trichotomy y.toNat z.toNat with k1 | k1 | k1
          · exact bl_less (by omega) _ _
          · exact bl_less (by omega) _ _
          · rw [bl_more k1] at k; cases k
        · rw [bl_same h1] at h
          rcases Nat.lt_trichotomy y.toNat z.toNat with k1 | k1 | k1
          · exact bl_less (by omega) _ _
          · rw [bl_same k1] at k
            rw [bl_same (by omega)]
            exact ih h k
          · rw [bl_more k1] at k; cases k
        · rw [bl_more h1] at h; cases h

/-- Of two unlike rows one comes ahead. -/
theorem bl_total {a b : Bys} (h : bl a b = false) (hne : a ≠ b) : bl b a = true := by
  induction a generalizing b with
  | nil =>
    cases b with
    | nil => exact absurd rfl hne
    | cons => cases h
  | cons x a ih =>
    cases b with
    | nil => rfl
    | cons y b =>
      rcases Nat.lt_trichotomy x.toNat y.toNat with h1 | h1 | h1
      · rw [bl_less h1] at h; cases h
      · rw [bl_same h1] at h
        rw [bl_same h1.symm]
        exact ih h (fun e => hne (by rw [e, UInt8.toNat_inj.1 h1]))
      · exact bl_less h1 _ _
end

section
set_option linter.unusedVariables false

/-- Is a move done ahead of another one? -/
def mvl (a b : Mv) : Bool := decide (a.time < b.time) || (decide (a.time = b.time) && dl a.id b.id)

theorem mvl_iff (a b : Mv) : mvl a b = true ↔ a.time < b.time ∨ (a.time = b.time ∧ dl a.id b.id = true) := by simp [mvl]

theorem mvl_lin : Lin mvl Mv.id := by
  refine ⟨fun a => ?_, fun a b c h k => ?_, fun a b h k => ?_⟩
  · cases e : mvl a a with
    | false => rfl
    | true =>
      rcases (mvl_iff a a).1 e with h | ⟨_, h⟩
      · omega
      · rw [dl_irrefl] at h; cases h
  · rw [mvl_iff] at h k ⊢
    rcases h with h | ⟨h1, h2⟩
    · rcases k with k | ⟨k1, k2⟩
      · exact Or.inl (by omega)
      · exact Or.inl (by omega)
    · rcases k with k | ⟨k1, k2⟩
      · exact Or.inl (by omega)
      · exact Or.inr ⟨by omega, dl_trans h2 k2⟩
  · have k' : ¬ (a.time < b.time ∨ (a.time = b.time ∧ dl a.id b.id = true)) := fun e => by rw [(mvl_iff a b).2 e] at k; cases k
    rw [mvl_iff]
    rcases Int.lt_trichotomy a.time b.time with h1 | h1 | h1
    · exact absurd (Or.inl h1) k'
    · refine Or.inr ⟨h1.symm, dl_total h ?_⟩
      cases e : dl a.id b.id with
      | false => rfl
      | true => exact absurd (Or.inr ⟨h1, e⟩) k'
    · exact Or.inl h1

/-- A key's bytes. -/
def kb (k : ByteArray) : Bys := k.toList

/-- Does a block come ahead of another one under the same parent? -/
def kdl (a b : Sp) : Bool := bl (kb a.k) (kb b.k) || (decide (kb a.k = kb b.k) && dl a.b b.b)

theorem kdl_iff (a b : Sp) : kdl a b = true ↔ bl (kb a.k) (kb b.k) = true ∨ (kb a.k = kb b.k ∧ dl a.b b.b = true) := by
  unfold kdl
  rw [Bool.or_eq_true, Bool.and_eq_true, decide_eq_true_eq]

theorem kdl_lin : Lin kdl Sp.b := by
  refine ⟨fun a => ?_, fun a b c h k => ?_, fun a b h k => ?_⟩
  · cases e : kdl a a with
    | false => rfl
    | true =>
      rcases (kdl_iff a a).1 e with h | ⟨_, h⟩
      · rw [bl_irrefl] at h; cases h
      · rw [dl_irrefl] at h; cases h
  · rw [kdl_iff] at h k ⊢
    rcases h with h | ⟨h1, h2⟩
    · rcases k with k | ⟨k1, k2⟩
      · exact Or.inl (bl_trans h k)
      · rw [k1] at h; exact Or.inl h
    · rcases k with k | ⟨k1, k2⟩
      · rw [h1]; exact Or.inl k
      · exact Or.inr ⟨h1.trans k1, dl_trans h2 k2⟩
  · have k' : ¬ (bl (kb a.k) (kb b.k) = true ∨ (kb a.k = kb b.k ∧ dl a.b b.b = true)) := fun e => by rw [(kdl_iff a b).2 e] at k; cases k
    rw [kdl_iff]
    by_cases e : kb a.k = kb b.k
    · refine Or.inr ⟨e.symm, dl_total h ?_⟩
      cases e2 : dl a.b b.b with
      | false => rfl
      | true => exact absurd (Or.inr ⟨e, e2⟩) k'
    · refine Or.inl (bl_total ?_ e)
      cases e2 : bl (kb a.k) (kb b.k) with
      | false => rfl
      | true => exact absurd (Or.inl e2) k'

/-- Those that lie under one. -/
def undr (S : List Sp) (p : Dt) : List Sp := S.filter (fun s => decide (s.p = p))

theorem undr_mem {S : List Sp} {p : Dt} {s : Sp} : s ∈ undr S p ↔ s ∈ S ∧ s.p = p := by
  unfold undr
  rw [List.mem_filter, decide_eq_true_eq]

theorem undr_nodup {S : List Sp} (h : (S.map Sp.b).Nodup) (p : Dt) : ((undr S p).map Sp.b).Nodup := (List.Sublist.map Sp.b List.filter_sublist).nodup h

/-- In their order. -/
def kidS (S : List Sp) (p : Dt) : List Sp := srtL kdl (undr S p)

theorem kidS_srt {S : List Sp} (h : (S.map Sp.b).Nodup) (p : Dt) : Srt kdl (kidS S p) := srtL_srt kdl_lin (undr_nodup h p)
theorem kidS_mem {S : List Sp} (h : (S.map Sp.b).Nodup) {p : Dt} {s : Sp} : s ∈ kidS S p ↔ s ∈ S ∧ s.p = p := ((srtL_perm kdl_lin (undr_nodup h p)).mem_iff).trans undr_mem
theorem kidS_nodup {S : List Sp} (h : (S.map Sp.b).Nodup) (p : Dt) : ((kidS S p).map Sp.b).Nodup := ((srtL_perm kdl_lin (undr_nodup h p)).map _).nodup_iff.2 (undr_nodup h p)
theorem kidS_len {S : List Sp} (h : (S.map Sp.b).Nodup) (p : Dt) : (kidS S p).length ≤ S.length := by
  unfold kidS
  rw [(srtL_perm kdl_lin (undr_nodup h p)).length_eq]
  exact List.length_filter_le _ _

theorem kidS_of {S : List Sp} (h : (S.map Sp.b).Nodup) {p : Dt} {m : List Sp} (hm : Srt kdl m) (he : ∀ x, x ∈ m ↔ x ∈ S ∧ x.p = p) : kidS S p = m :=
  (srtL_of kdl_lin (undr_nodup h p) hm (fun x => (he x).trans undr_mem.symm)).symm

theorem kidS_perm {S S' : List Sp} (h : (S.map Sp.b).Nodup) (hp : S.Perm S') (p : Dt) : kidS S p = kidS S' p :=
  kidS_of h (kidS_srt ((hp.map _).nodup_iff.1 h) p) (fun x => by rw [kidS_mem ((hp.map _).nodup_iff.1 h), hp.mem_iff])

/-- A block that isn't there is laid. -/
theorem kidS_lay {S : List Sp} {s : Sp} (h : ((S ++ [s]).map Sp.b).Nodup) : kidS (S ++ [s]) s.p = insL kdl (kidS S s.p) s := by
  have h1 : (S.map Sp.b).Nodup := by rw [List.map_append, List.nodup_append] at h; exact h.1
  have hf : ∀ y ∈ S, y.b ≠ s.b := fun y hy e => by
    rw [List.map_append, List.nodup_append] at h
    exact h.2.2 _ (List.mem_map.2 ⟨y, hy, rfl⟩) s.b (by simp) e
  refine kidS_of h (ins_srt kdl_lin (kidS_srt h1 s.p) (fun y hy => hf y ((kidS_mem h1).1 hy).1)) (fun x => ?_)
  rw [(ins_perm kdl _ s).mem_iff, List.mem_cons, kidS_mem h1, List.mem_append, List.mem_singleton]
  constructor
  · rintro (rfl | ⟨h2, h3⟩)
    · exact ⟨Or.inr rfl, rfl⟩
    · exact ⟨Or.inl h2, h3⟩
  · rintro ⟨h2 | h2, h3⟩
    · exact Or.inr ⟨h2, h3⟩
    · exact Or.inl h2

theorem kidS_lay_else {S : List Sp} {s : Sp} (h : ((S ++ [s]).map Sp.b).Nodup) {p : Dt} (hp : p ≠ s.p) : kidS (S ++ [s]) p = kidS S p := by
  have h1 : (S.map Sp.b).Nodup := by rw [List.map_append, List.nodup_append] at h; exact h.1
  refine kidS_of h (kidS_srt h1 p) (fun x => ?_)
  rw [kidS_mem h1, List.mem_append, List.mem_singleton]
  constructor
  · rintro ⟨h2, h3⟩; exact ⟨Or.inl h2, h3⟩
  · rintro ⟨h2 | rfl, h3⟩
    · exact ⟨h2, h3⟩
    · exact absurd h3.symm hp

theorem lift_nodup {S : List Sp} (h : (S.map Sp.b).Nodup) (b : Dt) : ((lift S b).map Sp.b).Nodup := (List.Sublist.map Sp.b List.filter_sublist).nodup h
theorem lift_mem {S : List Sp} {b : Dt} {x : Sp} : x ∈ lift S b ↔ x ∈ S ∧ x.b ≠ b := by
  unfold lift
  rw [List.mem_filter, decide_eq_true_eq]
theorem lift_lk {S : List Sp} (h : (S.map Sp.b).Nodup) (b d : Dt) : lk (lift S b) d = if d = b then none else lk S d := by
  split
  · rename_i e
    subst e
    exact lk_none.2 (fun x hx => (lift_mem.1 hx).2)
  · rename_i e
    cases hd : lk S d with
    | none => exact lk_none.2 (fun x hx => lk_none.1 hd x (lift_mem.1 hx).1)
    | some q =>
      obtain ⟨x, hx, rfl, rfl⟩ := lk_some hd
      exact lk_mem (lift_nodup h b) (lift_mem.2 ⟨hx, e⟩)

/-- A block that is there is taken away. -/
theorem kidS_lift {S : List Sp} (h : (S.map Sp.b).Nodup) {s : Sp} (hs : s ∈ S) : kidS (lift S s.b) s.p = (kidS S s.p).take (rkL kdl (kidS S s.p) s) ++ (kidS S s.p).drop (rkL kdl (kidS S s.p) s + 1) := by
  refine kidS_of (lift_nodup h _) (del_srt kdl_lin (kidS_srt h s.p) _) (fun x => ?_)
  rw [del_mem kdl_lin (kidS_srt h s.p) (kidS_nodup h s.p) ((kidS_mem h).2 ⟨hs, rfl⟩), kidS_mem h, lift_mem]
  constructor
  · rintro ⟨⟨h1, h2⟩, h3⟩; exact ⟨⟨h1, h3⟩, h2⟩
  · rintro ⟨⟨h1, h3⟩, h2⟩; exact ⟨⟨h1, h2⟩, h3⟩

theorem kidS_lift_else {S : List Sp} (h : (S.map Sp.b).Nodup) {s : Sp} (hs : s ∈ S) {p : Dt} (hp : p ≠ s.p) : kidS (lift S s.b) p = kidS S p := by
  refine kidS_of (lift_nodup h _) (kidS_srt h p) (fun x => ?_)
  rw [kidS_mem h, lift_mem]
  constructor
  · rintro ⟨h1, h2⟩
    exact ⟨⟨h1, fun e => hp (by have := sp_one h h1 hs e; subst this; exact h2.symm)⟩, h2⟩
  · rintro ⟨⟨h1, _⟩, h2⟩; exact ⟨h1, h2⟩

/-- Moves in their order, each once. -/
structure Lg (l : List Mv) : Prop where
  srt : Srt mvl l
  ids : (l.map Mv.id).Nodup
  may : Mvs l
  nz : ∀ m ∈ l, m.id ≠ (0, 0) ∧ ¬ isEnd m.id

theorem Lg.nil : Lg [] := ⟨List.Pairwise.nil, List.nodup_nil, by intro m hm; simp at hm, by simp⟩

/-- One more. -/
theorem Lg.ins {l : List Mv} (h : Lg l) {m : Mv} (hf : ∀ x ∈ l, x.id ≠ m.id) (hz : m.block ≠ (0, 0) ∧ ¬ isEnd m.block) (hi : m.id ≠ (0, 0) ∧ ¬ isEnd m.id) : Lg (insL mvl l m) := by
  have hp := ins_perm mvl l m
  refine ⟨ins_srt mvl_lin h.srt hf, (hp.map _).nodup_iff.2 ?_, fun x hx => ?_, fun x hx => ?_⟩
  · rw [List.map_cons, List.nodup_cons]
    exact ⟨fun hm => by obtain ⟨x, hx, e⟩ := List.mem_map.1 hm; exact hf x hx e, h.ids⟩
  · rcases List.mem_cons.1 (hp.mem_iff.1 hx) with rfl | hx
    · exact hz
    · exact h.may x hx
  · rcases List.mem_cons.1 (hp.mem_iff.1 hx) with rfl | hx
    · exact hi
    · exact h.nz x hx
end

section
set_option linter.unusedVariables false
open Go.RowKit Go.Sort Go.Maps

/-- A place. -/
def plv (q : Pl) : Value := .agg #[.int .i64 q.1.1, .int .i64 q.1.2, .string q.2]
def pl0 : Pl := ((0, 0), ⟨#[]⟩)
/-- How such a one reads, as an element of a map. -/
def pld (q : Pl) : DataW Unit := .agg [.lit (.int .i64 q.1.1), .lit (.int .i64 q.1.2), .lit (.string q.2.data.toList)]
def plR (v : Value) : Option (DataW Unit × List MemPlace) :=
  match v with
  | .agg ⟨[.int .i64 a, .int .i64 b, .string s]⟩ => some (pld ((a, b), s), [])
  | _ => none

theorem plR_mk (q : Pl) : plR (plv q) = some (pld q, []) := rfl

theorem pld_inj {q q' : Pl} (h : pld q = pld q') : q = q' := by
  obtain ⟨⟨a, b⟩, s⟩ := q
  obtain ⟨⟨a', b'⟩, s'⟩ := q'
  obtain ⟨⟨l⟩⟩ := s
  obtain ⟨⟨l'⟩⟩ := s'
  simp [pld] at h
  simp [h]

theorem plR_inv {v : Value} {q : Pl} {ps : List MemPlace} (h : plR v = some (pld q, ps)) : v = plv q := by
  unfold plR at h
  split at h
  · rename_i a b s
    have h1 : pld ((a, b), s) = pld q := by simpa using congrArg Prod.fst (Option.some.inj h)
    rw [← pld_inj h1]
    rfl
  · cases h

/-- Block m is the map of these places. -/
def PLM (w : World) (m : Nat) (S : List Sp) : Prop := ∃ D : DataW Unit, w.ownsMap Try.prog 24 plR m S.length D ∧ ∀ d, Dw d → Maps.has D (kl d) = (lk S d).isSome ∧ D.atKey (kl d) (pld pl0) = pld ((lk S d).getD pl0)

theorem zeroPl (w : World) : (zeroValue 74).run Try.prog w = .ok (plv pl0) w := Try.zeroValue74 w

theorem PLM.made (w : World) : PLM (w.alloc (.map #[] 0)) w.heap.size [] := ⟨_, World.ownsMap_made _ _ _ _, fun _ _ => ⟨rfl, rfl⟩⟩

theorem PLM.lt {w : World} {m : Nat} {S : List Sp} (h : PLM w m S) : m < w.heap.size := by
  obtain ⟨D, ho, _⟩ := h
  exact ho.lt

theorem PLM.same {w w' : World} {m : Nat} {S : List Sp} (h : PLM w m S) (hs : w'.heap[m]? = w.heap[m]?) : PLM w' m S := by
  obtain ⟨D, ⟨es, clock, h1, h2⟩, hT⟩ := h
  exact ⟨D, ⟨es, clock, by rw [hs]; exact h1, h2⟩, hT⟩

theorem PLM.perm {w : World} {m : Nat} {S S' : List Sp} (h : PLM w m S) (hn : (S.map Sp.b).Nodup) (hp : S.Perm S') : PLM w m S' := by
  obtain ⟨D, ho, hT⟩ := h
  exact ⟨D, by rw [← hp.length_eq]; exact ho, fun d hd => by rw [← lk_perm hn hp]; exact hT d hd⟩

theorem PLM.look {w : World} {m : Nat} {S : List Sp} (h : PLM w m S) {d : Dt} (hd : Dw d) : (Instr.lookup 63 (.map (some m)) (dv d) false).run Try.prog w = .ok (plv ((lk S d).getD pl0)) w := by
  obtain ⟨D, ho, hT⟩ := h
  obtain ⟨v, ps, hr, hv⟩ := ho.lookup law Try.underlying63 (zeroPl w) (plR_mk pl0) (keyOf_dot hd)
  rw [(hT d hd).2] at hv
  rw [hr, plR_inv hv]

theorem PLM.lookOk {w : World} {m : Nat} {S : List Sp} (h : PLM w m S) {d : Dt} (hd : Dw d) : (Instr.lookup 63 (.map (some m)) (dv d) true).run Try.prog w = .ok (.tuple #[plv ((lk S d).getD pl0), .bool (lk S d).isSome]) w := by
  obtain ⟨D, ho, hT⟩ := h
  obtain ⟨v, ps, hr, hv⟩ := ho.look_ok law Try.underlying63 (zeroPl w) (plR_mk pl0) (keyOf_dot hd)
  rw [(hT d hd).2] at hv
  rw [hr, plR_inv hv, (hT d hd).1]

theorem pl_nil (w : World) {d : Dt} (hd : Dw d) : (Instr.lookup 63 (.map none) (dv d) false).run Try.prog w = .ok (plv pl0) w := by
  have := Maps.look_nil (w := w) false law Try.underlying63 (zeroPl w) (keyOf_dot hd)
  simpa using this
theorem pl_nilOk (w : World) {d : Dt} (hd : Dw d) : (Instr.lookup 63 (.map none) (dv d) true).run Try.prog w = .ok (.tuple #[plv pl0, .bool false]) w := by
  have := Maps.look_nil (w := w) true law Try.underlying63 (zeroPl w) (keyOf_dot hd)
  simpa using this

theorem lk_snoc {S : List Sp} {s : Sp} (h : lk S s.b = none) (d : Dt) : lk (S ++ [s]) d = if d = s.b then some (s.p, s.k) else lk S d := by
  unfold lk at h ⊢
  rw [List.find?_append]
  split
  · rename_i e
    subst e
    rw [Option.map_eq_none_iff] at h
    rw [h]
    simp
  · rename_i e
    cases hd : S.find? (fun x => decide (x.b = d)) with
    | some x => rfl
    | none =>
      have : ¬ s.b = d := fun e' => e e'.symm
      simp [this]

/-- A block that isn't there is laid. -/
theorem PLM.lay {w : World} {m : Nat} {S : List Sp} (h : PLM w m S) {s : Sp} (hd : Dw s.b) (hno : lk S s.b = none) (hn : S.length < maxLen) : ∃ w', (Instr.mapUpdate 63 (.map (some m)) (dv s.b) (plv (s.p, s.k))).run Try.prog w = .ok () w' ∧ PLM w' m (S ++ [s]) ∧ w.grownBy w' (some m) := by
  obtain ⟨D, ho, hT⟩ := h
  obtain ⟨w', hr, ho', hg⟩ := ho.update law Try.underlying63 hn (keyOf_dot hd) (plR_mk (s.p, s.k))
  refine ⟨w', hr, ⟨_, by rw [List.length_append]; exact ho', fun e he => ?_⟩, hg⟩
  rw [lk_snoc hno]
  by_cases hea : e = s.b
  · subst hea
    simp only [if_true]
    exact ⟨by rw [has_put_same ho.isMap (kl_isKey _)]; rfl, atKey_put_same ho.isMap (kl_isKey _) _ _⟩
  · have hne : kl e ≠ kl s.b := fun h' => hea (kl_inj he hd h')
    simp only [hea, if_false]
    exact ⟨by rw [has_put_other hne]; exact (hT e he).1, by rw [atKey_put_other hne]; exact (hT e he).2⟩

theorem own_tight {w : World} {b n n' : Nat} {D : DataW Unit} {R : Value → Option (DataW Unit × List MemPlace)} (h : w.ownsMap Try.prog 24 R b n D) (hs : Maps.size D ≤ n') : w.ownsMap Try.prog 24 R b n' D := by
  obtain ⟨es, clock, h1, h2, h3, rfl⟩ := h
  refine ⟨es, clock, h1, h2, ?_, rfl⟩
  simpa [Maps.size, length_sorted] using hs

/-- A block that is there is taken away. -/
theorem PLM.lift {w : World} {m : Nat} {S : List Sp} (h : PLM w m S) (hn : (S.map Sp.b).Nodup) {s : Sp} (hs : s ∈ S) (hd : Dw s.b) (ty : TypeId) : ∃ w', (Builtin.delete_ #[63, 24] ty #[.map (some m), dv s.b]).run Try.prog w = .ok (.tuple #[]) w' ∧ PLM w' m (lift S s.b) ∧ w.mapTurned w' m := by
  obtain ⟨D, ho, hT⟩ := h
  obtain ⟨w', hr, ho', hg⟩ := ho.drop law Try.underlying63 (keyOf_dot hd) ty
  refine ⟨w', hr, ⟨_, own_tight ho' ?_, fun e he => ?_⟩, hg⟩
  · have h1 := (perm_lift hn hs).length_eq
    rw [List.length_append] at h1
    have h2 := ho.size_le
    have h3 : Maps.has D (kl s.b) = true := by rw [(hT _ hd).1, lk_mem hn hs]; rfl
    have h4 := size_del (k := kl s.b) (ho.tidy law)
    rw [h3] at h4
    simp at h1 h4
    omega
  · rw [lift_lk hn]
    by_cases hea : e = s.b
    · subst hea
      simp only [if_true]
      exact ⟨by rw [has_del_same]; rfl, atKey_del_same _⟩
    · have hne : kl e ≠ kl s.b := fun h' => hea (kl_inj he hd h')
      simp only [hea, if_false]
      exact ⟨by rw [has_del_other hne]; exact (hT e he).1, by rw [atKey_del_other hne]; exact (hT e he).2⟩
end
end Go.Proofs.Ytplcohjpchfkkaa
