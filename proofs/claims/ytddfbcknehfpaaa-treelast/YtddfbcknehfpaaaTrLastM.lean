/- The latest move of a block that took effect. No function of the program. -/
import Derived.Test.YtddfbcknehfpaaaTrMovesM
set_option linter.unusedVariables false
namespace Go.Proofs.Ytddfbcknehfpaaa
open Go.RowKit

/-- A move of this block that took effect. -/
def Gd (l : List Mv) (b : Dt) (x : Mv) : Prop := x.block = b ∧ tookB l x.id = true

theorem run_step {l : List Mv} (h : Lg l) {i : Nat} {m : Mv} (hm : l[i]? = some m) (b : Dt) : (Gd l b m → lk (run (l.take (i + 1))) b = some (m.parent, m.key)) ∧ (¬ Gd l b m → lk (run (l.take (i + 1))) b = lk (run (l.take i)) b) := by
  obtain ⟨r, hr⟩ := h.tk i
  rw [run_succ hm]
  have ht := tookB_at h.ids hm
  unfold step
  by_cases hk : takes (run (l.take i)) m = true
  · rw [if_pos hk, put_lk hr.nd]
    by_cases hb : b = m.block
    · subst hb
      exact ⟨fun _ => by simp [Mv.sp], fun g => absurd ⟨rfl, ht.trans hk⟩ g⟩
    · exact ⟨fun g => absurd g.1.symm hb, fun _ => by simp [Mv.sp, hb]⟩
  · rw [if_neg hk]
    exact ⟨fun g => absurd (ht.symm.trans g.2) hk, fun _ => rfl⟩

theorem lastG {l : List Mv} (h : Lg l) (b : Dt) : ∀ i, i ≤ l.length → (lk (run (l.take i)) b = none ∧ ∀ (j : Nat) (x : Mv), j < i → l[j]? = some x → ¬ Gd l b x) ∨ (∃ (j : Nat) (x : Mv), j < i ∧ l[j]? = some x ∧ Gd l b x ∧ lk (run (l.take i)) b = some (x.parent, x.key) ∧ ∀ (j' : Nat) (y : Mv), j < j' → j' < i → l[j']? = some y → ¬ Gd l b y) := fun i => by
  induction i with
  | zero => exact fun _ => Or.inl ⟨by simp [run, lk], fun j x hj => by omega⟩
  | succ i ih =>
    intro hi
    have hm : l[i]? = some l[i] := List.getElem?_eq_getElem (by omega)
    have hst := run_step h hm b
    by_cases hg : Gd l b l[i]
    · exact Or.inr ⟨i, l[i], by omega, hm, hg, hst.1 hg, fun j' y h1 h2 _ => by omega⟩
    · replace hst := hst.2 hg
      have hnew : ∀ (y : Mv), l[i]? = some y → ¬ Gd l b y := fun y hy => by
        rw [hm] at hy
        cases hy
        exact hg
      rcases ih (by omega) with ⟨h1, h2⟩ | ⟨j, x, h1, h2, h3, h4, h5⟩
      · refine Or.inl ⟨hst.trans h1, fun j x hj hx => ?_⟩
        rcases Nat.lt_or_ge j i with h' | h'
        · exact h2 j x h' hx
        · obtain rfl : j = i := by omega
          exact hnew x hx
      · refine Or.inr ⟨j, x, by omega, h2, h3, hst.trans h4, fun j' y h6 h7 h8 => ?_⟩
        rcases Nat.lt_or_ge j' i with h' | h'
        · exact h5 j' y h6 h' h8
        · obtain rfl : j' = i := by omega
          exact hnew y h8

theorem madeG {l : List Mv} (h : Lg l) (b : Dt) : ∀ i, i ≤ l.length → (lk (run (l.take i)) b).isSome = true → ∃ (j : Nat) (x : Mv), j < i ∧ l[j]? = some x ∧ Gd l b x ∧ x.id = b := fun i => by
  induction i with
  | zero => exact fun _ hs => by simp [run, lk] at hs
  | succ i ih =>
    intro hi hs
    have hm : l[i]? = some l[i] := List.getElem?_eq_getElem (by omega)
    have hst := run_step h hm b
    cases hl : lk (run (l.take i)) b with
    | some q =>
      obtain ⟨j, x, h1, h2⟩ := ih (by omega) (by rw [hl]; rfl)
      exact ⟨j, x, by omega, h2⟩
    | none =>
      by_cases hg : Gd l b l[i]
      · refine ⟨i, l[i], by omega, hm, hg, ?_⟩
        have ht := (tookB_at h.ids hm).symm.trans hg.2
        obtain ⟨_, h2, _⟩ := takes_iff.1 ht
        rcases h2 with h2 | h2
        · exact absurd (by rw [hg.1]; exact hl) h2
        · rw [← h2]; exact hg.1
      · replace hst := hst.2 hg
        rw [hl] at hst
        rw [hst] at hs
        cases hs

/-- What the inner loop finds: the place of the latest so far, and whether the making is among them. -/
structure FndL (l : List Mv) (b : Dt) (M : List Mv) (k : Int) (made : Bool) : Prop where
  lo : k = -1 ∧ (∀ x ∈ M, ¬ Gd l b x) ∨ ∃ (i : Nat) (x : Mv), k = (i : Int) ∧ M[i]? = some x ∧ Gd l b x ∧ ∀ y ∈ M, Gd l b y → y = x ∨ mvl y x = true
  md : made = true ↔ ∃ x ∈ M, Gd l b x ∧ x.id = b

theorem FndL.start (l : List Mv) (b : Dt) : FndL l b [] (-1) false := ⟨Or.inl ⟨rfl, by simp⟩, by simp⟩

theorem FndL.skip {l M : List Mv} {b : Dt} {k : Int} {made : Bool} (h : FndL l b M k made) {m : Mv} (hm : ¬ Gd l b m) : FndL l b (M ++ [m]) k made := by
  refine ⟨?_, ?_⟩
  · rcases h.lo with ⟨h1, h2⟩ | ⟨i, x, h1, h2, h3, h4⟩
    · refine Or.inl ⟨h1, fun x hx => ?_⟩
      rcases List.mem_append.1 hx with hx | hx
      · exact h2 x hx
      · rw [List.mem_singleton.1 hx]; exact hm
    · refine Or.inr ⟨i, x, h1, ?_, h3, fun y hy hg => ?_⟩
      · rw [List.getElem?_append_left (List.getElem?_eq_some_iff.1 h2).1]; exact h2
      · rcases List.mem_append.1 hy with hy | hy
        · exact h4 y hy hg
        · rw [List.mem_singleton.1 hy] at hg; exact absurd hg hm
  · rw [h.md]
    constructor
    · rintro ⟨x, hx, h1⟩; exact ⟨x, List.mem_append_left _ hx, h1⟩
    · rintro ⟨x, hx, h1, h2⟩
      rcases List.mem_append.1 hx with hx | hx
      · exact ⟨x, hx, h1, h2⟩
      · rw [List.mem_singleton.1 hx] at h1; exact absurd h1 hm

theorem FndL.md' {l M : List Mv} {b : Dt} {k : Int} {made : Bool} (h : FndL l b M k made) {m : Mv} (hm : Gd l b m) : (made || decide (m.id = b)) = true ↔ ∃ x ∈ M ++ [m], Gd l b x ∧ x.id = b := by
  rw [Bool.or_eq_true, h.md, decide_eq_true_eq]
  constructor
  · rintro (⟨x, hx, h1⟩ | h1)
    · exact ⟨x, List.mem_append_left _ hx, h1⟩
    · exact ⟨m, by simp, hm, h1⟩
  · rintro ⟨x, hx, h1, h2⟩
    rcases List.mem_append.1 hx with hx | hx
    · exact Or.inl ⟨x, hx, h1, h2⟩
    · rw [List.mem_singleton.1 hx] at h2; exact Or.inr h2

/-- One more that took effect: it is the latest, or not. -/
theorem FndL.next {l M : List Mv} {b : Dt} {k : Int} {made : Bool} (h : FndL l b M k made) {m : Mv} (hm : Gd l b m) (hu : k < 0 ∨ ∃ (i : Nat) (x : Mv), k = (i : Int) ∧ M[i]? = some x ∧ mvl x m = true) : FndL l b (M ++ [m]) (M.length : Int) (made || decide (m.id = b)) := by
  refine ⟨Or.inr ⟨M.length, m, rfl, by simp, hm, fun y hy hg => ?_⟩, h.md' hm⟩
  rcases List.mem_append.1 hy with hy | hy
  · rcases h.lo with ⟨h1, h2⟩ | ⟨i, x, h1, h2, h3, h4⟩
    · exact absurd hg (h2 y hy)
    · rcases hu with hu | ⟨i', x', h5, h6, h7⟩
      · omega
      · obtain rfl : i = i' := by omega
        rw [h2] at h6
        cases h6
        rcases h4 y hy hg with rfl | h8
        · exact Or.inr h7
        · exact Or.inr (mvl_lin.tr _ _ _ h8 h7)
  · exact Or.inl (List.mem_singleton.1 hy)
theorem FndL.stay {l M : List Mv} {b : Dt} {k : Int} {made : Bool} (h : FndL l b M k made) {m : Mv} (hm : Gd l b m) {i : Nat} {x : Mv} (hk : k = (i : Int)) (hx : M[i]? = some x) (hid : x.id ≠ m.id) (hu : mvl x m = false) : FndL l b (M ++ [m]) k (made || decide (m.id = b)) := by
  refine ⟨?_, h.md' hm⟩
  rcases h.lo with ⟨h1, h2⟩ | ⟨i', x', h1, h2, h3, h4⟩
  · omega
  · obtain rfl : i' = i := by omega
    obtain rfl : x' = x := by rw [h2] at hx; exact Option.some.inj hx
    refine Or.inr ⟨i', x', h1, ?_, h3, fun y hy hg => ?_⟩
    · rw [List.getElem?_append_left (List.getElem?_eq_some_iff.1 h2).1]; exact h2
    · rcases List.mem_append.1 hy with hy | hy
      · exact h4 y hy hg
      · rw [List.mem_singleton.1 hy]
        exact Or.inr (mvl_lin.tot _ _ hid hu)

/-- What is found says where the block lies. -/
theorem FndL.fin {l M : List Mv} (h : Lg l) (hp : M.Perm l) {b : Dt} {k : Int} {made : Bool} (hf : FndL l b M k made) : (lk (run l) b).isSome = decide (0 ≤ k) ∧ (lk (run l) b).isSome = made ∧ ∀ (i : Nat) (x : Mv), k = (i : Int) → M[i]? = some x → lk (run l) b = some (x.parent, x.key) := by
  have hl := lastG h b l.length (Nat.le_refl _)
  have hmd := madeG h b l.length (Nat.le_refl _)
  rw [List.take_length] at hl hmd
  have hmade : (lk (run l) b).isSome = made := by
    cases hs : (lk (run l) b).isSome with
    | true =>
      obtain ⟨j, x, _, h2, h3, h4⟩ := hmd hs
      exact (hf.md.2 ⟨x, hp.mem_iff.2 (List.mem_of_getElem? h2), h3, h4⟩).symm
    | false =>
      cases hm : made with
      | false => rfl
      | true =>
        obtain ⟨x, hx, hg, _⟩ := hf.md.1 hm
        rcases hl with ⟨h1, h2⟩ | ⟨j, y, _, _, _, h4, _⟩
        · obtain ⟨j, hj⟩ := List.mem_iff_getElem?.1 (hp.mem_iff.1 hx)
          exact absurd hg (h2 j x (List.getElem?_eq_some_iff.1 hj).1 hj)
        · rw [h4] at hs; cases hs
  rcases hl with ⟨h1, h2⟩ | ⟨j, y, hj, h2, h3, h4, h5⟩
  · rcases hf.lo with ⟨h6, h7⟩ | ⟨i, x, h6, h7, h8, _⟩
    · refine ⟨by rw [h1, h6]; rfl, hmade, fun i x h8 _ => by omega⟩
    · obtain ⟨j, hj⟩ := List.mem_iff_getElem?.1 (hp.mem_iff.1 (List.mem_of_getElem? h7))
      exact absurd h8 (h2 j x (List.getElem?_eq_some_iff.1 hj).1 hj)
  · rcases hf.lo with ⟨h6, h7⟩ | ⟨i, x, h6, h7, h8, h9⟩
    · exact absurd h3 (h7 y (hp.mem_iff.2 (List.mem_of_getElem? h2)))
    · have hxy : y = x := by
        rcases h9 y (hp.mem_iff.2 (List.mem_of_getElem? h2)) h3 with e | e
        · exact e
        · exfalso
          obtain ⟨j', hj'⟩ := List.mem_iff_getElem?.1 (hp.mem_iff.1 (List.mem_of_getElem? h7))
          have hjl := (List.getElem?_eq_some_iff.1 hj').1
          rcases Nat.lt_trichotomy j j' with hc | hc | hc
          · exact h5 j' x hc hjl hj' h8
          · subst hc
            rw [h2] at hj'
            cases hj'
            have := mvl_lin.asym e
            rw [e] at this
            cases this
          · have := List.pairwise_iff_getElem.1 h.srt j' j hjl hj hc
            rw [(List.getElem?_eq_some_iff.1 hj').2, (List.getElem?_eq_some_iff.1 h2).2] at this
            have h10 := mvl_lin.asym e
            rw [this] at h10
            cases h10
      subst hxy
      refine ⟨by rw [h4, h6]; simp, hmade, fun i' x' h10 h11 => ?_⟩
      obtain rfl : i = i' := by omega
      rw [h7] at h11
      cases h11
      exact h4
end Go.Proofs.Ytddfbcknehfpaaa
