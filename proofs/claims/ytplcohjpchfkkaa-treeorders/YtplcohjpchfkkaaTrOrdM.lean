/- The order in which moves come changes nothing. No function of the program. -/
import Derived.Test.YtplcohjpchfkkaaTrSame
set_option linter.unusedVariables false
namespace Go.Proofs.Ytplcohjpchfkkaa
open Go.RowKit

theorem fold_memO : ∀ (L l : List Mv), (L.map Mv.id).Nodup → (∀ m ∈ L, ∀ x ∈ l, x.id ≠ m.id) → ∀ x, x ∈ L.foldl mvL l ↔ x ∈ l ∨ (x ∈ L ∧ mayT x.id = true ∧ mayT x.block = true)
  | [], l, _, _, x => by simp
  | m :: L, l, hn, hf, x => by
    rw [List.map_cons, List.nodup_cons] at hn
    obtain ⟨hn1, hn2⟩ := hn
    have hap : ∀ y ∈ L, m.id ≠ y.id := fun y hy e => hn1 (by rw [e]; exact List.mem_map_of_mem hy)
    have hmem : ∀ y, y ∈ mvL l m ↔ y ∈ l ∨ (y = m ∧ mayT m.id = true ∧ mayT m.block = true) := by
      intro y
      unfold mvL
      rcases mvE_cases l m with ⟨e, h⟩ | ⟨e, h1, h2, z, hz, ez⟩ | ⟨e, h1, h2, h3⟩
      · rw [if_neg (by omega)]
        exact ⟨Or.inl, fun h' => h'.elim id (fun h' => absurd h'.2 h)⟩
      · exact absurd ez (hf m (by simp) z hz)
      · rw [if_pos e, (ins_perm mvl l m).mem_iff, List.mem_cons]
        constructor
        · rintro (h | h)
          · exact Or.inr ⟨h, h1, h2⟩
          · exact Or.inl h
        · rintro (h | ⟨h, _⟩)
          · exact Or.inr h
          · exact Or.inl h
    have hf' : ∀ y ∈ L, ∀ z ∈ mvL l m, z.id ≠ y.id := by
      intro y hy z hz
      rcases (hmem z).1 hz with h | ⟨h, _⟩
      · exact hf y (List.mem_cons_of_mem _ hy) z h
      · rw [h]; exact hap y hy
    rw [List.foldl_cons, fold_memO L (mvL l m) hn2 hf' x, hmem x, List.mem_cons]
    constructor
    · rintro ((h | ⟨h, h1, h2⟩) | ⟨h, h1, h2⟩)
      · exact Or.inl h
      · exact Or.inr ⟨Or.inl h, by rw [h]; exact h1, by rw [h]; exact h2⟩
      · exact Or.inr ⟨Or.inr h, h1, h2⟩
    · rintro (h | ⟨h | h, h1, h2⟩)
      · exact Or.inl (Or.inl h)
      · exact Or.inl (Or.inr ⟨h, by rw [← h]; exact h1, by rw [← h]; exact h2⟩)
      · exact Or.inr ⟨h, h1, h2⟩

theorem tr_mem {L : List Mv} (h : (L.map Mv.id).Nodup) (x : Mv) : x ∈ tr L ↔ x ∈ L ∧ mayT x.id = true ∧ mayT x.block = true := by
  have := fold_memO L [] h (fun _ _ _ hx => by simp at hx) x
  unfold tr
  rw [this]
  simp

/-- Whatever the order, the tree has the same moves. -/
theorem tr_perm {L M : List Mv} (h : (L.map Mv.id).Nodup) (hp : M.Perm L) : tr M = tr L :=
  (tr_log M).one (tr_log L) (fun m => by rw [tr_mem h, tr_mem ((hp.map Mv.id).nodup_iff.2 h), hp.mem_iff])

/-- No two have one identity: what the statement's two loops find. -/
theorem ids_apart {L : List Mv} (h : ∀ i (hi : i < L.length) k (hk : k < i), (L[i]).id ≠ (L[k]'(Nat.lt_trans hk hi)).id) : (L.map Mv.id).Nodup := by
  rw [List.nodup_iff_pairwise_ne, List.pairwise_iff_getElem]
  intro i j hi hj hij e
  rw [List.length_map] at hi hj
  rw [List.getElem_map, List.getElem_map] at e
  exact h j hj i hij e.symm

theorem swap_permM {A : List Mv} {i k : Nat} (hi : i < A.length) (hk : k < A.length) : ((A.set i A[k]).set k A[i]).Perm A := List.set_set_perm hi hk
end Go.Proofs.Ytplcohjpchfkkaa
