/- Texts, in numbers: what a character that is put in, or taken out of sight, changes. No function of the program. -/
import Derived.Test.YtbpepmajpojacaaFgTM
set_option linter.unusedVariables false
namespace Go.Proofs.Ytbpepmajpojacaa

theorem allT_hide (T : List Cr) (d : Dt) : allT (hide T d) = allT T := by
  unfold allT
  have hl : (hide T d).length = T.length := by have := congrArg List.length (hide_ids T d); simpa using this
  rw [hl]
  exact trF_kids (fun k s => hide_kids T d k s) _ _

theorem allT_del (T : List Cr) (d : Dt) : allT (delP T d).2 = allT T := by
  unfold delP
  split
  · exact allT_hide T d
  · rfl

theorem seen_del {T : List Cr} {d : Dt} (h : (delP T d).1 = 0) : seenP (delP T d).2 d = false := by
  unfold delP at h ⊢
  split
  · show seenP (hide T d) d = false
    unfold seenP
    cases hf : fnd (hide T d) d with
    | none => rfl
    | some c =>
      obtain ⟨h1, h2⟩ := fnd_some hf
      obtain ⟨x, _, e1, _, _, _, e5⟩ := hide_mem h1
      rw [if_pos (by rw [e1, h2])] at e5
      exact e5
  · rename_i hn
    rw [if_neg hn] at h
    cases h

theorem del_same {T : List Cr} {d : Dt} (h : (delP T d).1 ≠ 0) : (delP T d).2 = T := by
  unfold delP at h ⊢
  split
  · rename_i hn
    rw [if_pos hn] at h
    exact absurd rfl h
  · rfl

theorem insP_bad {T : List Cr} {id at_ : Dt} {side ch : Int} (h : (insP T id at_ side ch).1 ≠ 0) : (insP T id at_ side ch).2 = T := by
  unfold insP at h ⊢
  split
  · rfl
  · split
    · rfl
    · split
      · rfl
      · rename_i h1 h2 h3
        rw [if_neg h1, if_neg h2, if_neg h3] at h
        exact absurd rfl h

theorem mayI_nz {id at_ : Dt} {side : Int} (h : mayI id at_ side = true) : id ≠ (0, 0) := by
  unfold mayI at h
  split at h
  · simp at h; exact h.1
  · split at h
    · simpa using h
    · cases h

theorem mayI_root {id at_ : Dt} {side : Int} (h : mayI id at_ side = true) : at_ = (0, 0) → decide (side = 1) = true := by
  intro e
  unfold mayI at h
  split at h
  · simp [e] at h
  · split at h
    · simpa using (by assumption : side = 1)
    · cases h

structure Put (T : List Cr) (id at_ : Dt) (side ch : Int) : Prop where
  eq : (insP T id at_ side ch).2 = T ++ [⟨id, at_, decide (side = 1), ch, true⟩]
  fresh : ∀ x ∈ T, x.id ≠ id
  nz : id ≠ (0, 0)
  node : nodes T at_
  root : at_ = (0, 0) → decide (side = 1) = true
  may : mayI id at_ side = true

theorem insP_ok {T : List Cr} {id at_ : Dt} {side ch : Int} (h : (insP T id at_ side ch).1 = 0) : Put T id at_ side ch := by
  have hh := h
  unfold insP at h
  split at h
  · cases h
  · split at h
    · cases h
    · split at h
      · cases h
      · rename_i h1 h2 h3
        have hm : mayI id at_ side = true := by simpa using h1
        refine ⟨?_, fun x hx e => h2 ⟨x, hx, e⟩, mayI_nz hm, Classical.not_not.1 h3, mayI_root hm, hm⟩
        unfold insP
        rw [if_neg h1, if_neg h2, if_neg h3]

theorem Put.wt {T : List Cr} {id at_ : Dt} {side ch : Int} (h : Put T id at_ side ch) (hT : WT T) (hd : Dw id) : WT (T ++ [⟨id, at_, decide (side = 1), ch, true⟩]) :=
  hT.snoc h.nz hd h.fresh h.node h.root

/-- The others stay in their order. -/
theorem Put.stays {T : List Cr} {id at_ : Dt} {side ch : Int} (h : Put T id at_ side ch) (hT : WT T) : (allT (insP T id at_ side ch).2).filter (fun k => decide (k ≠ id)) = allT T := by
  rw [h.eq]
  unfold allT
  have := trF_more hT (c := ⟨id, at_, decide (side = 1), ch, true⟩) h.fresh h.nz h.node ((T ++ [(⟨id, at_, decide (side = 1), ch, true⟩ : Cr)]).length + 1) (0, 0) (Ne.symm h.nz)
  rw [this]
  exact trF_le hT.dep_root (by simp)

theorem Put.len {T : List Cr} {id at_ : Dt} {side ch : Int} (h : Put T id at_ side ch) (hT : WT T) (hd : Dw id) : (allT (insP T id at_ side ch).2).length = (allT T).length + 1 := by
  rw [h.eq, allT_len (h.wt hT hd), allT_len hT]
  simp

theorem Put.seen {T : List Cr} {id at_ : Dt} {side ch : Int} (h : Put T id at_ side ch) (hT : WT T) (hd : Dw id) : seenP (insP T id at_ side ch).2 id = true := by
  rw [h.eq]
  unfold seenP
  rw [fnd_of (h.wt hT hd) (c := ⟨id, at_, decide (side = 1), ch, true⟩) (by simp)]

/-- One act. -/
def stepP (T : List Cr) (o : Int × Dt × Dt × Int × Int) : Int × List Cr := if o.1.tmod 3 = 0 then delP T o.2.2.1 else insP T o.2.1 o.2.2.1 o.2.2.2.1 o.2.2.2.2

theorem stepP_len (T : List Cr) (o : Int × Dt × Dt × Int × Int) : (stepP T o).2.length ≤ T.length + 1 := by
  unfold stepP
  split
  · rw [delP_len]; omega
  · exact insP_len _ _ _ _ _
end Go.Proofs.Ytbpepmajpojacaa
