/- Texts, in numbers: each character stands in the order. No function of the program. -/
import Derived.Test.YtboaofaileafdaaFgTree
namespace Go.Proofs.Ytboaofaileafdaa

theorem trF_kid {T : List Cr} {f : Nat} {d k : Dt} {s : Bool} (hk : k ∈ kids T d s) : ∀ x ∈ trF T f k, x ∈ trF T (f + 1) d := fun x hx => by
  show x ∈ (kids T d false).flatMap (trF T f) ++ (if d = (0, 0) then [] else [d]) ++ (kids T d true).flatMap (trF T f)
  cases s with
  | false => exact List.mem_append_left _ (List.mem_append_left _ (List.mem_flatMap.2 ⟨k, hk, hx⟩))
  | true => exact List.mem_append_right _ (List.mem_flatMap.2 ⟨k, hk, hx⟩)

theorem trF_self {T : List Cr} {f : Nat} {d : Dt} (h : dep T f d) (hz : d ≠ (0, 0)) : d ∈ trF T f d := by
  cases f with
  | zero => exact h.elim
  | succ f =>
    show d ∈ (kids T d false).flatMap (trF T f) ++ (if d = (0, 0) then [] else [d]) ++ (kids T d true).flatMap (trF T f)
    rw [if_neg hz]
    simp

/-- A character's tree is among all. -/
theorem WT.sub_all {T : List Cr} (h : WT T) : ∀ (i : Nat) (c : Cr), T[i]? = some c → ∀ x ∈ trF T T.length c.id, x ∈ allT T := by
  intro i
  induction i using Nat.strongRecOn with
  | ind i ih =>
    intro c hc x hx
    have hcm := List.mem_of_getElem? hc
    have hk : c.id ∈ kids T c.at_ c.sd := mem_kids.2 ⟨c, hcm, rfl, rfl, rfl⟩
    rcases h.under i c hc with e | ⟨p, hp, e⟩
    · rw [e] at hk
      exact trF_kid hk x hx
    · obtain ⟨j, hj⟩ := List.mem_iff_getElem?.1 hp
      have hji : j < i := by
        have := (List.getElem?_eq_some_iff.1 hj).1
        rw [List.length_take] at this
        omega
      rw [List.getElem?_take, if_pos hji] at hj
      refine ih j hji p hj x ?_
      have hd := h.dep_all (List.mem_of_getElem? hj)
      obtain ⟨m, hm⟩ : ∃ m, T.length = m + 1 := by
        have := (List.getElem?_eq_some_iff.1 hj).1
        exact ⟨T.length - 1, by omega⟩
      rw [hm] at hd hx ⊢
      rw [← e] at hk
      have hdk : Proofs.Ytboaofaileafdaa.dep T m c.id := hd c.sd c.id hk
      rw [trF_stable hdk] at hx
      exact trF_kid hk x hx

theorem mem_allT {T : List Cr} (h : WT T) {k : Dt} : k ∈ allT T ↔ ∃ c ∈ T, c.id = k := by
  constructor
  · intro hk
    rcases mem_trF h hk with ⟨_, hz⟩ | hc
    · exact absurd rfl hz
    · exact hc
  · rintro ⟨c, hc, rfl⟩
    obtain ⟨i, hi⟩ := List.mem_iff_getElem?.1 hc
    exact h.sub_all i c hi _ (trF_self (h.dep_all hc) (h.nz c hc))

end Go.Proofs.Ytboaofaileafdaa
