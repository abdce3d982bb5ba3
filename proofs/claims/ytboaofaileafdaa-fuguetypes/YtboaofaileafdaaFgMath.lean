/- Texts, in numbers: characters as they came, those at a side of one. No function of the program. -/
import Derived.Test.YtboaofaileafdaaDMath
namespace Go.Proofs.Ytboaofaileafdaa

/-- A character: its identity, under which one it lies and at which side (true: the right one), its char, whether it is seen. -/
structure Cr where
  id : Dt
  at_ : Dt
  sd : Bool
  ch : Int
  seen : Bool

/-- Those at a side of one, in order. -/
def kids (T : List Cr) (d : Dt) (s : Bool) : List Dt := rise ((T.filter (fun c => decide (c.at_ = d) && (c.sd == s))).map Cr.id)

theorem kids_up (T : List Cr) (d : Dt) (s : Bool) : Up (kids T d s) := up_rise _

theorem mem_kids {T : List Cr} {d : Dt} {s : Bool} {k : Dt} : k ∈ kids T d s ↔ ∃ c ∈ T, c.at_ = d ∧ c.sd = s ∧ c.id = k := by
  unfold kids
  rw [mem_rise, List.mem_map]
  constructor
  · rintro ⟨c, hc, rfl⟩
    obtain ⟨h1, h2⟩ := List.mem_filter.1 hc
    simp only [Bool.and_eq_true, decide_eq_true_eq, beq_iff_eq] at h2
    exact ⟨c, h1, h2.1, h2.2, rfl⟩
  · rintro ⟨c, hc, h1, h2, rfl⟩
    exact ⟨c, List.mem_filter.2 ⟨hc, by simp [h1, h2]⟩, rfl⟩

theorem kids_snoc (T : List Cr) (c : Cr) (d : Dt) (s : Bool) : kids (T ++ [c]) d s = if c.at_ = d ∧ c.sd = s then ins (kids T d s) c.id else kids T d s := by
  unfold kids
  rw [List.filter_append, List.map_append]
  by_cases h : c.at_ = d ∧ c.sd = s
  · rw [if_pos h, List.filter_cons_of_pos (by simp [h.1, h.2]), List.filter_nil, List.map_cons, List.map_nil, rise_snoc]
  · rw [if_neg h, List.filter_cons_of_neg (by simp only [Bool.and_eq_true, decide_eq_true_eq, beq_iff_eq]; exact h), List.filter_nil, List.map_nil, List.append_nil]

theorem kids_len (T : List Cr) (d : Dt) (s : Bool) : (kids T d s).length ≤ T.length := by
  unfold kids
  refine Nat.le_trans (rise_length _) ?_
  rw [List.length_map]
  exact List.length_filter_le _ _

/-- The root, or a character. -/
def nodes (T : List Cr) (d : Dt) : Prop := d = (0, 0) ∨ ∃ c ∈ T, c.id = d

theorem nodes_snoc {T : List Cr} {c : Cr} {d : Dt} : nodes (T ++ [c]) d ↔ nodes T d ∨ c.id = d := by
  unfold nodes
  constructor
  · rintro (h | ⟨x, hx, e⟩)
    · exact Or.inl (Or.inl h)
    · rcases List.mem_append.1 hx with hx | hx
      · exact Or.inl (Or.inr ⟨x, hx, e⟩)
      · simp at hx; rw [hx] at e; exact Or.inr e
  · rintro ((h | ⟨x, hx, e⟩) | h)
    · exact Or.inl h
    · exact Or.inr ⟨x, List.mem_append_left _ hx, e⟩
    · exact Or.inr ⟨c, by simp, h⟩

/-- Characters as they may have come. -/
structure WT (T : List Cr) : Prop where
  ids : (T.map Cr.id).Nodup
  nz : ∀ c ∈ T, c.id ≠ (0, 0)
  dw : ∀ c ∈ T, Dw c.id
  under : ∀ (i : Nat) (c : Cr), T[i]? = some c → nodes (T.take i) c.at_
  root : ∀ c ∈ T, c.at_ = (0, 0) → c.sd = true

theorem WT.nil : WT [] := ⟨List.nodup_nil, by simp, by simp, by simp, by simp⟩

theorem WT.node {T : List Cr} (h : WT T) {c : Cr} (hc : c ∈ T) : nodes T c.at_ := by
  obtain ⟨i, hi⟩ := List.mem_iff_getElem?.1 hc
  rcases h.under i c hi with e | ⟨x, hx, e⟩
  · exact Or.inl e
  · exact Or.inr ⟨x, List.mem_of_mem_take hx, e⟩

theorem WT.snoc {T : List Cr} {c : Cr} (h : WT T) (hn : c.id ≠ (0, 0)) (hd : Dw c.id) (hf : ∀ x ∈ T, x.id ≠ c.id) (hu : nodes T c.at_) (hr : c.at_ = (0, 0) → c.sd = true) : WT (T ++ [c]) := by
  refine ⟨?_, fun x hx => ?_, fun x hx => ?_, fun i x hx => ?_, fun x hx => ?_⟩
  · rw [List.map_append, List.nodup_append]
    refine ⟨h.ids, by simp, fun a ha b hb e => ?_⟩
    obtain ⟨x, hx, rfl⟩ := List.mem_map.1 ha
    simp at hb
    exact hf x hx (by rw [e, hb])
  · rcases List.mem_append.1 hx with hx | hx
    · exact h.nz x hx
    · simp at hx; rw [hx]; exact hn
  · rcases List.mem_append.1 hx with hx | hx
    · exact h.dw x hx
    · simp at hx; rw [hx]; exact hd
  · by_cases hi : i < T.length
    · rw [List.getElem?_append_left hi] at hx
      rw [List.take_append_of_le_length (by omega)]
      exact h.under i x hx
    · rw [List.getElem?_append_right (by omega)] at hx
      have hkk : i - T.length = 0 := by
        have := (List.getElem?_eq_some_iff.1 hx).1
        simp at this
        omega
      rw [hkk] at hx
      simp at hx
      subst hx
      have : i = T.length := by omega
      subst this
      rw [List.take_append_of_le_length (Nat.le_refl _), List.take_length]
      exact hu
  · rcases List.mem_append.1 hx with hx | hx
    · exact h.root x hx
    · simp at hx; rw [hx]; exact hr

/-- Nothing lies under one that is new. -/
theorem WT.fresh {T : List Cr} (h : WT T) {d : Dt} (hf : ∀ x ∈ T, x.id ≠ d) (hz : d ≠ (0, 0)) (s : Bool) : kids T d s = [] := by
  apply List.eq_nil_iff_forall_not_mem.2
  intro k hk
  obtain ⟨c, hc, h1, _, _⟩ := mem_kids.1 hk
  rcases h.node hc with e | ⟨x, hx, e⟩
  · exact hz (by rw [← h1, e])
  · exact hf x hx (by rw [e, h1])

theorem ids_one {T : List Cr} (h : (T.map Cr.id).Nodup) {a b : Cr} (ha : a ∈ T) (hb : b ∈ T) (e : a.id = b.id) : a = b := by
  obtain ⟨i, hi⟩ := List.mem_iff_getElem?.1 ha
  obtain ⟨j, hj⟩ := List.mem_iff_getElem?.1 hb
  have h1 : (T.map Cr.id)[i]? = (T.map Cr.id)[j]? := by rw [List.getElem?_map, List.getElem?_map, hi, hj]; simp [e]
  have hil : i < (T.map Cr.id).length := by simpa using (List.getElem?_eq_some_iff.1 hi).1
  have := (List.getElem?_inj hil h).1 h1
  subst this
  rw [hi] at hj
  cases hj
  rfl

end Go.Proofs.Ytboaofaileafdaa
