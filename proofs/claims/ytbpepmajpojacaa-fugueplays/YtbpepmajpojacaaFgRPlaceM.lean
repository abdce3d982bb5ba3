/- The reference's Place: which of all it tells. -/
import Derived.Test.YtbpepmajpojacaaDMath
namespace Go.Proofs.Ytbpepmajpojacaa
section

/-- A character: its identity, under which one it lies and at which side (true: the right one), its char, whether it is seen. -/
structure Cr where
  id : Dt
  at_ : Dt
  sd : Bool
  ch : Int
  seen : Bool

/-- Those at a side of one, in order. -/
def kids (T : List Cr) (d : Dt) (s : Bool) : List Dt := rise ((T.filter (fun c => decide (c.at_ = d) && (c.sd == s))).map Cr.id)

theorem kids_up (T : List Cr) (d : Dt) (s : Bool) : Up (kids T d s) := up_rise _

theorem mem_kids {T : List Cr} {d : Dt} {s : Bool} {k : Dt} : k ∈ kids T d s ↔ ∃ c ∈ T, c.at_ = d ∧ c.sd = s ∧ c.id = k := by
  unfold kids
  rw [mem_rise, List.mem_map]
  constructor
  · rintro ⟨c, hc, rfl⟩
    obtain ⟨h1, h2⟩ := List.mem_filter.1 hc
    simp only [Bool.and_eq_true, decide_eq_true_eq, beq_iff_eq] at h2
    exact ⟨c, h1, h2.1, h2.2, rfl⟩
  · rintro ⟨c, hc, h1, h2, rfl⟩
    exact ⟨c, List.mem_filter.2 ⟨hc, by simp [h1, h2]⟩, rfl⟩

theorem kids_snoc (T : List Cr) (c : Cr) (d : Dt) (s : Bool) : kids (T ++ [c]) d s = if c.at_ = d ∧ c.sd = s then ins (kids T d s) c.id else kids T d s := by
  unfold kids
  rw [List.filter_append, List.map_append]
  by_cases h : c.at_ = d ∧ c.sd = s
  · rw [if_pos h, List.filter_cons_of_pos (by simp [h.1, h.2]), List.filter_nil, List.map_cons, List.map_nil, rise_snoc]
  · rw [if_neg h, List.filter_cons_of_neg (by simp only [Bool.and_eq_true, decide_eq_true_eq, beq_iff_eq]; exact h), List.filter_nil, List.map_nil, List.append_nil]

theorem kids_len (T : List Cr) (d : Dt) (s : Bool) : (kids T d s).length ≤ T.length := by
  unfold kids
  refine Nat.le_trans (rise_length _) ?_
  rw [List.length_map]
  exact List.length_filter_le _ _

/-- The root, or a character. -/
def nodes (T : List Cr) (d : Dt) : Prop := d = (0, 0) ∨ ∃ c ∈ T, c.id = d

theorem nodes_snoc {T : List Cr} {c : Cr} {d : Dt} : nodes (T ++ [c]) d ↔ nodes T d ∨ c.id = d := by
  unfold nodes
  constructor
  · rintro (h | ⟨x, hx, e⟩)
    · exact Or.inl (Or.inl h)
    · rcases List.mem_append.1 hx with hx | hx
      · exact Or.inl (Or.inr ⟨x, hx, e⟩)
      · simp at hx; rw [hx] at e; exact Or.inr e
  · rintro ((h | ⟨x, hx, e⟩) | h)
    · exact Or.inl h
    · exact Or.inr ⟨x, List.mem_append_left _ hx, e⟩
    · exact Or.inr ⟨c, by simp, h⟩

/-- Characters as they may have come. -/
structure WT (T : List Cr) : Prop where
  ids : (T.map Cr.id).Nodup
  nz : ∀ c ∈ T, c.id ≠ (0, 0)
  dw : ∀ c ∈ T, Dw c.id
  under : ∀ (i : Nat) (c : Cr), T[i]? = some c → nodes (T.take i) c.at_
  root : ∀ c ∈ T, c.at_ = (0, 0) → c.sd = true

theorem WT.nil : WT [] := ⟨List.nodup_nil, by simp, by simp, by simp, by simp⟩

theorem WT.node {T : List Cr} (h : WT T) {c : Cr} (hc : c ∈ T) : nodes T c.at_ := by
  obtain ⟨i, hi⟩ := List.mem_iff_getElem?.1 hc
  rcases h.under i c hi with e | ⟨x, hx, e⟩
  · exact Or.inl e
  · exact Or.inr ⟨x, List.mem_of_mem_take hx, e⟩

theorem WT.snoc {T : List Cr} {c : Cr} (h : WT T) (hn : c.id ≠ (0, 0)) (hd : Dw c.id) (hf : ∀ x ∈ T, x.id ≠ c.id) (hu : nodes T c.at_) (hr : c.at_ = (0, 0) → c.sd = true) : WT (T ++ [c]) := by
  refine ⟨?_, fun x hx => ?_, fun x hx => ?_, fun i x hx => ?_, fun x hx => ?_⟩
  · rw [List.map_append, List.nodup_append]
    refine ⟨h.ids, by simp, fun a ha b hb e => ?_⟩
    obtain ⟨x, hx, rfl⟩ := List.mem_map.1 ha
    simp at hb
    exact hf x hx (by rw [e, hb])
  · rcases List.mem_append.1 hx with hx | hx
    · exact h.nz x hx
    · simp at hx; rw [hx]; exact hn
  · rcases List.mem_append.1 hx with hx | hx
    · exact h.dw x hx
    · simp at hx; rw [hx]; exact hd
  · by_cases hi : i < T.length
    · rw [List.getElem?_append_left hi] at hx
      rw [List.take_append_of_le_length (by omega)]
      exact h.under i x hx
    · rw [List.getElem?_append_right (by omega)] at hx
      have hkk : i - T.length = 0 := by
        have := (List.getElem?_eq_some_iff.1 hx).1
        simp at this
        omega
      rw [hkk] at hx
      simp at hx
      subst hx
      have : i = T.length := by omega
      subst this
      rw [List.take_append_of_le_length (Nat.le_refl _), List.take_length]
      exact hu
  · rcases List.mem_append.1 hx with hx | hx
    · exact h.root x hx
    · simp at hx; rw [hx]; exact hr

/-- Nothing lies under one that is new. -/
theorem WT.fresh {T : List Cr} (h : WT T) {d : Dt} (hf : ∀ x ∈ T, x.id ≠ d) (hz : d ≠ (0, 0)) (s : Bool) : kids T d s = [] := by
  apply List.eq_nil_iff_forall_not_mem.2
  intro k hk
  obtain ⟨c, hc, h1, _, _⟩ := mem_kids.1 hk
  rcases h.node hc with e | ⟨x, hx, e⟩
  · exact hz (by rw [← h1, e])
  · exact hf x hx (by rw [e, h1])

theorem ids_one {T : List Cr} (h : (T.map Cr.id).Nodup) {a b : Cr} (ha : a ∈ T) (hb : b ∈ T) (e : a.id = b.id) : a = b := by
  obtain ⟨i, hi⟩ := List.mem_iff_getElem?.1 ha
  obtain ⟨j, hj⟩ := List.mem_iff_getElem?.1 hb
  have h1 : (T.map Cr.id)[i]? = (T.map Cr.id)[j]? := by rw [List.getElem?_map, List.getElem?_map, hi, hj]; simp [e]
  have hil : i < (T.map Cr.id).length := by simpa using (List.getElem?_eq_some_iff.1 hi).1
  have := (List.getElem?_inj hil h).1 h1
  subst this
  rw [hi] at hj
  cases hj
  rfl

end

section

/-- A character's tree, in order, so deep. -/
def trF (T : List Cr) : Nat → Dt → List Dt
  | 0, _ => []
  | f + 1, d => (kids T d false).flatMap (trF T f) ++ (if d = (0, 0) then [] else [d]) ++ (kids T d true).flatMap (trF T f)

/-- Is a tree at most so deep? -/
def dep (T : List Cr) : Nat → Dt → Prop
  | 0, _ => False
  | f + 1, d => ∀ s, ∀ k ∈ kids T d s, dep T f k

theorem dep_mono {T : List Cr} : ∀ {f : Nat} {d : Dt}, dep T f d → dep T (f + 1) d
  | 0, _, h => h.elim
  | _ + 1, _, h => fun s k hk => dep_mono (h s k hk)

theorem dep_le {T : List Cr} {f f' : Nat} {d : Dt} (h : dep T f d) (hf : f ≤ f') : dep T f' d := by
  induction hf with
  | refl => exact h
  | step _ ih => exact dep_mono ih

theorem flatMap_congr9 {α β : Type} {l : List α} {f g : α → List β} (h : ∀ x ∈ l, f x = g x) : l.flatMap f = l.flatMap g := by
  induction l with
  | nil => rfl
  | cons a r ih =>
    rw [List.flatMap_cons, List.flatMap_cons, h a (by simp), ih (fun x hx => h x (List.mem_cons_of_mem _ hx))]

/-- Deeper than it is tells nothing more. -/
theorem trF_stable {T : List Cr} : ∀ {f : Nat} {d : Dt}, dep T f d → trF T (f + 1) d = trF T f d
  | 0, _, h => h.elim
  | f + 1, d, h => by
    show (kids T d false).flatMap (trF T (f + 1)) ++ (if d = (0, 0) then [] else [d]) ++ (kids T d true).flatMap (trF T (f + 1)) = (kids T d false).flatMap (trF T f) ++ (if d = (0, 0) then [] else [d]) ++ (kids T d true).flatMap (trF T f)
    rw [flatMap_congr9 (fun k hk => trF_stable (h false k hk)), flatMap_congr9 (fun k hk => trF_stable (h true k hk))]

theorem trF_le {T : List Cr} {f f' : Nat} {d : Dt} (h : dep T f d) (hf : f ≤ f') : trF T f' d = trF T f d := by
  induction hf with
  | refl => rfl
  | step hle ih => rw [trF_stable (dep_le h hle), ih]

/-- A character that came as number i has less than so many below it. -/
theorem WT.dep {T : List Cr} (h : WT T) : ∀ (f i : Nat) (c : Cr), T[i]? = some c → T.length ≤ f + i → dep T f c.id := by
  intro f
  induction f with
  | zero =>
    intro i c hc hl
    have := (List.getElem?_eq_some_iff.1 hc).1
    omega
  | succ f ih =>
    intro i c hc hl s k hk
    obtain ⟨x, hx, e1, _, rfl⟩ := mem_kids.1 hk
    obtain ⟨j, hj⟩ := List.mem_iff_getElem?.1 hx
    have hij : i < j := by
      rcases h.under j x hj with e | ⟨y, hy, e⟩
      · exact absurd (by rw [← e1, e]) (h.nz c (List.mem_of_getElem? hc))
      · have : y = c := ids_one h.ids (List.mem_of_mem_take hy) (List.mem_of_getElem? hc) (by rw [e, e1])
        subst this
        obtain ⟨m, hm⟩ := List.mem_iff_getElem?.1 hy
        have hmj : m < j := by
          have := (List.getElem?_eq_some_iff.1 hm).1
          rw [List.length_take] at this
          omega
        rw [List.getElem?_take, if_pos hmj] at hm
        have hil : i < (T.map Cr.id).length := by simpa using (List.getElem?_eq_some_iff.1 hc).1
        have := (List.getElem?_inj hil h.ids).1 (show (T.map Cr.id)[i]? = (T.map Cr.id)[m]? by rw [List.getElem?_map, List.getElem?_map, hc, hm])
        omega
    exact ih j x hj (by omega)

theorem WT.dep_all {T : List Cr} (h : WT T) {c : Cr} (hc : c ∈ T) : Proofs.Ytbpepmajpojacaa.dep T T.length c.id := by
  obtain ⟨i, hi⟩ := List.mem_iff_getElem?.1 hc
  exact h.dep _ i c hi (by omega)

theorem WT.dep_root {T : List Cr} (h : WT T) : Proofs.Ytbpepmajpojacaa.dep T (T.length + 1) (0, 0) := fun s k hk => by
  obtain ⟨x, hx, _, _, rfl⟩ := mem_kids.1 hk
  exact h.dep_all hx

/-- All characters, in order. -/
def allT (T : List Cr) : List Dt := trF T (T.length + 1) (0, 0)

/-- The order hangs on which there are alone. -/
theorem kids_perm {T T' : List Cr} (h : T.Perm T') (d : Dt) (s : Bool) : kids T d s = kids T' d s :=
  up_ext (kids_up _ _ _) (kids_up _ _ _) (fun x => by
    rw [mem_kids, mem_kids]
    constructor
    · rintro ⟨c, hc, r⟩
      exact ⟨c, h.mem_iff.1 hc, r⟩
    · rintro ⟨c, hc, r⟩
      exact ⟨c, h.mem_iff.2 hc, r⟩)

theorem trF_kids {T T' : List Cr} (h : ∀ d s, kids T d s = kids T' d s) : ∀ (f : Nat) (d : Dt), trF T f d = trF T' f d
  | 0, _ => rfl
  | f + 1, d => by
    show (kids T d false).flatMap (trF T f) ++ _ ++ (kids T d true).flatMap (trF T f) = (kids T' d false).flatMap (trF T' f) ++ _ ++ (kids T' d true).flatMap (trF T' f)
    rw [h d false, h d true, flatMap_congr9 (fun k _ => trF_kids h f k), flatMap_congr9 (fun k _ => trF_kids h f k)]

theorem allT_perm {T T' : List Cr} (h : T.Perm T') : allT T = allT T' := by
  unfold allT
  rw [h.length_eq]
  exact trF_kids (kids_perm h) _ _

/-- What a tree has: itself, and what its kids' trees have. -/
theorem mem_trF {T : List Cr} (hT : WT T) : ∀ {f : Nat} {d k : Dt}, k ∈ trF T f d → (k = d ∧ d ≠ (0, 0)) ∨ ∃ c ∈ T, c.id = k
  | 0, _, _, h => by simp [trF] at h
  | f + 1, d, k, h => by
    unfold trF at h
    rcases List.mem_append.1 h with h | h
    · rcases List.mem_append.1 h with h | h
      · obtain ⟨x, hx, hk⟩ := List.mem_flatMap.1 h
        obtain ⟨c, hc, _, _, rfl⟩ := mem_kids.1 hx
        rcases mem_trF hT hk with ⟨e, _⟩ | h'
        · exact Or.inr ⟨c, hc, e.symm⟩
        · exact Or.inr h'
      · split at h
        · simp at h
        · rename_i hd
          simp at h
          exact Or.inl ⟨h, hd⟩
    · obtain ⟨x, hx, hk⟩ := List.mem_flatMap.1 h
      obtain ⟨c, hc, _, _, rfl⟩ := mem_kids.1 hx
      rcases mem_trF hT hk with ⟨e, _⟩ | h'
      · exact Or.inr ⟨c, hc, e.symm⟩
      · exact Or.inr h'

/-- One more, that nothing lies under: the others stay in their order. -/
theorem trF_more {T : List Cr} (hT : WT T) {c : Cr} (hfr : ∀ x ∈ T, x.id ≠ c.id) (hnz : c.id ≠ (0, 0)) (hat : nodes T c.at_) : ∀ (f : Nat) (d : Dt), d ≠ c.id → (trF (T ++ [c]) f d).filter (fun k => decide (k ≠ c.id)) = trF T f d
  | 0, _, _ => rfl
  | f + 1, d, hd => by
    have hca : c.at_ ≠ c.id := fun e => by
      rcases hat with h0 | ⟨x, hx, e'⟩
      · exact hnz (by rw [← e, h0])
      · exact hfr x hx (by rw [e', e])
    have hself : ∀ f', (trF (T ++ [c]) f' c.id).filter (fun k => decide (k ≠ c.id)) = [] := fun f' => by
      cases f' with
      | zero => rfl
      | succ f' =>
        have hk : ∀ s, kids (T ++ [c]) c.id s = [] := fun s => by rw [kids_snoc, if_neg (fun e => hca e.1), hT.fresh hfr hnz]
        unfold trF
        rw [hk, hk, if_neg hnz]
        simp
    have hrow : ∀ s, ((kids (T ++ [c]) d s).flatMap (trF (T ++ [c]) f)).filter (fun k => decide (k ≠ c.id)) = (kids T d s).flatMap (trF T f) := fun s => by
      have hflat : ∀ l : List Dt, (∀ x ∈ l, x ≠ c.id) → (l.flatMap (trF (T ++ [c]) f)).filter (fun k => decide (k ≠ c.id)) = l.flatMap (trF T f) := fun l hl => by
        induction l with
        | nil => rfl
        | cons a r ih =>
          rw [List.flatMap_cons, List.flatMap_cons, List.filter_append, trF_more hT hfr hnz hat f a (hl a (by simp)), ih (fun x hx => hl x (List.mem_cons_of_mem _ hx))]
      have hk : ∀ x ∈ kids T d s, x ≠ c.id := fun x hx e => by
        obtain ⟨y, hy, _, _, e'⟩ := mem_kids.1 hx
        exact hfr y hy (by rw [e', e])
      rw [kids_snoc]
      split
      · have hins : ∀ l : List Dt, (∀ x ∈ l, x ≠ c.id) → ((ins l c.id).flatMap (trF (T ++ [c]) f)).filter (fun k => decide (k ≠ c.id)) = l.flatMap (trF T f) := fun l => by
          induction l with
          | nil =>
            intro _
            show ((([c.id] : List Dt)).flatMap _).filter _ = []
            rw [List.flatMap_cons, List.flatMap_nil, List.append_nil]
            exact hself f
          | cons a r ih =>
            intro hl
            unfold ins
            split
            · rw [List.flatMap_cons, List.flatMap_cons, List.filter_append, trF_more hT hfr hnz hat f a (hl a (by simp)), ih (fun x hx => hl x (List.mem_cons_of_mem _ hx))]
            · rw [if_neg (hl a (by simp)), List.flatMap_cons, List.filter_append, hself f, List.nil_append]
              exact hflat (a :: r) hl
        exact hins _ hk
      · exact hflat _ hk
    unfold trF
    rw [List.filter_append, List.filter_append, hrow, hrow]
    congr 2
    split
    · rfl
    · simp [hd]

end

section

theorem trF_kid {T : List Cr} {f : Nat} {d k : Dt} {s : Bool} (hk : k ∈ kids T d s) : ∀ x ∈ trF T f k, x ∈ trF T (f + 1) d := fun x hx => by
  show x ∈ (kids T d false).flatMap (trF T f) ++ (if d = (0, 0) then [] else [d]) ++ (kids T d true).flatMap (trF T f)
  cases s with
  | false => exact List.mem_append_left _ (List.mem_append_left _ (List.mem_flatMap.2 ⟨k, hk, hx⟩))
  | true => exact List.mem_append_right _ (List.mem_flatMap.2 ⟨k, hk, hx⟩)

theorem trF_self {T : List Cr} {f : Nat} {d : Dt} (h : dep T f d) (hz : d ≠ (0, 0)) : d ∈ trF T f d := by
  cases f with
  | zero => exact h.elim
  | succ f =>
    show d ∈ (kids T d false).flatMap (trF T f) ++ (if d = (0, 0) then [] else [d]) ++ (kids T d true).flatMap (trF T f)
    rw [if_neg hz]
    simp

/-- A character's tree is among all. -/
theorem WT.sub_all {T : List Cr} (h : WT T) : ∀ (i : Nat) (c : Cr), T[i]? = some c → ∀ x ∈ trF T T.length c.id, x ∈ allT T := by
  intro i
  induction i using Nat.strongRecOn with
  | ind i ih =>
    intro c hc x hx
    have hcm := List.mem_of_getElem? hc
    have hk : c.id ∈ kids T c.at_ c.sd := mem_kids.2 ⟨c, hcm, rfl, rfl, rfl⟩
    rcases h.under i c hc with e | ⟨p, hp, e⟩
    · rw [e] at hk
      exact trF_kid hk x hx
    · obtain ⟨j, hj⟩ := List.mem_iff_getElem?.1 hp
      have hji : j < i := by
        have := (List.getElem?_eq_some_iff.1 hj).1
        rw [List.length_take] at this
        omega
      rw [List.getElem?_take, if_pos hji] at hj
      refine ih j hji p hj x ?_
      have hd := h.dep_all (List.mem_of_getElem? hj)
      obtain ⟨m, hm⟩ : ∃ m, T.length = m + 1 := by
        have := (List.getElem?_eq_some_iff.1 hj).1
        exact ⟨T.length - 1, by omega⟩
      rw [hm] at hd hx ⊢
      rw [← e] at hk
      have hdk : Proofs.Ytbpepmajpojacaa.dep T m c.id := hd c.sd c.id hk
      rw [trF_stable hdk] at hx
      exact trF_kid hk x hx

theorem mem_allT {T : List Cr} (h : WT T) {k : Dt} : k ∈ allT T ↔ ∃ c ∈ T, c.id = k := by
  constructor
  · intro hk
    rcases mem_trF h hk with ⟨_, hz⟩ | hc
    · exact absurd rfl hz
    · exact hc
  · rintro ⟨c, hc, rfl⟩
    obtain ⟨i, hi⟩ := List.mem_iff_getElem?.1 hc
    exact h.sub_all i c hi _ (trF_self (h.dep_all hc) (h.nz c hc))

end

section

/-- Whatever is in a tree is its own root, or lies under something in it. -/
theorem trF_up {T : List Cr} (hT : WT T) : ∀ {f : Nat} {k : Dt} {x : Cr}, x ∈ T → k ≠ (0, 0) → x.id ∈ trF T f k → x.id = k ∨ x.at_ ∈ trF T f k
  | 0, _, _, _, _, h => by simp [trF] at h
  | f + 1, k, x, hx, hz, h => by
    have hself : k ∈ trF T (f + 1) k := by unfold trF; rw [if_neg hz]; simp
    have one : ∀ s, x.id ∈ (kids T k s).flatMap (trF T f) → x.id = k ∨ x.at_ ∈ trF T (f + 1) k := fun s hs => by
      obtain ⟨k', hk', hm⟩ := List.mem_flatMap.1 hs
      obtain ⟨c, hc, h1, _, h3⟩ := mem_kids.1 hk'
      have hz' : k' ≠ (0, 0) := by rw [← h3]; exact hT.nz c hc
      rcases trF_up hT hx hz' hm with e | e
      · have : x = c := ids_one hT.ids hx hc (by rw [e, h3])
        rw [this, h1]
        exact Or.inr hself
      · exact Or.inr (trF_kid hk' _ e)
    unfold trF at h
    rcases List.mem_append.1 h with h | h
    · rcases List.mem_append.1 h with h | h
      · exact one false h
      · rw [if_neg hz] at h
        exact Or.inl (by simpa using h)
    · exact one true h

theorem under_lt {T : List Cr} (hT : WT T) {i j : Nat} {c x : Cr} (hc : T[i]? = some c) (hx : T[j]? = some x) (e : x.at_ = c.id) : i < j := by
  rcases hT.under j x hx with h0 | ⟨y, hy, e'⟩
  · exact absurd (by rw [← e, h0]) (hT.nz c (List.mem_of_getElem? hc))
  · have : y = c := ids_one hT.ids (List.mem_of_mem_take hy) (List.mem_of_getElem? hc) (by rw [e', e])
    subst this
    obtain ⟨m, hm⟩ := List.mem_iff_getElem?.1 hy
    have hmj : m < j := by
      have := (List.getElem?_eq_some_iff.1 hm).1
      rw [List.length_take] at this
      omega
    rw [List.getElem?_take, if_pos hmj] at hm
    have hil : i < (T.map Cr.id).length := by simpa using (List.getElem?_eq_some_iff.1 hc).1
    have := (List.getElem?_inj hil hT.ids).1 (show (T.map Cr.id)[i]? = (T.map Cr.id)[m]? by rw [List.getElem?_map, List.getElem?_map, hc, hm])
    omega

theorem at_one {T : List Cr} (hT : WT T) {i j : Nat} {c x : Cr} (hc : T[i]? = some c) (hx : T[j]? = some x) (e : c.id = x.id) : i = j := by
  have hil : i < (T.map Cr.id).length := by simpa using (List.getElem?_eq_some_iff.1 hc).1
  exact (List.getElem?_inj hil hT.ids).1 (show (T.map Cr.id)[i]? = (T.map Cr.id)[j]? by rw [List.getElem?_map, List.getElem?_map, hc, hx]; simp [e])

/-- What is in a tree came no earlier than its root. -/
theorem trF_later {T : List Cr} (hT : WT T) : ∀ {f : Nat} {i j : Nat} {c x : Cr}, T[i]? = some c → T[j]? = some x → x.id ∈ trF T f c.id → i ≤ j
  | 0, _, _, _, _, _, _, h => by simp [trF] at h
  | f + 1, i, j, c, x, hc, hx, h => by
    have one : ∀ s, x.id ∈ (kids T c.id s).flatMap (trF T f) → i ≤ j := fun s hs => by
      obtain ⟨k', hk', hm⟩ := List.mem_flatMap.1 hs
      obtain ⟨y, hy, h1, _, rfl⟩ := mem_kids.1 hk'
      obtain ⟨m, hm'⟩ := List.mem_iff_getElem?.1 hy
      have := under_lt hT hc hm' h1
      have := trF_later hT hm' hx hm
      omega
    unfold trF at h
    rcases List.mem_append.1 h with h | h
    · rcases List.mem_append.1 h with h | h
      · exact one false h
      · rw [if_neg (hT.nz c (List.mem_of_getElem? hc))] at h
        have := at_one hT hx hc (by simpa using h)
        omega
    · exact one true h

/-- Of two trees with something in common one has the other one's root. -/
theorem trF_meet {T : List Cr} (hT : WT T) {f : Nat} {k1 k2 : Dt} (hz1 : k1 ≠ (0, 0)) (hz2 : k2 ≠ (0, 0)) : ∀ (i : Nat) (x : Cr), T[i]? = some x → x.id ∈ trF T f k1 → x.id ∈ trF T f k2 → k1 ∈ trF T f k2 ∨ k2 ∈ trF T f k1 := by
  intro i
  induction i using Nat.strongRecOn with
  | ind i ih =>
    intro x hx h1 h2
    have hxm := List.mem_of_getElem? hx
    rcases trF_up hT hxm hz1 h1 with e | e1
    · rw [e] at h2; exact Or.inl h2
    · rcases trF_up hT hxm hz2 h2 with e | e2
      · rw [e] at h1; exact Or.inr h1
      · rcases hT.under i x hx with h0 | ⟨p, hp, e⟩
        · rcases mem_trF hT e1 with ⟨_, h⟩ | ⟨c, hc, e⟩
          · exact absurd (by simp_all) h
          · exact absurd (by rw [e, h0]) (hT.nz c hc)
        · obtain ⟨m, hm⟩ := List.mem_iff_getElem?.1 hp
          have hmi : m < i := by
            have := (List.getElem?_eq_some_iff.1 hm).1
            rw [List.length_take] at this
            omega
          rw [List.getElem?_take, if_pos hmi] at hm
          rw [← e] at e1 e2
          exact ih m hmi p hm e1 e2

/-- Two that lie under one have nothing in common. -/
theorem trF_apart {T : List Cr} (hT : WT T) {f : Nat} {a b : Cr} (ha : a ∈ T) (hb : b ∈ T) (he : a.at_ = b.at_) (hne : a.id ≠ b.id) {y : Dt} (h1 : y ∈ trF T f a.id) (h2 : y ∈ trF T f b.id) : False := by
  have no : ∀ {a b : Cr}, a ∈ T → b ∈ T → a.at_ = b.at_ → a.id ≠ b.id → a.id ∈ trF T f b.id → False := fun {a b} ha hb he hne h => by
    rcases trF_up hT ha (hT.nz b hb) h with e | e
    · exact hne e
    · obtain ⟨j, hj⟩ := List.mem_iff_getElem?.1 hb
      rcases mem_trF hT e with ⟨e', _⟩ | ⟨c, hc, e'⟩
      · have := under_lt hT hj hj (by rw [← he, e'])
        omega
      · obtain ⟨i, hi⟩ := List.mem_iff_getElem?.1 hc
        rw [← e'] at e
        have h3 := trF_later hT hj hi e
        have h4 := under_lt hT hi hj (by rw [← he, e'])
        omega
  have hy : ∃ c ∈ T, c.id = y := by
    rcases mem_trF hT h1 with ⟨e, _⟩ | h
    · exact ⟨a, ha, e.symm⟩
    · exact h
  obtain ⟨c, hc, rfl⟩ := hy
  obtain ⟨i, hi⟩ := List.mem_iff_getElem?.1 hc
  rcases trF_meet hT (hT.nz a ha) (hT.nz b hb) i c hi h1 h2 with h | h
  · exact no ha hb he hne h
  · exact no hb ha he.symm (Ne.symm hne) h

theorem flat_nodup9 {l : List Dt} {f : Dt → List Dt} (hl : l.Nodup) (hf : ∀ k ∈ l, (f k).Nodup) (hd : ∀ k ∈ l, ∀ k' ∈ l, k ≠ k' → ∀ y, y ∈ f k → y ∈ f k' → False) : (l.flatMap f).Nodup := by
  induction l with
  | nil => simp
  | cons a r ih =>
    rw [List.flatMap_cons, List.nodup_append]
    have hl' := List.nodup_cons.1 hl
    refine ⟨hf a (by simp), ih hl'.2 (fun k hk => hf k (List.mem_cons_of_mem _ hk)) (fun k hk k' hk' => hd k (List.mem_cons_of_mem _ hk) k' (List.mem_cons_of_mem _ hk')), fun x hx y hy e => ?_⟩
    subst e
    obtain ⟨k, hk, hm⟩ := List.mem_flatMap.1 hy
    exact hd a (by simp) k (List.mem_cons_of_mem _ hk) (fun e => hl'.1 (e ▸ hk)) x hx hm

/-- Each character stands once in the order. -/
theorem trF_once {T : List Cr} (hT : WT T) : ∀ (f : Nat) (d : Dt), nodes T d → (trF T f d).Nodup
  | 0, _, _ => by simp [trF]
  | f + 1, d, hd => by
    have hrow : ∀ s, ((kids T d s).flatMap (trF T f)).Nodup := fun s =>
      flat_nodup9 (up_nodup (kids_up T d s)) (fun k hk => by
        obtain ⟨c, hc, _, _, e⟩ := mem_kids.1 hk
        exact trF_once hT f k (Or.inr ⟨c, hc, e⟩)) (fun k hk k' hk' hne y h1 h2 => by
        obtain ⟨c, hc, e1, _, rfl⟩ := mem_kids.1 hk
        obtain ⟨c', hc', e1', _, rfl⟩ := mem_kids.1 hk'
        exact trF_apart hT hc hc' (by rw [e1, e1']) hne h1 h2)
    have hnd : ∀ s, d ≠ (0, 0) → d ∉ (kids T d s).flatMap (trF T f) := fun s hz h => by
      obtain ⟨k, hk, hm⟩ := List.mem_flatMap.1 h
      obtain ⟨c, hc, e1, _, rfl⟩ := mem_kids.1 hk
      rcases hd with e | ⟨x, hx, rfl⟩
      · exact hz e
      · obtain ⟨i, hi⟩ := List.mem_iff_getElem?.1 hx
        obtain ⟨j, hj⟩ := List.mem_iff_getElem?.1 hc
        have := under_lt hT hi hj e1
        have := trF_later hT hj hi hm
        omega
    unfold trF
    rw [List.nodup_append, List.nodup_append]
    refine ⟨⟨hrow false, ?_, fun x hx y hy e => ?_⟩, hrow true, fun x hx y hy e => ?_⟩
    · split <;> simp
    · subst e
      split at hy
      · simp at hy
      · rename_i hz
        simp at hy
        subst hy
        exact hnd false hz hx
    · subst e
      rcases List.mem_append.1 hx with hx | hx
      · obtain ⟨k, hk, hm⟩ := List.mem_flatMap.1 hx
        obtain ⟨k', hk', hm'⟩ := List.mem_flatMap.1 hy
        obtain ⟨c, hc, e1, s1, rfl⟩ := mem_kids.1 hk
        obtain ⟨c', hc', e1', s1', rfl⟩ := mem_kids.1 hk'
        refine trF_apart hT hc hc' (by rw [e1, e1']) (fun e => ?_) hm hm'
        have := ids_one hT.ids hc hc' e
        rw [this, s1'] at s1
        cases s1
      · split at hx
        · simp at hx
        · rename_i hz
          simp at hx
          subst hx
          exact hnd true hz hy

theorem allT_once {T : List Cr} (hT : WT T) : (allT T).Nodup := trF_once hT _ _ (Or.inl rfl)

theorem allT_perm_ids {T : List Cr} (hT : WT T) : (allT T).Perm (T.map Cr.id) := by
  refine (List.perm_ext_iff_of_nodup (allT_once hT) hT.ids).2 (fun d => ?_)
  rw [mem_allT hT, List.mem_map]

theorem allT_len {T : List Cr} (hT : WT T) : (allT T).length = T.length := by
  have := (allT_perm_ids hT).length_eq
  simpa using this

/-- The character of an identity. -/
def fnd (T : List Cr) (d : Dt) : Option Cr := T.find? (fun c => decide (c.id = d))

theorem fnd_of {T : List Cr} (hT : WT T) {c : Cr} (hc : c ∈ T) : fnd T c.id = some c := by
  unfold fnd
  cases h : T.find? (fun x => decide (x.id = c.id)) with
  | none => exact absurd (List.find?_eq_none.1 h c hc) (by simp)
  | some x =>
    have h1 := List.find?_some h
    have h2 := List.mem_of_find?_eq_some h
    rw [ids_one hT.ids h2 hc (by simpa using h1)]

theorem fnd_some {T : List Cr} {d : Dt} {c : Cr} (h : fnd T d = some c) : c ∈ T ∧ c.id = d := ⟨List.mem_of_find?_eq_some h, by simpa using List.find?_some h⟩

theorem fnd_none {T : List Cr} {d : Dt} : fnd T d = none ↔ ∀ c ∈ T, c.id ≠ d := by
  unfold fnd
  rw [List.find?_eq_none]
  simp

/-- All characters, in order, themselves. -/
def allC (T : List Cr) : List Cr := (allT T).filterMap (fnd T)

theorem filterMap_ids {T : List Cr} : ∀ (l : List Dt), (∀ d ∈ l, ∃ c, fnd T d = some c) → (l.filterMap (fnd T)).map Cr.id = l
  | [], _ => rfl
  | d :: r, h => by
    obtain ⟨c, hc⟩ := h d (by simp)
    rw [List.filterMap_cons_some hc, List.map_cons, (fnd_some hc).2, filterMap_ids r (fun x hx => h x (List.mem_cons_of_mem _ hx))]

theorem allC_ids {T : List Cr} (hT : WT T) : (allC T).map Cr.id = allT T := filterMap_ids _ (fun d hd => by
  obtain ⟨c, hc, rfl⟩ := (mem_allT hT).1 hd
  exact ⟨c, fnd_of hT hc⟩)

theorem allC_mem {T : List Cr} {c : Cr} (h : c ∈ allC T) : c ∈ T := by
  obtain ⟨d, _, hd⟩ := List.mem_filterMap.1 h
  exact (fnd_some hd).1

theorem mem_allC {T : List Cr} (hT : WT T) {c : Cr} (h : c ∈ T) : c ∈ allC T := List.mem_filterMap.2 ⟨c.id, (mem_allT hT).2 ⟨c, h, rfl⟩, fnd_of hT h⟩

theorem allC_len {T : List Cr} (hT : WT T) : (allC T).length = T.length := by
  rw [← allT_len hT, ← allC_ids hT, List.length_map]

/-- Characters are told by their identities. -/
theorem chars_of_ids {T : List Cr} (hT : WT T) : ∀ (l m : List Cr), (∀ c ∈ l, c ∈ T) → (∀ c ∈ m, c ∈ T) → l.map Cr.id = m.map Cr.id → l = m
  | [], [], _, _, _ => rfl
  | [], _ :: _, _, _, h => by simp at h
  | _ :: _, [], _, _, h => by simp at h
  | a :: l, b :: m, hl, hm, h => by
    rw [List.map_cons, List.map_cons] at h
    injection h with h1 h2
    rw [ids_one hT.ids (hl a (by simp)) (hm b (by simp)) h1, chars_of_ids hT l m (fun c hc => hl c (List.mem_cons_of_mem _ hc)) (fun c hc => hm c (List.mem_cons_of_mem _ hc)) h2]

end

section

theorem flat_split9 {α β : Type} {l : List α} {a : α} {f : α → List β} (h : a ∈ l) : ∃ A B, l.flatMap f = A ++ f a ++ B := by
  obtain ⟨p, q, rfl⟩ := List.append_of_mem h
  exact ⟨p.flatMap f, q.flatMap f, by simp⟩

/-- Behind a character comes what lies at its right side. -/
theorem trF_split {T : List Cr} (hT : WT T) : ∀ {f : Nat} {d x : Dt}, dep T f d → x ∈ trF T f d → ∃ A B g, trF T f d = A ++ (x :: ((kids T x true).flatMap (trF T g) ++ B)) ∧ ∀ s, ∀ k ∈ kids T x s, dep T g k
  | 0, _, _, h, _ => h.elim
  | f + 1, d, x, hd, hx => by
    have one : ∀ s, x ∈ (kids T d s).flatMap (trF T f) → ∃ A B g, (kids T d s).flatMap (trF T f) = A ++ (x :: ((kids T x true).flatMap (trF T g) ++ B)) ∧ ∀ s, ∀ k ∈ kids T x s, dep T g k := fun s hs => by
      obtain ⟨k, hk, hm⟩ := List.mem_flatMap.1 hs
      obtain ⟨A, B, g, e, hg⟩ := trF_split hT (hd s k hk) hm
      obtain ⟨A', B', e'⟩ := flat_split9 (f := trF T f) hk
      refine ⟨A' ++ A, B ++ B', g, ?_, hg⟩
      rw [e', e]
      simp
    unfold trF at hx ⊢
    rcases List.mem_append.1 hx with hx | hx
    · rcases List.mem_append.1 hx with hx | hx
      · obtain ⟨A, B, g, e, hg⟩ := one false hx
        refine ⟨A, B ++ ((if d = (0, 0) then [] else [d]) ++ (kids T d true).flatMap (trF T f)), g, ?_, hg⟩
        rw [e]
        simp
      · split at hx
        · simp at hx
        · simp at hx
          subst hx
          refine ⟨(kids T x false).flatMap (trF T f), [], f, ?_, fun s k hk => hd s k hk⟩
          rename_i hz
          rw [if_neg hz]
          simp
    · obtain ⟨A, B, g, e, hg⟩ := one true hx
      refine ⟨(kids T d false).flatMap (trF T f) ++ (if d = (0, 0) then [] else [d]) ++ A, B, g, ?_, hg⟩
      rw [e]
      simp

/-- The first one of a tree. -/
def frst (T : List Cr) : Nat → Dt → Dt
  | 0, d => d
  | f + 1, d => match kids T d false with
    | [] => d
    | k :: _ => frst T f k

theorem frst_head {T : List Cr} (hT : WT T) : ∀ {f : Nat} {d : Dt}, dep T f d → d ≠ (0, 0) → (trF T f d).head? = some (frst T f d)
  | 0, _, h, _ => h.elim
  | f + 1, d, h, hz => by
    unfold trF frst
    cases hk : kids T d false with
    | nil => rw [if_neg hz]; simp
    | cons k r =>
      have hm : k ∈ kids T d false := by rw [hk]; simp
      obtain ⟨c, hc, _, _, e⟩ := mem_kids.1 hm
      have ih := frst_head hT (h false k hm) (by rw [← e]; exact hT.nz c hc)
      rw [List.flatMap_cons]
      cases ht : trF T f k with
      | nil => rw [ht] at ih; simp at ih
      | cons a b => rw [ht] at ih; simpa using ih

theorem frst_bare {T : List Cr} : ∀ {f : Nat} {d : Dt}, dep T f d → kids T (frst T f d) false = []
  | 0, _, h => h.elim
  | f + 1, d, h => by
    unfold frst
    cases hk : kids T d false with
    | nil => exact hk
    | cons k r => exact frst_bare (h false k (by rw [hk]; simp))

theorem frst_stable {T : List Cr} : ∀ {f : Nat} {d : Dt}, dep T f d → frst T (f + 1) d = frst T f d
  | 0, _, h => h.elim
  | f + 1, d, h => by
    cases hk : kids T d false with
    | nil => simp [frst, hk]
    | cons k r =>
      have := frst_stable (h false k (by rw [hk]; simp))
      unfold frst
      rw [hk]
      exact this

theorem frst_le {T : List Cr} {f f' : Nat} {d : Dt} (h : dep T f d) (hf : f ≤ f') : frst T f' d = frst T f d := by
  induction hf with
  | refl => rfl
  | step hle ih => rw [frst_stable (dep_le h hle), ih]

theorem frst_mem {T : List Cr} : ∀ {f : Nat} {d : Dt}, (∃ c ∈ T, c.id = d) → ∃ c ∈ T, c.id = frst T f d
  | 0, _, h => h
  | f + 1, d, h => by
    unfold frst
    cases hk : kids T d false with
    | nil => exact h
    | cons k r =>
      obtain ⟨c, hc, _, _, e⟩ := mem_kids.1 (show k ∈ kids T d false by rw [hk]; simp)
      exact frst_mem ⟨c, hc, e⟩

/-- Where a character that is to stand next to left is put in: under which one, and at which side (true: the right one). -/
def plc (T : List Cr) (left : Dt) : Dt × Bool := match kids T left true with
  | [] => (left, true)
  | k :: _ => (frst T T.length k, false)

/-- What stands next to one; of the root: the first one. -/
def nextT (T : List Cr) (left : Dt) (r : List Dt) : Prop := (left = (0, 0) ∧ r = allT T) ∨ ∃ A, allT T = A ++ left :: r

theorem right_next {T : List Cr} (hT : WT T) {left : Dt} {r : List Dt} (h : nextT T left r) {k : Dt} {ks : List Dt} (hk : kids T left true = k :: ks) : r.head? = some (frst T T.length k) := by
  have hkm : k ∈ kids T left true := by rw [hk]; simp
  obtain ⟨c, hc, hat, hsd, rfl⟩ := mem_kids.1 hkm
  have hz := hT.nz c hc
  rcases h with ⟨rfl, rfl⟩ | ⟨A, e⟩
  · have hf : kids T (0, 0) false = [] := List.eq_nil_iff_forall_not_mem.2 (fun x hx => by
      obtain ⟨y, hy, h1, h2, _⟩ := mem_kids.1 hx
      rw [hT.root y hy h1] at h2
      cases h2)
    have hh := frst_head hT (hT.dep_all hc) hz
    unfold allT trF
    rw [hf, hk, if_pos rfl, List.flatMap_nil, List.flatMap_cons]
    cases ht : trF T T.length c.id with
    | nil => rw [ht] at hh; simp at hh
    | cons a b => rw [ht] at hh; simpa using hh
  · have hlm : left ∈ allT T := by rw [e]; simp
    obtain ⟨A', B, g, e', hg⟩ := trF_split hT hT.dep_root hlm
    have e2 : allT T = A' ++ (left :: ((kids T left true).flatMap (trF T g) ++ B)) := e'
    have hnd := allT_once hT
    have hr : r = (kids T left true).flatMap (trF T g) ++ B := by
      have h1 : A ++ left :: r = A' ++ (left :: ((kids T left true).flatMap (trF T g) ++ B)) := by rw [← e, e2]
      have hl1 : left ∉ A := fun hm => by
        rw [e, List.nodup_append] at hnd
        exact hnd.2.2 left hm left (by simp) rfl
      have hl2 : left ∉ A' := fun hm => by
        rw [e2, List.nodup_append] at hnd
        exact hnd.2.2 left hm left (by simp) rfl
      have : ∀ (P Q X Y : List Dt), left ∉ P → left ∉ Q → P ++ left :: X = Q ++ left :: Y → X = Y := by
        intro P
        induction P with
        | nil =>
          intro Q X Y _ hQ h
          cases Q with
          | nil => simpa using h
          | cons q Q => simp at h; exact absurd (by rw [h.1]; simp) hQ
        | cons p P ih =>
          intro Q X Y hP hQ h
          cases Q with
          | nil => simp at h; exact absurd (by rw [h.1]; simp) hP
          | cons q Q =>
            simp at h
            exact ih Q X Y (fun hm => hP (List.mem_cons_of_mem _ hm)) (fun hm => hQ (List.mem_cons_of_mem _ hm)) h.2
      exact this _ _ _ _ hl1 hl2 h1
    have hgk := hg true c.id hkm
    have hh := frst_head hT hgk hz
    have hfe : frst T g c.id = frst T T.length c.id := by
      rcases Nat.le_total g T.length with hle | hle
      · exact (frst_le hgk hle).symm
      · exact frst_le (hT.dep_all hc) hle
    rw [hr, hk, List.flatMap_cons, ← hfe]
    cases ht : trF T g c.id with
    | nil => rw [ht] at hh; simp at hh
    | cons a b => rw [ht] at hh; simpa using hh

theorem flatMap_flat9 {α β γ : Type} (l : List α) (f : α → List β) (g : β → List γ) : (l.flatMap f).flatMap g = l.flatMap (fun x => (f x).flatMap g) := by
  induction l with
  | nil => rfl
  | cons a r ih => simp [ih]

/-- One more beside one that has none at that side. -/
theorem trF_beside {T : List Cr} (hT : WT T) {c : Cr} (hfr : ∀ x ∈ T, x.id ≠ c.id) (hnz : c.id ≠ (0, 0)) (hat : ∃ p ∈ T, p.id = c.at_) (hbare : kids T c.at_ c.sd = []) :
    ∀ (f : Nat) (d : Dt), dep T f d → d ≠ c.id → trF (T ++ [c]) (f + 1) d = (trF T f d).flatMap (fun k => if k = c.at_ then (if c.sd then [c.at_, c.id] else [c.id, c.at_]) else [k])
  | 0, _, h, _ => h.elim
  | f + 1, d, hd, hdc => by
    obtain ⟨p, hp, hpe⟩ := hat
    have hpz : c.at_ ≠ (0, 0) := by rw [← hpe]; exact hT.nz p hp
    have hca : c.at_ ≠ c.id := by rw [← hpe]; exact hfr p hp
    have hself : ∀ f', trF (T ++ [c]) (f' + 1) c.id = [c.id] := fun f' => by
      have hk : ∀ s, kids (T ++ [c]) c.id s = [] := fun s => by rw [kids_snoc, if_neg (fun e => hca e.1), hT.fresh hfr hnz]
      unfold trF
      rw [hk, hk, if_neg hnz]
      simp
    have hrow : ∀ s, (kids T d s).flatMap (trF (T ++ [c]) (f + 1)) = ((kids T d s).flatMap (trF T f)).flatMap (fun k => if k = c.at_ then (if c.sd then [c.at_, c.id] else [c.id, c.at_]) else [k]) := fun s => by
      rw [flatMap_flat9]
      exact flatMap_congr9 (fun k hk => trF_beside hT hfr hnz ⟨p, hp, hpe⟩ hbare f k (hd s k hk) (fun e => by
        obtain ⟨y, hy, _, _, e'⟩ := mem_kids.1 hk
        exact hfr y hy (by rw [e', e])))
    show (kids (T ++ [c]) d false).flatMap (trF (T ++ [c]) (f + 1)) ++ (if d = (0, 0) then [] else [d]) ++ (kids (T ++ [c]) d true).flatMap (trF (T ++ [c]) (f + 1)) = ((kids T d false).flatMap (trF T f) ++ (if d = (0, 0) then [] else [d]) ++ (kids T d true).flatMap (trF T f)).flatMap _
    rw [List.flatMap_append, List.flatMap_append, ← hrow, ← hrow, kids_snoc, kids_snoc]
    by_cases hda : c.at_ = d
    · subst hda
      rw [if_neg hpz]
      cases hs : c.sd with
      | false =>
        rw [hs] at hbare
        rw [if_pos ⟨rfl, rfl⟩, if_neg (by simp), hbare]
        simp [ins, hself]
      | true =>
        rw [hs] at hbare
        rw [if_neg (by simp), if_pos ⟨rfl, rfl⟩, hbare]
        simp [ins, hself]
    · have hno : ∀ s, (if c.at_ = d ∧ c.sd = s then ins (kids T d s) c.id else kids T d s) = kids T d s := fun s => if_neg (fun e => hda e.1)
      have hmid : (if d = (0, 0) then [] else [d]).flatMap (fun k => if k = c.at_ then (if c.sd then [c.at_, c.id] else [c.id, c.at_]) else [k]) = (if d = (0, 0) then [] else [d]) := by
        by_cases hz : d = (0, 0)
        · rw [if_pos hz]; rfl
        · rw [if_neg hz, List.flatMap_cons, if_neg (Ne.symm hda)]; rfl
      rw [hno, hno, hmid]

theorem beside_split {A r : List Dt} {p c : Dt} {b : Bool} (hA : p ∉ A) (hr : p ∉ r) : (A ++ p :: r).flatMap (fun k => if k = p then (if b then [p, c] else [c, p]) else [k]) = A ++ (if b then [p, c] else [c, p]) ++ r := by
  have h : ∀ l : List Dt, p ∉ l → l.flatMap (fun k => if k = p then (if b then [p, c] else [c, p]) else [k]) = l := fun l hl => by
    induction l with
    | nil => rfl
    | cons a s ih =>
      rw [List.flatMap_cons, if_neg (fun e => hl (by rw [e]; simp)), ih (fun hm => hl (List.mem_cons_of_mem _ hm))]
      rfl
  rw [List.flatMap_append, List.flatMap_cons, h A hA, h r hr, if_pos rfl]
  simp

theorem allT_beside {T : List Cr} (hT : WT T) {c : Cr} (hfr : ∀ x ∈ T, x.id ≠ c.id) (hnz : c.id ≠ (0, 0)) {A r : List Dt} (he : allT T = A ++ c.at_ :: r) (hbare : kids T c.at_ c.sd = []) : allT (T ++ [c]) = A ++ (if c.sd then [c.at_, c.id] else [c.id, c.at_]) ++ r := by
  have hm : c.at_ ∈ allT T := by rw [he]; simp
  have hnd := allT_once hT
  rw [he, List.nodup_append] at hnd
  have hA : c.at_ ∉ A := fun h => hnd.2.2 _ h _ (by simp) rfl
  have hr : c.at_ ∉ r := (List.nodup_cons.1 hnd.2.1).1
  have := trF_beside hT hfr hnz ((mem_allT hT).1 hm) hbare _ (0, 0) hT.dep_root (Ne.symm hnz)
  rw [← beside_split (c := c.id) hA hr, ← he]
  unfold allT at this ⊢
  rw [List.length_append, List.length_singleton]
  exact this

/-- One more at the place next to one stands next to it. -/
theorem allT_placed {T : List Cr} (hT : WT T) {c : Cr} (hfr : ∀ x ∈ T, x.id ≠ c.id) (hnz : c.id ≠ (0, 0)) {left : Dt} {A r : List Dt} (he : (left = (0, 0) ∧ A = []) ∧ r = allT T ∨ allT T = A ++ r ∧ ∃ A', A = A' ++ [left]) (hp : (c.at_, c.sd) = plc T left) : allT (T ++ [c]) = A ++ c.id :: r := by
  have hnext : nextT T left r := by
    rcases he with ⟨⟨rfl, rfl⟩, rfl⟩ | ⟨e, A', rfl⟩
    · exact Or.inl ⟨rfl, rfl⟩
    · exact Or.inr ⟨A', by rw [e]; simp⟩
  cases hk : kids T left true with
  | nil =>
    rw [plc, hk] at hp
    obtain ⟨h1, h2⟩ := Prod.mk.inj hp
    rcases he with ⟨⟨rfl, rfl⟩, rfl⟩ | ⟨e, A', rfl⟩
    · have hTn : T = [] := by
        cases T with
        | nil => rfl
        | cons y T' =>
          rcases hT.under 0 y rfl with h0 | ⟨z, hz, _⟩
          · have : y.id ∈ kids (y :: T') (0, 0) true := mem_kids.2 ⟨y, by simp, h0, hT.root y (by simp) h0, rfl⟩
            rw [hk] at this
            simp at this
          · simp at hz
      subst hTn
      have e : ∀ s, kids ([] ++ [c]) (0, 0) s = if s = true then [c.id] else [] := fun s => by
        rw [kids_snoc, h1, h2]
        cases s <;> simp [kids, rise, ins]
      have e2 : ∀ s, kids ([] ++ [c]) c.id s = [] := fun s => by
        rw [kids_snoc, h1, if_neg (fun h => hnz h.1.symm)]
        simp [kids, rise]
      have e3 : allT ([] : List Cr) = [] := by simp [allT, trF, kids, rise]
      rw [e3]
      unfold allT
      show trF ([] ++ [c]) 2 (0, 0) = [c.id]
      unfold trF
      rw [e, e]
      show ([] : List Dt) ++ [] ++ (trF ([] ++ [c]) 1 c.id ++ []) = [c.id]
      unfold trF
      rw [e2, e2, if_neg hnz]
      rfl
    · have he2 : allT T = A' ++ c.at_ :: r := by rw [e, h1]; simp
      have := allT_beside hT hfr hnz he2 (by rw [h1, h2]; exact hk)
      rw [this, h2, h1]
      simp
  | cons k ks =>
    rw [plc, hk] at hp
    obtain ⟨h1, h2⟩ := Prod.mk.inj hp
    have hh := right_next hT hnext hk
    have hkm : k ∈ kids T left true := by rw [hk]; simp
    obtain ⟨y, hy, _, _, hye⟩ := mem_kids.1 hkm
    have hbare : kids T c.at_ c.sd = [] := by
      rw [h1, h2]
      exact frst_bare (by rw [← hye]; exact hT.dep_all hy)
    cases r with
    | nil => simp at hh
    | cons a r =>
      have ha : a = c.at_ := by rw [h1]; simpa using hh
      have he2 : allT T = A ++ c.at_ :: r := by
        rcases he with ⟨⟨_, rfl⟩, e⟩ | ⟨e, _⟩
        · rw [← e, ha]; rfl
        · rw [e, ha]
      have := allT_beside hT hfr hnz he2 hbare
      rw [this, h2, ha]
      simp

end

section

/-- Behind the last of the first m that is d; 0: there is none. -/
def rkN (L : List Dt) (d : Dt) : Nat → Nat
  | 0 => 0
  | m + 1 => if L[m]? = some d then m + 1 else rkN L d m

theorem rkN_none {L : List Dt} {d : Dt} (h : d ∉ L) : ∀ m, rkN L d m = 0
  | 0 => rfl
  | m + 1 => by
    unfold rkN
    rw [if_neg (fun e => h (List.mem_of_getElem? e)), rkN_none h m]

theorem rkN_at {L A r : List Dt} {d : Dt} (e : L = A ++ d :: r) (hn : L.Nodup) : ∀ m, A.length < m → rkN L d m = A.length + 1
  | 0, h => by omega
  | m + 1, h => by
    have hA : L[A.length]? = some d := by rw [e]; simp
    unfold rkN
    by_cases hm : L[m]? = some d
    · rw [if_pos hm]
      have h1 := (List.getElem?_eq_some_iff.1 hA)
      have h2 := (List.getElem?_eq_some_iff.1 hm)
      obtain ⟨l1, g1⟩ := h1
      obtain ⟨l2, g2⟩ := h2
      rcases Nat.lt_trichotomy A.length m with hlt | heq | hgt
      · exact absurd (g1.trans g2.symm) (List.pairwise_iff_getElem.1 hn A.length m l1 l2 hlt)
      · omega
      · omega
    · rw [if_neg hm]
      refine rkN_at e hn m ?_
      rcases Nat.lt_or_ge A.length m with hlt | hge
      · exact hlt
      · have : A.length = m := by omega
        rw [this] at hA
        exact absurd hA hm

theorem place_all {T : List Cr} (hT : WT T) {left : Dt} (hl : left = (0, 0) ∨ ∃ c ∈ T, c.id = left) {k : Dt} {ks : List Dt} (hk : kids T left true = k :: ks) :
    (allT T)[rkN (allT T) left (allT T).length]? = some (frst T T.length k) := by
  rcases hl with rfl | ⟨c, hc, rfl⟩
  · have hno : (0, 0) ∉ allT T := fun hm => by
      obtain ⟨c, hc, e⟩ := (mem_allT hT).1 hm
      exact hT.nz c hc e
    rw [rkN_none hno, ← right_next hT (Or.inl ⟨rfl, rfl⟩) hk]
    cases allT T <;> rfl
  · have hm : c.id ∈ allT T := (mem_allT hT).2 ⟨c, hc, rfl⟩
    obtain ⟨A, r, e⟩ := List.append_of_mem hm
    rw [rkN_at e (allT_once hT) _ (by rw [e]; simp), ← right_next hT (Or.inr ⟨A, e⟩) hk, e, List.getElem?_append_right (by omega)]
    rw [show A.length + 1 - A.length = 1 by omega]
    cases r <;> rfl
end
end Go.Proofs.Ytbpepmajpojacaa
