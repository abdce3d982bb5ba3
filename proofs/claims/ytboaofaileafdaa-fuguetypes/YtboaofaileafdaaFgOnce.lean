/- Texts, in numbers: each character stands once in the order; what comes next; one more at a place. No function of the program. -/
import Derived.Test.YtboaofaileafdaaFgAll
namespace Go.Proofs.Ytboaofaileafdaa

/-- Whatever is in a tree is its own root, or lies under something in it. -/
theorem trF_up {T : List Cr} (hT : WT T) : ∀ {f : Nat} {k : Dt} {x : Cr}, x ∈ T → k ≠ (0, 0) → x.id ∈ trF T f k → x.id = k ∨ x.at_ ∈ trF T f k
  | 0, _, _, _, _, h => by simp [trF] at h
  | f + 1, k, x, hx, hz, h => by
    have hself : k ∈ trF T (f + 1) k := by unfold trF; rw [if_neg hz]; simp
    have one : ∀ s, x.id ∈ (kids T k s).flatMap (trF T f) → x.id = k ∨ x.at_ ∈ trF T (f + 1) k := fun s hs => by
      obtain ⟨k', hk', hm⟩ := List.mem_flatMap.1 hs
      obtain ⟨c, hc, h1, _, h3⟩ := mem_kids.1 hk'
      have hz' : k' ≠ (0, 0) := by rw [← h3]; exact hT.nz c hc
      rcases trF_up hT hx hz' hm with e | e
      · have : x = c := ids_one hT.ids hx hc (by rw [e, h3])
        rw [this, h1]
        exact Or.inr hself
      · exact Or.inr (trF_kid hk' _ e)
    unfold trF at h
    rcases List.mem_append.1 h with h | h
    · rcases List.mem_append.1 h with h | h
      · exact one false h
      · rw [if_neg hz] at h
        exact Or.inl (by simpa using h)
    · exact one true h

theorem under_lt {T : List Cr} (hT : WT T) {i j : Nat} {c x : Cr} (hc : T[i]? = some c) (hx : T[j]? = some x) (e : x.at_ = c.id) : i < j := by
  rcases hT.under j x hx with h0 | ⟨y, hy, e'⟩
  · exact absurd (by rw [← e, h0]) (hT.nz c (List.mem_of_getElem? hc))
  · have : y = c := ids_one hT.ids (List.mem_of_mem_take hy) (List.mem_of_getElem? hc) (by rw [e', e])
    subst this
    obtain ⟨m, hm⟩ := List.mem_iff_getElem?.1 hy
    have hmj : m < j := by
      have := (List.getElem?_eq_some_iff.1 hm).1
      rw [List.length_take] at this
      omega
    rw [List.getElem?_take, if_pos hmj] at hm
    have hil : i < (T.map Cr.id).length := by simpa using (List.getElem?_eq_some_iff.1 hc).1
    have := (List.getElem?_inj hil hT.ids).1 (show (T.map Cr.id)[i]? = (T.map Cr.id)[m]? by rw [List.getElem?_map, List.getElem?_map, hc, hm])
    omega

theorem at_one {T : List Cr} (hT : WT T) {i j : Nat} {c x : Cr} (hc : T[i]? = some c) (hx : T[j]? = some x) (e : c.id = x.id) : i = j := by
  have hil : i < (T.map Cr.id).length := by simpa using (List.getElem?_eq_some_iff.1 hc).1
  exact (List.getElem?_inj hil hT.ids).1 (show (T.map Cr.id)[i]? = (T.map Cr.id)[j]? by rw [List.getElem?_map, List.getElem?_map, hc, hx]; simp [e])

/-- What is in a tree came no earlier than its root. -/
theorem trF_later {T : List Cr} (hT : WT T) : ∀ {f : Nat} {i j : Nat} {c x : Cr}, T[i]? = some c → T[j]? = some x → x.id ∈ trF T f c.id → i ≤ j
  | 0, _, _, _, _, _, _, h => by simp [trF] at h
  | f + 1, i, j, c, x, hc, hx, h => by
    have one : ∀ s, x.id ∈ (kids T c.id s).flatMap (trF T f) → i ≤ j := fun s hs => by
      obtain ⟨k', hk', hm⟩ := List.mem_flatMap.1 hs
      obtain ⟨y, hy, h1, _, rfl⟩ := mem_kids.1 hk'
      obtain ⟨m, hm'⟩ := List.mem_iff_getElem?.1 hy
      have := under_lt hT hc hm' h1
      have := trF_later hT hm' hx hm
      omega
    unfold trF at h
    rcases List.mem_append.1 h with h | h
    · rcases List.mem_append.1 h with h | h
      · exact one false h
      · rw [if_neg (hT.nz c (List.mem_of_getElem? hc))] at h
        have := at_one hT hx hc (by simpa using h)
        omega
    · exact one true h

/-- Of two trees with something in common one has the other one's root. -/
theorem trF_meet {T : List Cr} (hT : WT T) {f : Nat} {k1 k2 : Dt} (hz1 : k1 ≠ (0, 0)) (hz2 : k2 ≠ (0, 0)) : ∀ (i : Nat) (x : Cr), T[i]? = some x → x.id ∈ trF T f k1 → x.id ∈ trF T f k2 → k1 ∈ trF T f k2 ∨ k2 ∈ trF T f k1 := by
  intro i
  induction i using Nat.strongRecOn with
  | ind i ih =>
    intro x hx h1 h2
    have hxm := List.mem_of_getElem? hx
    rcases trF_up hT hxm hz1 h1 with e | e1
    · rw [e] at h2; exact Or.inl h2
    · rcases trF_up hT hxm hz2 h2 with e | e2
      · rw [e] at h1; exact Or.inr h1
      · rcases hT.under i x hx with h0 | ⟨p, hp, e⟩
        · rcases mem_trF hT e1 with ⟨_, h⟩ | ⟨c, hc, e⟩
          · exact absurd (by simp_all) h
          · exact absurd (by rw [e, h0]) (hT.nz c hc)
        · obtain ⟨m, hm⟩ := List.mem_iff_getElem?.1 hp
          have hmi : m < i := by
            have := (List.getElem?_eq_some_iff.1 hm).1
            rw [List.length_take] at this
            omega
          rw [List.getElem?_take, if_pos hmi] at hm
          rw [← e] at e1 e2
          exact ih m hmi p hm e1 e2

/-- Two that lie under one have nothing in common. -/
theorem trF_apart {T : List Cr} (hT : WT T) {f : Nat} {a b : Cr} (ha : a ∈ T) (hb : b ∈ T) (he : a.at_ = b.at_) (hne : a.id ≠ b.id) {y : Dt} (h1 : y ∈ trF T f a.id) (h2 : y ∈ trF T f b.id) : False := by
  have no : ∀ {a b : Cr}, a ∈ T → b ∈ T → a.at_ = b.at_ → a.id ≠ b.id → a.id ∈ trF T f b.id → False := fun {a b} ha hb he hne h => by
    rcases trF_up hT ha (hT.nz b hb) h with e | e
    · exact hne e
    · obtain ⟨j, hj⟩ := List.mem_iff_getElem?.1 hb
      rcases mem_trF hT e with ⟨e', _⟩ | ⟨c, hc, e'⟩
      · have := under_lt hT hj hj (by rw [← he, e'])
        omega
      · obtain ⟨i, hi⟩ := List.mem_iff_getElem?.1 hc
        rw [← e'] at e
        have h3 := trF_later hT hj hi e
        have h4 := under_lt hT hi hj (by rw [← he, e'])
        omega
  have hy : ∃ c ∈ T, c.id = y := by
    rcases mem_trF hT h1 with ⟨e, _⟩ | h
    · exact ⟨a, ha, e.symm⟩
    · exact h
  obtain ⟨c, hc, rfl⟩ := hy
  obtain ⟨i, hi⟩ := List.mem_iff_getElem?.1 hc
  rcases trF_meet hT (hT.nz a ha) (hT.nz b hb) i c hi h1 h2 with h | h
  · exact no ha hb he hne h
  · exact no hb ha he.symm (Ne.symm hne) h

theorem flat_nodup9 {l : List Dt} {f : Dt → List Dt} (hl : l.Nodup) (hf : ∀ k ∈ l, (f k).Nodup) (hd : ∀ k ∈ l, ∀ k' ∈ l, k ≠ k' → ∀ y, y ∈ f k → y ∈ f k' → False) : (l.flatMap f).Nodup := by
  induction l with
  | nil => simp
  | cons a r ih =>
    rw [List.flatMap_cons, List.nodup_append]
    have hl' := List.nodup_cons.1 hl
    refine ⟨hf a (by simp), ih hl'.2 (fun k hk => hf k (List.mem_cons_of_mem _ hk)) (fun k hk k' hk' => hd k (List.mem_cons_of_mem _ hk) k' (List.mem_cons_of_mem _ hk')), fun x hx y hy e => ?_⟩
    subst e
    obtain ⟨k, hk, hm⟩ := List.mem_flatMap.1 hy
    exact hd a (by simp) k (List.mem_cons_of_mem _ hk) (fun e => hl'.1 (e ▸ hk)) x hx hm

/-- Each character stands once in the order. -/
theorem trF_once {T : List Cr} (hT : WT T) : ∀ (f : Nat) (d : Dt), nodes T d → (trF T f d).Nodup
  | 0, _, _ => by simp [trF]
  | f + 1, d, hd => by
    have hrow : ∀ s, ((kids T d s).flatMap (trF T f)).Nodup := fun s =>
      flat_nodup9 (up_nodup (kids_up T d s)) (fun k hk => by
        obtain ⟨c, hc, _, _, e⟩ := mem_kids.1 hk
        exact trF_once hT f k (Or.inr ⟨c, hc, e⟩)) (fun k hk k' hk' hne y h1 h2 => by
        obtain ⟨c, hc, e1, _, rfl⟩ := mem_kids.1 hk
        obtain ⟨c', hc', e1', _, rfl⟩ := mem_kids.1 hk'
        exact trF_apart hT hc hc' (by rw [e1, e1']) hne h1 h2)
    have hnd : ∀ s, d ≠ (0, 0) → d ∉ (kids T d s).flatMap (trF T f) := fun s hz h => by
      obtain ⟨k, hk, hm⟩ := List.mem_flatMap.1 h
      obtain ⟨c, hc, e1, _, rfl⟩ := mem_kids.1 hk
      rcases hd with e | ⟨x, hx, rfl⟩
      · exact hz e
      · obtain ⟨i, hi⟩ := List.mem_iff_getElem?.1 hx
        obtain ⟨j, hj⟩ := List.mem_iff_getElem?.1 hc
        have := under_lt hT hi hj e1
        have := trF_later hT hj hi hm
        omega
    unfold trF
    rw [List.nodup_append, List.nodup_append]
    refine ⟨⟨hrow false, ?_, fun x hx y hy e => ?_⟩, hrow true, fun x hx y hy e => ?_⟩
    · split <;> simp
    · subst e
      split at hy
      · simp at hy
      · rename_i hz
        simp at hy
        subst hy
        exact hnd false hz hx
    · subst e
      rcases List.mem_append.1 hx with hx | hx
      · obtain ⟨k, hk, hm⟩ := List.mem_flatMap.1 hx
        obtain ⟨k', hk', hm'⟩ := List.mem_flatMap.1 hy
        obtain ⟨c, hc, e1, s1, rfl⟩ := mem_kids.1 hk
        obtain ⟨c', hc', e1', s1', rfl⟩ := mem_kids.1 hk'
        refine trF_apart hT hc hc' (by rw [e1, e1']) (fun e => ?_) hm hm'
        have := ids_one hT.ids hc hc' e
        rw [this, s1'] at s1
        cases s1
      · split at hx
        · simp at hx
        · rename_i hz
          simp at hx
          subst hx
          exact hnd true hz hy

theorem allT_once {T : List Cr} (hT : WT T) : (allT T).Nodup := trF_once hT _ _ (Or.inl rfl)

theorem allT_perm_ids {T : List Cr} (hT : WT T) : (allT T).Perm (T.map Cr.id) := by
  refine (List.perm_ext_iff_of_nodup (allT_once hT) hT.ids).2 (fun d => ?_)
  rw [mem_allT hT, List.mem_map]

theorem allT_len {T : List Cr} (hT : WT T) : (allT T).length = T.length := by
  have := (allT_perm_ids hT).length_eq
  simpa using this

/-- The character of an identity. -/
def fnd (T : List Cr) (d : Dt) : Option Cr := T.find? (fun c => decide (c.id = d))

theorem fnd_of {T : List Cr} (hT : WT T) {c : Cr} (hc : c ∈ T) : fnd T c.id = some c := by
  unfold fnd
  cases h : T.find? (fun x => decide (x.id = c.id)) with
  | none => exact absurd (List.find?_eq_none.1 h c hc) (by simp)
  | some x =>
    have h1 := List.find?_some h
    have h2 := List.mem_of_find?_eq_some h
    rw [ids_one hT.ids h2 hc (by simpa using h1)]

theorem fnd_some {T : List Cr} {d : Dt} {c : Cr} (h : fnd T d = some c) : c ∈ T ∧ c.id = d := ⟨List.mem_of_find?_eq_some h, by simpa using List.find?_some h⟩

theorem fnd_none {T : List Cr} {d : Dt} : fnd T d = none ↔ ∀ c ∈ T, c.id ≠ d := by
  unfold fnd
  rw [List.find?_eq_none]
  simp

/-- All characters, in order, themselves. -/
def allC (T : List Cr) : List Cr := (allT T).filterMap (fnd T)

theorem filterMap_ids {T : List Cr} : ∀ (l : List Dt), (∀ d ∈ l, ∃ c, fnd T d = some c) → (l.filterMap (fnd T)).map Cr.id = l
  | [], _ => rfl
  | d :: r, h => by
    obtain ⟨c, hc⟩ := h d (by simp)
    rw [List.filterMap_cons_some hc, List.map_cons, (fnd_some hc).2, filterMap_ids r (fun x hx => h x (List.mem_cons_of_mem _ hx))]

theorem allC_ids {T : List Cr} (hT : WT T) : (allC T).map Cr.id = allT T := filterMap_ids _ (fun d hd => by
  obtain ⟨c, hc, rfl⟩ := (mem_allT hT).1 hd
  exact ⟨c, fnd_of hT hc⟩)

theorem allC_mem {T : List Cr} {c : Cr} (h : c ∈ allC T) : c ∈ T := by
  obtain ⟨d, _, hd⟩ := List.mem_filterMap.1 h
  exact (fnd_some hd).1

theorem mem_allC {T : List Cr} (hT : WT T) {c : Cr} (h : c ∈ T) : c ∈ allC T := List.mem_filterMap.2 ⟨c.id, (mem_allT hT).2 ⟨c, h, rfl⟩, fnd_of hT h⟩

theorem allC_len {T : List Cr} (hT : WT T) : (allC T).length = T.length := by
  rw [← allT_len hT, ← allC_ids hT, List.length_map]

/-- Characters are told by their identities. -/
theorem chars_of_ids {T : List Cr} (hT : WT T) : ∀ (l m : List Cr), (∀ c ∈ l, c ∈ T) → (∀ c ∈ m, c ∈ T) → l.map Cr.id = m.map Cr.id → l = m
  | [], [], _, _, _ => rfl
  | [], _ :: _, _, _, h => by simp at h
  | _ :: _, [], _, _, h => by simp at h
  | a :: l, b :: m, hl, hm, h => by
    rw [List.map_cons, List.map_cons] at h
    injection h with h1 h2
    rw [ids_one hT.ids (hl a (by simp)) (hm b (by simp)) h1, chars_of_ids hT l m (fun c hc => hl c (List.mem_cons_of_mem _ hc)) (fun c hc => hm c (List.mem_cons_of_mem _ hc)) h2]

end Go.Proofs.Ytboaofaileafdaa
