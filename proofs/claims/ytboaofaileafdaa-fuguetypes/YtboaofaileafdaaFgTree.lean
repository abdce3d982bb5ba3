/- Texts, in numbers: all characters in order. No function of the program. -/
import Derived.Test.YtboaofaileafdaaFgMath
namespace Go.Proofs.Ytboaofaileafdaa

/-- A character's tree, in order, so deep. -/
def trF (T : List Cr) : Nat → Dt → List Dt
  | 0, _ => []
  | f + 1, d => (kids T d false).flatMap (trF T f) ++ (if d = (0, 0) then [] else [d]) ++ (kids T d true).flatMap (trF T f)

/-- Is a tree at most so deep? -/
def dep (T : List Cr) : Nat → Dt → Prop
  | 0, _ => False
  | f + 1, d => ∀ s, ∀ k ∈ kids T d s, dep T f k

theorem dep_mono {T : List Cr} : ∀ {f : Nat} {d : Dt}, dep T f d → dep T (f + 1) d
  | 0, _, h => h.elim
  | _ + 1, _, h => fun s k hk => dep_mono (h s k hk)

theorem dep_le {T : List Cr} {f f' : Nat} {d : Dt} (h : dep T f d) (hf : f ≤ f') : dep T f' d := by
  induction hf with
  | refl => exact h
  | step _ ih => exact dep_mono ih

theorem flatMap_congr9 {α β : Type} {l : List α} {f g : α → List β} (h : ∀ x ∈ l, f x = g x) : l.flatMap f = l.flatMap g := by
  induction l with
  | nil => rfl
  | cons a r ih =>
    rw [List.flatMap_cons, List.flatMap_cons, h a (by simp), ih (fun x hx => h x (List.mem_cons_of_mem _ hx))]

/-- Deeper than it is tells nothing more. -/
theorem trF_stable {T : List Cr} : ∀ {f : Nat} {d : Dt}, dep T f d → trF T (f + 1) d = trF T f d
  | 0, _, h => h.elim
  | f + 1, d, h => by
    show (kids T d false).flatMap (trF T (f + 1)) ++ (if d = (0, 0) then [] else [d]) ++ (kids T d true).flatMap (trF T (f + 1)) = (kids T d false).flatMap (trF T f) ++ (if d = (0, 0) then [] else [d]) ++ (kids T d true).flatMap (trF T f)
    rw [flatMap_congr9 (fun k hk => trF_stable (h false k hk)), flatMap_congr9 (fun k hk => trF_stable (h true k hk))]

theorem trF_le {T : List Cr} {f f' : Nat} {d : Dt} (h : dep T f d) (hf : f ≤ f') : trF T f' d = trF T f d := by
  induction hf with
  | refl => rfl
  | step hle ih => rw [trF_stable (dep_le h hle), ih]

/-- A character that came as number i has less than so many below it. -/
theorem WT.dep {T : List Cr} (h : WT T) : ∀ (f i : Nat) (c : Cr), T[i]? = some c → T.length ≤ f + i → dep T f c.id := by
  intro f
  induction f with
  | zero =>
    intro i c hc hl
    have := (List.getElem?_eq_some_iff.1 hc).1
    omega
  | succ f ih =>
    intro i c hc hl s k hk
    obtain ⟨x, hx, e1, _, rfl⟩ := mem_kids.1 hk
    obtain ⟨j, hj⟩ := List.mem_iff_getElem?.1 hx
    have hij : i < j := by
      rcases h.under j x hj with e | ⟨y, hy, e⟩
      · exact absurd (by rw [← e1, e]) (h.nz c (List.mem_of_getElem? hc))
      · have : y = c := ids_one h.ids (List.mem_of_mem_take hy) (List.mem_of_getElem? hc) (by rw [e, e1])
        subst this
        obtain ⟨m, hm⟩ := List.mem_iff_getElem?.1 hy
        have hmj : m < j := by
          have := (List.getElem?_eq_some_iff.1 hm).1
          rw [List.length_take] at this
          omega
        rw [List.getElem?_take, if_pos hmj] at hm
        have hil : i < (T.map Cr.id).length := by simpa using (List.getElem?_eq_some_iff.1 hc).1
        have := (List.getElem?_inj hil h.ids).1 (show (T.map Cr.id)[i]? = (T.map Cr.id)[m]? by rw [List.getElem?_map, List.getElem?_map, hc, hm])
        omega
    exact ih j x hj (by omega)

theorem WT.dep_all {T : List Cr} (h : WT T) {c : Cr} (hc : c ∈ T) : Proofs.Ytboaofaileafdaa.dep T T.length c.id := by
  obtain ⟨i, hi⟩ := List.mem_iff_getElem?.1 hc
  exact h.dep _ i c hi (by omega)

theorem WT.dep_root {T : List Cr} (h : WT T) : Proofs.Ytboaofaileafdaa.dep T (T.length + 1) (0, 0) := fun s k hk => by
  obtain ⟨x, hx, _, _, rfl⟩ := mem_kids.1 hk
  exact h.dep_all hx

/-- All characters, in order. -/
def allT (T : List Cr) : List Dt := trF T (T.length + 1) (0, 0)

/-- The order hangs on which there are alone. -/
theorem kids_perm {T T' : List Cr} (h : T.Perm T') (d : Dt) (s : Bool) : kids T d s = kids T' d s :=
  up_ext (kids_up _ _ _) (kids_up _ _ _) (fun x => by
    rw [mem_kids, mem_kids]
    constructor
    · rintro ⟨c, hc, r⟩
      exact ⟨c, h.mem_iff.1 hc, r⟩
    · rintro ⟨c, hc, r⟩
      exact ⟨c, h.mem_iff.2 hc, r⟩)

theorem trF_kids {T T' : List Cr} (h : ∀ d s, kids T d s = kids T' d s) : ∀ (f : Nat) (d : Dt), trF T f d = trF T' f d
  | 0, _ => rfl
  | f + 1, d => by
    show (kids T d false).flatMap (trF T f) ++ _ ++ (kids T d true).flatMap (trF T f) = (kids T' d false).flatMap (trF T' f) ++ _ ++ (kids T' d true).flatMap (trF T' f)
    rw [h d false, h d true, flatMap_congr9 (fun k _ => trF_kids h f k), flatMap_congr9 (fun k _ => trF_kids h f k)]

theorem allT_perm {T T' : List Cr} (h : T.Perm T') : allT T = allT T' := by
  unfold allT
  rw [h.length_eq]
  exact trF_kids (kids_perm h) _ _

/-- What a tree has: itself, and what its kids' trees have. -/
theorem mem_trF {T : List Cr} (hT : WT T) : ∀ {f : Nat} {d k : Dt}, k ∈ trF T f d → (k = d ∧ d ≠ (0, 0)) ∨ ∃ c ∈ T, c.id = k
  | 0, _, _, h => by simp [trF] at h
  | f + 1, d, k, h => by
    unfold trF at h
    rcases List.mem_append.1 h with h | h
    · rcases List.mem_append.1 h with h | h
      · obtain ⟨x, hx, hk⟩ := List.mem_flatMap.1 h
        obtain ⟨c, hc, _, _, rfl⟩ := mem_kids.1 hx
        rcases mem_trF hT hk with ⟨e, _⟩ | h'
        · exact Or.inr ⟨c, hc, e.symm⟩
        · exact Or.inr h'
      · split at h
        · simp at h
        · rename_i hd
          simp at h
          exact Or.inl ⟨h, hd⟩
    · obtain ⟨x, hx, hk⟩ := List.mem_flatMap.1 h
      obtain ⟨c, hc, _, _, rfl⟩ := mem_kids.1 hx
      rcases mem_trF hT hk with ⟨e, _⟩ | h'
      · exact Or.inr ⟨c, hc, e.symm⟩
      · exact Or.inr h'

/-- One more, that nothing lies under: the others stay in their order. -/
theorem trF_more {T : List Cr} (hT : WT T) {c : Cr} (hfr : ∀ x ∈ T, x.id ≠ c.id) (hnz : c.id ≠ (0, 0)) (hat : nodes T c.at_) : ∀ (f : Nat) (d : Dt), d ≠ c.id → (trF (T ++ [c]) f d).filter (fun k => decide (k ≠ c.id)) = trF T f d
  | 0, _, _ => rfl
  | f + 1, d, hd => by
    have hca : c.at_ ≠ c.id := fun e => by
      rcases hat with h0 | ⟨x, hx, e'⟩
      · exact hnz (by rw [← e, h0])
      · exact hfr x hx (by rw [e', e])
    have hself : ∀ f', (trF (T ++ [c]) f' c.id).filter (fun k => decide (k ≠ c.id)) = [] := fun f' => by
      cases f' with
      | zero => rfl
      | succ f' =>
        have hk : ∀ s, kids (T ++ [c]) c.id s = [] := fun s => by rw [kids_snoc, if_neg (fun e => hca e.1), hT.fresh hfr hnz]
        unfold trF
        rw [hk, hk, if_neg hnz]
        simp
    have hrow : ∀ s, ((kids (T ++ [c]) d s).flatMap (trF (T ++ [c]) f)).filter (fun k => decide (k ≠ c.id)) = (kids T d s).flatMap (trF T f) := fun s => by
      have hflat : ∀ l : List Dt, (∀ x ∈ l, x ≠ c.id) → (l.flatMap (trF (T ++ [c]) f)).filter (fun k => decide (k ≠ c.id)) = l.flatMap (trF T f) := fun l hl => by
        induction l with
        | nil => rfl
        | cons a r ih =>
          rw [List.flatMap_cons, List.flatMap_cons, List.filter_append, trF_more hT hfr hnz hat f a (hl a (by simp)), ih (fun x hx => hl x (List.mem_cons_of_mem _ hx))]
      have hk : ∀ x ∈ kids T d s, x ≠ c.id := fun x hx e => by
        obtain ⟨y, hy, _, _, e'⟩ := mem_kids.1 hx
        exact hfr y hy (by rw [e', e])
      rw [kids_snoc]
      split
      · have hins : ∀ l : List Dt, (∀ x ∈ l, x ≠ c.id) → ((ins l c.id).flatMap (trF (T ++ [c]) f)).filter (fun k => decide (k ≠ c.id)) = l.flatMap (trF T f) := fun l => by
          induction l with
          | nil =>
            intro _
            show ((([c.id] : List Dt)).flatMap _).filter _ = []
            rw [List.flatMap_cons, List.flatMap_nil, List.append_nil]
            exact hself f
          | cons a r ih =>
            intro hl
            unfold ins
            split
            · rw [List.flatMap_cons, List.flatMap_cons, List.filter_append, trF_more hT hfr hnz hat f a (hl a (by simp)), ih (fun x hx => hl x (List.mem_cons_of_mem _ hx))]
            · rw [if_neg (hl a (by simp)), List.flatMap_cons, List.filter_append, hself f, List.nil_append]
              exact hflat (a :: r) hl
        exact hins _ hk
      · exact hflat _ hk
    unfold trF
    rw [List.filter_append, List.filter_append, hrow, hrow]
    congr 2
    split
    · rfl
    · simp [hd]

end Go.Proofs.Ytboaofaileafdaa
