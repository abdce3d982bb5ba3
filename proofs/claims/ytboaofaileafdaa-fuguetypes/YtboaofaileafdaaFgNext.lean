/- Texts, in numbers: what comes next to a character; one more at a place; where a place is. No function of the program. -/
import Derived.Test.YtboaofaileafdaaFgOnce
namespace Go.Proofs.Ytboaofaileafdaa

theorem flat_split9 {α β : Type} {l : List α} {a : α} {f : α → List β} (h : a ∈ l) : ∃ A B, l.flatMap f = A ++ f a ++ B := by
  obtain ⟨p, q, rfl⟩ := List.append_of_mem h
  exact ⟨p.flatMap f, q.flatMap f, by simp⟩

/-- Behind a character comes what lies at its right side. -/
theorem trF_split {T : List Cr} (hT : WT T) : ∀ {f : Nat} {d x : Dt}, dep T f d → x ∈ trF T f d → ∃ A B g, trF T f d = A ++ (x :: ((kids T x true).flatMap (trF T g) ++ B)) ∧ ∀ s, ∀ k ∈ kids T x s, dep T g k
  | 0, _, _, h, _ => h.elim
  | f + 1, d, x, hd, hx => by
    have one : ∀ s, x ∈ (kids T d s).flatMap (trF T f) → ∃ A B g, (kids T d s).flatMap (trF T f) = A ++ (x :: ((kids T x true).flatMap (trF T g) ++ B)) ∧ ∀ s, ∀ k ∈ kids T x s, dep T g k := fun s hs => by
      obtain ⟨k, hk, hm⟩ := List.mem_flatMap.1 hs
      obtain ⟨A, B, g, e, hg⟩ := trF_split hT (hd s k hk) hm
      obtain ⟨A', B', e'⟩ := flat_split9 (f := trF T f) hk
      refine ⟨A' ++ A, B ++ B', g, ?_, hg⟩
      rw [e', e]
      simp
    unfold trF at hx ⊢
    rcases List.mem_append.1 hx with hx | hx
    · rcases List.mem_append.1 hx with hx | hx
      · obtain ⟨A, B, g, e, hg⟩ := one false hx
        refine ⟨A, B ++ ((if d = (0, 0) then [] else [d]) ++ (kids T d true).flatMap (trF T f)), g, ?_, hg⟩
        rw [e]
        simp
      · split at hx
        · simp at hx
        · simp at hx
          subst hx
          refine ⟨(kids T x false).flatMap (trF T f), [], f, ?_, fun s k hk => hd s k hk⟩
          rename_i hz
          rw [if_neg hz]
          simp
    · obtain ⟨A, B, g, e, hg⟩ := one true hx
      refine ⟨(kids T d false).flatMap (trF T f) ++ (if d = (0, 0) then [] else [d]) ++ A, B, g, ?_, hg⟩
      rw [e]
      simp

/-- The first one of a tree. -/
def frst (T : List Cr) : Nat → Dt → Dt
  | 0, d => d
  | f + 1, d => match kids T d false with
    | [] => d
    | k :: _ => frst T f k

theorem frst_head {T : List Cr} (hT : WT T) : ∀ {f : Nat} {d : Dt}, dep T f d → d ≠ (0, 0) → (trF T f d).head? = some (frst T f d)
  | 0, _, h, _ => h.elim
  | f + 1, d, h, hz => by
    unfold trF frst
    cases hk : kids T d false with
    | nil => rw [if_neg hz]; simp
    | cons k r =>
      have hm : k ∈ kids T d false := by rw [hk]; simp
      obtain ⟨c, hc, _, _, e⟩ := mem_kids.1 hm
      have ih := frst_head hT (h false k hm) (by rw [← e]; exact hT.nz c hc)
      rw [List.flatMap_cons]
      cases ht : trF T f k with
      | nil => rw [ht] at ih; simp at ih
      | cons a b => rw [ht] at ih; simpa using ih

theorem frst_bare {T : List Cr} : ∀ {f : Nat} {d : Dt}, dep T f d → kids T (frst T f d) false = []
  | 0, _, h => h.elim
  | f + 1, d, h => by
    unfold frst
    cases hk : kids T d false with
    | nil => exact hk
    | cons k r => exact frst_bare (h false k (by rw [hk]; simp))

theorem frst_stable {T : List Cr} : ∀ {f : Nat} {d : Dt}, dep T f d → frst T (f + 1) d = frst T f d
  | 0, _, h => h.elim
  | f + 1, d, h => by
    cases hk : kids T d false with
    | nil => simp [frst, hk]
    | cons k r =>
      have := frst_stable (h false k (by rw [hk]; simp))
      unfold frst
      rw [hk]
      exact this

theorem frst_le {T : List Cr} {f f' : Nat} {d : Dt} (h : dep T f d) (hf : f ≤ f') : frst T f' d = frst T f d := by
  induction hf with
  | refl => rfl
  | step hle ih => rw [frst_stable (dep_le h hle), ih]

theorem frst_mem {T : List Cr} : ∀ {f : Nat} {d : Dt}, (∃ c ∈ T, c.id = d) → ∃ c ∈ T, c.id = frst T f d
  | 0, _, h => h
  | f + 1, d, h => by
    unfold frst
    cases hk : kids T d false with
    | nil => exact h
    | cons k r =>
      obtain ⟨c, hc, _, _, e⟩ := mem_kids.1 (show k ∈ kids T d false by rw [hk]; simp)
      exact frst_mem ⟨c, hc, e⟩

/-- Where a character that is to stand next to left is put in: under which one, and at which side (true: the right one). -/
def plc (T : List Cr) (left : Dt) : Dt × Bool := match kids T left true with
  | [] => (left, true)
  | k :: _ => (frst T T.length k, false)

/-- What stands next to one; of the root: the first one. -/
def nextT (T : List Cr) (left : Dt) (r : List Dt) : Prop := (left = (0, 0) ∧ r = allT T) ∨ ∃ A, allT T = A ++ left :: r

theorem right_next {T : List Cr} (hT : WT T) {left : Dt} {r : List Dt} (h : nextT T left r) {k : Dt} {ks : List Dt} (hk : kids T left true = k :: ks) : r.head? = some (frst T T.length k) := by
  have hkm : k ∈ kids T left true := by rw [hk]; simp
  obtain ⟨c, hc, hat, hsd, rfl⟩ := mem_kids.1 hkm
  have hz := hT.nz c hc
  rcases h with ⟨rfl, rfl⟩ | ⟨A, e⟩
  · have hf : kids T (0, 0) false = [] := List.eq_nil_iff_forall_not_mem.2 (fun x hx => by
      obtain ⟨y, hy, h1, h2, _⟩ := mem_kids.1 hx
      rw [hT.root y hy h1] at h2
      cases h2)
    have hh := frst_head hT (hT.dep_all hc) hz
    unfold allT trF
    rw [hf, hk, if_pos rfl, List.flatMap_nil, List.flatMap_cons]
    cases ht : trF T T.length c.id with
    | nil => rw [ht] at hh; simp at hh
    | cons a b => rw [ht] at hh; simpa using hh
  · have hlm : left ∈ allT T := by rw [e]; simp
    obtain ⟨A', B, g, e', hg⟩ := trF_split hT hT.dep_root hlm
    have e2 : allT T = A' ++ (left :: ((kids T left true).flatMap (trF T g) ++ B)) := e'
    have hnd := allT_once hT
    have hr : r = (kids T left true).flatMap (trF T g) ++ B := by
      have h1 : A ++ left :: r = A' ++ (left :: ((kids T left true).flatMap (trF T g) ++ B)) := by rw [← e, e2]
      have hl1 : left ∉ A := fun hm => by
        rw [e, List.nodup_append] at hnd
        exact hnd.2.2 left hm left (by simp) rfl
      have hl2 : left ∉ A' := fun hm => by
        rw [e2, List.nodup_append] at hnd
        exact hnd.2.2 left hm left (by simp) rfl
      have : ∀ (P Q X Y : List Dt), left ∉ P → left ∉ Q → P ++ left :: X = Q ++ left :: Y → X = Y := by
        intro P
        induction P with
        | nil =>
          intro Q X Y _ hQ h
          cases Q with
          | nil => simpa using h
          | cons q Q => simp at h; exact absurd (by rw [h.1]; simp) hQ
        | cons p P ih =>
          intro Q X Y hP hQ h
          cases Q with
          | nil => simp at h; exact absurd (by rw [h.1]; simp) hP
          | cons q Q =>
            simp at h
            exact ih Q X Y (fun hm => hP (List.mem_cons_of_mem _ hm)) (fun hm => hQ (List.mem_cons_of_mem _ hm)) h.2
      exact this _ _ _ _ hl1 hl2 h1
    have hgk := hg true c.id hkm
    have hh := frst_head hT hgk hz
    have hfe : frst T g c.id = frst T T.length c.id := by
      rcases Nat.le_total g T.length with hle | hle
      · exact (frst_le hgk hle).symm
      · exact frst_le (hT.dep_all hc) hle
    rw [hr, hk, List.flatMap_cons, ← hfe]
    cases ht : trF T g c.id with
    | nil => rw [ht] at hh; simp at hh
    | cons a b => rw [ht] at hh; simpa using hh

theorem flatMap_flat9 {α β γ : Type} (l : List α) (f : α → List β) (g : β → List γ) : (l.flatMap f).flatMap g = l.flatMap (fun x => (f x).flatMap g) := by
  induction l with
  | nil => rfl
  | cons a r ih => simp [ih]

/-- One more beside one that has none at that side. -/
theorem trF_beside {T : List Cr} (hT : WT T) {c : Cr} (hfr : ∀ x ∈ T, x.id ≠ c.id) (hnz : c.id ≠ (0, 0)) (hat : ∃ p ∈ T, p.id = c.at_) (hbare : kids T c.at_ c.sd = []) :
    ∀ (f : Nat) (d : Dt), dep T f d → d ≠ c.id → trF (T ++ [c]) (f + 1) d = (trF T f d).flatMap (fun k => if k = c.at_ then (if c.sd then [c.at_, c.id] else [c.id, c.at_]) else [k])
  | 0, _, h, _ => h.elim
  | f + 1, d, hd, hdc => by
    obtain ⟨p, hp, hpe⟩ := hat
    have hpz : c.at_ ≠ (0, 0) := by rw [← hpe]; exact hT.nz p hp
    have hca : c.at_ ≠ c.id := by rw [← hpe]; exact hfr p hp
    have hself : ∀ f', trF (T ++ [c]) (f' + 1) c.id = [c.id] := fun f' => by
      have hk : ∀ s, kids (T ++ [c]) c.id s = [] := fun s => by rw [kids_snoc, if_neg (fun e => hca e.1), hT.fresh hfr hnz]
      unfold trF
      rw [hk, hk, if_neg hnz]
      simp
    have hrow : ∀ s, (kids T d s).flatMap (trF (T ++ [c]) (f + 1)) = ((kids T d s).flatMap (trF T f)).flatMap (fun k => if k = c.at_ then (if c.sd then [c.at_, c.id] else [c.id, c.at_]) else [k]) := fun s => by
      rw [flatMap_flat9]
      exact flatMap_congr9 (fun k hk => trF_beside hT hfr hnz ⟨p, hp, hpe⟩ hbare f k (hd s k hk) (fun e => by
        obtain ⟨y, hy, _, _, e'⟩ := mem_kids.1 hk
        exact hfr y hy (by rw [e', e])))
    show (kids (T ++ [c]) d false).flatMap (trF (T ++ [c]) (f + 1)) ++ (if d = (0, 0) then [] else [d]) ++ (kids (T ++ [c]) d true).flatMap (trF (T ++ [c]) (f + 1)) = ((kids T d false).flatMap (trF T f) ++ (if d = (0, 0) then [] else [d]) ++ (kids T d true).flatMap (trF T f)).flatMap _
    rw [List.flatMap_append, List.flatMap_append, ← hrow, ← hrow, kids_snoc, kids_snoc]
    by_cases hda : c.at_ = d
    · subst hda
      rw [if_neg hpz]
      cases hs : c.sd with
      | false =>
        rw [hs] at hbare
        rw [if_pos ⟨rfl, rfl⟩, if_neg (by simp), hbare]
        simp [ins, hself]
      | true =>
        rw [hs] at hbare
        rw [if_neg (by simp), if_pos ⟨rfl, rfl⟩, hbare]
        simp [ins, hself]
    · have hno : ∀ s, (if c.at_ = d ∧ c.sd = s then ins (kids T d s) c.id else kids T d s) = kids T d s := fun s => if_neg (fun e => hda e.1)
      have hmid : (if d = (0, 0) then [] else [d]).flatMap (fun k => if k = c.at_ then (if c.sd then [c.at_, c.id] else [c.id, c.at_]) else [k]) = (if d = (0, 0) then [] else [d]) := by
        by_cases hz : d = (0, 0)
        · rw [if_pos hz]; rfl
        · rw [if_neg hz, List.flatMap_cons, if_neg (Ne.symm hda)]; rfl
      rw [hno, hno, hmid]

theorem beside_split {A r : List Dt} {p c : Dt} {b : Bool} (hA : p ∉ A) (hr : p ∉ r) : (A ++ p :: r).flatMap (fun k => if k = p then (if b then [p, c] else [c, p]) else [k]) = A ++ (if b then [p, c] else [c, p]) ++ r := by
  have h : ∀ l : List Dt, p ∉ l → l.flatMap (fun k => if k = p then (if b then [p, c] else [c, p]) else [k]) = l := fun l hl => by
    induction l with
    | nil => rfl
    | cons a s ih =>
      rw [List.flatMap_cons, if_neg (fun e => hl (by rw [e]; simp)), ih (fun hm => hl (List.mem_cons_of_mem _ hm))]
      rfl
  rw [List.flatMap_append, List.flatMap_cons, h A hA, h r hr, if_pos rfl]
  simp

theorem allT_beside {T : List Cr} (hT : WT T) {c : Cr} (hfr : ∀ x ∈ T, x.id ≠ c.id) (hnz : c.id ≠ (0, 0)) {A r : List Dt} (he : allT T = A ++ c.at_ :: r) (hbare : kids T c.at_ c.sd = []) : allT (T ++ [c]) = A ++ (if c.sd then [c.at_, c.id] else [c.id, c.at_]) ++ r := by
  have hm : c.at_ ∈ allT T := by rw [he]; simp
  have hnd := allT_once hT
  rw [he, List.nodup_append] at hnd
  have hA : c.at_ ∉ A := fun h => hnd.2.2 _ h _ (by simp) rfl
  have hr : c.at_ ∉ r := (List.nodup_cons.1 hnd.2.1).1
  have := trF_beside hT hfr hnz ((mem_allT hT).1 hm) hbare _ (0, 0) hT.dep_root (Ne.symm hnz)
  rw [← beside_split (c := c.id) hA hr, ← he]
  unfold allT at this ⊢
  rw [List.length_append, List.length_singleton]
  exact this

/-- One more at the place next to one stands next to it. -/
theorem allT_placed {T : List Cr} (hT : WT T) {c : Cr} (hfr : ∀ x ∈ T, x.id ≠ c.id) (hnz : c.id ≠ (0, 0)) {left : Dt} {A r : List Dt} (he : (left = (0, 0) ∧ A = []) ∧ r = allT T ∨ allT T = A ++ r ∧ ∃ A', A = A' ++ [left]) (hp : (c.at_, c.sd) = plc T left) : allT (T ++ [c]) = A ++ c.id :: r := by
  have hnext : nextT T left r := by
    rcases he with ⟨⟨rfl, rfl⟩, rfl⟩ | ⟨e, A', rfl⟩
    · exact Or.inl ⟨rfl, rfl⟩
    · exact Or.inr ⟨A', by rw [e]; simp⟩
  cases hk : kids T left true with
  | nil =>
    rw [plc, hk] at hp
    obtain ⟨h1, h2⟩ := Prod.mk.inj hp
    rcases he with ⟨⟨rfl, rfl⟩, rfl⟩ | ⟨e, A', rfl⟩
    · have hTn : T = [] := by
        cases T with
        | nil => rfl
        | cons y T' =>
          rcases hT.under 0 y rfl with h0 | ⟨z, hz, _⟩
          · have : y.id ∈ kids (y :: T') (0, 0) true := mem_kids.2 ⟨y, by simp, h0, hT.root y (by simp) h0, rfl⟩
            rw [hk] at this
            simp at this
          · simp at hz
      subst hTn
      have e : ∀ s, kids ([] ++ [c]) (0, 0) s = if s = true then [c.id] else [] := fun s => by
        rw [kids_snoc, h1, h2]
        cases s <;> simp [kids, rise, ins]
      have e2 : ∀ s, kids ([] ++ [c]) c.id s = [] := fun s => by
        rw [kids_snoc, h1, if_neg (fun h => hnz h.1.symm)]
        simp [kids, rise]
      have e3 : allT ([] : List Cr) = [] := by simp [allT, trF, kids, rise]
      rw [e3]
      unfold allT
      show trF ([] ++ [c]) 2 (0, 0) = [c.id]
      unfold trF
      rw [e, e]
      show ([] : List Dt) ++ [] ++ (trF ([] ++ [c]) 1 c.id ++ []) = [c.id]
      unfold trF
      rw [e2, e2, if_neg hnz]
      rfl
    · have he2 : allT T = A' ++ c.at_ :: r := by rw [e, h1]; simp
      have := allT_beside hT hfr hnz he2 (by rw [h1, h2]; exact hk)
      rw [this, h2, h1]
      simp
  | cons k ks =>
    rw [plc, hk] at hp
    obtain ⟨h1, h2⟩ := Prod.mk.inj hp
    have hh := right_next hT hnext hk
    have hkm : k ∈ kids T left true := by rw [hk]; simp
    obtain ⟨y, hy, _, _, hye⟩ := mem_kids.1 hkm
    have hbare : kids T c.at_ c.sd = [] := by
      rw [h1, h2]
      exact frst_bare (by rw [← hye]; exact hT.dep_all hy)
    cases r with
    | nil => simp at hh
    | cons a r =>
      have ha : a = c.at_ := by rw [h1]; simpa using hh
      have he2 : allT T = A ++ c.at_ :: r := by
        rcases he with ⟨⟨_, rfl⟩, e⟩ | ⟨e, _⟩
        · rw [← e, ha]; rfl
        · rw [e, ha]
      have := allT_beside hT hfr hnz he2 hbare
      rw [this, h2, ha]
      simp

end Go.Proofs.Ytboaofaileafdaa
