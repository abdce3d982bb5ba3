/- Texts, in numbers: what is put in at a place is seen there. No function of the program. -/
import Derived.Test.YtbpepmajpojacaaFgStayM
set_option linter.unusedVariables false
namespace Go.Proofs.Ytbpepmajpojacaa

theorem filter_split {α : Type} {p : α → Bool} : ∀ {l : List α} {k : Nat} {x : α}, (l.filter p)[k]? = some x → ∃ P S, l = P ++ S ∧ (∃ P', P = P' ++ [x]) ∧ P.filter p = (l.filter p).take (k + 1) ∧ S.filter p = (l.filter p).drop (k + 1)
  | [], _, _, h => by simp at h
  | a :: r, k, x, h => by
    by_cases ha : p a = true
    · rw [List.filter_cons_of_pos ha] at h ⊢
      cases k with
      | zero =>
        simp at h
        subst h
        refine ⟨[a], r, rfl, ⟨[], rfl⟩, ?_, ?_⟩
        · rw [List.filter_cons_of_pos ha]; simp
        · simp
      | succ k =>
        rw [List.getElem?_cons_succ] at h
        obtain ⟨P, S, e, ⟨P', e'⟩, h1, h2⟩ := filter_split h
        refine ⟨a :: P, S, by rw [e]; rfl, ⟨a :: P', by rw [e']; rfl⟩, ?_, ?_⟩
        · rw [List.filter_cons_of_pos ha, h1]; rfl
        · rw [h2]; rfl
    · rw [List.filter_cons_of_neg ha] at h ⊢
      obtain ⟨P, S, e, ⟨P', e'⟩, h1, h2⟩ := filter_split h
      refine ⟨a :: P, S, by rw [e]; rfl, ⟨a :: P', by rw [e']; rfl⟩, ?_, h2⟩
      rw [List.filter_cons_of_neg ha, h1]

/-- The one ahead of an index, and those up to it. -/
theorem left_split {T : List Cr} (hT : WT T) {k : Nat} (hk : k ≤ (seenC T).length) : ∃ (left : Dt) (P S : List Cr), leftOf (seenC T) k = some left ∧ allC T = P ++ S ∧ P.filter (·.seen) = (seenC T).take k ∧ S.filter (·.seen) = (seenC T).drop k ∧ (left = (0, 0) ∨ ∃ c ∈ T, c.id = left) ∧
    ((left = (0, 0) ∧ P.map Cr.id = []) ∧ S.map Cr.id = allT T ∨ allT T = P.map Cr.id ++ S.map Cr.id ∧ ∃ A', P.map Cr.id = A' ++ [left]) := by
  cases k with
  | zero =>
    exact ⟨(0, 0), [], allC T, by simp [leftOf], rfl, by simp, by simp [seenC], Or.inl rfl, Or.inl ⟨⟨rfl, rfl⟩, allC_ids hT⟩⟩
  | succ k =>
    have hx : (seenC T)[k]? = some ((seenC T)[k]'(by omega)) := List.getElem?_eq_getElem _
    obtain ⟨P, S, e, ⟨P', e'⟩, h1, h2⟩ := filter_split (p := fun c : Cr => c.seen) (l := allC T) hx
    have hm : ((seenC T)[k]'(by omega)) ∈ T := seenC_mem (List.getElem_mem _)
    refine ⟨((seenC T)[k]'(by omega)).id, P, S, ?_, e, h1, h2, Or.inr ⟨_, hm, rfl⟩, Or.inr ⟨?_, P'.map Cr.id, ?_⟩⟩
    · unfold leftOf
      rw [if_neg (by omega), if_pos (by omega), show ((((k + 1 : Nat) : Int) - 1).toNat) = k by omega, hx]
      rfl
    · rw [← allC_ids hT, e, List.map_append]
    · rw [e', List.map_append]
      rfl

theorem allC_sub {T' : List Cr} (hT : WT T') {l : List Cr} (hl : ∀ c ∈ l, c ∈ T') (h : l.map Cr.id = allT T') : allC T' = l :=
  chars_of_ids hT _ _ (fun c hc => allC_mem hc) hl (by rw [allC_ids hT, h])

/-- What is put in at a place is seen at its index. -/
theorem put_place {T : List Cr} (hT : WT T) {k : Nat} (hk : k ≤ (seenC T).length) {id : Dt} {ch : Int} (hf : ∀ x ∈ T, x.id ≠ id) (hz : id ≠ (0, 0)) (hd : Dw id) :
    (plcI T k).2.2 = 0 ∧ (insP T id (plcI T k).1 (plcI T k).2.1 ch).1 = 0 ∧ WT (insP T id (plcI T k).1 (plcI T k).2.1 ch).2 ∧
      seenC (insP T id (plcI T k).1 (plcI T k).2.1 ch).2 = (seenC T).take k ++ [⟨id, (plcI T k).1, decide ((plcI T k).2.1 = 1), ch, true⟩] ++ (seenC T).drop k ∧
      (insP T id (plcI T k).1 (plcI T k).2.1 ch).2 = T ++ [⟨id, (plcI T k).1, decide ((plcI T k).2.1 = 1), ch, true⟩] := by
  obtain ⟨left, P, S, hl, hPS, hP, hS, hnode, hcase⟩ := left_split hT hk
  have hp : plcI T k = ((plc T left).1, if (plc T left).2 then 1 else 0, 0) := by unfold plcI; rw [hl]
  have hat : nodes T (plc T left).1 ∧ ((plc T left).2 = false → (plc T left).1 ≠ (0, 0)) := by
    unfold plc
    cases hkd : kids T left true with
    | nil => exact ⟨hnode, fun h => by cases h⟩
    | cons q qs =>
      obtain ⟨y, hy, _, _, hye⟩ := mem_kids.1 (show q ∈ kids T left true by rw [hkd]; simp)
      obtain ⟨f, hf', hfe⟩ := frst_mem (T := T) (f := T.length) ⟨y, hy, hye⟩
      exact ⟨Or.inr ⟨f, hf', hfe⟩, fun _ e => hT.nz f hf' (by rw [hfe]; exact e)⟩
  have hsd : decide ((if (plc T left).2 then (1 : Int) else 0) = 1) = (plc T left).2 := by cases (plc T left).2 <;> simp
  rw [hp]
  simp only
  have hmay : mayI id (plc T left).1 (if (plc T left).2 then 1 else 0) = true := by
    cases hs : (plc T left).2 with
    | true => simp [mayI, hz]
    | false => simp [mayI, hz, hat.2 hs]
  have hin : insP T id (plc T left).1 (if (plc T left).2 then 1 else 0) ch = (0, T ++ [⟨id, (plc T left).1, decide ((if (plc T left).2 then (1 : Int) else 0) = 1), ch, true⟩]) := by
    unfold insP
    rw [if_neg (by rw [hmay]; simp), if_neg (fun ⟨c, hc, e⟩ => hf c hc e), if_neg (fun h => h hat.1)]
  rw [hin]
  simp only
  have hwt : WT (T ++ [⟨id, (plc T left).1, decide ((if (plc T left).2 then (1 : Int) else 0) = 1), ch, true⟩]) :=
    hT.snoc hz hd hf hat.1 (fun e => by
      rw [hsd]
      cases hs : (plc T left).2 with
      | true => rfl
      | false => exact absurd e (hat.2 hs))
  refine ⟨trivial, trivial, hwt, ?_, trivial⟩
  have hplaced := allT_placed hT (c := ⟨id, (plc T left).1, decide ((if (plc T left).2 then (1 : Int) else 0) = 1), ch, true⟩) hf hz (left := left) (A := P.map Cr.id) (r := S.map Cr.id) hcase (by rw [hsd])
  have hall : allC (T ++ [⟨id, (plc T left).1, decide ((if (plc T left).2 then (1 : Int) else 0) = 1), ch, true⟩]) = P ++ ⟨id, (plc T left).1, decide ((if (plc T left).2 then (1 : Int) else 0) = 1), ch, true⟩ :: S := by
    refine allC_sub hwt (fun c hc => ?_) ?_
    · rcases List.mem_append.1 hc with h | h
      · exact List.mem_append_left _ (allC_mem (by rw [hPS]; exact List.mem_append_left _ h))
      · rcases List.mem_cons.1 h with rfl | h
        · simp
        · exact List.mem_append_left _ (allC_mem (by rw [hPS]; exact List.mem_append_right _ h))
    · rw [hplaced, List.map_append, List.map_cons]
  show (allC _).filter (·.seen) = _
  rw [hall, List.filter_append, List.filter_cons_of_pos rfl, hP, hS]
  simp

theorem seen_ids_once {T : List Cr} (hT : WT T) : ((seenC T).map Cr.id).Nodup := by
  have h : ((seenC T).map Cr.id).Sublist ((allC T).map Cr.id) := (List.filter_sublist).map _
  rw [allC_ids hT] at h
  exact h.nodup (allT_once hT)

theorem filter_ne_at : ∀ {D : List Cr} {k : Nat} {x : Cr}, (D.map Cr.id).Nodup → D[k]? = some x → D.filter (fun c => decide (c.id ≠ x.id)) = D.take k ++ D.drop (k + 1)
  | [], _, _, _, h => by simp at h
  | a :: r, 0, x, hn, h => by
    simp at h
    subst h
    rw [List.filter_cons_of_neg (by simp)]
    rw [List.map_cons, List.nodup_cons] at hn
    simp only [List.take_zero, List.nil_append, Nat.zero_add, List.drop_succ_cons, List.drop_zero]
    apply List.filter_eq_self.2
    intro c hc
    simp only [ne_eq, decide_not, Bool.not_eq_eq_eq_not, Bool.not_true, decide_eq_false_iff_not]
    intro e
    exact hn.1 (by rw [← e]; exact List.mem_map_of_mem hc)
  | a :: r, k + 1, x, hn, h => by
    rw [List.getElem?_cons_succ] at h
    rw [List.map_cons, List.nodup_cons] at hn
    have hax : a.id ≠ x.id := fun e => hn.1 (by rw [e]; exact List.mem_map_of_mem (List.mem_of_getElem? h))
    rw [List.filter_cons_of_pos (by simpa using hax), filter_ne_at hn.2 h]
    rfl

/-- What is taken out of sight isn't seen any more; all others are. -/
theorem seenC_hide {T : List Cr} (hT : WT T) (d : Dt) : seenC (hide T d) = (seenC T).filter (fun c => decide (c.id ≠ d)) := by
  have hall : allC (hide T d) = (allC T).map (fun c => if c.id = d then { c with seen := false } else c) := by
    refine allC_sub (hT.hide d) (fun c hc => ?_) ?_
    · obtain ⟨x, hx, rfl⟩ := List.mem_map.1 hc
      exact List.mem_map_of_mem (allC_mem hx)
    · rw [allT_hide, ← allC_ids hT, List.map_map]
      refine List.map_congr_left (fun c _ => ?_)
      simp only [Function.comp]
      split <;> rfl
  show (allC (hide T d)).filter (·.seen) = ((allC T).filter (·.seen)).filter _
  rw [hall]
  induction allC T with
  | nil => rfl
  | cons a r ih =>
    rw [List.map_cons]
    by_cases ha : a.id = d
    · rw [if_pos ha, List.filter_cons_of_neg (by simp), ih]
      by_cases hs : a.seen = true
      · rw [List.filter_cons_of_pos hs, List.filter_cons_of_neg (by simpa using ha)]
      · rw [List.filter_cons_of_neg hs]
    · rw [if_neg ha]
      by_cases hs : a.seen = true
      · rw [List.filter_cons_of_pos hs, List.filter_cons_of_pos hs, List.filter_cons_of_pos (by simpa using ha), ih]
      · rw [List.filter_cons_of_neg hs, List.filter_cons_of_neg hs, ih]

theorem hide_place {T : List Cr} (hT : WT T) {k : Nat} {x : Cr} (hk : (seenC T)[k]? = some x) : delP T x.id = (0, hide T x.id) ∧ seenC (hide T x.id) = (seenC T).take k ++ (seenC T).drop (k + 1) := by
  refine ⟨?_, ?_⟩
  · unfold delP
    rw [if_pos ⟨x, seenC_mem (List.mem_of_getElem? hk), rfl⟩]
  · rw [seenC_hide hT]
    exact filter_ne_at (seen_ids_once hT) hk
end Go.Proofs.Ytbpepmajpojacaa
