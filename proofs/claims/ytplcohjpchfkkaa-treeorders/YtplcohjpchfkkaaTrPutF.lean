/- The tree, with one more entry that is found. No function of the program. -/
import Derived.Test.YtplcohjpchfkkaaTrNow
namespace Go.Proofs.Ytplcohjpchfkkaa
section
set_option linter.unusedVariables false
open Go.RowKit

/-- Ahead of undo: one fewer is told to be done. -/
theorem TR.told {w : World} {t : Nat} {l : List Mv} {k : Nat} {gs : List Nat} {S : List Sp} {lg fd pl kd : Value} {fl : List (Mv × Nat)} {B A : Nat → Prop} (h : TR w t l (k + 1) gs S lg fd pl kd fl B A) :
    TB (w.setCell ⟨t, 2, none⟩ (.int .i64 (k : Int))) t lg fd (.int .i64 (k : Int)) pl kd ∧ w.grownBy (w.setCell ⟨t, 2, none⟩ (.int .i64 (k : Int))) (some t) := by
  have h2 := set_blk (j := 2) h.tb (.int .i64 (k : Int))
  refine ⟨?_, grownBy_setCell w t 2 _⟩
  unfold TB
  simpa using h2

/-- What lay somewhere: under a dot of numbers as they are, and no Dot{}. -/
theorem TR.was {w : World} {t : Nat} {l : List Mv} {k : Nat} {gs : List Nat} {S : List Sp} {lg fd pl kd : Value} {fl : List (Mv × Nat)} {B A : Nat → Prop} (h : TR w t l k gs S lg fd pl kd fl B A) (i : Nat) (b : Dt) : ∀ q, lk (run (l.take i)) b = some q → Dw q.1 ∧ q.1 ≠ (0, 0) := fun q hq => by
  obtain ⟨r, hr⟩ := h.log.tk i
  refine ⟨?_, was_nz hr hq⟩
  obtain ⟨s, hs, _, e⟩ := lk_some hq
  obtain ⟨m, hm, rfl⟩ := run_mem hs
  have := (h.dw m (List.mem_of_mem_take hm)).2.2
  rw [← e]
  exact this

theorem TR.prev {w w' : World} {t : Nat} {l : List Mv} {k : Nat} {gs : List Nat} {S : List Sp} {lg fd pl kd pl' kd' : Value} {fl : List (Mv × Nat)} {B A : Nat → Prop} (h : TR w t l (k + 1) gs S lg fd pl kd fl B A) {g : Nat} {m : Mv} {T : Bool} {o : Option Pl} (hg : gs[k]? = some g) (hm : l[k]? = some m) (hTo : T = takes (run (l.take k)) m) (hoo : o = lk (run (l.take k)) m.block)
    (hT : TB w' t lg fd (.int .i64 (k : Int)) pl' kd') (hS : SB w' pl' kd' (undS S m.block T o) (Bn w w' B)) (hE : EN w' g m T (Option.getD o pl0)) (hz : w.heap.size ≤ w'.heap.size) (hK : ∀ j, j < w.heap.size → ¬ B j → j ≠ t → w'.heap[j]? = w.heap[j]?) :
    TR w' t l k gs (undS S m.block T o) lg fd pl' kd' fl (Bn w w' B) (Bn w w' A) := by
  have hkl : k < l.length := (List.getElem?_eq_some_iff.1 hm).1
  have htw : t < w.heap.size := h.as_ t h.at_
  have hes : ∀ j (x : Mv) tk q, EN w j x tk q → j ≠ t := fun j x tk q he e => by
    have h1 := h.tb
    unfold TB at h1
    unfold EN at he
    rw [← e, he] at h1
    simp at h1
  have hlb : ∀ j, lg.ownBlock = some j → j ≠ t := fun j hj e2 => by
    rcases h.row.2 with ⟨e, _⟩ | ⟨g', cap, cur, e, hb, hgg, hn, hc, hs, ht⟩
    · rw [e] at hj; simp [Value.ownBlock] at hj
    · rw [e] at hj
      simp only [Value.ownBlock, Option.some.injEq] at hj
      subst hj
      have h1 := h.tb
      unfold TB at h1
      rw [← e2, hgg] at h1
      simp at h1
  have hp : (undS S m.block T o).Perm (run (l.take k)) := by
    cases hc : T with
    | true =>
      have := undo_perm h.log hm h.perm (hTo.symm.trans hc)
      rw [← hoo] at this
      exact this
    | false => exact undo_no hm h.perm (hTo.symm.trans hc)
  refine ⟨hT, erow_kept h.row (fun j hj => hK j (h.as_ j (h.al j hj)) (h.bl j hj) (hlb j hj)), h.len, h.nd, fun i g' m' h1 h2 => ?_, by omega, hS, hp, h.log, h.dw, Bn.lt h.bs hz, Bn.not h.bt htw, fun x hx => Bn.not (h.bg x hx) (h.as_ x (h.ag x hx)), fun j hj => Bn.not (h.bl j hj) (h.as_ j (h.al j hj)), ?_, h.small, fun j hj => hj.imp (h.ab j) id, Or.inl h.at_, fun x hx => Or.inl (h.ag x hx), fun j hj => Or.inl (h.al j hj), Bn.lt h.as_ hz⟩
  · obtain ⟨tk, o', h3, h4⟩ := h.en i g' m' h1 h2
    exact ⟨tk, o', (hK g' (h.as_ g' (h.ag g' (List.mem_of_getElem? h1))) (h.bg g' (List.mem_of_getElem? h1)) (hes g' m' tk _ h3)).trans h3, fun hi => h4 (by omega)⟩
  · rcases h.fnd with h1 | ⟨fm, G, h1, h2, h3, h4, h5, h6⟩
    · exact Or.inl h1
    · refine Or.inr ⟨fm, G, h1, Bn.not h2 h4.lt, Or.inl h3, h4.same (hK fm h4.lt h2 (fun e => ?_)), h5, h6⟩
      obtain ⟨D, ho, _⟩ := h4
      exact map_cells ho h.tb e.symm
end

section
set_option linter.unusedVariables false
open Go.RowKit

/-- The blocks of the entries, with one more at its place. -/
def insG (l : List Mv) (gs : List Nat) (m : Mv) (ge : Nat) : List Nat := gs.take (rkL mvl l m) ++ ge :: gs.drop (rkL mvl l m)

theorem ins_get {α : Type} (xs : List α) (x : α) (r : Nat) (hr : r ≤ xs.length) (i : Nat) : (xs.take r ++ x :: xs.drop r)[i]? = if i < r then xs[i]? else if i = r then some x else xs[i - 1]? := by
  have hl : (xs.take r).length = r := by rw [List.length_take]; omega
  by_cases h1 : i < r
  · rw [if_pos h1, List.getElem?_append_left (by omega), List.getElem?_take, if_pos h1]
  · rw [if_neg h1, List.getElem?_append_right (by omega), hl]
    by_cases h2 : i = r
    · subst h2
      simp
    · rw [if_neg h2]
      obtain ⟨j, hj⟩ : ∃ j, i - r = j + 1 := ⟨i - r - 1, by omega⟩
      rw [hj, List.getElem?_cons_succ, List.getElem?_drop]
      congr 1
      omega

theorem TR.put {w W6 : World} {t : Nat} {l : List Mv} {k : Nat} {gs : List Nat} {S : List Sp} {lg lg' fd pl kd : Value} {fl : List (Mv × Nat)} {B A : Nat → Prop} (h : TR w t l k gs S lg fd pl kd fl B A) {ge rg c : Nat} {m : Mv} {tk : Bool} {q : Pl} (hk : k ≤ rkL mvl l m) (hE : EN w ge m tk (Option.getD (some q) pl0)) (hgA : ¬ A ge) (hgw : ge < w.heap.size)
    (hf : ∀ x ∈ l, x.id ≠ m.id) (hb : m.block ≠ (0, 0) ∧ ¬ isEnd m.block) (hi : m.id ≠ (0, 0) ∧ ¬ isEnd m.id) (hd : Dw m.id ∧ Dw m.block ∧ Dw m.parent) (hs : l.length + 1 ≤ 1000)
    (hz : w.heap.size ≤ W6.heap.size) (hT6 : TB W6 t lg' fd (.int .i64 (k : Int)) pl kd) (hr6 : W6.ownsRow 0 71 1 lg' (gs.length + 1) (prow (insG l gs m ge))) (hlg : lg' = .slice (some ⟨rg, 0, none⟩) (gs.length + 1) c) (hrg : lg.ownBlock = some rg ∨ w.heap.size ≤ rg)
    (hK : ∀ j, j < w.heap.size → j ≠ t → lg.ownBlock ≠ some j → W6.heap[j]? = w.heap[j]?) :
    TR W6 t (insL mvl l m) k (insG l gs m ge) S lg' fd pl kd fl B (fun j => A j ∨ j = ge ∨ j = rg) := by
  have hrl := rk_le mvl l m
  have hgl : (insG l gs m ge).length = gs.length + 1 := by
    unfold insG
    rw [List.length_append, List.length_cons, List.length_take, List.length_drop]
    have := h.len
    omega
  have hlb : ∀ j, lg.ownBlock = some j → ∃ cs, w.heap[j]? = some (.cells cs 71 (0, 0)) := fun j hj => by
    rcases h.row.2 with ⟨e, _⟩ | ⟨g', cap, cur, e, hb, hgg, hn, hc, hs, ht⟩
    · rw [e] at hj; simp [Value.ownBlock] at hj
    · rw [e] at hj
      simp only [Value.ownBlock, Option.some.injEq] at hj
      subst hj
      exact ⟨cur, hgg⟩
  have hen : ∀ j (x : Mv) tk q, EN w j x tk q → j ≠ t ∧ lg.ownBlock ≠ some j := fun j x tk q he => by
    unfold EN at he
    refine ⟨fun e => ?_, fun e => ?_⟩
    · have h1 := h.tb
      unfold TB at h1
      rw [← e, he] at h1
      simp at h1
    · obtain ⟨cs, h1⟩ := hlb j e
      rw [h1] at he
      simp at he
  have keepE : ∀ j (x : Mv) tk q, EN w j x tk q → EN W6 j x tk q := fun j x tk q he => (hK j (Array.getElem?_eq_some_iff.1 he).1 (hen j x tk q he).1 (hen j x tk q he).2).trans he
  have hr6w : rg < W6.heap.size := by
    rcases hr6.2 with ⟨e, _⟩ | ⟨g', cap, cur, e, _, hgg, _⟩
    · rw [hlg] at e; simp at e
    · rw [hlg] at e
      simp only [Value.slice.injEq, Option.some.injEq, Addr.mk.injEq] at e
      rw [e.1.1]
      exact (Array.getElem?_eq_some_iff.1 hgg).1
  have hBe : ¬ B ge := fun e => hgA (h.ab _ e)
  have hnin : ge ∉ gs := fun e => hgA (h.ag _ e)
  have hmg : ∀ x, x ∈ insG l gs m ge ↔ x = ge ∨ x ∈ gs := fun x => by
    unfold insG
    rw [List.mem_append, List.mem_cons]
    constructor
    · rintro (h1 | h1 | h1)
      · exact Or.inr (List.mem_of_mem_take h1)
      · exact Or.inl h1
      · exact Or.inr (List.mem_of_mem_drop h1)
    · rintro (h1 | h1)
      · exact Or.inr (Or.inl h1)
      · rw [← List.take_append_drop (rkL mvl l m) gs, List.mem_append] at h1
        rcases h1 with h1 | h1
        · exact Or.inl h1
        · exact Or.inr (Or.inr h1)
  refine ⟨hT6, by rw [hgl]; exact hr6, by rw [hgl, ins_len, h.len], ?_, fun i g m' h1 h2 => ?_, by rw [ins_len]; have := h.le; omega, h.sb.kept (fun j hj => hK j (h.bs j hj) (fun e => h.bt (e ▸ hj)) (fun e => h.bl j e hj)), by rw [ins_take hk]; exact h.perm, h.log.ins hf hb hi, fun x hx => ?_, fun j hj => Nat.lt_of_lt_of_le (h.bs j hj) hz, h.bt, fun x hx => ?_, fun j hj => ?_, ?_, by rw [ins_len]; exact hs, fun j hj => Or.inl (h.ab j hj), Or.inl h.at_, fun x hx => ?_, fun j hj => ?_, fun j hj => ?_⟩
  · have hp : (insG l gs m ge).Perm (ge :: gs) := by
      unfold insG
      have := List.perm_middle (a := ge) (l₁ := gs.take (rkL mvl l m)) (l₂ := gs.drop (rkL mvl l m))
      rwa [List.take_append_drop] at this
    exact hp.nodup_iff.2 (List.nodup_cons.2 ⟨hnin, h.nd⟩)
  · unfold insG at h1
    unfold insL at h2
    rw [ins_get gs ge _ (by rw [h.len]; exact hrl)] at h1
    rw [ins_get l m _ hrl] at h2
    by_cases c1 : i < rkL mvl l m
    · rw [if_pos c1] at h1 h2
      obtain ⟨tk', o, h3, h4⟩ := h.en i g m' h1 h2
      refine ⟨tk', o, keepE _ _ _ _ h3, fun hik => ?_⟩
      rw [ins_take (by omega)]
      exact h4 hik
    · rw [if_neg c1] at h1 h2
      by_cases c2 : i = rkL mvl l m
      · rw [if_pos c2] at h1 h2
        cases h1
        cases h2
        exact ⟨tk, some q, keepE _ _ _ _ hE, fun hik => absurd hik (by omega)⟩
      · rw [if_neg c2] at h1 h2
        obtain ⟨tk', o, h3, h4⟩ := h.en (i - 1) g m' h1 h2
        exact ⟨tk', o, keepE _ _ _ _ h3, fun hik => absurd hik (by omega)⟩
  · rcases List.mem_cons.1 ((ins_perm mvl l m).mem_iff.1 hx) with rfl | hx
    · exact hd
    · exact h.dw x hx
  · rcases (hmg x).1 hx with rfl | hx
    · exact hBe
    · exact h.bg x hx
  · rw [hlg] at hj
    simp only [Value.ownBlock, Option.some.injEq] at hj
    subst hj
    rcases hrg with e | e
    · exact h.bl _ e
    · exact fun e' => absurd (h.bs _ e') (by omega)
  · rcases h.fnd with h1 | ⟨fm, G, h1, h2, h3, h4, h5⟩
    · exact Or.inl h1
    · refine Or.inr ⟨fm, G, h1, h2, Or.inl h3, h4.same (hK fm h4.lt (fun e => ?_) (fun e => ?_)), h5⟩
      · obtain ⟨D, ho, _⟩ := h4
        exact map_cells ho h.tb e.symm
      · obtain ⟨cs, hcs⟩ := hlb fm e
        obtain ⟨D, ho, _⟩ := h4
        exact map_cells ho hcs rfl
  · rcases (hmg x).1 hx with rfl | hx
    · exact Or.inr (Or.inl rfl)
    · exact Or.inl (h.ag x hx)
  · rw [hlg] at hj
    simp only [Value.ownBlock, Option.some.injEq] at hj
    exact Or.inr (Or.inr hj.symm)
  · rcases hj with hj | rfl | rfl
    · exact Nat.lt_of_lt_of_le (h.as_ j hj) hz
    · omega
    · exact hr6w
end

section
set_option linter.unusedVariables false
open Go.RowKit

/-- The map of what is found is made: it lies in a new block. -/
theorem TR.made {w w' : World} {t : Nat} {l : List Mv} {k : Nat} {gs : List Nat} {S : List Sp} {lg pl kd : Value} {fl : List (Mv × Nat)} {B A : Nat → Prop} (h : TR w t l k gs S lg (.map none) pl kd fl B A) {fm : Nat} (hz : w.heap.size ≤ w'.heap.size) (hfm : w.heap.size ≤ fm) (hT : TB w' t lg (.map (some fm)) (.int .i64 (k : Int)) pl kd) (hP : PM w' fm 0 (fun _ => none)) (hK : ∀ j, j < w.heap.size → j ≠ t → w'.heap[j]? = w.heap[j]?) :
    TR w' t l k gs S lg (.map (some fm)) pl kd fl B (fun j => A j ∨ j = fm) := by
  have hfl : fl = [] := by
    rcases h.fnd with ⟨_, e⟩ | ⟨fm', G, e, _⟩
    · exact e
    · cases e
  subst hfl
  have hes : ∀ j (x : Mv) tk q, EN w j x tk q → j ≠ t := fun j x tk q he e => by
    have h1 := h.tb
    unfold TB at h1
    unfold EN at he
    rw [← e, he] at h1
    simp at h1
  have hlb : ∀ j, lg.ownBlock = some j → j ≠ t := fun j hj e2 => by
    rcases h.row.2 with ⟨e, _⟩ | ⟨g', cap, cur, e, hb, hgg, hn, hc, hs, ht⟩
    · rw [e] at hj; simp [Value.ownBlock] at hj
    · rw [e] at hj
      simp only [Value.ownBlock, Option.some.injEq] at hj
      subst hj
      have h1 := h.tb
      unfold TB at h1
      rw [← e2, hgg] at h1
      simp at h1
  refine ⟨hT, erow_kept h.row (fun j hj => hK j (h.as_ j (h.al j hj)) (hlb j hj)), h.len, h.nd, fun i g m h1 h2 => ?_, h.le, h.sb.kept (fun j hj => hK j (h.bs j hj) (fun e => h.bt (e ▸ hj))), h.perm, h.log, h.dw, fun j hj => Nat.lt_of_lt_of_le (h.bs j hj) hz, h.bt, h.bg, h.bl, Or.inr ⟨fm, _, rfl, fun e => absurd (h.bs _ e) (by omega), Or.inr rfl, hP, by simp, fun d hd => by cases hd⟩, h.small, fun j hj => Or.inl (h.ab j hj), Or.inl h.at_, fun g hg => Or.inl (h.ag g hg), fun j hj => Or.inl (h.al j hj), fun j hj => ?_⟩
  · obtain ⟨tk, o, h3, h4⟩ := h.en i g m h1 h2
    exact ⟨tk, o, (hK g (h.as_ g (h.ag g (List.mem_of_getElem? h1))) (hes g m tk _ h3)).trans h3, h4⟩
  · rcases hj with hj | rfl
    · exact Nat.lt_of_lt_of_le (h.as_ j hj) hz
    · exact hP.lt

/-- One more is found. -/
theorem TR.found {w w' : World} {t : Nat} {l : List Mv} {k : Nat} {gs : List Nat} {S : List Sp} {lg pl kd : Value} {fl : List (Mv × Nat)} {B A : Nat → Prop} {fm : Nat} (h : TR w t l k gs S lg (.map (some fm)) pl kd fl B A) {m : Mv} {ge : Nat} (hf : ∀ x ∈ fl, x.1.id ≠ m.id) {G : Dt → Option Nat} (hG : PM w fm fl.length G) (hG5 : ∀ x ∈ fl, G x.1.id = some x.2) (hG6 : ∀ d, (G d).isSome = true → ∃ x ∈ fl, x.1.id = d) (hBf : ¬ B fm) (hAf : A fm)
    (hP : PM w' fm (fl.length + 1) (fun e => if e = m.id then some ge else G e)) (hg : w.grownBy w' (some fm)) : TR w' t l k gs S lg (.map (some fm)) pl kd (fl ++ [(m, ge)]) B A := by
  obtain ⟨D, ho, _⟩ := hG
  have hcell : ∀ (j : Nat) (cs : Array Value) (ty : TypeId) (fz : Nat × Nat), w.heap[j]? = some (Obj.cells cs ty fz) → w'.heap[j]? = w.heap[j]? := fun j cs ty fz hj => hg.block j (Array.getElem?_eq_some_iff.1 hj).1 (by
    intro e
    exact map_cells ho hj (Option.some.inj e))
  have hlb : ∀ j, lg.ownBlock = some j → w'.heap[j]? = w.heap[j]? := fun j hj => by
    rcases h.row.2 with ⟨e, _⟩ | ⟨g', cap, cur, e, hb, hgg, hn, hc, hs, ht⟩
    · rw [e] at hj; simp [Value.ownBlock] at hj
    · rw [e] at hj
      simp only [Value.ownBlock, Option.some.injEq] at hj
      subst hj
      exact hcell _ _ _ _ hgg
  refine ⟨(hcell t _ _ _ h.tb).trans h.tb, erow_kept h.row hlb, h.len, h.nd, fun i g m' h1 h2 => ?_, h.le, h.sb.kept (fun j hj => hg.block j (h.bs j hj) (by intro e; exact hBf (Option.some.inj e ▸ hj))), h.perm, h.log, h.dw, fun j hj => Nat.lt_of_lt_of_le (h.bs j hj) hg.size, h.bt, h.bg, h.bl, Or.inr ⟨fm, _, rfl, hBf, hAf, by rw [List.length_append]; exact hP, fun x hx => ?_, fun d hd => ?_⟩, h.small, h.ab, h.at_, h.ag, h.al, fun j hj => Nat.lt_of_lt_of_le (h.as_ j hj) hg.size⟩
  · obtain ⟨tk, o, h3, h4⟩ := h.en i g m' h1 h2
    exact ⟨tk, o, (hcell g _ _ _ h3).trans h3, h4⟩
  · rcases List.mem_append.1 hx with hx | hx
    · simp only [if_neg (hf x hx)]
      exact hG5 x hx
    · rw [List.mem_singleton] at hx
      subst hx
      simp
  · by_cases e : d = m.id
    · exact ⟨(m, ge), by simp, e.symm⟩
    · simp only [if_neg e] at hd
      obtain ⟨x, hx, h7⟩ := hG6 d hd
      exact ⟨x, List.mem_append_left _ hx, h7⟩
end
end Go.Proofs.Ytplcohjpchfkkaa
