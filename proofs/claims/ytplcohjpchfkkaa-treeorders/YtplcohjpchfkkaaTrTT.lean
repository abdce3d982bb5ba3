/- The tree, as its users see it: its moves, in order. No function of the program. -/
import Derived.Test.YtplcohjpchfkkaaTrPut
set_option linter.unusedVariables false
namespace Go.Proofs.Ytplcohjpchfkkaa
open Go.RowKit

/-- A tree of these moves; A: its blocks. -/
def TT (w : World) (t : Nat) (l : List Mv) (A : Nat → Prop) : Prop :=
  ∃ k gs S lg fd pl kd fl B, TR w t l k gs S lg fd pl kd fl B A ∧ fl.length = l.length ∧ (∀ (i g : Nat) (m : Mv), gs[i]? = some g → l[i]? = some m → (m, g) ∈ fl) ∧ (∀ x ∈ fl, ∃ i : Nat, gs[i]? = some x.2 ∧ l[i]? = some x.1)

theorem TT.same {w w' : World} {t : Nat} {l : List Mv} {A : Nat → Prop} (h : TT w t l A) (hz : w.heap.size ≤ w'.heap.size) (hk : ∀ j, A j → w'.heap[j]? = w.heap[j]?) : TT w' t l A := by
  obtain ⟨k, gs, S, lg, fd, pl, kd, fl, B, h1, h2⟩ := h
  exact ⟨k, gs, S, lg, fd, pl, kd, fl, B, h1.same hz hk, h2⟩

theorem TT.lt {w : World} {t : Nat} {l : List Mv} {A : Nat → Prop} (h : TT w t l A) : ∀ j, A j → j < w.heap.size := by
  obtain ⟨k, gs, S, lg, fd, pl, kd, fl, B, h1, h2⟩ := h
  exact h1.as_

theorem TT.at_ {w : World} {t : Nat} {l : List Mv} {A : Nat → Prop} (h : TT w t l A) : A t := by
  obtain ⟨k, gs, S, lg, fd, pl, kd, fl, B, h1, h2⟩ := h
  exact h1.at_

theorem TT.log {w : World} {t : Nat} {l : List Mv} {A : Nat → Prop} (h : TT w t l A) : Lg l ∧ (∀ m ∈ l, Dw m.id ∧ Dw m.block ∧ Dw m.parent) ∧ l.length ≤ 1000 := by
  obtain ⟨k, gs, S, lg, fd, pl, kd, fl, B, h1, h2⟩ := h
  exact ⟨h1.log, h1.dw, h1.small⟩

/-- One more at its place: what is found goes along. -/
theorem fl_ins {l : List Mv} {gs : List Nat} {fl : List (Mv × Nat)} {m : Mv} {ge : Nat} (hl : gs.length = l.length) (h2 : ∀ (i g : Nat) (x : Mv), gs[i]? = some g → l[i]? = some x → (x, g) ∈ fl) (h3 : ∀ x ∈ fl, ∃ i : Nat, gs[i]? = some x.2 ∧ l[i]? = some x.1) :
    (∀ (i g : Nat) (x : Mv), (insG l gs m ge)[i]? = some g → (insL mvl l m)[i]? = some x → (x, g) ∈ fl ++ [(m, ge)]) ∧ (∀ x ∈ fl ++ [(m, ge)], ∃ i : Nat, (insG l gs m ge)[i]? = some x.2 ∧ (insL mvl l m)[i]? = some x.1) := by
  have hrl := rk_le mvl l m
  refine ⟨fun i g x h4 h5 => ?_, fun x hx => ?_⟩
  · unfold insG at h4
    unfold insL at h5
    rw [ins_get gs ge _ (by rw [hl]; exact hrl)] at h4
    rw [ins_get l m _ hrl] at h5
    by_cases c1 : i < rkL mvl l m
    · rw [if_pos c1] at h4 h5
      exact List.mem_append_left _ (h2 i g x h4 h5)
    · rw [if_neg c1] at h4 h5
      by_cases c2 : i = rkL mvl l m
      · rw [if_pos c2] at h4 h5
        cases h4
        cases h5
        simp
      · rw [if_neg c2] at h4 h5
        exact List.mem_append_left _ (h2 _ g x h4 h5)
  · unfold insG insL
    rcases List.mem_append.1 hx with hx | hx
    · obtain ⟨i, h4, h5⟩ := h3 x hx
      by_cases c1 : i < rkL mvl l m
      · refine ⟨i, ?_, ?_⟩
        · rw [ins_get gs ge _ (by rw [hl]; exact hrl), if_pos c1]; exact h4
        · rw [ins_get l m _ hrl, if_pos c1]; exact h5
      · refine ⟨i + 1, ?_, ?_⟩
        · rw [ins_get gs ge _ (by rw [hl]; exact hrl), if_neg (by omega), if_neg (by omega)]; exact h4
        · rw [ins_get l m _ hrl, if_neg (by omega), if_neg (by omega)]; exact h5
    · rw [List.mem_singleton] at hx
      subst hx
      refine ⟨rkL mvl l m, ?_, ?_⟩
      · rw [ins_get gs ge _ (by rw [hl]; exact hrl), if_neg (by omega), if_pos rfl]
      · rw [ins_get l m _ hrl, if_neg (by omega), if_pos rfl]

theorem TT.ids {w : World} {t : Nat} {l : List Mv} {k : Nat} {gs : List Nat} {S : List Sp} {lg fd pl kd : Value} {fl : List (Mv × Nat)} {B A : Nat → Prop} (h : TR w t l k gs S lg fd pl kd fl B A) (h2 : ∀ (i g : Nat) (m : Mv), gs[i]? = some g → l[i]? = some m → (m, g) ∈ fl) {m : Mv} (hm : m ∈ l) : ∃ g, (m, g) ∈ fl := by
  obtain ⟨i, hi⟩ := List.mem_iff_getElem?.1 hm
  have hl := (List.getElem?_eq_some_iff.1 hi).1
  exact ⟨gs[i]'(by rw [h.len]; exact hl), h2 i _ m (List.getElem?_eq_getElem (by rw [h.len]; exact hl)) hi⟩

/-- An empty map of entries. -/
theorem en_nil (w : World) {d : Dt} (hd : Dw d) : (Instr.lookup 62 (.map none) (dv d) false).run Try.prog w = .ok (pvo none) w := by
  have := Maps.look_nil (w := w) false law Try.underlying62 (zeroPtr w) (keyOf_dot hd)
  simpa using this

/-- What is found of an identity: nothing, or the entry of the move that bears it. -/
theorem TT.look {w : World} {t : Nat} {l : List Mv} {k : Nat} {gs : List Nat} {S : List Sp} {lg fd pl kd : Value} {fl : List (Mv × Nat)} {B A : Nat → Prop} (h : TR w t l k gs S lg fd pl kd fl B A) (h2 : ∀ (i g : Nat) (m : Mv), gs[i]? = some g → l[i]? = some m → (m, g) ∈ fl) (h3 : ∀ x ∈ fl, ∃ i : Nat, gs[i]? = some x.2 ∧ l[i]? = some x.1) {d : Dt} (hd : Dw d) :
    ((∀ m ∈ l, m.id ≠ d) ∧ ∀ V : World, (∀ j, A j → V.heap[j]? = w.heap[j]?) → (Instr.lookup 62 fd (dv d) false).run Try.prog V = .ok (.pointer none) V) ∨
    ∃ (i g : Nat) (m : Mv), gs[i]? = some g ∧ l[i]? = some m ∧ m.id = d ∧ ∀ V : World, (∀ j, A j → V.heap[j]? = w.heap[j]?) → (Instr.lookup 62 fd (dv d) false).run Try.prog V = .ok (.pointer (some ⟨g, 0, none⟩)) V := by
  rcases h.fnd with ⟨e1, e2⟩ | ⟨fm, G, e1, _, hA, hP, h5, h6⟩
  · subst e1 e2
    refine Or.inl ⟨fun m hm => ?_, fun V _ => en_nil V hd⟩
    obtain ⟨g, hg⟩ := TT.ids h h2 hm
    simp at hg
  · subst e1
    cases hG : G d with
    | none =>
      refine Or.inl ⟨fun m hm e => ?_, fun V hV => ?_⟩
      · obtain ⟨g, hg⟩ := TT.ids h h2 hm
        have := h5 _ hg
        simp only [e] at this
        rw [hG] at this
        cases this
      · have := (hP.same (hV fm hA)).look hd
        rw [hG] at this
        exact this
    | some g =>
      obtain ⟨x, hx, e⟩ := h6 d (by rw [hG]; rfl)
      obtain ⟨i, e1, e2⟩ := h3 x hx
      have h7 := h5 x hx
      rw [e, hG] at h7
      cases h7
      refine Or.inr ⟨i, x.2, x.1, e1, e2, e, fun V hV => ?_⟩
      have := (hP.same (hV fm hA)).look hd
      rw [hG] at this
      exact this

/-- What Move answers. -/
def mvE (l : List Mv) (m : Mv) : Int := if mayT m.id && mayT m.block then (if l.any (fun x => decide (x.id = m.id)) then 32 else 0) else 1

/-- What the moves are behind it. -/
def mvL (l : List Mv) (m : Mv) : List Mv := if mvE l m = 0 then insL mvl l m else l

theorem mayT_yes {d : Dt} (h : mayT d = true) : d ≠ (0, 0) ∧ ¬ isEnd d := by
  unfold mayT at h
  simp only [Bool.and_eq_true, decide_eq_true_eq] at h
  exact ⟨h.1.1, fun e => e.elim h.1.2 h.2⟩

theorem mvE_no {l : List Mv} {m : Mv} (h : mayT m.id = false ∨ mayT m.block = false) : mvE l m = 1 := by
  unfold mvE
  rcases h with h | h <;> simp [h]
theorem mvE_twice {l : List Mv} {m x : Mv} (h1 : mayT m.id = true) (h2 : mayT m.block = true) (hx : x ∈ l) (e : x.id = m.id) : mvE l m = 32 := by
  unfold mvE
  rw [h1, h2]
  have : l.any (fun x => decide (x.id = m.id)) = true := List.any_eq_true.2 ⟨x, hx, by simpa using e⟩
  simp [this]
theorem mvE_ok {l : List Mv} {m : Mv} (h1 : mayT m.id = true) (h2 : mayT m.block = true) (hx : ∀ x ∈ l, x.id ≠ m.id) : mvE l m = 0 := by
  unfold mvE
  rw [h1, h2]
  have : l.any (fun x => decide (x.id = m.id)) = false := by
    rw [List.any_eq_false]
    intro x hx'
    simpa using hx x hx'
  simp [this]

theorem KA.refl {w w' : World} {A : Nat → Prop} (hz : w.heap.size ≤ w'.heap.size) (hk : ∀ j, j < w.heap.size → w'.heap[j]? = w.heap[j]?) (hs : Sm w w') : KA w w' A A := ⟨hz, fun j hj _ => hk j hj, fun j hj => Or.inl hj, hs⟩
theorem KA.below {w w' : World} {A : Nat → Prop} (h : Below w.heap.size w w') : KA w w' A A := KA.refl h.size (fun j hj => h.block j hj) (Sm.b h)
theorem TT.below {w w' : World} {t : Nat} {l : List Mv} {A : Nat → Prop} (h : TT w t l A) (hb : Below w.heap.size w w') : TT w' t l A := h.same hb.size (fun j hj => hb.block j (h.lt j hj))
end Go.Proofs.Ytplcohjpchfkkaa
