/- Two trees beside one another. -/
import Derived.Test.YtplcohjpchfkkaaTrSame
set_option linter.unusedVariables false
namespace Go.Proofs.Ytplcohjpchfkkaa
open Go.RowKit

/-- Two trees that have no block in common; the blocks of which P holds are none of theirs. -/
def D2 (W : World) (s t : Nat) (l l' : List Mv) (P : Nat → Prop) : Prop := ∃ A B, TT W s l A ∧ TT W t l' B ∧ (∀ j, A j → ¬ B j) ∧ ∀ j, P j → ¬ A j ∧ ¬ B j ∧ j < W.heap.size

theorem D2.symm {W : World} {s t : Nat} {l l' : List Mv} {P : Nat → Prop} (h : D2 W s t l l' P) : D2 W t s l' l P := by
  obtain ⟨A, B, h1, h2, h3, h4⟩ := h
  exact ⟨B, A, h2, h1, fun j hb ha => h3 j ha hb, fun j hj => ⟨(h4 j hj).2.1, (h4 j hj).1, (h4 j hj).2.2⟩⟩

theorem D2.lt {W : World} {s t : Nat} {l l' : List Mv} {P : Nat → Prop} (h : D2 W s t l l' P) : ∀ j, P j → j < W.heap.size := by
  obtain ⟨A, B, h1, h2, h3, h4⟩ := h
  exact fun j hj => (h4 j hj).2.2

theorem D2.mono {W : World} {s t : Nat} {l l' : List Mv} {P Q : Nat → Prop} (h : D2 W s t l l' P) (hq : ∀ j, Q j → P j) : D2 W s t l l' Q := by
  obtain ⟨A, B, h1, h2, h3, h4⟩ := h
  exact ⟨A, B, h1, h2, h3, fun j hj => h4 j (hq j hj)⟩

theorem D2.log {W : World} {s t : Nat} {l l' : List Mv} {P : Nat → Prop} (h : D2 W s t l l' P) : Lg l ∧ (∀ m ∈ l, Dw m.id ∧ Dw m.block ∧ Dw m.parent) ∧ l.length ≤ 1000 := by
  obtain ⟨A, B, h1, h2, h3, h4⟩ := h
  exact h1.log

/-- Blocks that are none of theirs may turn, and there may be new ones. -/
theorem D2.turn {W V : World} {s t : Nat} {l l' : List Mv} {P Q : Nat → Prop} (h : D2 W s t l l' P) (hz : W.heap.size ≤ V.heap.size) (hk : ∀ j, j < W.heap.size → ¬ P j → V.heap[j]? = W.heap[j]?) (hq : ∀ j, Q j → P j ∨ (W.heap.size ≤ j ∧ j < V.heap.size)) : D2 V s t l l' Q := by
  obtain ⟨A, B, h1, h2, h3, h4⟩ := h
  refine ⟨A, B, h1.same hz (fun j hj => hk j (h1.lt j hj) (fun e => (h4 j e).1 hj)), h2.same hz (fun j hj => hk j (h2.lt j hj) (fun e => (h4 j e).2.1 hj)), h3, fun j hj => ?_⟩
  rcases hq j hj with e | e
  · exact ⟨(h4 j e).1, (h4 j e).2.1, Nat.lt_of_lt_of_le (h4 j e).2.2 hz⟩
  · exact ⟨fun e' => absurd (h1.lt j e') (by omega), fun e' => absurd (h2.lt j e') (by omega), e.2⟩
theorem D2.below {W V : World} {s t : Nat} {l l' : List Mv} {P : Nat → Prop} (h : D2 W s t l l' P) (hb : Below W.heap.size W V) : D2 V s t l l' P := h.turn hb.size (fun j hj _ => hb.block j hj) (fun j hj => Or.inl hj)
theorem D2.alloc {W : World} {s t : Nat} {l l' : List Mv} {P : Nat → Prop} (h : D2 W s t l l' P) (o : Obj) : D2 (W.alloc o) s t l l' (fun j => P j ∨ j = W.heap.size) :=
  h.turn (by simp) (fun j hj _ => Below.heap_alloc W o j hj) (fun j hj => hj.imp id (fun e => by subst e; simp))
theorem D2.drew {W : World} {s t : Nat} {l l' : List Mv} {P : Nat → Prop} (h : D2 W s t l l' P) : D2 W.drew s t l l' P := h.turn (Nat.le_refl _) (fun j _ _ => rfl) (fun j hj => Or.inl hj)

/-- A call of the first one's. -/
theorem D2.next {W W' : World} {s t : Nat} {l2 l' : List Mv} {A B A' P : Nat → Prop} (h2 : TT W t l' B) (h3 : ∀ j, A j → ¬ B j) (h4 : ∀ j, P j → ¬ A j ∧ ¬ B j ∧ j < W.heap.size) (k1 : TT W' s l2 A') (k2 : KA W W' A A') : D2 W' s t l2 l' P ∧ KP P W W' := by
  have hnb : ∀ j, A' j → ¬ B j := fun j hj hb => by
    rcases k2.new j hj with e | e
    · exact h3 j e hb
    · have := h2.lt j hb; omega
  refine ⟨⟨A', B, k1, h2.same k2.size (fun j hj => k2.keep j (h2.lt j hj) (fun e => h3 j e hj)), hnb, fun j hj => ?_⟩, ⟨k2.size, fun j hj => k2.keep j (h4 j hj).2.2 (h4 j hj).1, k2.sm⟩⟩
  obtain ⟨e1, e2, e3⟩ := h4 j hj
  exact ⟨(foreign k2 ⟨e1, e3⟩).1, e2, Nat.lt_of_lt_of_le e3 k2.size⟩

theorem D2.row {W W' : World} {s t : Nat} {l2 l' : List Mv} {A B A' P : Nat → Prop} {L : List Dt} {e : Ending} (h2 : TT W t l' B) (h3 : ∀ j, A j → ¬ B j) (h4 : ∀ j, P j → ¬ A j ∧ ¬ B j ∧ j < W.heap.size) (hr : RowOf W W' A' L e) (k1 : TT W' s l2 A') (k2 : KA W W' A A') : ∃ a c, e = .returned (.slice a L.length c) ∧ PS W' a L.length c L ∧ D2 W' s t l2 l' (fun j => P j ∨ ∃ ad, a = some ad ∧ ad.block = j) ∧ KP P W W' := by
  obtain ⟨v, e1, ho, hv⟩ := hr
  obtain ⟨a, c, rfl, hps⟩ := owned_ps ho rfl
  obtain ⟨⟨A2, B2, q1, q2, q3, q4⟩, kp⟩ := D2.next h2 h3 h4 k1 k2
  refine ⟨a, c, e1, hps, ⟨A', B, k1, h2.same k2.size (fun j hj => k2.keep j (h2.lt j hj) (fun e => h3 j e hj)), fun j hj hb => ?_, fun j hj => ?_⟩, kp⟩
  · rcases k2.new j hj with e | e
    · exact h3 j e hb
    · have := h2.lt j hb; omega
  · rcases hj with hj | ⟨ad, rfl, rfl⟩
    · obtain ⟨e1, e2, e3⟩ := h4 j hj
      exact ⟨(foreign k2 ⟨e1, e3⟩).1, e2, Nat.lt_of_lt_of_le e3 k2.size⟩
    · have hl : W.heap.size ≤ ad.block ∧ ad.block < W'.heap.size := by
        rcases ho.2 with ⟨e', _⟩ | ⟨g, cap, cur, e', hb, hg, _⟩
        · simp at e'
        · simp only [Value.slice.injEq, Option.some.injEq] at e'
          rw [e'.1]
          exact ⟨hb, (Array.getElem?_eq_some_iff.1 hg).1⟩
      refine ⟨?_, fun hb => absurd (h2.lt _ hb) (by omega), hl.2⟩
      rcases ho.2 with ⟨e', _⟩ | ⟨g, cap, cur, e', _, hg, _⟩
      · simp at e'
      · simp only [Value.slice.injEq, Option.some.injEq] at e'
        rw [e'.1]
        exact hv _ (by rw [e'.1]; rfl)

theorem move_d2 {s t : Nat} {l l' : List Mv} {P : Nat → Prop} (m : Mv) {W : World} (h : D2 W s t l l' P) (hd : Dw m.id ∧ Dw m.block ∧ Dw m.parent) (hs : l.length + 1 ≤ 1000) : Calls Try.prog 12 #[.pointer (some ⟨s, 0, none⟩), dv m.id, .int .i64 m.time, dv m.block, dv m.parent, .string m.key] W fun e W' => e = .returned (.int .i64 (mvE l m)) ∧ D2 W' s t (mvL l m) l' P ∧ KP P W W' := by
  obtain ⟨A, B, h1, h2, h3, h4⟩ := h
  refine (move_any s l A m W h1 hd hs).mono ?_
  rintro e W' ⟨e1, A', k1, k2⟩
  exact ⟨e1, D2.next h2 h3 h4 k1 k2⟩
theorem took_d2 {s t : Nat} {l l' : List Mv} {P : Nat → Prop} (d : Dt) {W : World} (h : D2 W s t l l' P) (hd : Dw d) : Calls Try.prog 18 #[.pointer (some ⟨s, 0, none⟩), dv d] W fun e W' => e = .returned (.bool (tookB l d)) ∧ D2 W' s t l l' P ∧ KP P W W' := by
  obtain ⟨A, B, h1, h2, h3, h4⟩ := h
  refine (took_tt s l A d W h1 hd).mono ?_
  rintro e W' ⟨e1, A', k1, k2⟩
  exact ⟨e1, D2.next h2 h3 h4 k1 k2⟩
theorem parent_d2 {s t : Nat} {l l' : List Mv} {P : Nat → Prop} (d : Dt) {W : World} (h : D2 W s t l l' P) (hd : Dw d) : Calls Try.prog 16 #[.pointer (some ⟨s, 0, none⟩), dv d] W fun e W' => e = .returned (.tuple #[dv ((lk (run l) d).getD pl0).1, .string ((lk (run l) d).getD pl0).2, .bool (lk (run l) d).isSome]) ∧ D2 W' s t l l' P ∧ KP P W W' := by
  obtain ⟨A, B, h1, h2, h3, h4⟩ := h
  refine (parent_tt s l A d W h1 hd).mono ?_
  rintro e W' ⟨e1, A', k1, k2⟩
  exact ⟨e1, D2.next h2 h3 h4 k1 k2⟩
theorem kids_d2 {s t : Nat} {l l' : List Mv} {P : Nat → Prop} (d : Dt) {W : World} (h : D2 W s t l l' P) (hd : Dw d) : Calls Try.prog 17 #[.pointer (some ⟨s, 0, none⟩), dv d] W fun e W' => ∃ a c, e = .returned (.slice a (kidB (run l) d).length c) ∧ PS W' a (kidB (run l) d).length c (kidB (run l) d) ∧ D2 W' s t l l' (fun j => P j ∨ ∃ ad, a = some ad ∧ ad.block = j) ∧ KP P W W' := by
  obtain ⟨A, B, h1, h2, h3, h4⟩ := h
  refine (kids_tt s l A d W h1 hd).mono ?_
  rintro e W' ⟨A', hr, k1, k2⟩
  exact D2.row h2 h3 h4 hr k1 k2
theorem blocks_d2 {s t : Nat} {l l' : List Mv} {P : Nat → Prop} {W : World} (h : D2 W s t l l' P) : Calls Try.prog 14 #[.pointer (some ⟨s, 0, none⟩)] W fun e W' => ∃ a c, e = .returned (.slice a (blks l).length c) ∧ PS W' a (blks l).length c (blks l) ∧ D2 W' s t l l' (fun j => P j ∨ ∃ ad, a = some ad ∧ ad.block = j) ∧ KP P W W' := by
  obtain ⟨A, B, h1, h2, h3, h4⟩ := h
  refine (blocks_tt s l A W h1).mono ?_
  rintro e W' ⟨A', hr, k1, k2⟩
  exact D2.row h2 h3 h4 hr k1 k2

/-- A second tree is made. -/
theorem new_d2 {W : World} {s : Nat} {l : List Mv} {P : Nat → Prop} (h : TP W s l P) : Calls Try.prog 10 #[] W fun e W' => e = .returned (.pointer (some ⟨W.heap.size, 0, none⟩)) ∧ D2 W' s W.heap.size l [] P ∧ Below W.heap.size W W' := by
  refine (new_tt W).mono ?_
  rintro e W' ⟨e1, h2, h3⟩
  obtain ⟨A, h1, hA⟩ := h
  exact ⟨e1, ⟨A, _, h1.below h3, h2, fun j hj hb => by have := h1.lt j hj; omega, fun j hj => ⟨(hA j hj).1, by have := (hA j hj).2; omega, Nat.lt_of_lt_of_le (hA j hj).2 h3.size⟩⟩, h3⟩
end Go.Proofs.Ytplcohjpchfkkaa
