/- The reference: a row of characters of one's own. -/
import Derived.Test.YtbpepmajpojacaaFgRAt
import Derived.Test.YtbpepmajpojacaaFgTM
import Derived.Test.YtbpepmajpojacaaFgTx
set_option linter.unusedVariables false
set_option linter.unusedSimpArgs false
namespace Go.Proofs.Ytbpepmajpojacaa
open Go.RowKit

theorem Try.infoC : (Try.prog.info? 75).map (fun i => (i.zero, i.size, i.bytes)) = some (some (.agg #[.int .i64 0, .int .i64 0, .int .i64 0, .int .i64 0, .int .i64 0, .int .i64 0, .bool false]), 7, 56) := by kernel_rfl

/-- The cells of a row of characters. -/
def flatC (T : List Cr) : List Value := T.flatMap (fun c => c.rc.toList)

theorem rc_len (c : Cr) : c.rc.toList.length = 7 := rfl

theorem flatC_length (T : List Cr) : (flatC T).length = T.length * 7 := by
  unfold flatC
  induction T with
  | nil => rfl
  | cons c r ih => rw [List.flatMap_cons, List.length_append, ih, rc_len, List.length_cons]; omega

theorem flatC_append (T U : List Cr) : flatC (T ++ U) = flatC T ++ flatC U := by unfold flatC; rw [List.flatMap_append]

theorem flatC_get : ∀ (T : List Cr) (i : Nat) (hi : i < T.length) (j : Nat), j < 7 → (flatC T)[i * 7 + j]? = (T[i]).rc.toList[j]?
  | [], i, hi, _, _ => by simp at hi
  | c :: r, 0, _, j, hj => by
    unfold flatC
    rw [List.flatMap_cons, Nat.zero_mul, Nat.zero_add, List.getElem?_append_left (by rw [rc_len]; exact hj)]
    rfl
  | c :: r, i + 1, hi, j, hj => by
    have ih := flatC_get r i (by simpa using hi) j hj
    unfold flatC at ih ⊢
    rw [List.flatMap_cons, List.getElem?_append_right (by rw [rc_len]; omega), rc_len, show (i + 1) * 7 + j - 7 = i * 7 + j by omega, ih]
    rfl

theorem flatC_one (T : List Cr) : ∀ u ∈ flatC T, u.oneCell' = true := by
  intro u hu
  unfold flatC at hu
  obtain ⟨c, _, hc⟩ := List.mem_flatMap.1 hu
  simp [Cr.rc] at hc
  rcases hc with rfl | rfl | rfl | rfl | rfl | rfl | rfl <;> rfl

theorem own_rt {w : World} {base n : Nat} {v : Value} {T : List Cr} (h : w.ownsRow base 75 7 v n (flatC T)) : ∃ a c, v = .slice a n c ∧ RT w a n c T := by
  have hl : T.length = n := by have := h.1; rw [flatC_length] at this; omega
  rcases h.2 with ⟨rfl, h0⟩ | ⟨g, cap, cur, rfl, hB, hg, hn, hc, hcs, ht⟩
  · subst h0
    exact ⟨none, 0, rfl, hl, Nat.le_refl _, Nat.zero_le _, fun _ => ⟨rfl, rfl⟩, fun hp => absurd hp (by omega)⟩
  · refine ⟨_, _, rfl, hl, hn, hc, (fun e => by cases e), (fun hp => ⟨g, 0, rfl, (Array.getElem?_eq_some_iff.1 hg).1, fun i hi j u hj => ?_⟩)⟩
    have hj7 : j < 7 := by have := (List.getElem?_eq_some_iff.1 hj).1; rwa [rc_len] at this
    have := h.cells (g := g) rfl (i * 7 + j) u (by rw [flatC_get T i hi j hj7]; exact hj)
    have e : (⟨g, 0, none⟩ : Addr).add (i * 7 + j) = ⟨g, 0 + i * 7 + j, none⟩ := by
      unfold Addr.add
      split
      · rename_i h0
        simp only [Addr.mk.injEq, true_and, and_true]
        omega
      · simp only [Addr.mk.injEq, true_and, and_true]
        omega
    rw [e] at this
    exact this

theorem RT.cells {w : World} {a : Option Addr} {n c : Nat} {T : List Cr} (h : RT w a n c T) {g o : Nat} (ha : a = some ⟨g, o, none⟩) (hp : 0 < n) : ∀ j u, (flatC T)[j]? = some u → w.cell? ((⟨g, o, none⟩ : Addr).add j) = some u := by
  intro j u hj
  obtain ⟨g', o', e, hg, hx⟩ := h.at_ hp
  rw [ha] at e
  cases e
  have hjl := (List.getElem?_eq_some_iff.1 hj).1
  rw [flatC_length] at hjl
  have hd := Nat.div_add_mod j 7
  have hm := Nat.mod_lt j (show 0 < 7 by omega)
  have hi : j / 7 < T.length := by omega
  have e1 : j = j / 7 * 7 + j % 7 := by omega
  have e2 := flatC_get T (j / 7) hi (j % 7) hm
  rw [← e1, hj] at e2
  have e3 := hx (j / 7) hi (j % 7) u e2.symm
  have e : (⟨g, o, none⟩ : Addr).add j = ⟨g, o + j / 7 * 7 + j % 7, none⟩ := by
    unfold Addr.add
    split
    · rename_i h0
      simp only [Addr.mk.injEq, true_and, and_true]
      omega
    · simp only [Addr.mk.injEq, true_and, and_true]
      omega
  rw [e]
  exact e3

/-- append of a row of characters to a row of one's own. -/
theorem wpList_append_chars {w : World} {ops : Array Oper} {rest : List Oper} {o : Oper} {a : Act} {Q : Exit → Act → World → Prop} (hgd : o.guard = none) (s x : Operand) (t : TypeId) (ht : Try.prog.underlying t = some (.slice 75))
    (ho : o.op = .call { callee := .builtin .append, args := #[s, x], argTypes := #[t, t] }) (base : Nat) (v : Value) (n : Nat) (U : List Cr) (hs : a.eval s = v) (hown : w.ownsRow base 75 7 v n (flatC U))
    (ao : Option Addr) (m c : Nat) (T : List Cr) (hx : a.eval x = .slice ao m c) (hT : RT w ao m c T) (hb : n + m ≤ 2000000) (hbase : base ≤ w.heap.size)
    (h : ∀ v' w', w'.ownsRow base 75 7 v' (n + m) (flatC (U ++ T)) → w.grownBy w' v.ownBlock → wpList Try.prog ops Q rest (a.put o.dst v') w') : wpList Try.prog ops Q (o :: rest) a w := by
  obtain ⟨i0, hi, hz0, hz1, hz2⟩ := info_parts Try.infoC
  have hl := hT.len
  rcases Nat.eq_zero_or_pos m with hm | hm
  · subst hm
    have e : T = [] := List.eq_nil_of_length_eq_zero hl
    subst e
    cases ao with
    | none =>
      obtain ⟨_, rfl⟩ := hT.nil rfl
      refine wpList_append_own_none hgd s x t ho base 75 i0 7 ht hi v n _ hs hown hx ?_
      exact h v w (by rw [List.append_nil]; exact hown) (World.grownBy.refl _ _)
    | some ad =>
      exact wpList_append_own w hgd s x t ho base 75 i0 _ 7 56 ht hi hz0 hz1 hz2 rfl (by decide) v n (flatC U) hs hown ad 0 c [] hx (by simp) (fun j u hj => by simp at hj) (by simp) (by unfold maxLen; omega) (by omega) hbase
        (fun v' w' h1 h2 _ => h v' w' (by simpa using h1) h2)
  · obtain ⟨g, o', e, hg, hc⟩ := hT.at_ hm
    subst e
    exact wpList_append_own w hgd s x t ho base 75 i0 _ 7 56 ht hi hz0 hz1 hz2 rfl (by decide) v n (flatC U) hs hown ⟨g, o', none⟩ m c (flatC T) hx (by rw [flatC_length, hl]) (hT.cells rfl hm) (flatC_one T) (by unfold maxLen; omega) (by omega) hbase
      (fun v' w' h1 h2 _ => h v' w' (by rw [flatC_append]; exact h1) h2)
end Go.Proofs.Ytbpepmajpojacaa
