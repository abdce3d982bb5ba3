/- A row of moves of one's own. No function of the program. -/
import Derived.Test.YtplcohjpchfkkaaTrArg
import Derived.Test.YtplcohjpchfkkaaMRow
set_option linter.unusedVariables false
set_option linter.unusedSimpArgs false
namespace Go.Proofs.Ytplcohjpchfkkaa
open Go.RowKit

theorem Try.infoM : (Try.prog.info? 33).map (fun i => (i.zero, i.size, i.bytes)) = some (some (.agg #[.int .i64 0, .int .i64 0, .int .i64 0, .int .i64 0, .int .i64 0, .int .i64 0, .int .i64 0, .string ⟨#[]⟩]), 8, 72) := by kernel_rfl

/-- The cells of a row of characters. -/
def flM (T : List Mv) : List Value := T.flatMap (fun c => c.cells)

theorem mc_len (c : Mv) : c.cells.length = 8 := rfl

theorem flM_length (T : List Mv) : (flM T).length = T.length * 8 := by
  unfold flM
  induction T with
  | nil => rfl
  | cons c r ih => rw [List.flatMap_cons, List.length_append, ih, mc_len, List.length_cons]; omega

theorem flM_append (T U : List Mv) : flM (T ++ U) = flM T ++ flM U := by unfold flM; rw [List.flatMap_append]

theorem flM_get : ∀ (T : List Mv) (i : Nat) (hi : i < T.length) (j : Nat), j < 8 → (flM T)[i * 8 + j]? = (T[i]).cells[j]?
  | [], i, hi, _, _ => by simp at hi
  | c :: r, 0, _, j, hj => by
    unfold flM
    rw [List.flatMap_cons, Nat.zero_mul, Nat.zero_add, List.getElem?_append_left (by rw [mc_len]; exact hj)]
    rfl
  | c :: r, i + 1, hi, j, hj => by
    have ih := flM_get r i (by simpa using hi) j hj
    unfold flM at ih ⊢
    rw [List.flatMap_cons, List.getElem?_append_right (by rw [mc_len]; omega), mc_len, show (i + 1) * 8 + j - 8 = i * 8 + j by omega, ih]
    rfl

theorem flM_one (T : List Mv) : ∀ u ∈ flM T, u.oneCell' = true := by
  intro u hu
  unfold flM at hu
  obtain ⟨c, _, hc⟩ := List.mem_flatMap.1 hu
  simp [Mv.cells] at hc
  rcases hc with rfl | rfl | rfl | rfl | rfl | rfl | rfl | rfl <;> rfl

theorem own_mvs {w : World} {base n : Nat} {v : Value} {T : List Mv} (h : w.ownsRow base 33 8 v n (flM T)) : ∃ a c, v = .slice a n c ∧ MvS w a n c T := by
  have hl : T.length = n := by have := h.1; rw [flM_length] at this; omega
  rcases h.2 with ⟨rfl, h0⟩ | ⟨g, cap, cur, rfl, hB, hg, hn, hc, hcs, ht⟩
  · subst h0
    exact ⟨none, 0, rfl, hl, Nat.le_refl _, Nat.zero_le _, fun _ => ⟨rfl, rfl⟩, fun hp => absurd hp (by omega)⟩
  · refine ⟨_, _, rfl, hl, hn, hc, (fun e => by cases e), (fun hp => ⟨g, 0, rfl, (Array.getElem?_eq_some_iff.1 hg).1, fun i hi j u hj => ?_⟩)⟩
    have hj8 : j < 8 := by have := (List.getElem?_eq_some_iff.1 hj).1; rwa [mc_len] at this
    have := h.cells (g := g) rfl (i * 8 + j) u (by rw [flM_get T i hi j hj8]; exact hj)
    have e : (⟨g, 0, none⟩ : Addr).add (i * 8 + j) = ⟨g, 0 + i * 8 + j, none⟩ := by
      unfold Addr.add
      split
      · rename_i h0
        simp only [Addr.mk.injEq, true_and, and_true]
        omega
      · simp only [Addr.mk.injEq, true_and, and_true]
        omega
    rw [e] at this
    exact this

theorem MvS.allcells {w : World} {a : Option Addr} {n c : Nat} {T : List Mv} (h : MvS w a n c T) {g o : Nat} (ha : a = some ⟨g, o, none⟩) (hp : 0 < n) : ∀ j u, (flM T)[j]? = some u → w.cell? ((⟨g, o, none⟩ : Addr).add j) = some u := by
  intro j u hj
  obtain ⟨g', o', e, hg, hx⟩ := h.at_ hp
  rw [ha] at e
  cases e
  have hjl := (List.getElem?_eq_some_iff.1 hj).1
  rw [flM_length] at hjl
  have hd := Nat.div_add_mod j 8
  have hm := Nat.mod_lt j (show 0 < 8 by omega)
  have hi : j / 8 < T.length := by omega
  have e1 : j = j / 8 * 8 + j % 8 := by omega
  have e2 := flM_get T (j / 8) hi (j % 8) hm
  rw [← e1, hj] at e2
  have e3 := hx (j / 8) hi (j % 8) u e2.symm
  have e : (⟨g, o, none⟩ : Addr).add j = ⟨g, o + j / 8 * 8 + j % 8, none⟩ := by
    unfold Addr.add
    split
    · rename_i h0
      simp only [Addr.mk.injEq, true_and, and_true]
      omega
    · simp only [Addr.mk.injEq, true_and, and_true]
      omega
  rw [e]
  exact e3

/-- append of a row of moves to a row of one's own. -/
theorem wpList_append_mvs {w : World} {ops : Array Oper} {rest : List Oper} {o : Oper} {a : Act} {Q : Exit → Act → World → Prop} (hgd : o.guard = none) (s x : Operand) (t : TypeId) (ht : Try.prog.underlying t = some (.slice 33))
    (ho : o.op = .call { callee := .builtin .append, args := #[s, x], argTypes := #[t, t] }) (base : Nat) (v : Value) (n : Nat) (U : List Mv) (hs : a.eval s = v) (hown : w.ownsRow base 33 8 v n (flM U))
    (ao : Option Addr) (m c : Nat) (T : List Mv) (hx : a.eval x = .slice ao m c) (hT : MvS w ao m c T) (hb : n + m ≤ 2000000) (hbase : base ≤ w.heap.size)
    (h : ∀ v' w', w'.ownsRow base 33 8 v' (n + m) (flM (U ++ T)) → w.grownBy w' v.ownBlock → wpList Try.prog ops Q rest (a.put o.dst v') w') : wpList Try.prog ops Q (o :: rest) a w := by
  obtain ⟨i0, hi, hz0, hz1, hz2⟩ := info_parts Try.infoM
  have hl := hT.len
  rcases Nat.eq_zero_or_pos m with hm | hm
  · subst hm
    have e : T = [] := List.eq_nil_of_length_eq_zero hl
    subst e
    cases ao with
    | none =>
      obtain ⟨_, rfl⟩ := hT.nil rfl
      refine wpList_append_own_none hgd s x t ho base 33 i0 8 ht hi v n _ hs hown hx ?_
      exact h v w (by rw [List.append_nil]; exact hown) (World.grownBy.refl _ _)
    | some ad =>
      exact wpList_append_own w hgd s x t ho base 33 i0 _ 8 72 ht hi hz0 hz1 hz2 rfl (by decide) v n (flM U) hs hown ad 0 c [] hx (by simp) (fun j u hj => by simp at hj) (by simp) (by unfold maxLen; omega) (by omega) hbase
        (fun v' w' h1 h2 _ => h v' w' (by simpa using h1) h2)
  · obtain ⟨g, o', e, hg, hc⟩ := hT.at_ hm
    subst e
    exact wpList_append_own w hgd s x t ho base 33 i0 _ 8 72 ht hi hz0 hz1 hz2 rfl (by decide) v n (flM U) hs hown ⟨g, o', none⟩ m c (flM T) hx (by rw [flM_length, hl]) (hT.allcells rfl hm) (flM_one T) (by unfold maxLen; omega) (by omega) hbase
      (fun v' w' h1 h2 _ => h v' w' (by rw [flM_append]; exact h1) h2)

end Go.Proofs.Ytplcohjpchfkkaa
