/- Moves that are turned in a row of one's own. No function of the program. -/
import Derived.Test.YtplcohjpchfkkaaTrMRow
import Derived.Test.YtplcohjpchfkkaaTrOrdM
set_option linter.unusedVariables false
set_option linter.unusedSimpArgs false
namespace Go.Proofs.Ytplcohjpchfkkaa
open Go.RowKit

/-- A move is stored over another one in a row. -/
def putM8 (w : World) (g b : Nat) (x : Mv) : World := ((((((((w.setCell ⟨g, b, none⟩ (.int .i64 x.id.1)).setCell ⟨g, b + 1, none⟩ (.int .i64 x.id.2)).setCell ⟨g, b + 2, none⟩ (.int .i64 x.time)).setCell ⟨g, b + 3, none⟩ (.int .i64 x.block.1)).setCell ⟨g, b + 4, none⟩ (.int .i64 x.block.2)).setCell ⟨g, b + 5, none⟩ (.int .i64 x.parent.1)).setCell ⟨g, b + 6, none⟩ (.int .i64 x.parent.2)).setCell ⟨g, b + 7, none⟩ (.string x.key))

theorem flM_set (L : List Mv) (k : Nat) (hk : k < L.length) (x : Mv) : (((((((((flM L).set (k * 8) (.int .i64 x.id.1)).set (k * 8 + 1) (.int .i64 x.id.2)).set (k * 8 + 2) (.int .i64 x.time)).set (k * 8 + 3) (.int .i64 x.block.1)).set (k * 8 + 4) (.int .i64 x.block.2)).set (k * 8 + 5) (.int .i64 x.parent.1)).set (k * 8 + 6) (.int .i64 x.parent.2)).set (k * 8 + 7) (.string x.key)) = flM (L.set k x) := by
  apply List.ext_getElem?
  intro i
  have hlen : (flM (L.set k x)).length = L.length * 8 := by rw [flM_length, List.length_set]
  by_cases hi : i < L.length * 8
  · have e : i = i / 8 * 8 + i % 8 := by omega
    have hq : i / 8 < L.length := by omega
    have hm : i % 8 < 8 := Nat.mod_lt _ (by decide)
    have h2 := flM_get (L.set k x) (i / 8) (by rw [List.length_set]; exact hq) (i % 8) hm
    have h1 := flM_get L (i / 8) hq (i % 8) hm
    rw [← e] at h1 h2
    rw [h2]
    by_cases hqk : i / 8 = k
    · subst hqk
      have hl := flM_length L
      have hb : i / 8 * 8 + 7 < (flM L).length := by omega
      rw [List.getElem_set_self]
      have hcase : i % 8 = 0 ∨ i % 8 = 1 ∨ i % 8 = 2 ∨ i % 8 = 3 ∨ i % 8 = 4 ∨ i % 8 = 5 ∨ i % 8 = 6 ∨ i % 8 = 7 := by omega
      generalize hB : i / 8 * 8 = B at *
      rcases hcase with h | h | h | h | h | h | h | h <;> rw [h] at e ⊢ <;> subst e <;> simp [List.getElem?_set, Mv.cells] <;> omega
    · rw [List.getElem_set_ne (fun e => hqk e.symm)]
      rw [← h1]
      have hne : ∀ j, j < 8 → k * 8 + j ≠ i := fun j hj e' => hqk (by omega)
      rw [List.getElem?_set_ne (by have := hne 7 (by decide); omega), List.getElem?_set_ne (by have := hne 6 (by decide); omega), List.getElem?_set_ne (by have := hne 5 (by decide); omega), List.getElem?_set_ne (by have := hne 4 (by decide); omega), List.getElem?_set_ne (by have := hne 3 (by decide); omega), List.getElem?_set_ne (by have := hne 2 (by decide); omega), List.getElem?_set_ne (by have := hne 1 (by decide); omega), List.getElem?_set_ne (by have := hne 0 (by decide); omega)]
  · rw [List.getElem?_eq_none (by simp only [List.length_set, flM_length]; omega), List.getElem?_eq_none (by rw [hlen]; omega)]

theorem putM8_own {w : World} {base g n c : Nat} {L : List Mv} (h' : w.ownsRow base 33 8 (.slice (some ⟨g, 0, none⟩) n c) n (flM L)) {k : Nat} (hk : k < L.length) (x : Mv) : (putM8 w g (k * 8) x).ownsRow base 33 8 (.slice (some ⟨g, 0, none⟩) n c) n (flM (L.set k x)) ∧ w.grownBy (putM8 w g (k * 8) x) (some g) := by
  have s0 := World.ownsRow.stored h' (k * 8) (.int .i64 x.id.1)
  have s1 := World.ownsRow.stored s0.1 (k * 8 + 1) (.int .i64 x.id.2)
  have s2 := World.ownsRow.stored s1.1 (k * 8 + 2) (.int .i64 x.time)
  have s3 := World.ownsRow.stored s2.1 (k * 8 + 3) (.int .i64 x.block.1)
  have s4 := World.ownsRow.stored s3.1 (k * 8 + 4) (.int .i64 x.block.2)
  have s5 := World.ownsRow.stored s4.1 (k * 8 + 5) (.int .i64 x.parent.1)
  have s6 := World.ownsRow.stored s5.1 (k * 8 + 6) (.int .i64 x.parent.2)
  have s7 := World.ownsRow.stored s6.1 (k * 8 + 7) (.string x.key)
  refine ⟨?_, (((((((((World.grownBy.refl _ _).trans s0.2).trans s1.2).trans s2.2).trans s3.2).trans s4.2).trans s5.2).trans s6.2).trans s7.2)⟩
  rw [← flM_set L k hk x]
  exact s7.1

theorem ownM_len {w : World} {base n : Nat} {v : Value} {L : List Mv} (h : w.ownsRow base 33 8 v n (flM L)) : L.length = n := by
  have := h.1
  rw [flM_length] at this
  omega

theorem ownM_form {w : World} {base n : Nat} {v : Value} {L : List Mv} (h : w.ownsRow base 33 8 v n (flM L)) (hp : 0 < n) : ∃ g c, v = .slice (some ⟨g, 0, none⟩) n c ∧ base ≤ g ∧ g < w.heap.size := by
  rcases h.2 with ⟨_, e⟩ | ⟨g, cap, cur, e, hb, hg, _⟩
  · omega
  · exact ⟨g, cap, e, hb, (Array.getElem?_eq_some_iff.1 hg).1⟩

/-- The moves in some order, in a row of one's own. -/
structure TWM (w2 wr : World) (v : Value) (n : Nat) (L M : List Mv) : Prop where
  own : wr.ownsRow w2.heap.size 33 8 v n (flM M)
  perm : M.Perm L
  bel : Below w2.heap.size w2 wr

/-- One turn: the one at i and the one at k change places. -/
theorem TWM.swap {w2 wr : World} {g n c : Nat} {L M : List Mv} (h : TWM w2 wr (.slice (some ⟨g, 0, none⟩) n c) n L M) {i k : Nat} (hi : i < M.length) (hk : k < M.length) :
    TWM w2 (putM8 (putM8 wr g (i * 8) M[k]) g (k * 8) M[i]) (.slice (some ⟨g, 0, none⟩) n c) n L ((M.set i M[k]).set k M[i]) := by
  have hg : w2.heap.size ≤ g := by
    rcases h.own.2 with ⟨e, _⟩ | ⟨g', cap, cur, e, hb, hg, _⟩
    · simp at e
    · simp only [Value.slice.injEq, Option.some.injEq, Addr.mk.injEq] at e
      omega
  obtain ⟨o1, g1⟩ := putM8_own h.own hi M[k]
  obtain ⟨o2, g2⟩ := putM8_own o1 (k := k) (by rw [List.length_set]; exact hk) M[i]
  have b1 := h.bel.grown g1 h.bel.size (fun j hj => by cases hj; exact hg)
  exact ⟨o2, (swap_permM hi hk).trans h.perm, b1.grown g2 b1.size (fun j hj => by cases hj; exact hg)⟩

/-- Which one is taken: it lies within. -/
theorem turn_rangeM (t : Int) {n : Nat} (hn : 0 < n) : (∃ q : Nat, t.tmod (n : Int) = (q : Int) ∧ q < n) ∨ (∃ q : Nat, t.tmod (n : Int) = -(q : Int) ∧ 0 < q ∧ q < n) := by
  have h1 : (t.tmod n).natAbs < n := by
    have := Int.natAbs_tmod t (n : Int)
    rw [this, Int.natAbs_natCast]
    exact Nat.mod_lt _ hn
  by_cases h : 0 ≤ t.tmod n
  · exact Or.inl ⟨(t.tmod n).natAbs, by omega, h1⟩
  · exact Or.inr ⟨(t.tmod n).natAbs, by omega, by omega, h1⟩
end Go.Proofs.Ytplcohjpchfkkaa
