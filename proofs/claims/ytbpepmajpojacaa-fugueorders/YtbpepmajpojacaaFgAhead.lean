/- ahead: the character that is seen just ahead of an index. -/
import Derived.Test.YtbpepmajpojacaaFgRows
set_option linter.unusedVariables false
namespace Go.Proofs.Ytbpepmajpojacaa
open Go.RowKit Go.Shelf

attribute [local go_sem] Oper.semAt_some

/-- The one ahead of an index, of those that are seen; at 0 the root; none: there is no such index. -/
def leftOf (L : List Cr) (i : Int) : Option Dt := if i = 0 then some (0, 0) else if 1 ≤ i then (L[(i - 1).toNat]?).map (·.id) else none

/-- Where it lies. -/
def ahdV (t : Nat) (G : Dt → Option Nat) : Option Dt → Value
  | none => .pointer none
  | some d => if d = (0, 0) then .pointer (some ⟨t, 1, none⟩) else pvF ((G d).getD 0)

/-- The last one is the one that was sought. -/
def AhX {L : List Cr} (B : Nat) (G : Dt → Option Nat) (i : Int) (pre : List (El L)) (W : World) : Prop := ∃ pre' x, pre = pre' ++ [x] ∧ i = (pre'.length : Int) + 1 ∧ Boxed W B 72 (pvF ((G x.1.id).getD 0))

set_option maxRecDepth 100000 in
set_option maxHeartbeats 4000000 in
theorem ahead_of {w : World} {t : Nat} {L : List Cr} {G : Dt → Option Nat} {N : Nat} (hs : SeqL 47 (.pointer (some ⟨t, 0, none⟩)) L G N w) (hr : RdC w L G) (hnz : ∀ c ∈ L, c.id ≠ (0, 0)) (hN : N ≤ 1000000) (i : Int) (hi : -9223372036854775808 ≤ i ∧ i ≤ 9223372036854775807) : Calls Try.prog 51 #[.pointer (some ⟨t, 0, none⟩), .int .i64 i] w fun e w' => e = .returned (ahdV t G (leftOf L i)) ∧ Below w.heap.size w w' := by
  have hmx : Try.prog.follows .mixedOrders = true := by kernel_rfl
  refine (callsIn_wide (n := 3)).1 ?_
  refine callsIn_of_wp_marks Try.func51 rfl trivial ?_ rfl
  simp only [Try.ntmps51, List.size_toArray, List.length_cons, List.length_nil, Nat.reduceAdd, Nat.reduceSub, Array.replicate_succ, Array.replicate_zero, List.push_toArray, List.append_toArray, List.nil_append, List.cons_append]
  by_cases hi0 : i = 0
  · subst hi0
    have hB1 : Below w.heap.size w ((w.alloc (.cells #[.int .i64 0] 3)).alloc (.cells #[.pointer (some ⟨t, 1, none⟩)] 72)) := ((Below.refl _ w).alloc (Nat.le_refl _) _).alloc (by simp) _
    have p1 : ((w.alloc (.cells #[.int .i64 0] 3)).alloc (.cells #[.pointer (some ⟨t, 1, none⟩)] 72)).cell? ⟨w.heap.size + 1, 0, none⟩ = some (.pointer (some ⟨t, 1, none⟩)) := by
      have := (Boxed.new (w.alloc (.cells #[.int .i64 0] 3)) 72 (.pointer (some ⟨t, 1, none⟩))).cell
      rwa [World.size_alloc] at this
    gi_wp2
    refine ⟨.pointer (some ⟨t, 1, none⟩), ?_, by simp [leftOf, ahdV], hB1⟩
    simp [results, Try.results51, go_sem, p1]
  · have hb0 : (i == 0) = false := by simpa using hi0
    gi_wp2
    obtain ⟨W0, hW0⟩ : ∃ W0, W0 = ((w.alloc (.cells #[.int .i64 i] 3)).alloc (.cells #[.pointer none] 72)).alloc (.cells #[.int .i64 0] 3) := ⟨_, rfl⟩
    rw [← hW0]
    have hsz : W0.heap.size = w.heap.size + 3 := by rw [hW0]; simp
    have hB0 : Below w.heap.size w W0 := by rw [hW0]; exact (((Below.refl _ w).alloc (Nat.le_refl _) _).alloc (by simp) _).alloc (by simp; omega) _
    have hb1 : Boxed W0 w.heap.size 3 (.int .i64 i) := by
      rw [hW0]
      exact ((Boxed.new w 3 (.int .i64 i)).alloc _).alloc _
    have hb2 : Boxed W0 (w.heap.size + 1) 72 (.pointer none) := by
      rw [hW0]
      have := Boxed.new (w.alloc (.cells #[.int .i64 i] 3)) 72 (.pointer none)
      rw [World.size_alloc] at this
      exact this.alloc _
    have hb3 : Boxed W0 (w.heap.size + 2) 3 (.int .i64 0) := by
      rw [hW0]
      have := Boxed.new ((w.alloc (.cells #[.int .i64 i] 3)).alloc (.cells #[.pointer none] 72)) 3 (.int .i64 0)
      rw [World.size_alloc, World.size_alloc] at this
      exact this
    clear hW0
    refine range_method (α := El L) (gf := 47) (fs := #[.pointer (some ⟨t, 0, none⟩)]) rfl (enters_of Try.func47 (by kernel_rfl) rfl) (hs _) (fun h k => h.trans k) (fun W l o o' hl ho hc _ => KT.put W l o o' (by omega) ho hc) hB0 (fun _ => rfl)
      (fun pre W => ¬ (1 ≤ i ∧ i ≤ (pre.length : Int)) ∧ Boxed W w.heap.size 3 (.int .i64 i) ∧ Boxed W (w.heap.size + 1) 72 (.pointer none) ∧ Boxed W (w.heap.size + 2) 3 (.int .i64 (pre.length : Int)) ∧ Below w.heap.size w W)
      (fun c pre W => c = .ret ∧ AhX (w.heap.size + 1) G i pre W ∧ Below w.heap.size w W) ?own ?ownx ⟨by simp; omega, hb1, hb2, hb3, hB0⟩
      (fun x => { tmps := #[.pointer (some ⟨t, 0, none⟩), .int .i64 i, undef, .pointer (some ⟨w.heap.size, 0, none⟩), .pointer (some ⟨w.heap.size + 1, 0, none⟩), .pointer (some ⟨w.heap.size + 1 + 1, 0, none⟩), pvF ((G x.1.id).getD 0), .int .i64 i, .bool false, undef, undef, undef, .pointer (some ⟨t, 0, none⟩), .func (.func 47) #[.pointer (some ⟨t, 0, none⟩)] #[], pvF ((G x.1.id).getD 0), undef, undef, undef, undef, undef, undef], defers := [] }) ?assign ?body ?done ?stop
    case own =>
      rintro s A B row ⟨h0, h1, h2, h3, h5⟩ hg hrow
      exact ⟨h0, boxed_own h1 hg hrow, boxed_own h2 hg hrow, boxed_own h3 hg hrow, below_own h5 (by omega) hg hrow⟩
    case ownx =>
      rintro c s A B row ⟨h0, ⟨pre', x, h1, h2, h4⟩, h6⟩ hg hrow
      exact ⟨h0, ⟨pre', x, h1, h2, boxed_own h4 hg hrow⟩, below_own h6 (by omega) hg hrow⟩
    case assign =>
      intro l x W K hK
      unfold encC
      gi_wp2
      first | exact hK | simpa using hK
    case body =>
      rintro l' pre x W1 ⟨h0, h1, h2, h3, h5⟩ hlen
      obtain ⟨g, hgd⟩ : ∃ g, (G x.1.id).getD 0 = g := ⟨_, rfl⟩
      rw [hgd]
      have hpg : pvF g = .pointer (some ⟨g, 0, none⟩) := rfl
      rw [hpg]
      have g1 := h1.cell
      have g2 := h2.cell
      have g3 := h3.cell
      have z2 := h2.frozen
      have z3 := h3.frozen
      have m1 := h1.kept (grownBy_setCell' W1 (w.heap.size + 2) (.int .i64 ((pre.length : Int) + 1))) (by simp)
      have m2 := h2.kept (grownBy_setCell' W1 (w.heap.size + 2) (.int .i64 ((pre.length : Int) + 1))) (by simp)
      have m3 := h3.set (.int .i64 ((pre.length : Int) + 1))
      have kk := KeepsFrom.set (B₀ := W0.heap.size) h3 (.int .i64 ((pre.length : Int) + 1))
      have kt := KT.set (n₀ := w.heap.size) h3 (by decide) (by decide) (by omega) (.int .i64 ((pre.length : Int) + 1))
      have kb := h5.setCell (p := ⟨w.heap.size + 2, 0, none⟩) (by simp) (.int .i64 ((pre.length : Int) + 1))
      by_cases hd : i = (pre.length : Int) + 1
      · have hb : (((pre.length : Int) + 1) == i) = true := by simp [hd]
        have q1 := m1.cell
        have q2 := m2.cell
        have q3 := m3.cell
        have y2 := m2.frozen
        have hend := hid (And.intro (kk.trans (KeepsFrom.set m2 (.pointer (some ⟨g, 0, none⟩)))) (And.intro (m2.set (.pointer (some ⟨g, 0, none⟩))) (kb.setCell (p := ⟨w.heap.size + 1, 0, none⟩) (Nat.le_succ _) (.pointer (some ⟨g, 0, none⟩)))))
        have hdH := hid hd
        clear hd h1 h2 h3 h5 m1 m2 m3 kk kt kb hsz
        gi_wp2
        refine ⟨hend.out.1, rfl, ⟨pre, x, rfl, hdH.out, ?_⟩, hend.out.2.2⟩
        rw [hgd]
        exact hend.out.2.1
      · have hb : (((pre.length : Int) + 1) == i) = false := by simp; omega
        have hno : ¬ (1 ≤ i ∧ i ≤ ((pre ++ [x]).length : Int)) := by simp; omega
        have hend := hid (And.intro kk (And.intro kt (And.intro hno (And.intro m1 (And.intro m2 (And.intro m3 kb))))))
        clear h0 hd h1 h2 h3 h5 m1 m2 m3 kk kt kb hno hsz
        gi_wp2
        refine ⟨hend.out.1, hend.out.2.1, ?_, hend.out.2.2.2.1, hend.out.2.2.2.2.1, ?_, hend.out.2.2.2.2.2.2⟩
        · have := hend.out.2.2.1
          simpa using this
        · have := hend.out.2.2.2.2.2.1
          simpa using this
    case done =>
      rintro D ys W1 hD hS ⟨h0, h1, h2, h3, h5⟩ hK
      have hl : ys.length = L.length := by have := congrArg List.length hS; simpa using this
      have hno : leftOf L i = none := by
        unfold leftOf
        rw [if_neg hi0]
        split
        · rename_i hi1
          rw [List.getElem?_eq_none (by omega)]
          rfl
        · rfl
      have hnoH := hid hno
      have g2 := h2.cell
      have z2 := h2.frozen
      have hKs : (W1.setCell ⟨w.heap.size + 1, 0, none⟩ (.pointer none)).heap[D]? = some (.deferred (some [])) := (heap_setCell_other _ ⟨w.heap.size + 1, 0, none⟩ _ _ (by simp; omega)).trans hK
      have m2 := h2.set (.pointer none)
      have p4 := (boxed_own (B₀ := 0) m2 (grownBy_putObj' _ D (.deferred none)) (fun r e => by cases e; exact ⟨Nat.zero_le _, _, hKs, rfl⟩)).cell
      have hfin := hid (below_put (h5.setCell (p := ⟨w.heap.size + 1, 0, none⟩) (Nat.le_succ _) (.pointer none)) (by omega) hKs rfl (.deferred none))
      clear h1 h2 h3 h5 m2 hno hl
      gi_wp2
      refine ⟨by simp, .inl ⟨_, _, rfl, run_takeDeferred hKs, ?_⟩⟩
      refine ⟨.pointer none, ?_, by rw [hnoH.out]; rfl, hfin.out⟩
      simp [results, Try.results51, go_sem, p4]
    case stop =>
      rintro D c pre W1 hD hS ⟨rfl, ⟨pre', x, rfl, hxd, h4⟩, h6⟩ hK
      obtain ⟨r, hr'⟩ := hS
      have hat : ahdV t G (leftOf L i) = pvF ((G x.1.id).getD 0) := by
        have e1 : L[pre'.length]? = some x.1 := by
          have e : L = pre'.map (·.1) ++ x.1 :: r := by have := hr'.symm; simpa using this
          have h1 : (pre'.map (·.1) ++ x.1 :: r)[pre'.length]? = some x.1 := by
            rw [List.getElem?_append_right (by simp)]
            simp
          have e2 : ∀ (A B : List Cr) (k : Nat), A = B → A[k]? = B[k]? := fun A B k h => by rw [h]
          rw [e2 _ _ pre'.length e]
          exact h1
        have e2 : leftOf L i = some x.1.id := by
          unfold leftOf
          rw [if_neg hi0, if_pos (by omega), show (i - 1).toNat = pre'.length by omega, e1]
          rfl
        rw [e2]
        show (if x.1.id = (0, 0) then _ else _) = _
        rw [if_neg (hnz x.1 x.2)]
      have hatH := hid hat
      clear hat
      have p4 := (boxed_own (B₀ := 0) h4 (grownBy_putObj' _ D (.deferred none)) (fun r e => by cases e; exact ⟨Nat.zero_le _, _, hK, rfl⟩)).cell
      have hfin := hid (below_put h6 (by omega) hK rfl (.deferred none))
      clear hxd
      gi_wp2
      refine ⟨by simp, .inl ⟨_, _, rfl, run_takeDeferred hK, ?_⟩⟩
      refine ⟨pvF ((G x.1.id).getD 0), ?_, by rw [hatH.out], hfin.out⟩
      simp [results, Try.results51, go_sem, p4]
end Go.Proofs.Ytbpepmajpojacaa
