/- Len: how many are seen; a text that is none. -/
import Derived.Test.YtbpepmajpojacaaFgSight
set_option linter.unusedVariables false
namespace Go.Proofs.Ytbpepmajpojacaa
open Go.RowKit Go.Shelf

attribute [local go_sem] Oper.semAt_some

theorem KT.set {n₀ B t : Nat} {W : World} {v : Value} (hb : Boxed W B t v) (h1 : t ≠ 106) (h2 : t ≠ 107) (hB : n₀ ≤ B) (u : Value) : KT n₀ W (W.setCell ⟨B, 0, none⟩ u) :=
  ⟨by simp, fun k hk => heap_setCell_other W ⟨B, 0, none⟩ k u (fun e => by simp at e; omega), fun k cs ty fz ht hk => (heap_setCell_other W ⟨B, 0, none⟩ k u (fun e => by
    simp at e
    subst e
    rw [show W.heap[k]? = _ from hb] at hk
    cases hk
    rcases ht with ht | ht
    · exact h1 ht
    · exact h2 ht)).trans hk⟩

theorem KeepsFrom.set {B₀ B t : Nat} {W : World} {v : Value} (hb : Boxed W B t v) (u : Value) : KeepsFrom B₀ W (W.setCell ⟨B, 0, none⟩ u) :=
  ⟨by simp, fun k o _ hk hc => (heap_setCell_other W ⟨B, 0, none⟩ k u (fun e => by
    simp at e
    subst e
    rw [show W.heap[k]? = _ from hb] at hk
    cases hk
    cases hc)).trans hk⟩

theorem boxed_own {X Y : World} {row : Option Nat} {B B₀ t : Nat} {v : Value} (h : Boxed X B t v) (hg : X.grownBy Y row) (hr : ∀ r, row = some r → B₀ ≤ r ∧ ∃ o : Obj, X.heap[r]? = some o ∧ o.isCells = false) : Boxed Y B t v := by
  refine h.kept hg (fun e' => ?_)
  obtain ⟨_, o, ho, hc⟩ := hr B e'.symm
  rw [show X.heap[B]? = _ from h] at ho
  cases ho
  cases hc

theorem below_own {w X Y : World} {row : Option Nat} {B₀ : Nat} (h : Below w.heap.size w X) (hB : w.heap.size ≤ B₀) (hg : X.grownBy Y row) (hr : ∀ r, row = some r → B₀ ≤ r ∧ ∃ o : Obj, X.heap[r]? = some o ∧ o.isCells = false) : Below w.heap.size w Y :=
  ownFrom_below (β := Unit) (Nat.le_refl _) hB () X Y row h hg hr

theorem below_put {w X : World} {D : Nat} {o : Obj} (h : Below w.heap.size w X) (hD : w.heap.size ≤ D) (hk : X.heap[D]? = some o) (ho : o.isCells = false) (o' : Obj) : Below w.heap.size w (X.putObj D o') :=
  below_own h (Nat.le_refl _) (grownBy_putObj' X D o') (fun r e => by cases e; exact ⟨hD, o, hk, ho⟩)

/-- A text that is none has no characters. -/
theorem walk_none (w : World) (G : Dt → Option Nat) : SeqL 39 (.pointer none) [] G 0 w := by
  intro n l J Jx W hB hJ hJx hY h0
  have hJ0 : J [] (W.alloc (.cells #[.func (.yield l) #[] #[]] 106)) := hJ.alloc _ h0
  refine callsIn_of_wp Try.func39 rfl trivial ?_ rfl
  simp only [Try.ntmps39, List.size_toArray, List.length_cons, List.length_nil, Nat.reduceAdd, Nat.reduceSub, Array.replicate_succ, Array.replicate_zero, List.push_toArray, List.append_toArray, List.nil_append, List.cons_append]
  gi_wp2
  refine bodyPost_ret (results_none rfl _ _ _) rfl ⟨⟨_, rfl⟩, Or.inl ⟨[], rfl, hJ0⟩⟩

theorem rdc_none (w : World) (G : Dt → Option Nat) : RdC w [] G := fun c hc => by simp at hc

theorem sight_none (w : World) (G : Dt → Option Nat) : SeqL 47 (.pointer none) [] G 0 w := sight_seq (walk_none w G) (rdc_none w G)

theorem TX.sight {w : World} {t : Nat} {T : List Cr} {G M : Dt → Option Nat} {n : Nat} {R : Dt → Bool → Value} (h : TX w t T G M n R) (hTl : T.length ≤ 1000000) : SeqL 47 (.pointer (some ⟨t, 0, none⟩)) ((allC T).filter (·.seen)) G T.length w := sight_seq (walk_seq h hTl) h.rdc

set_option maxRecDepth 100000 in
set_option maxHeartbeats 4000000 in
theorem len_of {w : World} {v : Value} {L : List Cr} {G : Dt → Option Nat} {N : Nat} (hs : SeqL 47 v L G N w) (hN : N ≤ 1000000) : Calls Try.prog 28 #[v] w fun e w' => e = .returned (.int .i64 L.length) ∧ Below w.heap.size w w' := by
  refine (callsIn_wide (n := 3)).1 ?_
  refine callsIn_of_wp_marks Try.func28 rfl trivial ?_ rfl
  simp only [Try.ntmps28, List.size_toArray, List.length_cons, List.length_nil, Nat.reduceAdd, Nat.reduceSub, Array.replicate_succ, Array.replicate_zero, List.push_toArray, List.append_toArray, List.nil_append, List.cons_append]
  gi_wp2
  obtain ⟨W0, hW0⟩ : ∃ W0, W0 = w.alloc (.cells #[.int .i64 0] 3) := ⟨_, rfl⟩
  have hsz : W0.heap.size = w.heap.size + 1 := by rw [hW0]; simp
  have hbox : Boxed W0 w.heap.size 3 (.int .i64 0) := by rw [hW0]; exact Boxed.new w 3 (.int .i64 0)
  have hB0 : Below w.heap.size w W0 := by rw [hW0]; exact (Below.refl _ w).alloc (Nat.le_refl _) _
  rw [← hW0]
  clear hW0
  refine range_method (α := El L) (gf := 47) (fs := #[v]) rfl (enters_of Try.func47 (by kernel_rfl) rfl) (hs _) (fun h k => h.trans k) (fun W l o o' hl ho hc _ => KT.put W l o o' (by omega) ho hc) hB0 (fun _ => rfl)
    (fun pre W => Boxed W w.heap.size 3 (.int .i64 (pre.length : Int)) ∧ Below w.heap.size w W)
    (fun _ _ _ => False) ?own (fun _ _ _ _ _ h _ _ => h) ⟨hbox, hB0⟩
    (fun x => { tmps := #[v, undef, .int .i64 0, .pointer (some ⟨w.heap.size, 0, none⟩), v, .func (.func 47) #[v] #[], pv ((G x.1.id).getD 0), undef, undef, undef], defers := [] }) ?assign ?body ?done (fun _ _ _ _ _ _ h _ => h.elim)
  case own =>
    rintro s A B row ⟨h1, h2⟩ hg hrow
    exact ⟨boxed_own h1 hg hrow, below_own h2 (by omega) hg hrow⟩
  case assign =>
    intro l x W K hK
    unfold encC
    gi_wp2
    first | exact hK | simpa using hK
  case body =>
    rintro l' pre x W1 ⟨h1, h2⟩ hlen
    have c0 := h1.cell
    have f0 := h1.frozen
    have hfin := hid (And.intro (KeepsFrom.set (B₀ := W0.heap.size) h1 (.int .i64 ((pre.length : Int) + 1))) (And.intro (KT.set (n₀ := w.heap.size) h1 (by decide) (by decide) (Nat.le_refl _) (.int .i64 ((pre.length : Int) + 1))) (And.intro (h1.set (.int .i64 ((pre.length : Int) + 1))) (h2.setCell (p := ⟨w.heap.size, 0, none⟩) (Nat.le_refl _) (.int .i64 ((pre.length : Int) + 1))))))
    gi_wp2
    refine ⟨hfin.out.1, hfin.out.2.1, ?_, hfin.out.2.2.2⟩
    have := hfin.out.2.2.1
    simpa using this
  case done =>
    rintro D ys W1 hD hS ⟨h1, h2⟩ hK
    have c0 := h1.cell
    have hfin := hid (below_put h2 (by omega) hK rfl (.deferred none))
    have hl : ys.length = L.length := by have := congrArg List.length hS; simpa using this
    rw [hl] at c0
    clear hl h1 h2
    gi_wp2
    refine ⟨by simp, .inl ⟨_, _, rfl, run_takeDeferred hK, ?_⟩⟩
    exact ⟨_, results_tmp rfl _ _ _, rfl, hfin.out⟩
end Go.Proofs.Ytbpepmajpojacaa
