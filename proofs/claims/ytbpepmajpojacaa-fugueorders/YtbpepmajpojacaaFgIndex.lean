/- Index: how many are seen ahead of a character. -/
import Derived.Test.YtbpepmajpojacaaFgRows
set_option linter.unusedVariables false
namespace Go.Proofs.Ytbpepmajpojacaa
open Go.RowKit Go.Shelf

attribute [local go_sem] Oper.semAt_some

/-- How many are seen ahead of the one of an identity, and whether there is such a one. -/
def idxL (L : List Cr) (d : Dt) : Nat × Bool := if ∃ c ∈ L, c.id = d then (((L.takeWhile (fun c => decide (c.id ≠ d))).filter (·.seen)).length, true) else (0, false)

theorem takeWhile_at {L A B : List Cr} {c : Cr} {d : Dt} (e : L = A ++ c :: B) (hA : ∀ x ∈ A, x.id ≠ d) (hc : c.id = d) : L.takeWhile (fun c => decide (c.id ≠ d)) = A := by
  subst e
  induction A with
  | nil => simp [hc]
  | cons a r ih =>
    rw [List.cons_append, List.takeWhile_cons_of_pos (by simpa using hA a (by simp)), ih (fun x hx => hA x (List.mem_cons_of_mem _ hx))]

theorem idxL_at {L A B : List Cr} {c : Cr} {d : Dt} (e : L = A ++ c :: B) (hA : ∀ x ∈ A, x.id ≠ d) (hc : c.id = d) : idxL L d = ((A.filter (·.seen)).length, true) := by
  unfold idxL
  rw [if_pos ⟨c, by rw [e]; simp, hc⟩, takeWhile_at e hA hc]

theorem idxL_no {L : List Cr} {d : Dt} (h : ∀ c ∈ L, c.id ≠ d) : idxL L d = (0, false) := by
  unfold idxL
  rw [if_neg (fun ⟨c, hc, e⟩ => h c hc e)]

set_option maxRecDepth 100000 in
set_option maxHeartbeats 4000000 in
theorem index_of {w : World} {v : Value} {L : List Cr} {G : Dt → Option Nat} {N : Nat} (hs : SeqL 39 v L G N w) (hr : RdC w L G) (hN : N ≤ 1000000) (d : Dt) : Calls Try.prog 15 #[v, .agg #[.int .i64 d.1, .int .i64 d.2]] w fun e w' => e = .returned (.tuple #[.int .i64 (idxL L d).1, .bool (idxL L d).2]) ∧ Below w.heap.size w w' := by
  have hmx : Try.prog.follows .mixedOrders = true := by kernel_rfl
  refine (callsIn_wide (n := 3)).1 ?_
  refine callsIn_of_wp_marks Try.func15 rfl trivial ?_ rfl
  simp only [Try.ntmps15, List.size_toArray, List.length_cons, List.length_nil, Nat.reduceAdd, Nat.reduceSub, Array.replicate_succ, Array.replicate_zero, List.push_toArray, List.append_toArray, List.nil_append, List.cons_append]
  gi_wp2
  obtain ⟨W0, hW0⟩ : ∃ W0, W0 = (((w.alloc (.cells #[.int .i64 d.1, .int .i64 d.2] 24)).alloc (.cells #[.int .i64 0] 3)).alloc (.cells #[.bool false] 4)).alloc (.cells #[.int .i64 0] 3) := ⟨_, rfl⟩
  rw [← hW0]
  have hsz : W0.heap.size = w.heap.size + 4 := by rw [hW0]; simp
  have hB0 : Below w.heap.size w W0 := by rw [hW0]; exact ((((Below.refl _ w).alloc (Nat.le_refl _) _).alloc (by simp) _).alloc (by simp; omega) _).alloc (by simp; omega) _
  have hb0 : W0.heap[w.heap.size]? = some (.cells #[.int .i64 d.1, .int .i64 d.2] 24 (0, 0)) := by
    rw [hW0]
    exact (Below.heap_alloc _ _ _ (by simp; omega)).trans ((Below.heap_alloc _ _ _ (by simp; omega)).trans ((Below.heap_alloc _ _ _ (by simp)).trans (World.alloc_heap_new _ _)))
  have hb1 : Boxed W0 (w.heap.size + 1) 3 (.int .i64 0) := by
    rw [hW0]
    have := Boxed.new (w.alloc (.cells #[.int .i64 d.1, .int .i64 d.2] 24)) 3 (.int .i64 0)
    rw [World.size_alloc] at this
    exact (this.alloc _).alloc _
  have hb2 : Boxed W0 (w.heap.size + 2) 4 (.bool false) := by
    rw [hW0]
    have := Boxed.new ((w.alloc (.cells #[.int .i64 d.1, .int .i64 d.2] 24)).alloc (.cells #[.int .i64 0] 3)) 4 (.bool false)
    rw [World.size_alloc, World.size_alloc] at this
    exact this.alloc _
  have hb3 : Boxed W0 (w.heap.size + 3) 3 (.int .i64 0) := by
    rw [hW0]
    have := Boxed.new (((w.alloc (.cells #[.int .i64 d.1, .int .i64 d.2] 24)).alloc (.cells #[.int .i64 0] 3)).alloc (.cells #[.bool false] 4)) 3 (.int .i64 0)
    rw [World.size_alloc, World.size_alloc, World.size_alloc] at this
    exact this
  clear hW0
  obtain ⟨cnt, hcnt0⟩ : ∃ cnt : List (El L) → Nat, cnt = fun pre => ((pre.map (·.1)).filter (·.seen)).length := ⟨_, rfl⟩
  have hcl : ∀ pre, cnt pre ≤ pre.length := fun pre => by rw [hcnt0]; exact Nat.le_trans (List.length_filter_le _ _) (by simp)
  have hcy : ∀ (pre : List (El L)) (x : El L), x.1.seen = true → cnt (pre ++ [x]) = cnt pre + 1 := fun pre x h => by rw [hcnt0]; simp [h]
  have hcn : ∀ (pre : List (El L)) (x : El L), x.1.seen = false → cnt (pre ++ [x]) = cnt pre := fun pre x h => by rw [hcnt0]; simp [h]
  have hcnt := hid hcnt0
  clear hcnt0
  refine range_method (α := El L) (gf := 39) (fs := #[v]) rfl (enters_of Try.func39 (by kernel_rfl) rfl) (hs _) (fun h k => h.trans k) (fun W l o o' hl ho hc _ => KT.put W l o o' (by omega) ho hc) hB0 (fun _ => rfl)
    (fun pre W => (∀ y ∈ pre, y.1.id ≠ d) ∧ W.heap[w.heap.size]? = some (.cells #[.int .i64 d.1, .int .i64 d.2] 24 (0, 0)) ∧ Boxed W (w.heap.size + 1) 3 (.int .i64 0) ∧ Boxed W (w.heap.size + 2) 4 (.bool false) ∧ Boxed W (w.heap.size + 3) 3 (.int .i64 (cnt pre : Int)) ∧ Below w.heap.size w W)
    (fun c pre W => c = .ret ∧ (∃ pre' x, pre = pre' ++ [x] ∧ x.1.id = d ∧ (∀ y ∈ pre', y.1.id ≠ d) ∧ Boxed W (w.heap.size + 1) 3 (.int .i64 (cnt pre' : Int)) ∧ Boxed W (w.heap.size + 2) 4 (.bool true)) ∧ Below w.heap.size w W) ?own ?ownx ⟨by simp, hb0, hb1, hb2, by rw [hcnt.out]; exact hb3, hB0⟩
    (fun x => { tmps := #[v, .agg #[.int .i64 d.1, .int .i64 d.2], undef, .pointer (some ⟨w.heap.size, 0, none⟩), .pointer (some ⟨w.heap.size + 1, 0, none⟩), .pointer (some ⟨w.heap.size + 1 + 1, 0, none⟩), .pointer (some ⟨w.heap.size + 1 + 1 + 1, 0, none⟩), pvF ((G x.1.id).getD 0), v, .func (.func 39) #[v] #[], pvF ((G x.1.id).getD 0), undef, undef, undef, undef, undef, undef, undef, undef, undef, undef, undef, undef, undef], defers := [] }) ?assign ?body ?done ?stop
  case own =>
    rintro s A B row ⟨h0, h1, h2, h3, h4, h5⟩ hg hrow
    refine ⟨h0, (hg.block _ (Array.getElem?_eq_some_iff.1 h1).1 (fun e => by have := (hrow _ e.symm).1; omega)).trans h1, boxed_own h2 hg hrow, boxed_own h3 hg hrow, boxed_own h4 hg hrow, below_own h5 (by omega) hg hrow⟩
  case ownx =>
    rintro c s A B row ⟨h0, ⟨pre', x, h1, h2, h3, h4, h5⟩, h6⟩ hg hrow
    exact ⟨h0, ⟨pre', x, h1, h2, h3, boxed_own h4 hg hrow, boxed_own h5 hg hrow⟩, below_own h6 (by omega) hg hrow⟩
  case assign =>
    intro l x W K hK
    unfold encC
    gi_wp2
    first | exact hK | simpa using hK
  case body =>
    rintro l' pre x W1 ⟨h0, h1, h2, h3, h4, h5⟩ hlen
    obtain ⟨g, lv, rv, hG, hg, hblk⟩ := hr x.1 x.2
    have hgW : W1.heap[g]? = _ := (h5.block g hg).trans hblk
    have hgd : pvF ((G x.1.id).getD 0) = .pointer (some ⟨g, 0, none⟩) := by rw [hG]; rfl
    rw [hgd]
    obtain ⟨Wd, hWd⟩ : ∃ Wd, Wd = W1.drew := ⟨_, rfl⟩
    have d0 : W1.cell? ⟨g, 0, none⟩ = some (.int .i64 x.1.id.1) := by simp [World.cell?, hgW, Cr.cells]
    have d1 : W1.cell? ⟨g, 1, none⟩ = some (.int .i64 x.1.id.2) := by simp [World.cell?, hgW, Cr.cells]
    have d3 : W1.cell? ⟨g, 3, none⟩ = some (.bool x.1.seen) := by simp [World.cell?, hgW, Cr.cells]
    have e0 : W1.cell? ⟨w.heap.size, 0, none⟩ = some (.int .i64 d.1) := by simp [World.cell?, h1]
    have e1 : W1.cell? ⟨w.heap.size, 1, none⟩ = some (.int .i64 d.2) := by simp [World.cell?, h1]
    have c0 : Wd.cell? ⟨g, 0, none⟩ = some (.int .i64 x.1.id.1) := by rw [hWd]; exact d0
    have c1 : Wd.cell? ⟨g, 1, none⟩ = some (.int .i64 x.1.id.2) := by rw [hWd]; exact d1
    have c3 : Wd.cell? ⟨g, 3, none⟩ = some (.bool x.1.seen) := by rw [hWd]; exact d3
    have f0 : Wd.cell? ⟨w.heap.size, 0, none⟩ = some (.int .i64 d.1) := by rw [hWd]; exact e0
    have f1 : Wd.cell? ⟨w.heap.size, 1, none⟩ = some (.int .i64 d.2) := by rw [hWd]; exact e1
    have k2 : Boxed Wd (w.heap.size + 1) 3 (.int .i64 0) := by rw [hWd]; exact h2
    have k3 : Boxed Wd (w.heap.size + 2) 4 (.bool false) := by rw [hWd]; exact h3
    have k4 : Boxed Wd (w.heap.size + 3) 3 (.int .i64 (cnt pre : Int)) := by rw [hWd]; exact h4
    have k5 : Below w.heap.size w Wd := by rw [hWd]; exact h5.drew
    have kk : KeepsFrom W0.heap.size W1 Wd := by rw [hWd]; exact (KeepsOthers.drew W1).from _
    have kt : KT w.heap.size W1 Wd := by rw [hWd]; exact ⟨Nat.le_refl _, fun _ _ => rfl, fun _ _ _ _ _ h => h⟩
    have q1 : Wd.heap[w.heap.size]? = some (.cells #[.int .i64 d.1, .int .i64 d.2] 24 (0, 0)) := by rw [hWd]; exact h1
    have g2 := k2.cell
    have g3 := k3.cell
    have g4 := k4.cell
    have z2 := k2.frozen
    have z3 := k3.frozen
    have z4 := k4.frozen
    have hcb := hcl pre
    clear d0 d1 d3 e0 e1 h1 h2 h3 h4 h5
    by_cases hd : x.1.id = d
    · have b1 : (x.1.id.1 == d.1) = true := by rw [hd]; simp
      have b2 : (x.1.id.2 == d.2) = true := by rw [hd]; simp
      have hend : Hid (KeepsFrom W0.heap.size W1 ((Wd.setCell ⟨w.heap.size + 1, 0, none⟩ (.int .i64 (cnt pre : Int))).setCell ⟨w.heap.size + 2, 0, none⟩ (.bool true)) ∧ Code.ret = .ret ∧ (∃ pre' y, pre ++ [x] = pre' ++ [y] ∧ y.1.id = d ∧ (∀ y ∈ pre', y.1.id ≠ d) ∧ Boxed ((Wd.setCell ⟨w.heap.size + 1, 0, none⟩ (.int .i64 (cnt pre : Int))).setCell ⟨w.heap.size + 2, 0, none⟩ (.bool true)) (w.heap.size + 1) 3 (.int .i64 (cnt pre' : Int)) ∧ Boxed ((Wd.setCell ⟨w.heap.size + 1, 0, none⟩ (.int .i64 (cnt pre : Int))).setCell ⟨w.heap.size + 2, 0, none⟩ (.bool true)) (w.heap.size + 2) 4 (.bool true)) ∧ Below w.heap.size w ((Wd.setCell ⟨w.heap.size + 1, 0, none⟩ (.int .i64 (cnt pre : Int))).setCell ⟨w.heap.size + 2, 0, none⟩ (.bool true))) := by
        have m2 := k2.set (.int .i64 (cnt pre : Int))
        have m3 := k3.kept (grownBy_setCell' Wd (w.heap.size + 1) (.int .i64 (cnt pre : Int))) (by simp)
        have m4 := m3.set (.bool true)
        have m5 := m2.kept (grownBy_setCell' _ (w.heap.size + 2) (.bool true)) (by simp)
        exact hid ⟨(kk.trans (KeepsFrom.set k2 _)).trans (KeepsFrom.set m3 _), rfl, ⟨pre, x, rfl, hd, h0, m5, m4⟩, (k5.setCell (p := ⟨w.heap.size + 1, 0, none⟩) (Nat.le_succ _) _).setCell (p := ⟨w.heap.size + 2, 0, none⟩) (by simp) _⟩
      clear k2 k3 k4 k5 kk kt q1
      gi_wp2
      refine wpIn_region_any hmx ?_
      change wpAnyIn _ _ _ _ _ _ _ _ _ (World.drew _)
      rw [← hWd]
      clear hWd
      refine wpAnyIn_ready (rs := [0, 4]) (by kernel_rfl) (by simp) ?_
      refine (AllReadyIn.cons rfl (fun K hK => ?_) (AllReadyIn.cons rfl (fun K hK => ?_) AllReadyIn.nil))
      · go_simp
        refine hK _ _ ?_
        clear hK K
        refine wpAnyIn_ready (rs := [1, 4]) (by kernel_rfl) (by simp) ?_
        refine (AllReadyIn.cons rfl (fun K hK => ?_) (AllReadyIn.cons rfl (fun K hK => ?_) AllReadyIn.nil))
        · go_simp
          refine hK _ _ ?_
          clear hK K
          refine wpAnyIn_ready (rs := [2, 4]) (by kernel_rfl) (by simp) ?_
          refine (AllReadyIn.cons rfl (fun K hK => ?_) (AllReadyIn.cons rfl (fun K hK => ?_) AllReadyIn.nil))
          · go_simp
            refine hK _ _ ?_
            clear hK K
            refine wpAnyIn_ready (rs := [3, 4]) (by kernel_rfl) (by simp) ?_
            refine (AllReadyIn.cons rfl (fun K hK => ?_) (AllReadyIn.cons rfl (fun K hK => ?_) AllReadyIn.nil))
            · go_simp
              refine hK _ _ ?_
              clear hK K
              refine wpAnyIn_ready (rs := [4]) (by kernel_rfl) (by simp) ?_
              refine (AllReadyIn.cons rfl (fun K hK => ?_) AllReadyIn.nil)
              go_simp
              refine hK _ _ ?_
              clear hK K
              refine wpAnyIn_ready (rs := [5]) (by kernel_rfl) (by simp) ?_
              refine (AllReadyIn.cons rfl (fun K hK => ?_) AllReadyIn.nil)
              go_simp
              refine hK _ _ ?_
              clear hK K
              refine wpAnyIn_done (by kernel_rfl) ?_ _
              gi_wp2
              exact ⟨hend.out.1, rfl, hend.out.2.2⟩
            · go_simp
              refine hK _ _ ?_
              clear hK K
              refine wpAnyIn_ready (rs := [3]) (by kernel_rfl) (by simp) ?_
              refine (AllReadyIn.cons rfl (fun K hK => ?_) AllReadyIn.nil)
              go_simp
              refine hK _ _ ?_
              clear hK K
              refine wpAnyIn_ready (rs := [5]) (by kernel_rfl) (by simp) ?_
              refine (AllReadyIn.cons rfl (fun K hK => ?_) AllReadyIn.nil)
              go_simp
              refine hK _ _ ?_
              clear hK K
              refine wpAnyIn_done (by kernel_rfl) ?_ _
              gi_wp2
              exact ⟨hend.out.1, rfl, hend.out.2.2⟩
          · go_simp
            refine hK _ _ ?_
            clear hK K
            refine wpAnyIn_ready (rs := [2]) (by kernel_rfl) (by simp) ?_
            refine (AllReadyIn.cons rfl (fun K hK => ?_) AllReadyIn.nil)
            go_simp
            refine hK _ _ ?_
            clear hK K
            refine wpAnyIn_ready (rs := [3]) (by kernel_rfl) (by simp) ?_
            refine (AllReadyIn.cons rfl (fun K hK => ?_) AllReadyIn.nil)
            go_simp
            refine hK _ _ ?_
            clear hK K
            refine wpAnyIn_ready (rs := [5]) (by kernel_rfl) (by simp) ?_
            refine (AllReadyIn.cons rfl (fun K hK => ?_) AllReadyIn.nil)
            go_simp
            refine hK _ _ ?_
            clear hK K
            refine wpAnyIn_done (by kernel_rfl) ?_ _
            gi_wp2
            exact ⟨hend.out.1, rfl, hend.out.2.2⟩
        · go_simp
          refine hK _ _ ?_
          clear hK K
          refine wpAnyIn_ready (rs := [1]) (by kernel_rfl) (by simp) ?_
          refine (AllReadyIn.cons rfl (fun K hK => ?_) AllReadyIn.nil)
          go_simp
          refine hK _ _ ?_
          clear hK K
          refine wpAnyIn_ready (rs := [2]) (by kernel_rfl) (by simp) ?_
          refine (AllReadyIn.cons rfl (fun K hK => ?_) AllReadyIn.nil)
          go_simp
          refine hK _ _ ?_
          clear hK K
          refine wpAnyIn_ready (rs := [3]) (by kernel_rfl) (by simp) ?_
          refine (AllReadyIn.cons rfl (fun K hK => ?_) AllReadyIn.nil)
          go_simp
          refine hK _ _ ?_
          clear hK K
          refine wpAnyIn_ready (rs := [5]) (by kernel_rfl) (by simp) ?_
          refine (AllReadyIn.cons rfl (fun K hK => ?_) AllReadyIn.nil)
          go_simp
          refine hK _ _ ?_
          clear hK K
          refine wpAnyIn_done (by kernel_rfl) ?_ _
          gi_wp2
          exact ⟨hend.out.1, rfl, hend.out.2.2⟩
      · go_simp
        refine hK _ _ ?_
        clear hK K
        refine wpAnyIn_ready (rs := [0]) (by kernel_rfl) (by simp) ?_
        refine (AllReadyIn.cons rfl (fun K hK => ?_) AllReadyIn.nil)
        go_simp
        refine hK _ _ ?_
        clear hK K
        refine wpAnyIn_ready (rs := [1]) (by kernel_rfl) (by simp) ?_
        refine (AllReadyIn.cons rfl (fun K hK => ?_) AllReadyIn.nil)
        go_simp
        refine hK _ _ ?_
        clear hK K
        refine wpAnyIn_ready (rs := [2]) (by kernel_rfl) (by simp) ?_
        refine (AllReadyIn.cons rfl (fun K hK => ?_) AllReadyIn.nil)
        go_simp
        refine hK _ _ ?_
        clear hK K
        refine wpAnyIn_ready (rs := [3]) (by kernel_rfl) (by simp) ?_
        refine (AllReadyIn.cons rfl (fun K hK => ?_) AllReadyIn.nil)
        go_simp
        refine hK _ _ ?_
        clear hK K
        refine wpAnyIn_ready (rs := [5]) (by kernel_rfl) (by simp) ?_
        refine (AllReadyIn.cons rfl (fun K hK => ?_) AllReadyIn.nil)
        go_simp
        refine hK _ _ ?_
        clear hK K
        refine wpAnyIn_done (by kernel_rfl) ?_ _
        gi_wp2
        exact ⟨hend.out.1, rfl, hend.out.2.2⟩
    · have hnext : ∀ y ∈ pre ++ [x], y.1.id ≠ d := fun y hy => by
        rcases List.mem_append.1 hy with hy | hy
        · exact h0 y hy
        · simp at hy; rw [hy]; exact hd
      have hif : ∀ (A B : Result Next), (if x.1.id.1 = d.1 then if x.1.id.2 = d.2 then A else B else B) = B := fun A B => by
        by_cases e1 : x.1.id.1 = d.1
        · rw [if_pos e1, if_neg (fun e2 => hd (Prod.ext e1 e2))]
        · rw [if_neg e1]
      by_cases hsn : x.1.seen = true
      · rw [hsn] at c3
        have hend : Hid (KeepsFrom W0.heap.size W1 (Wd.setCell ⟨w.heap.size + 3, 0, none⟩ (.int .i64 ((cnt pre : Int) + 1))) ∧ KT w.heap.size W1 (Wd.setCell ⟨w.heap.size + 3, 0, none⟩ (.int .i64 ((cnt pre : Int) + 1))) ∧ (∀ y ∈ pre ++ [x], y.1.id ≠ d) ∧ (Wd.setCell ⟨w.heap.size + 3, 0, none⟩ (.int .i64 ((cnt pre : Int) + 1))).heap[w.heap.size]? = some (.cells #[.int .i64 d.1, .int .i64 d.2] 24 (0, 0)) ∧ Boxed (Wd.setCell ⟨w.heap.size + 3, 0, none⟩ (.int .i64 ((cnt pre : Int) + 1))) (w.heap.size + 1) 3 (.int .i64 0) ∧ Boxed (Wd.setCell ⟨w.heap.size + 3, 0, none⟩ (.int .i64 ((cnt pre : Int) + 1))) (w.heap.size + 2) 4 (.bool false) ∧ Boxed (Wd.setCell ⟨w.heap.size + 3, 0, none⟩ (.int .i64 ((cnt pre : Int) + 1))) (w.heap.size + 3) 3 (.int .i64 (cnt (pre ++ [x]) : Int)) ∧ Below w.heap.size w (Wd.setCell ⟨w.heap.size + 3, 0, none⟩ (.int .i64 ((cnt pre : Int) + 1)))) := by
          have e : ((cnt (pre ++ [x]) : Nat) : Int) = (cnt pre : Int) + 1 := by rw [hcy pre x hsn]; simp
          rw [e]
          refine hid ⟨kk.trans (KeepsFrom.set k4 _), kt.trans (KT.set k4 (by decide) (by decide) (by omega) _), hnext, (heap_setCell_other Wd ⟨w.heap.size + 3, 0, none⟩ _ _ (by simp)).trans q1, k2.kept (grownBy_setCell' _ _ _) (by simp), k3.kept (grownBy_setCell' _ _ _) (by simp), k4.set _, k5.setCell (p := ⟨w.heap.size + 3, 0, none⟩) (by simp) _⟩
        clear k2 k3 k4 k5 kk kt q1
        gi_wp2
        refine wpIn_region_any hmx ?_
        change wpAnyIn _ _ _ _ _ _ _ _ _ (World.drew _)
        rw [← hWd]
        clear hWd
        refine wpAnyIn_ready (rs := [0, 4]) (by kernel_rfl) (by simp) ?_
        refine (AllReadyIn.cons rfl (fun K hK => ?_) (AllReadyIn.cons rfl (fun K hK => ?_) AllReadyIn.nil))
        · go_simp
          refine hK _ _ ?_
          clear hK K
          refine wpAnyIn_ready (rs := [1, 4]) (by kernel_rfl) (by simp) ?_
          refine (AllReadyIn.cons rfl (fun K hK => ?_) (AllReadyIn.cons rfl (fun K hK => ?_) AllReadyIn.nil))
          · go_simp
            refine hK _ _ ?_
            clear hK K
            refine wpAnyIn_ready (rs := [2, 4]) (by kernel_rfl) (by simp) ?_
            refine (AllReadyIn.cons rfl (fun K hK => ?_) (AllReadyIn.cons rfl (fun K hK => ?_) AllReadyIn.nil))
            · go_simp
              refine hK _ _ ?_
              clear hK K
              refine wpAnyIn_ready (rs := [3, 4]) (by kernel_rfl) (by simp) ?_
              refine (AllReadyIn.cons rfl (fun K hK => ?_) (AllReadyIn.cons rfl (fun K hK => ?_) AllReadyIn.nil))
              · go_simp
                refine hK _ _ ?_
                clear hK K
                refine wpAnyIn_ready (rs := [4]) (by kernel_rfl) (by simp) ?_
                refine (AllReadyIn.cons rfl (fun K hK => ?_) AllReadyIn.nil)
                go_simp
                refine hK _ _ ?_
                clear hK K
                refine wpAnyIn_ready (rs := [5]) (by kernel_rfl) (by simp) ?_
                refine (AllReadyIn.cons rfl (fun K hK => ?_) AllReadyIn.nil)
                go_simp
                refine hK _ _ ?_
                clear hK K
                refine wpAnyIn_done (by kernel_rfl) ?_ _
                gi_wp2
                exact hend.out
              · go_simp
                refine hK _ _ ?_
                clear hK K
                refine wpAnyIn_ready (rs := [3]) (by kernel_rfl) (by simp) ?_
                refine (AllReadyIn.cons rfl (fun K hK => ?_) AllReadyIn.nil)
                go_simp
                refine hK _ _ ?_
                clear hK K
                refine wpAnyIn_ready (rs := [5]) (by kernel_rfl) (by simp) ?_
                refine (AllReadyIn.cons rfl (fun K hK => ?_) AllReadyIn.nil)
                go_simp
                refine hK _ _ ?_
                clear hK K
                refine wpAnyIn_done (by kernel_rfl) ?_ _
                gi_wp2
                exact hend.out
            · go_simp
              refine hK _ _ ?_
              clear hK K
              refine wpAnyIn_ready (rs := [2]) (by kernel_rfl) (by simp) ?_
              refine (AllReadyIn.cons rfl (fun K hK => ?_) AllReadyIn.nil)
              go_simp
              refine hK _ _ ?_
              clear hK K
              refine wpAnyIn_ready (rs := [3]) (by kernel_rfl) (by simp) ?_
              refine (AllReadyIn.cons rfl (fun K hK => ?_) AllReadyIn.nil)
              go_simp
              refine hK _ _ ?_
              clear hK K
              refine wpAnyIn_ready (rs := [5]) (by kernel_rfl) (by simp) ?_
              refine (AllReadyIn.cons rfl (fun K hK => ?_) AllReadyIn.nil)
              go_simp
              refine hK _ _ ?_
              clear hK K
              refine wpAnyIn_done (by kernel_rfl) ?_ _
              gi_wp2
              exact hend.out
          · go_simp
            refine hK _ _ ?_
            clear hK K
            refine wpAnyIn_ready (rs := [1]) (by kernel_rfl) (by simp) ?_
            refine (AllReadyIn.cons rfl (fun K hK => ?_) AllReadyIn.nil)
            go_simp
            refine hK _ _ ?_
            clear hK K
            refine wpAnyIn_ready (rs := [2]) (by kernel_rfl) (by simp) ?_
            refine (AllReadyIn.cons rfl (fun K hK => ?_) AllReadyIn.nil)
            go_simp
            refine hK _ _ ?_
            clear hK K
            refine wpAnyIn_ready (rs := [3]) (by kernel_rfl) (by simp) ?_
            refine (AllReadyIn.cons rfl (fun K hK => ?_) AllReadyIn.nil)
            go_simp
            refine hK _ _ ?_
            clear hK K
            refine wpAnyIn_ready (rs := [5]) (by kernel_rfl) (by simp) ?_
            refine (AllReadyIn.cons rfl (fun K hK => ?_) AllReadyIn.nil)
            go_simp
            refine hK _ _ ?_
            clear hK K
            refine wpAnyIn_done (by kernel_rfl) ?_ _
            gi_wp2
            exact hend.out
        · go_simp
          refine hK _ _ ?_
          clear hK K
          refine wpAnyIn_ready (rs := [0]) (by kernel_rfl) (by simp) ?_
          refine (AllReadyIn.cons rfl (fun K hK => ?_) AllReadyIn.nil)
          go_simp
          refine hK _ _ ?_
          clear hK K
          refine wpAnyIn_ready (rs := [1]) (by kernel_rfl) (by simp) ?_
          refine (AllReadyIn.cons rfl (fun K hK => ?_) AllReadyIn.nil)
          go_simp
          refine hK _ _ ?_
          clear hK K
          refine wpAnyIn_ready (rs := [2]) (by kernel_rfl) (by simp) ?_
          refine (AllReadyIn.cons rfl (fun K hK => ?_) AllReadyIn.nil)
          go_simp
          refine hK _ _ ?_
          clear hK K
          refine wpAnyIn_ready (rs := [3]) (by kernel_rfl) (by simp) ?_
          refine (AllReadyIn.cons rfl (fun K hK => ?_) AllReadyIn.nil)
          go_simp
          refine hK _ _ ?_
          clear hK K
          refine wpAnyIn_ready (rs := [5]) (by kernel_rfl) (by simp) ?_
          refine (AllReadyIn.cons rfl (fun K hK => ?_) AllReadyIn.nil)
          go_simp
          refine hK _ _ ?_
          clear hK K
          refine wpAnyIn_done (by kernel_rfl) ?_ _
          gi_wp2
          exact hend.out
      · have hsn' : x.1.seen = false := by simpa using hsn
        rw [hsn'] at c3
        have hend : Hid (KeepsFrom W0.heap.size W1 Wd ∧ KT w.heap.size W1 Wd ∧ (∀ y ∈ pre ++ [x], y.1.id ≠ d) ∧ Wd.heap[w.heap.size]? = some (.cells #[.int .i64 d.1, .int .i64 d.2] 24 (0, 0)) ∧ Boxed Wd (w.heap.size + 1) 3 (.int .i64 0) ∧ Boxed Wd (w.heap.size + 2) 4 (.bool false) ∧ Boxed Wd (w.heap.size + 3) 3 (.int .i64 (cnt (pre ++ [x]) : Int)) ∧ Below w.heap.size w Wd) := by
          rw [hcn pre x hsn']
          exact hid ⟨kk, kt, hnext, q1, k2, k3, k4, k5⟩
        clear k2 k3 k4 k5 kk kt q1
        gi_wp2
        refine wpIn_region_any hmx ?_
        change wpAnyIn _ _ _ _ _ _ _ _ _ (World.drew _)
        rw [← hWd]
        clear hWd
        refine wpAnyIn_ready (rs := [0, 4]) (by kernel_rfl) (by simp) ?_
        refine (AllReadyIn.cons rfl (fun K hK => ?_) (AllReadyIn.cons rfl (fun K hK => ?_) AllReadyIn.nil))
        · go_simp
          refine hK _ _ ?_
          clear hK K
          refine wpAnyIn_ready (rs := [1, 4]) (by kernel_rfl) (by simp) ?_
          refine (AllReadyIn.cons rfl (fun K hK => ?_) (AllReadyIn.cons rfl (fun K hK => ?_) AllReadyIn.nil))
          · go_simp
            refine hK _ _ ?_
            clear hK K
            refine wpAnyIn_ready (rs := [2, 4]) (by kernel_rfl) (by simp) ?_
            refine (AllReadyIn.cons rfl (fun K hK => ?_) (AllReadyIn.cons rfl (fun K hK => ?_) AllReadyIn.nil))
            · go_simp
              refine hK _ _ ?_
              clear hK K
              refine wpAnyIn_ready (rs := [3, 4]) (by kernel_rfl) (by simp) ?_
              refine (AllReadyIn.cons rfl (fun K hK => ?_) (AllReadyIn.cons rfl (fun K hK => ?_) AllReadyIn.nil))
              · go_simp
                refine hK _ _ ?_
                clear hK K
                refine wpAnyIn_ready (rs := [4]) (by kernel_rfl) (by simp) ?_
                refine (AllReadyIn.cons rfl (fun K hK => ?_) AllReadyIn.nil)
                go_simp
                refine hK _ _ ?_
                clear hK K
                refine wpAnyIn_ready (rs := [5]) (by kernel_rfl) (by simp) ?_
                refine (AllReadyIn.cons rfl (fun K hK => ?_) AllReadyIn.nil)
                go_simp
                refine hK _ _ ?_
                clear hK K
                refine wpAnyIn_done (by kernel_rfl) ?_ _
                gi_wp2
                exact hend.out
              · go_simp
                refine hK _ _ ?_
                clear hK K
                refine wpAnyIn_ready (rs := [3]) (by kernel_rfl) (by simp) ?_
                refine (AllReadyIn.cons rfl (fun K hK => ?_) AllReadyIn.nil)
                go_simp
                refine hK _ _ ?_
                clear hK K
                refine wpAnyIn_ready (rs := [5]) (by kernel_rfl) (by simp) ?_
                refine (AllReadyIn.cons rfl (fun K hK => ?_) AllReadyIn.nil)
                go_simp
                refine hK _ _ ?_
                clear hK K
                refine wpAnyIn_done (by kernel_rfl) ?_ _
                gi_wp2
                exact hend.out
            · go_simp
              refine hK _ _ ?_
              clear hK K
              refine wpAnyIn_ready (rs := [2]) (by kernel_rfl) (by simp) ?_
              refine (AllReadyIn.cons rfl (fun K hK => ?_) AllReadyIn.nil)
              go_simp
              refine hK _ _ ?_
              clear hK K
              refine wpAnyIn_ready (rs := [3]) (by kernel_rfl) (by simp) ?_
              refine (AllReadyIn.cons rfl (fun K hK => ?_) AllReadyIn.nil)
              go_simp
              refine hK _ _ ?_
              clear hK K
              refine wpAnyIn_ready (rs := [5]) (by kernel_rfl) (by simp) ?_
              refine (AllReadyIn.cons rfl (fun K hK => ?_) AllReadyIn.nil)
              go_simp
              refine hK _ _ ?_
              clear hK K
              refine wpAnyIn_done (by kernel_rfl) ?_ _
              gi_wp2
              exact hend.out
          · go_simp
            refine hK _ _ ?_
            clear hK K
            refine wpAnyIn_ready (rs := [1]) (by kernel_rfl) (by simp) ?_
            refine (AllReadyIn.cons rfl (fun K hK => ?_) AllReadyIn.nil)
            go_simp
            refine hK _ _ ?_
            clear hK K
            refine wpAnyIn_ready (rs := [2]) (by kernel_rfl) (by simp) ?_
            refine (AllReadyIn.cons rfl (fun K hK => ?_) AllReadyIn.nil)
            go_simp
            refine hK _ _ ?_
            clear hK K
            refine wpAnyIn_ready (rs := [3]) (by kernel_rfl) (by simp) ?_
            refine (AllReadyIn.cons rfl (fun K hK => ?_) AllReadyIn.nil)
            go_simp
            refine hK _ _ ?_
            clear hK K
            refine wpAnyIn_ready (rs := [5]) (by kernel_rfl) (by simp) ?_
            refine (AllReadyIn.cons rfl (fun K hK => ?_) AllReadyIn.nil)
            go_simp
            refine hK _ _ ?_
            clear hK K
            refine wpAnyIn_done (by kernel_rfl) ?_ _
            gi_wp2
            exact hend.out
        · go_simp
          refine hK _ _ ?_
          clear hK K
          refine wpAnyIn_ready (rs := [0]) (by kernel_rfl) (by simp) ?_
          refine (AllReadyIn.cons rfl (fun K hK => ?_) AllReadyIn.nil)
          go_simp
          refine hK _ _ ?_
          clear hK K
          refine wpAnyIn_ready (rs := [1]) (by kernel_rfl) (by simp) ?_
          refine (AllReadyIn.cons rfl (fun K hK => ?_) AllReadyIn.nil)
          go_simp
          refine hK _ _ ?_
          clear hK K
          refine wpAnyIn_ready (rs := [2]) (by kernel_rfl) (by simp) ?_
          refine (AllReadyIn.cons rfl (fun K hK => ?_) AllReadyIn.nil)
          go_simp
          refine hK _ _ ?_
          clear hK K
          refine wpAnyIn_ready (rs := [3]) (by kernel_rfl) (by simp) ?_
          refine (AllReadyIn.cons rfl (fun K hK => ?_) AllReadyIn.nil)
          go_simp
          refine hK _ _ ?_
          clear hK K
          refine wpAnyIn_ready (rs := [5]) (by kernel_rfl) (by simp) ?_
          refine (AllReadyIn.cons rfl (fun K hK => ?_) AllReadyIn.nil)
          go_simp
          refine hK _ _ ?_
          clear hK K
          refine wpAnyIn_done (by kernel_rfl) ?_ _
          gi_wp2
          exact hend.out
  case done =>
    rintro D ys W1 hD hS ⟨h0, h1, h2, h3, h4, h5⟩ hK
    have hno : idxL L d = (0, false) := idxL_no (fun c hc => by
      rw [← hS] at hc
      obtain ⟨y, hy, rfl⟩ := List.mem_map.1 hc
      exact h0 y hy)
    have hnoH := hid hno
    clear hno
    have g2 := h2.cell
    have g3 := h3.cell
    have z2 := h2.frozen
    have z3 := h3.frozen
    have hKs : ((W1.setCell ⟨w.heap.size + 1, 0, none⟩ (.int .i64 0)).setCell ⟨w.heap.size + 2, 0, none⟩ (.bool false)).heap[D]? = some (.deferred (some [])) := (heap_setCell_other _ ⟨w.heap.size + 2, 0, none⟩ _ _ (by simp; omega)).trans ((heap_setCell_other _ ⟨w.heap.size + 1, 0, none⟩ _ _ (by simp; omega)).trans hK)
    have m2 := h2.set (.int .i64 0)
    have m3 := h3.kept (grownBy_setCell' W1 (w.heap.size + 1) (.int .i64 0)) (by simp)
    have m4 := m3.set (.bool false)
    have m5 := m2.kept (grownBy_setCell' _ (w.heap.size + 2) (.bool false)) (by simp)
    have p4 := (boxed_own (B₀ := 0) m4 (grownBy_putObj' _ D (.deferred none)) (fun r e => by cases e; exact ⟨Nat.zero_le _, _, hKs, rfl⟩)).cell
    have p5 := (boxed_own (B₀ := 0) m5 (grownBy_putObj' _ D (.deferred none)) (fun r e => by cases e; exact ⟨Nat.zero_le _, _, hKs, rfl⟩)).cell
    have hfin := hid (below_put ((h5.setCell (p := ⟨w.heap.size + 1, 0, none⟩) (Nat.le_succ _) (.int .i64 0)).setCell (p := ⟨w.heap.size + 2, 0, none⟩) (by simp) (.bool false)) (by omega) hKs rfl (.deferred none))
    clear h1 h2 h3 h4 h5 m2 m3 m4 m5
    gi_wp2
    refine ⟨by simp, .inl ⟨_, _, rfl, run_takeDeferred hKs, ?_⟩⟩
    refine ⟨.tuple #[.int .i64 0, .bool false], ?_, by rw [hnoH.out]; rfl, hfin.out⟩
    simp [results, Try.results15, go_sem, p4, p5]
  case stop =>
    rintro D c pre W1 hD hS ⟨rfl, ⟨pre', x, rfl, hxd, h3, h4, h5⟩, h6⟩ hK
    obtain ⟨r, hr'⟩ := hS
    have hat : idxL L d = (cnt pre', true) := by
      rw [hcnt.out]
      refine idxL_at (c := x.1) (A := pre'.map (·.1)) (B := r) ?_ (fun c hc => ?_) hxd
      · have := hr'.symm; simpa using this
      · obtain ⟨y, hy, rfl⟩ := List.mem_map.1 hc
        exact h3 y hy
    have hatH := hid hat
    clear hat
    have p4 := (boxed_own (B₀ := 0) h4 (grownBy_putObj' _ D (.deferred none)) (fun r e => by cases e; exact ⟨Nat.zero_le _, _, hK, rfl⟩)).cell
    have p5 := (boxed_own (B₀ := 0) h5 (grownBy_putObj' _ D (.deferred none)) (fun r e => by cases e; exact ⟨Nat.zero_le _, _, hK, rfl⟩)).cell
    have hfin := hid (below_put h6 (by omega) hK rfl (.deferred none))
    gi_wp2
    refine ⟨by simp, .inl ⟨_, _, rfl, run_takeDeferred hK, ?_⟩⟩
    refine ⟨.tuple #[.int .i64 (cnt pre' : Int), .bool true], ?_, by rw [hatH.out], hfin.out⟩
    simp [results, Try.results15, go_sem, p4, p5]
end Go.Proofs.Ytbpepmajpojacaa
