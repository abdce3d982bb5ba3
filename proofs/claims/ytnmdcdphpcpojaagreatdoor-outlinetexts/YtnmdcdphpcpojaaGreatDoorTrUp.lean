/- up's closure: what is above a block comes, one by one. -/
import Derived.Test.YtnmdcdphpcpojaaGreatDoorTrInsG
import Derived.Test.YtnmdcdphpcpojaaGreatDoorTrRange
import Derived.Test.YtnmdcdphpcpojaaGreatDoorTrCmp
namespace Go.Proofs.YtnmdcdphpcpojaaGreatDoor
section
set_option linter.unusedVariables false
set_option linter.unusedSimpArgs false
open Go.RowKit

/-- Can blocks lie under it? As a Bool. -/
def holdsB (S : List Sp) (p : Dt) : Bool := decide (p = (0, -1)) || decide (p = (0, -2)) || (lk S p).isSome

set_option maxRecDepth 100000 in
set_option maxHeartbeats 4000000 in
theorem holds_any (t o : Nat) (mv : Value) (S : List Sp) (d : Dt) (hd : Dw d) (w : World) (hc : w.cell? ⟨t, o, none⟩ = some mv) (h : PlV w mv S) :
    Calls Tryz.prog 151 #[.pointer (some ⟨t, o, none⟩), dv d] w fun e w' => e = .returned (.bool (holdsB S d)) ∧ Below w.heap.size w w' := by
  obtain ⟨a, b⟩ := d
  have mixed := mixed
  obtain ⟨B, hBe⟩ : ∃ B, B = (lk S (a, b)).isSome := ⟨_, rfl⟩
  have hr0 : Hid (holdsB S (a, b) = (decide ((a, b) = (0, -1)) || decide ((a, b) = (0, -2)) || B)) := hid (by rw [hBe]; rfl)
  obtain ⟨W0, hW0⟩ : ∃ W0, W0 = w.alloc (.cells #[.int .i64 a, .int .i64 b] 24) := ⟨_, rfl⟩
  have hB0 : Below w.heap.size w W0 := by rw [hW0]; exact (Below.refl _ w).alloc (Nat.le_refl _) _
  have hb1 : W0.heap[w.heap.size]? = some (.cells #[.int .i64 a, .int .i64 b] 24 (0, 0)) := by rw [hW0]; exact World.alloc_heap_new w _
  have hl1 := (Array.getElem?_eq_some_iff.1 hb1).1
  haveI : Nonempty (Wb W0) := ⟨⟨W0, Below.refl _ _⟩⟩
  have a0 : ∀ p : Wb W0, p.u.cell? ⟨w.heap.size, 0, none⟩ = some (.int .i64 a) := fun p => by
    have g1 := (p.h.block _ hl1).trans hb1
    simp [World.cell?, g1]
  have a1 : ∀ p : Wb W0, p.u.cell? ⟨w.heap.size, 1, none⟩ = some (.int .i64 b) := fun p => by
    have g1 := (p.h.block _ hl1).trans hb1
    simp [World.cell?, g1]
  have kRo : ∀ p : Wb W0, Calls Tryz.prog 12 #[] p.u fun e w'' => e = .returned (.agg #[.int .i64 0, .int .i64 (-1)]) ∧ ∃ p' : Wb W0, w'' = p'.u := fun p => far_q (root_any p.u)
  have kTr : ∀ p : Wb W0, Calls Tryz.prog 13 #[] p.u fun e w'' => e = .returned (.agg #[.int .i64 0, .int .i64 (-2)]) ∧ ∃ p' : Wb W0, w'' = p'.u := fun p => far_q (trash_any p.u)
  have kTh : ∀ p : Wb W0, Calls Tryz.prog 152 #[.pointer (some ⟨t, o, none⟩), .agg #[.int .i64 a, .int .i64 b]] p.u fun e w'' => e = .returned (.bool B) ∧ ∃ p' : Wb W0, w'' = p'.u := fun p => by
    have hbw := hB0.trans (p.h.mono hB0.size)
    have h1 := there_any t o mv S (a, b) hd p.u ((hbw.cell (p := ⟨t, o, none⟩) (cell_in hc)).trans hc) (h.below hbw)
    rw [← hBe] at h1
    exact below_q h1
  have HW := hid hW0
  clear hW0 hb1 hl1 hBe h hc hd
  by_cases ha : a = 0
  · subst ha
    by_cases hb : b = -1
    · subst hb
      have hr : Hid (holdsB S (0, -1) = true) := hid (by rw [hr0.out]; rfl)
      go_enter Tryz.func151, Tryz.ntmps151
      go_wp2_with fail
      rw [← HW.out]
      refine wp_region_below mixed (by kernel_rfl) ?_
      repeat (go_big_quiet_step (first | (go_at_call 12; exact kRo _) | (go_at_call 13; exact kTr _) | (go_at_call 152; exact kTh _)))
      refine wpQuiet_nil ?_
      intro _ hw'
      obtain ⟨p, hw''⟩ := hw'
      subst hw''
      go_wp2
      go_ret
      exact ⟨by rw [hr.out]; rfl, hB0.trans (p.h.mono hB0.size)⟩
    · by_cases hc : b = -2
      · subst hc
        have hr : Hid (holdsB S (0, -2) = true) := hid (by rw [hr0.out]; rfl)
        go_enter Tryz.func151, Tryz.ntmps151
        go_wp2_with fail
        rw [← HW.out]
        refine wp_region_below mixed (by kernel_rfl) ?_
        repeat (go_big_quiet_step (first | (go_at_call 12; exact kRo _) | (go_at_call 13; exact kTr _) | (go_at_call 152; exact kTh _)))
        refine wpQuiet_nil ?_
        intro _ hw'
        obtain ⟨p, hw''⟩ := hw'
        subst hw''
        go_wp2
        go_ret
        exact ⟨by rw [hr.out]; rfl, hB0.trans (p.h.mono hB0.size)⟩
      · have hr : Hid (holdsB S (0, b) = B) := hid (by rw [hr0.out]; simp [hb, hc])
        have k1 : (b == -1) = false := by simpa using hb
        have k2 : (b == -2) = false := by simpa using hc
        clear hb hc
        go_enter Tryz.func151, Tryz.ntmps151
        go_wp2_with fail
        rw [← HW.out]
        refine wp_region_below mixed (by kernel_rfl) ?_
        repeat (go_big_quiet_step (first | (go_at_call 12; exact kRo _) | (go_at_call 13; exact kTr _) | (go_at_call 152; exact kTh _)))
        refine wpQuiet_nil ?_
        intro _ hw'
        obtain ⟨p, hw''⟩ := hw'
        subst hw''
        go_wp2
        go_ret
        exact ⟨by rw [hr.out]; rfl, hB0.trans (p.h.mono hB0.size)⟩
  · have hr : Hid (holdsB S (a, b) = B) := hid (by rw [hr0.out]; simp [ha])
    have k0 : (a == 0) = false := by simpa using ha
    clear ha
    go_enter Tryz.func151, Tryz.ntmps151
    go_wp2_with fail
    rw [← HW.out]
    refine wp_region_below mixed (by kernel_rfl) ?_
    repeat (go_big_quiet_step (first | (go_at_call 12; exact kRo _) | (go_at_call 13; exact kTr _) | (go_at_call 152; exact kTh _)))
    refine wpQuiet_nil ?_
    intro _ hw'
    obtain ⟨p, hw''⟩ := hw'
    subst hw''
    go_wp2
    go_ret
    exact ⟨by rw [hr.out]; rfl, hB0.trans (p.h.mono hB0.size)⟩
end

section
set_option linter.unusedVariables false
open Go.RowKit

theorem up_made (t o : Nat) (d : Dt) (w : World) : Calls Tryz.prog 56 #[.pointer (some ⟨t, o, none⟩), dv d] w fun e w' => e = .returned (.func (.func 93) #[] #[.pointer (some ⟨w.heap.size, 0, none⟩), .pointer (some ⟨w.heap.size + 1, 0, none⟩)]) ∧ w' = (w.alloc (.cells #[.pointer (some ⟨t, o, none⟩)] 117)).alloc (.cells #[.int .i64 d.1, .int .i64 d.2] 24) := by
  obtain ⟨d1, d2⟩ := d
  go_enter Tryz.func56, Tryz.ntmps56
  go_wp2
  go_ret
  refine ⟨?_, ?_⟩
  · first | rfl | simp
  · first | rfl | simp
end

section
set_option linter.unusedVariables false
set_option linter.unusedSimpArgs false
open Go.RowKit Go.Shelf

attribute [local go_sem] Oper.semAt_some

/-- How far it is to go on. -/
def upM (S : List Sp) (pb : Nat) (v : Value) (w : World) : Nat :=
  match v, w.cell? ⟨pb, 0, none⟩, w.cell? ⟨pb, 1, none⟩ with
  | .bool true, some (.int .i64 a), some (.int .i64 b) => (pth S (a, b)).length + 1
  | _, _, _ => 0

/-- A place is stored over another one. -/
def put3 (w : World) (q : Nat) (a b : Int) (k : ByteArray) : World := ((w.setCell ⟨q, 0, none⟩ (.int .i64 a)).setCell ⟨q, 1, none⟩ (.int .i64 b)).setCell ⟨q, 2, none⟩ (.string k)

theorem set_blk {w : World} {q j : Nat} {cs : Array Value} {t : TypeId} (h : w.heap[q]? = some (.cells cs t (0, 0))) (u : Value) : (w.setCell ⟨q, j, none⟩ u).heap[q]? = some (.cells (cs.setIfInBounds j u) t (0, 0)) := by
  simp [World.setCell, Array.getElem?_modify, h]

theorem put3_block {w : World} {q : Nat} {a b a' b' : Int} {k k' : ByteArray} {t : TypeId} (h : w.heap[q]? = some (.cells #[.int .i64 a, .int .i64 b, .string k] t (0, 0))) : (put3 w q a' b' k').heap[q]? = some (.cells #[.int .i64 a', .int .i64 b', .string k'] t (0, 0)) := by
  have h0 := set_blk (j := 0) h (.int .i64 a')
  have h1 := set_blk (j := 1) h0 (.int .i64 b')
  have h2 := set_blk (j := 2) h1 (.string k')
  simpa [put3] using h2

theorem put3_grown (w : World) (q : Nat) (a b : Int) (k : ByteArray) : w.grownBy (put3 w q a b k) (some q) :=
  (((World.grownBy.refl _ _).trans (grownBy_setCell _ q 0 _)).trans (grownBy_setCell _ q 1 _)).trans (grownBy_setCell _ q 2 _)

/-- Dots of numbers as they are. -/
def Ws (S : List Sp) : Prop := ∀ s ∈ S, Dw s.p

set_option maxRecDepth 100000 in
set_option maxHeartbeats 4000000 in
theorem up_in (n l n₀ t o bs bb : Nat) (own : Nat → Prop) (hob : ∀ k, own k → k < n₀ → k ≠ bs ∧ k ≠ bb ∧ k ≠ t) (mv : Value) (S : List Sp) (r : Dt → Nat) (hS : Tk S r) (hW : Ws S) (d : Dt) (hd : Dw d) (J Jx : List Dt → World → Prop) (W : World)
    (hn0 : n₀ ≤ W.heap.size) (hbs : bs < n₀) (hbb : bb < n₀) (ht : t < n₀) (c1 : W.cell? ⟨bs, 0, none⟩ = some (.pointer (some ⟨t, o, none⟩))) (c2 : W.cell? ⟨t, o, none⟩ = some mv) (c3 : W.cell? ⟨bb, 0, none⟩ = some (.int .i64 d.1)) (c4 : W.cell? ⟨bb, 1, none⟩ = some (.int .i64 d.2)) (hP : PlB n₀ W mv S)
    (hJ : OwnT W.heap.size J) (hJx : OwnT W.heap.size Jx)
    (hY : ∀ pre x W1, J pre W1 → pre.length < (pth S d).length → YieldAt Fence.wide (n - 1) Tryz.prog l #[dv x] W1 fun e W' =>
      (e = .returned (.bool true) ∧ J (pre ++ [x]) W' ∧ KU n₀ own W1 W' ∧ KeepsFrom W.heap.size W1 W') ∨ (e = .returned (.bool false) ∧ Jx (pre ++ [x]) W' ∧ KeepsFrom W.heap.size W1 W'))
    (h0 : J [] W) :
    CallsIn Fence.wide n Tryz.prog 93 #[.func (.yield l) #[] #[], .pointer (some ⟨bs, 0, none⟩), .pointer (some ⟨bb, 0, none⟩)] W fun e W' => (∃ v, e = .returned v) ∧
      ((∃ xs, xs = pth S d ∧ J xs W') ∨ (∃ pre, pre <+: pth S d ∧ Jx pre W')) := by
  obtain ⟨d1, d2⟩ := d
  have mixed := mixed
  have hmxo : Tryz.prog.follows .mixedOrders = true := by kernel_rfl
  obtain ⟨p1, p2, ky, hq⟩ : ∃ p1 p2 ky, (lk S (d1, d2)).getD pl0 = ((p1, p2), ky) := ⟨_, _, _, rfl⟩
  obtain ⟨B, hB⟩ : ∃ B, B = (lk S (d1, d2)).isSome := ⟨_, rfl⟩
  have c3' : W.cell? ⟨bb, 0, none⟩ = some (.int .i64 d1) := c3
  have c4' : W.cell? ⟨bb, 1, none⟩ = some (.int .i64 d2) := c4
  clear c3 c4
  have HS : Hid (∀ V, Below W.heap.size W V → (V.cell? ⟨bs, 0, none⟩ = some (.pointer (some ⟨t, o, none⟩)) ∧ V.cell? ⟨t, o, none⟩ = some mv ∧ V.cell? ⟨bb, 0, none⟩ = some (.int .i64 d1) ∧ V.cell? ⟨bb, 1, none⟩ = some (.int .i64 d2) ∧ (Instr.lookup 111 mv (.agg #[.int .i64 d1, .int .i64 d2]) true).run Tryz.prog V = .ok (.tuple #[.agg #[.int .i64 p1, .int .i64 p2, .string ky], .bool B]) V)) := hid (fun V hb => by
    refine ⟨(hb.cell (p := ⟨bs, 0, none⟩) (cell_in c1)).trans c1, (hb.cell (p := ⟨t, o, none⟩) (cell_in c2)).trans c2, (hb.cell (p := ⟨bb, 0, none⟩) (cell_in c3')).trans c3', (hb.cell (p := ⟨bb, 1, none⟩) (cell_in c4')).trans c4', ?_⟩
    have := (hP.v.below hb).lookOk hd
    rw [hq, ← hB] at this
    exact this)
  have HU0 : Hid (Below W.heap.size W W.drew) := hid ((Far.refl W).drewN 1).below
  have hS0 := HS.out _ HU0.out
  have HQ := hid hq
  have HBB := hid hB
  clear hq hB
  refine callsIn_of_wp Tryz.func93 rfl trivial ?_ rfl
  simp only [Tryz.ntmps93, List.size_toArray, List.length_cons, List.length_nil, Nat.reduceAdd, Nat.reduceSub, Array.replicate_succ, Array.replicate_zero, List.push_toArray, List.append_toArray, List.nil_append, List.cons_append]
  gi_wp2
  refine wpIn_wide.2 ?_
  refine wp_region_held_drew (S := fun w' => w'.cell? ⟨bs, 0, none⟩ = some (.pointer (some ⟨t, o, none⟩)) ∧ w'.cell? ⟨t, o, none⟩ = some mv ∧ w'.cell? ⟨bb, 0, none⟩ = some (.int .i64 d1) ∧ w'.cell? ⟨bb, 1, none⟩ = some (.int .i64 d2) ∧ (Instr.lookup 111 mv (.agg #[.int .i64 d1, .int .i64 d2]) true).run Tryz.prog w' = .ok (.tuple #[.agg #[.int .i64 p1, .int .i64 p2, .string ky], .bool B]) w') hmxo hS0 ?_
  intro _
  refine wpAnyH_take (i := 0) (v := .pointer (some ⟨t, o, none⟩)) rfl (by kernel_rfl) (by kernel_rfl) (by kernel_rfl) (fun _ _ _ h => h) (Or.inl ⟨by kernel_rfl, fun w hSw => ?_⟩) hS0 ?_
  · obtain ⟨e1, e2, e3, e4, e5⟩ := hSw; go_simp
  simp only [Act.put, List.getElem_toArray, List.getElem_cons_succ, List.getElem_cons_zero, List.setIfInBounds_toArray, List.set_cons_zero, List.set_cons_succ]
  refine wpAnyH_take (i := 1) (v := .pointer (some ⟨t, o, none⟩)) rfl (by kernel_rfl) (by kernel_rfl) (by kernel_rfl) (fun _ _ _ h => h) (Or.inl ⟨by kernel_rfl, fun w hSw => ?_⟩) hS0 ?_
  · obtain ⟨e1, e2, e3, e4, e5⟩ := hSw; go_simp
  simp only [Act.put, List.getElem_toArray, List.getElem_cons_succ, List.getElem_cons_zero, List.setIfInBounds_toArray, List.set_cons_zero, List.set_cons_succ]
  refine wpAnyH_take (i := 2) (v := .pointer (some ⟨t, o, none⟩)) rfl (by kernel_rfl) (by kernel_rfl) (by kernel_rfl) (fun _ _ _ h => h) (Or.inl ⟨by kernel_rfl, fun w hSw => ?_⟩) hS0 ?_
  · obtain ⟨e1, e2, e3, e4, e5⟩ := hSw; go_simp
  simp only [Act.put, List.getElem_toArray, List.getElem_cons_succ, List.getElem_cons_zero, List.setIfInBounds_toArray, List.set_cons_zero, List.set_cons_succ]
  refine wpAnyH_take (i := 3) (v := mv) rfl (by kernel_rfl) (by kernel_rfl) (by kernel_rfl) (fun _ _ _ h => h) (Or.inl ⟨by kernel_rfl, fun w hSw => ?_⟩) hS0 ?_
  · obtain ⟨e1, e2, e3, e4, e5⟩ := hSw; go_simp
  simp only [Act.put, List.getElem_toArray, List.getElem_cons_succ, List.getElem_cons_zero, List.setIfInBounds_toArray, List.set_cons_zero, List.set_cons_succ]
  refine wpAnyH_take (i := 4) (v := .agg #[.int .i64 d1, .int .i64 d2]) rfl (by kernel_rfl) (by kernel_rfl) (by kernel_rfl) (fun _ _ _ h => h) (Or.inl ⟨by kernel_rfl, fun w hSw => ?_⟩) hS0 ?_
  · obtain ⟨e1, e2, e3, e4, e5⟩ := hSw; go_simp
  simp only [Act.put, List.getElem_toArray, List.getElem_cons_succ, List.getElem_cons_zero, List.setIfInBounds_toArray, List.set_cons_zero, List.set_cons_succ]
  refine wpAnyH_take (i := 5) (v := .tuple #[.agg #[.int .i64 p1, .int .i64 p2, .string ky], .bool B]) rfl (by kernel_rfl) (by kernel_rfl) (by kernel_rfl) (fun _ _ _ h => h) (Or.inl ⟨by kernel_rfl, fun w hSw => ?_⟩) hS0 ?_
  · obtain ⟨e1, e2, e3, e4, e5⟩ := hSw; go_simp
  simp only [Act.put, List.getElem_toArray, List.getElem_cons_succ, List.getElem_cons_zero, List.setIfInBounds_toArray, List.set_cons_zero, List.set_cons_succ]
  refine wpAnyH_take (i := 6) (v := .tuple #[.agg #[.int .i64 p1, .int .i64 p2, .string ky], .bool B]) rfl (by kernel_rfl) (by kernel_rfl) (by kernel_rfl) (fun _ _ _ h => h) (Or.inl ⟨by kernel_rfl, fun w hSw => ?_⟩) hS0 ?_
  · obtain ⟨e1, e2, e3, e4, e5⟩ := hSw; go_simp
  simp only [Act.put, List.getElem_toArray, List.getElem_cons_succ, List.getElem_cons_zero, List.setIfInBounds_toArray, List.set_cons_zero, List.set_cons_succ]
  refine wpAnyH_take (i := 7) (v := .agg #[.int .i64 p1, .int .i64 p2, .string ky]) rfl (by kernel_rfl) (by kernel_rfl) (by kernel_rfl) (fun _ _ _ h => h) (Or.inl ⟨by kernel_rfl, fun w hSw => ?_⟩) hS0 ?_
  · obtain ⟨e1, e2, e3, e4, e5⟩ := hSw; go_simp
  simp only [Act.put, List.getElem_toArray, List.getElem_cons_succ, List.getElem_cons_zero, List.setIfInBounds_toArray, List.set_cons_zero, List.set_cons_succ]
  refine wpAnyH_take (i := 8) (v := .bool B) rfl (by kernel_rfl) (by kernel_rfl) (by kernel_rfl) (fun _ _ _ h => h) (Or.inl ⟨by kernel_rfl, fun w hSw => ?_⟩) hS0 ?_
  · obtain ⟨e1, e2, e3, e4, e5⟩ := hSw; go_simp
  simp only [Act.put, List.getElem_toArray, List.getElem_cons_succ, List.getElem_cons_zero, List.setIfInBounds_toArray, List.set_cons_zero, List.set_cons_succ]
  refine wpAnyH_ready (rs := [9]) (by kernel_rfl) (by simp) ?_
  refine AllReadyH.cons rfl (fun K hK => ?_) AllReadyH.nil
  go_simp
  have HU1 : Hid (Below W.heap.size W (W.alloc (.cells #[.int .i64 0, .int .i64 0, .string ⟨#[]⟩] 113)).drew) := hid (((Below.refl _ W).alloc (Nat.le_refl _) _).drew)
  have hS1 := HS.out _ HU1.out
  refine hK.out _ _ hS1 (fun _ => ?_)
  clear hK K
  refine wpAnyH_ready (rs := [10]) (by kernel_rfl) (by simp) ?_
  refine AllReadyH.cons rfl (fun K hK => ?_) AllReadyH.nil
  go_simp
  have HU2 : Hid (Below W.heap.size W (W.alloc (.cells #[.int .i64 p1, .int .i64 p2, .string ky] 113)).drew) := hid (((Below.refl _ W).alloc (Nat.le_refl _) _).drew)
  have hS2 := HS.out _ HU2.out
  refine hK.out _ _ hS2 (fun _ => ?_)
  clear hK K
  refine wpAnyH_take (i := 11) (v := .bool B) rfl (by kernel_rfl) (by kernel_rfl) (by kernel_rfl) (fun _ _ _ h => h) (Or.inl ⟨by kernel_rfl, fun w hSw => ?_⟩) hS2 ?_
  · obtain ⟨e1, e2, e3, e4, e5⟩ := hSw; go_simp
  simp only [Act.put, List.getElem_toArray, List.getElem_cons_succ, List.getElem_cons_zero, List.setIfInBounds_toArray, List.set_cons_zero, List.set_cons_succ]
  refine wpAnyH_done (by kernel_rfl) ?_ _
  have hpb : (W.alloc (.cells #[.int .i64 p1, .int .i64 p2, .string ky] 113)).drew.heap[W.heap.size]? = some (.cells #[.int .i64 p1, .int .i64 p2, .string ky] 113 (0, 0)) := World.alloc_heap_new W _
  have hJ0 : J [] (W.alloc (.cells #[.int .i64 p1, .int .i64 p2, .string ky] 113)).drew := hJ.drew (hJ.alloc _ h0)
  have hP0 : PlB n₀ (W.alloc (.cells #[.int .i64 p1, .int .i64 p2, .string ky] 113)).drew mv S := hP.same (fun k hk es c he => (HU2.out.block k (by omega)).trans he)
  obtain ⟨W1, hW1⟩ : ∃ W1, W1 = (W.alloc (.cells #[.int .i64 p1, .int .i64 p2, .string ky] 113)).drew := ⟨_, rfl⟩
  have hsz : W.heap.size < W1.heap.size := by rw [hW1]; simp [World.drew]
  rw [← hW1] at hpb hJ0 hP0 hS2 ⊢
  obtain ⟨e1, e2, _, _, _⟩ := hS2
  have HRest : Hid (∃ (pre : List Dt) (c : Dt), pth S (d1, d2) = pre ++ pth S c ∧ B = (lk S c).isSome ∧ (lk S c).getD pl0 = ((p1, p2), ky) ∧ J pre W1) := hid ⟨[], (d1, d2), rfl, HBB.out, HQ.out, hJ0⟩
  have hW0 := hid hW1
  clear hW1 hS0 hS1 HU0 HU1 HU2 HS c1 c2 c3' c4' hP h0 hJ0
  generalize hpbn : W.heap.size = pb at *
  gi_wp2
  gi_loopw [5] (fun v wr => ∃ (pre : List Dt) (c : Dt) (B : Bool) (p1 p2 : Int) (ky : ByteArray), v = .bool B ∧ Hid (pth S (d1, d2) = pre ++ pth S c) ∧ Hid (B = (lk S c).isSome) ∧ Hid ((lk S c).getD pl0 = ((p1, p2), ky)) ∧ J pre wr ∧ wr.cell? ⟨bs, 0, none⟩ = some (.pointer (some ⟨t, o, none⟩)) ∧ wr.cell? ⟨t, o, none⟩ = some mv ∧ Hid (PlB n₀ wr mv S) ∧ wr.heap[pb]? = some (.cells #[.int .i64 p1, .int .i64 p2, .string ky] 113 (0, 0))) (fun v wr => upM S pb v wr)
  case atStart =>
    obtain ⟨pre, c, h1, h2, h3, h4⟩ := HRest.out
    exact ⟨pre, c, B, p1, p2, ky, rfl, hid h1, hid h2, hid h3, h4, e1, e2, hid hP0, hpb⟩
  case round =>
    clear HRest HQ HBB hP0 hpb e1 e2
    obtain ⟨pre, c, B, p1, p2, ky, rfl, hx, hb, hc, hJs, e1, e2, hP, hpb⟩ := hrel
    cases B with
    | false =>
      have hfin : Hid (pre = pth S (d1, d2)) := hid (by
        have : lk S c = none := by
          have := hb.out
          cases h : lk S c with
          | none => rfl
          | some q => rw [h] at this; cases this
        rw [hx.out, Tk.pth_none this, List.append_nil])
      clear hb hc hx
      gi_wp2
      refine ⟨fun _ h => (by cases h), ?_⟩
      gi_wp2
      refine bodyPost_end (results_none rfl _ _ _) rfl ?_
      exact ⟨⟨_, rfl⟩, .inl ⟨pre, hfin.out, hJs⟩⟩
    | true =>
      obtain ⟨q, hqc⟩ : ∃ q, lk S c = some q := Option.isSome_iff_exists.1 hb.out.symm
      have hqe : q = ((p1, p2), ky) := by have := hc.out; rw [hqc] at this; exact this
      subst hqe
      have hpc := hS.pth_some hqc
      have hdp : Dw (p1, p2) := by
        obtain ⟨s, hs, _, e⟩ := lk_some hqc
        have h1 := hW s hs
        have h2 : s.p = (p1, p2) := congrArg Prod.fst e
        rwa [h2] at h1
      have hx2 : Hid (pth S (d1, d2) = (pre ++ [(p1, p2)]) ++ pth S (p1, p2)) := hid (by rw [hx.out, hpc]; simp)
      have hlen : pre.length < (pth S (d1, d2)).length := by rw [hx2.out]; simp
      have f0 : wr.cell? ⟨pb, 0, none⟩ = some (.int .i64 p1) := by simp [World.cell?, hpb]
      have f1 : wr.cell? ⟨pb, 1, none⟩ = some (.int .i64 p2) := by simp [World.cell?, hpb]
      have hm : Hid (upM S pb (.bool true) wr = (pth S (p1, p2)).length + 1) := hid (by unfold upM; rw [f0, f1])
      obtain ⟨fn, tmps, assign, body, hy, hR⟩ := hY pre (p1, p2) wr hJs hlen
      have HYD := hid hdp
      clear hb hc hx hqc hpc hdp hlen
      gi_wp2
      refine ⟨fun h => by simp [Fence.wide] at h, ?_⟩
      refine hR.mono ?_
      rintro e W3 (⟨rfl, hJ3, hk3, hf3⟩ | ⟨rfl, hJx3, hf3⟩)
      · clear hR hy
        obtain ⟨u1, u2, ux, hq⟩ : ∃ u1 u2 ux, (lk S (p1, p2)).getD pl0 = ((u1, u2), ux) := ⟨_, _, _, rfl⟩
        obtain ⟨B2, hB⟩ : ∃ B, B = (lk S (p1, p2)).isSome := ⟨_, rfl⟩
        have hP3 : PlB n₀ W3 mv S := hP.out.same (fun k hk es c he => hk3.maps k hk es c he)
        have g1 := hk3.cell e1 (fun ho => (hob bs ho hbs).1 rfl)
        have g2 := hk3.cell e2 (fun ho => (hob t ho ht).2.2 rfl)
        have hpb3 : W3.heap[pb]? = some (.cells #[.int .i64 p1, .int .i64 p2, .string ky] 113 (0, 0)) := hk3.cells _ _ _ _ hpb (Or.inr rfl)
        have hl3 := (Array.getElem?_eq_some_iff.1 hpb3).1
        have HS : Hid (∀ V, V.heap[bs]? = W3.heap[bs]? → V.heap[t]? = W3.heap[t]? → PlB n₀ V mv S → (V.cell? ⟨bs, 0, none⟩ = some (.pointer (some ⟨t, o, none⟩)) ∧ V.cell? ⟨t, o, none⟩ = some mv ∧ (Instr.lookup 111 mv (.agg #[.int .i64 p1, .int .i64 p2]) true).run Tryz.prog V = .ok (.tuple #[.agg #[.int .i64 u1, .int .i64 u2, .string ux], .bool B2]) V)) := hid (fun V h1 h2 h3 => by
          refine ⟨by simp only [World.cell?, h1]; exact g1, by simp only [World.cell?, h2]; exact g2, ?_⟩
          have := h3.v.lookOk HYD.out
          rw [hq, ← hB] at this
          exact this)
        have hS0 := HS.out W3.drew rfl rfl (hP3.same (fun k hk es c he => he))
        have f0 : W3.drew.cell? ⟨pb, 0, none⟩ = some (.int .i64 p1) := by show W3.cell? ⟨pb, 0, none⟩ = _; simp [World.cell?, hpb3]
        have f1 : W3.drew.cell? ⟨pb, 1, none⟩ = some (.int .i64 p2) := by show W3.cell? ⟨pb, 1, none⟩ = _; simp [World.cell?, hpb3]
        have f2 : W3.drew.cell? ⟨pb, 2, none⟩ = some (.string ky) := by show W3.cell? ⟨pb, 2, none⟩ = _; simp [World.cell?, hpb3]
        have z0 : W3.drew.frozen? ⟨pb, 0, none⟩ = false := by show W3.frozen? ⟨pb, 0, none⟩ = _; simp [World.frozen?, hpb3]
        have z1 : W3.drew.frozen? ⟨pb, 1, none⟩ = false := by show W3.frozen? ⟨pb, 1, none⟩ = _; simp [World.frozen?, hpb3]
        have z2 : W3.drew.frozen? ⟨pb, 2, none⟩ = false := by show W3.frozen? ⟨pb, 2, none⟩ = _; simp [World.frozen?, hpb3]
        have F0 : W3.cell? ⟨pb, 0, none⟩ = some (.int .i64 p1) := f0
        have F1 : W3.cell? ⟨pb, 1, none⟩ = some (.int .i64 p2) := f1
        have F2 : W3.cell? ⟨pb, 2, none⟩ = some (.string ky) := f2
        have Z0 : W3.frozen? ⟨pb, 0, none⟩ = false := z0
        have Z1 : W3.frozen? ⟨pb, 1, none⟩ = false := z1
        have Z2 : W3.frozen? ⟨pb, 2, none⟩ = false := z2
        have HQ := hid hq
        have HB := hid hB
        have HN : Hid (∃ U, U = put3 W3 pb u1 u2 ux ∧ U.heap[pb]? = some (.cells #[.int .i64 u1, .int .i64 u2, .string ux] 113 (0, 0)) ∧ J (pre ++ [(p1, p2)]) U.drew ∧ PlB n₀ U.drew mv S ∧ U.drew.heap[bs]? = W3.heap[bs]? ∧ U.drew.heap[t]? = W3.heap[t]?) := hid (by
          have hg := put3_grown W3 pb u1 u2 ux
          refine ⟨_, rfl, put3_block hpb3, ?_, ?_, ?_, ?_⟩
          · exact hJ.drew (hJ _ _ _ (some pb) hJ3 hg (fun r e => by cases e; exact ⟨Nat.le_refl _, _, hpb3, Or.inr ⟨_, _, rfl⟩⟩))
          · exact hP3.same (fun k hk es c he => (hg.block k (Array.getElem?_eq_some_iff.1 he).1 (by simp; omega)).trans he)
          · exact hg.block bs (by omega) (by simp; omega)
          · exact hg.block t (by omega) (by simp; omega))
        clear hq hB
        gi_wp2
        refine wpIn_wide.2 ?_
        refine wp_region_held_drew (S := fun w' => w'.cell? ⟨bs, 0, none⟩ = some (.pointer (some ⟨t, o, none⟩)) ∧ w'.cell? ⟨t, o, none⟩ = some mv ∧ (Instr.lookup 111 mv (.agg #[.int .i64 p1, .int .i64 p2]) true).run Tryz.prog w' = .ok (.tuple #[.agg #[.int .i64 u1, .int .i64 u2, .string ux], .bool B2]) w') hmxo hS0 ?_
        intro _
        refine wpAnyH_take (i := 0) (v := .pointer (some ⟨t, o, none⟩)) rfl (by kernel_rfl) (by kernel_rfl) (by kernel_rfl) (fun _ _ _ h => h) (Or.inl ⟨by kernel_rfl, fun w hSw => ?_⟩) hS0 ?_
        · obtain ⟨e1, e2, e3⟩ := hSw; go_simp
        simp only [Act.put, List.getElem_toArray, List.getElem_cons_succ, List.getElem_cons_zero, List.setIfInBounds_toArray, List.set_cons_zero, List.set_cons_succ]
        refine wpAnyH_take (i := 1) (v := .pointer (some ⟨t, o, none⟩)) rfl (by kernel_rfl) (by kernel_rfl) (by kernel_rfl) (fun _ _ _ h => h) (Or.inl ⟨by kernel_rfl, fun w hSw => ?_⟩) hS0 ?_
        · obtain ⟨e1, e2, e3⟩ := hSw; go_simp
        simp only [Act.put, List.getElem_toArray, List.getElem_cons_succ, List.getElem_cons_zero, List.setIfInBounds_toArray, List.set_cons_zero, List.set_cons_succ]
        refine wpAnyH_take (i := 2) (v := .pointer (some ⟨t, o, none⟩)) rfl (by kernel_rfl) (by kernel_rfl) (by kernel_rfl) (fun _ _ _ h => h) (Or.inl ⟨by kernel_rfl, fun w hSw => ?_⟩) hS0 ?_
        · obtain ⟨e1, e2, e3⟩ := hSw; go_simp
        simp only [Act.put, List.getElem_toArray, List.getElem_cons_succ, List.getElem_cons_zero, List.setIfInBounds_toArray, List.set_cons_zero, List.set_cons_succ]
        refine wpAnyH_take (i := 3) (v := mv) rfl (by kernel_rfl) (by kernel_rfl) (by kernel_rfl) (fun _ _ _ h => h) (Or.inl ⟨by kernel_rfl, fun w hSw => ?_⟩) hS0 ?_
        · obtain ⟨e1, e2, e3⟩ := hSw; go_simp
        simp only [Act.put, List.getElem_toArray, List.getElem_cons_succ, List.getElem_cons_zero, List.setIfInBounds_toArray, List.set_cons_zero, List.set_cons_succ]
        refine wpAnyH_take (i := 4) (v := .pointer (some ⟨pb, 0, none⟩)) rfl (by kernel_rfl) (by kernel_rfl) (by kernel_rfl) (fun _ _ _ h => h) (Or.inl ⟨by kernel_rfl, fun w hSw => ?_⟩) hS0 ?_
        · obtain ⟨e1, e2, e3⟩ := hSw; go_simp
        simp only [Act.put, List.getElem_toArray, List.getElem_cons_succ, List.getElem_cons_zero, List.setIfInBounds_toArray, List.set_cons_zero, List.set_cons_succ]
        refine wpAnyH_ready (rs := [5]) (by kernel_rfl) (by simp) ?_
        refine AllReadyH.cons rfl (fun K hK => ?_) AllReadyH.nil
        go_simp
        refine hK.out _ _ hS0 (fun _ => ?_)
        clear hK K
        refine wpAnyH_take (i := 6) (v := .tuple #[.agg #[.int .i64 u1, .int .i64 u2, .string ux], .bool B2]) rfl (by kernel_rfl) (by kernel_rfl) (by kernel_rfl) (fun _ _ _ h => h) (Or.inl ⟨by kernel_rfl, fun w hSw => ?_⟩) hS0 ?_
        · obtain ⟨e1, e2, e3⟩ := hSw; go_simp
        simp only [Act.put, List.getElem_toArray, List.getElem_cons_succ, List.getElem_cons_zero, List.setIfInBounds_toArray, List.set_cons_zero, List.set_cons_succ]
        refine wpAnyH_take (i := 7) (v := .tuple #[.agg #[.int .i64 u1, .int .i64 u2, .string ux], .bool B2]) rfl (by kernel_rfl) (by kernel_rfl) (by kernel_rfl) (fun _ _ _ h => h) (Or.inl ⟨by kernel_rfl, fun w hSw => ?_⟩) hS0 ?_
        · obtain ⟨e1, e2, e3⟩ := hSw; go_simp
        simp only [Act.put, List.getElem_toArray, List.getElem_cons_succ, List.getElem_cons_zero, List.setIfInBounds_toArray, List.set_cons_zero, List.set_cons_succ]
        refine wpAnyH_take (i := 8) (v := .agg #[.int .i64 u1, .int .i64 u2, .string ux]) rfl (by kernel_rfl) (by kernel_rfl) (by kernel_rfl) (fun _ _ _ h => h) (Or.inl ⟨by kernel_rfl, fun w hSw => ?_⟩) hS0 ?_
        · obtain ⟨e1, e2, e3⟩ := hSw; go_simp
        simp only [Act.put, List.getElem_toArray, List.getElem_cons_succ, List.getElem_cons_zero, List.setIfInBounds_toArray, List.set_cons_zero, List.set_cons_succ]
        refine wpAnyH_take (i := 9) (v := .bool B2) rfl (by kernel_rfl) (by kernel_rfl) (by kernel_rfl) (fun _ _ _ h => h) (Or.inl ⟨by kernel_rfl, fun w hSw => ?_⟩) hS0 ?_
        · obtain ⟨e1, e2, e3⟩ := hSw; go_simp
        simp only [Act.put, List.getElem_toArray, List.getElem_cons_succ, List.getElem_cons_zero, List.setIfInBounds_toArray, List.set_cons_zero, List.set_cons_succ]
        refine wpAnyH_ready (rs := [10]) (by kernel_rfl) (by simp) ?_
        refine AllReadyH.cons rfl (fun K hK => ?_) AllReadyH.nil
        go_simp
        obtain ⟨U, hU, hUb, hUJ, hUP, hU1, hU2⟩ := HN.out
        have hS3 := HS.out U.drew hU1 hU2 hUP
        rw [show (((W3.setCell ⟨pb, 0, none⟩ (.int .i64 u1)).setCell ⟨pb, 1, none⟩ (.int .i64 u2)).setCell ⟨pb, 2, none⟩ (.string ux)).drew = U.drew from by rw [hU]; rfl]
        refine hK.out _ _ hS3 (fun _ => ?_)
        clear hK K
        refine wpAnyH_take (i := 11) (v := .bool B2) rfl (by kernel_rfl) (by kernel_rfl) (by kernel_rfl) (fun _ _ _ h => h) (Or.inl ⟨by kernel_rfl, fun w hSw => ?_⟩) hS3 ?_
        · obtain ⟨e1, e2, e3⟩ := hSw; go_simp
        simp only [Act.put, List.getElem_toArray, List.getElem_cons_succ, List.getElem_cons_zero, List.setIfInBounds_toArray, List.set_cons_zero, List.set_cons_succ]
        refine wpAnyH_done (by kernel_rfl) ?_ _
        gi_wp2
        go_roundw
        case rel => exact ⟨pre ++ [(p1, p2)], (p1, p2), B2, u1, u2, ux, rfl, hx2, HB, HQ, hUJ, hS3.1, hS3.2.1, hid hUP, hUb⟩
        case measure =>
          have e1 : U.drew.cell? ⟨pb, 0, none⟩ = some (.int .i64 u1) := by show U.cell? _ = _; simp [World.cell?, hUb]
          have e2 : U.drew.cell? ⟨pb, 1, none⟩ = some (.int .i64 u2) := by show U.cell? _ = _; simp [World.cell?, hUb]
          show upM S pb (.bool B2) U.drew < upM S pb (.bool true) wr
          rw [hm.out]
          unfold upM
          rw [e1, e2]
          cases B2 with
          | false => exact Nat.succ_pos _
          | true =>
            obtain ⟨q, hqc⟩ : ∃ q, lk S (p1, p2) = some q := Option.isSome_iff_exists.1 HB.out.symm
            have hqe : q = ((u1, u2), ux) := by have := HQ.out; rw [hqc] at this; exact this
            subst hqe
            have hpc := hS.pth_some hqc
            rw [hpc]
            exact Nat.lt_succ_self _
      · clear hR hy
        gi_wp2
        refine bodyPost_end (results_none rfl _ _ _) rfl ?_
        exact ⟨⟨_, rfl⟩, .inr ⟨pre ++ [(p1, p2)], ⟨_, hx2.out.symm⟩, hJx3⟩⟩
end
end Go.Proofs.YtnmdcdphpcpojaaGreatDoor
