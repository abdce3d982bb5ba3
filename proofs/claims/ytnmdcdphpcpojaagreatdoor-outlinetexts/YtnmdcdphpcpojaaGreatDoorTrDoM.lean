/- An entry in memory; lift in one form; what is kept behind several steps. -/
import Derived.Test.YtnmdcdphpcpojaaGreatDoorTrUp
import Derived.Test.YtnmdcdphpcpojaaGreatDoorTrLift
namespace Go.Proofs.YtnmdcdphpcpojaaGreatDoor
section
set_option linter.unusedVariables false
set_option linter.unusedSimpArgs false
open Go.RowKit Go.Shelf

attribute [local go_sem] Oper.semAt_some

/-- What up's closure does, where its boxes and the places lie below. -/
theorem up_seq {w : World} {n n₀ t o bs bb : Nat} {own : Nat → Prop} (hob : ∀ k, own k → k < n₀ → k ≠ bs ∧ k ≠ bb ∧ k ≠ t) {mv : Value} {S : List Sp} {r : Dt → Nat} (hS : Tk S r) (hW : Ws S) {d : Dt} (hd : Dw d)
    (hn0 : n₀ ≤ w.heap.size) (hbs : bs < n₀) (hbb : bb < n₀) (ht : t < n₀) (c1 : w.cell? ⟨bs, 0, none⟩ = some (.pointer (some ⟨t, o, none⟩))) (c2 : w.cell? ⟨t, o, none⟩ = some mv) (c3 : w.cell? ⟨bb, 0, none⟩ = some (.int .i64 d.1)) (c4 : w.cell? ⟨bb, 1, none⟩ = some (.int .i64 d.2)) (hP : PlB n₀ w mv S) :
    SeqU n Tryz.prog 93 #[.pointer (some ⟨bs, 0, none⟩), .pointer (some ⟨bb, 0, none⟩)] (fun x : Dt => #[Value.agg #[.int .i64 x.1, .int .i64 x.2]]) (KU n₀ own) (fun xs => xs = pth S d) (fun pre => pre <+: pth S d) (pth S d).length w := fun l J Jx W hb hJ hJx hY h0 =>
  up_in n l n₀ t o bs bb own hob mv S r hS hW d hd J Jx W (Nat.le_trans hn0 hb.size) hbs hbb ht ((hb.cell (p := ⟨bs, 0, none⟩) (cell_in c1)).trans c1) ((hb.cell (p := ⟨t, o, none⟩) (cell_in c2)).trans c2) ((hb.cell (p := ⟨bb, 0, none⟩) (cell_in c3)).trans c3) ((hb.cell (p := ⟨bb, 1, none⟩) (cell_in c4)).trans c4) (hP.same (fun k hk es c he => (hb.block k (by omega)).trans he)) hJ hJx hY h0

theorem at_other {w w' : World} {k q : Nat} {o : Obj} {row : Option Nat} (h : w.heap[k]? = some o) (hg : w.grownBy w' row) (hr : ∀ r, row = some r → q ≤ r) (hk : k < q) : w'.heap[k]? = some o :=
  (hg.block k (Array.getElem?_eq_some_iff.1 h).1 (fun e => by have := hr k e.symm; omega)).trans h

theorem below_grown {n₀ q : Nat} {w A B : World} {row : Option Nat} (h : Below n₀ w A) (hg : A.grownBy B row) (hr : ∀ r, row = some r → q ≤ r) (hq : n₀ ≤ q) (hn : n₀ ≤ w.heap.size) : Below n₀ w B :=
  h.grown hg (Nat.le_trans hn h.size) (fun j hj => by have := hr j hj; omega)

set_option maxRecDepth 100000 in
set_option maxHeartbeats 4000000 in
theorem tabove_any (t o : Nat) (mv : Value) (S : List Sp) (r : Dt → Nat) (hS : Tk S r) (hW : Ws S) (b d : Dt) (hd : Dw d) (w : World) (hc : w.cell? ⟨t, o, none⟩ = some mv) (h : PlV w mv S) :
    Calls Tryz.prog 153 #[.pointer (some ⟨t, o, none⟩), dv b, dv d] w fun e w' => e = .returned (.bool (decide (b ∈ pth S d))) ∧ Below w.heap.size w w' := by
  obtain ⟨b1, b2⟩ := b
  obtain ⟨d1, d2⟩ := d
  have hmx : Tryz.prog.follows .mixedOrders = true := by kernel_rfl
  have ht := cell_in hc
  obtain ⟨W0, hW0⟩ : ∃ W0, W0 = (((w.alloc (.cells #[.int .i64 b1, .int .i64 b2] 24)).alloc (.cells #[.int .i64 d1, .int .i64 d2] 24)).alloc (.cells #[.bool false] 4)) := ⟨_, rfl⟩
  have hsz : W0.heap.size = w.heap.size + 3 := by rw [hW0]; simp
  have hU := up_made t o (d1, d2) W0
  refine (callsIn_wide (n := 3)).1 ?_
  refine callsIn_of_wp_marks Tryz.func153 rfl trivial ?_ rfl
  simp only [Tryz.ntmps153, List.size_toArray, List.length_cons, List.length_nil, Nat.reduceAdd, Nat.reduceSub, Array.replicate_succ, Array.replicate_zero, List.push_toArray, List.append_toArray, List.nil_append, List.cons_append]
  gi_wp2_with (refine ⟨trivial, ?_⟩; gi_at_call 56; rw [← hW0]; refine (callsIn_wide.2 hU).mono ?_; rintro e w' ⟨rfl, rfl⟩)
  obtain ⟨W1, hW1⟩ : ∃ W1, W1 = (((((w.alloc (.cells #[.int .i64 b1, .int .i64 b2] 24)).alloc (.cells #[.int .i64 d1, .int .i64 d2] 24)).alloc (.cells #[.bool false] 4)).alloc (.cells #[.pointer (some ⟨t, o, none⟩)] 117)).alloc (.cells #[.int .i64 d1, .int .i64 d2] 24)) := ⟨_, rfl⟩
  rw [← hW1]
  have hs1 : W1.heap.size = w.heap.size + 5 := by rw [hW1]; simp
  have hB1 : Below w.heap.size w W1 := by rw [hW1]; exact (((((Below.refl _ w).alloc (Nat.le_refl _) _).alloc (by simp) _).alloc (by simp; omega) _).alloc (by simp; omega) _).alloc (by simp; omega) _
  have hb0 : W1.heap[w.heap.size]? = some (.cells #[.int .i64 b1, .int .i64 b2] 24 (0, 0)) := by
    rw [hW1]
    exact (Below.heap_alloc _ _ _ (by simp; omega)).trans ((Below.heap_alloc _ _ _ (by simp; omega)).trans ((Below.heap_alloc _ _ _ (by simp; omega)).trans ((Below.heap_alloc _ _ _ (by simp)).trans (World.alloc_heap_new _ _))))
  have hb2 : W1.heap[w.heap.size + 1 + 1]? = some (.cells #[.bool false] 4 (0, 0)) := by
    rw [hW1]
    have := World.alloc_heap_new ((w.alloc (.cells #[.int .i64 b1, .int .i64 b2] 24)).alloc (.cells #[.int .i64 d1, .int .i64 d2] 24)) (.cells #[.bool false] 4)
    rw [World.size_alloc, World.size_alloc] at this
    exact (Below.heap_alloc _ _ _ (by simp)).trans ((Below.heap_alloc _ _ _ (by simp)).trans this)
  have hb3 : W1.heap[w.heap.size + 1 + 1 + 1]? = some (.cells #[.pointer (some ⟨t, o, none⟩)] 117 (0, 0)) := by
    rw [hW1]
    have := World.alloc_heap_new (((w.alloc (.cells #[.int .i64 b1, .int .i64 b2] 24)).alloc (.cells #[.int .i64 d1, .int .i64 d2] 24)).alloc (.cells #[.bool false] 4)) (.cells #[.pointer (some ⟨t, o, none⟩)] 117)
    rw [World.size_alloc, World.size_alloc, World.size_alloc] at this
    exact (Below.heap_alloc _ _ _ (by simp)).trans this
  have hb4 : W1.heap[w.heap.size + 1 + 1 + 1 + 1]? = some (.cells #[.int .i64 d1, .int .i64 d2] 24 (0, 0)) := by
    rw [hW1]
    have := World.alloc_heap_new ((((w.alloc (.cells #[.int .i64 b1, .int .i64 b2] 24)).alloc (.cells #[.int .i64 d1, .int .i64 d2] 24)).alloc (.cells #[.bool false] 4)).alloc (.cells #[.pointer (some ⟨t, o, none⟩)] 117)) (.cells #[.int .i64 d1, .int .i64 d2] 24)
    rw [World.size_alloc, World.size_alloc, World.size_alloc, World.size_alloc] at this
    exact this
  clear hW1 hU hW0 hsz
  have hseq : SeqU (3 - 1) Tryz.prog 93 #[.pointer (some ⟨w.heap.size + 1 + 1 + 1, 0, none⟩), .pointer (some ⟨w.heap.size + 1 + 1 + 1 + 1, 0, none⟩)] (fun x : Dt => #[Value.agg #[.int .i64 x.1, .int .i64 x.2]]) (KU (w.heap.size + 5) (fun k => w.heap.size + 5 ≤ k)) (fun xs => xs = pth S (d1, d2)) (fun pre => pre <+: pth S (d1, d2)) (pth S (d1, d2)).length W1 :=
    up_seq (t := t) (o := o) (mv := mv) (fun k h1 h2 => by omega) hS hW hd (by omega) (by omega) (by omega) (by omega) (by simp [World.cell?, hb3]) ((hB1.cell (p := ⟨t, o, none⟩) ht).trans hc) (by simp [World.cell?, hb4]) (by simp [World.cell?, hb4]) (by
      rcases h.below hB1 with h | ⟨m, e, h⟩
      · exact Or.inl h
      · exact Or.inr ⟨m, e, by have := h.lt; omega, h⟩)
  refine range_up (α := Dt) (gf := 93) rfl (enters_of Tryz.func93 (by kernel_rfl) rfl) hseq (fun h k => h.trans k) (fun W l o o' hl ho hc _ => KU.put W l o o' (by omega) ho hc) (Below.refl _ _) (fun _ => rfl)
    (fun pre W => w.heap.size + 5 ≤ W.heap.size ∧ (b1, b2) ∉ pre ∧ W.heap[w.heap.size]? = some (.cells #[.int .i64 b1, .int .i64 b2] 24 (0, 0)) ∧ W.heap[w.heap.size + 1 + 1]? = some (.cells #[.bool false] 4 (0, 0)) ∧ Below w.heap.size w W)
    (fun c pre W => c = .ret ∧ (b1, b2) ∈ pre ∧ W.heap[w.heap.size + 1 + 1]? = some (.cells #[.bool true] 4 (0, 0)) ∧ Below w.heap.size w W) ?own ?ownx ⟨by omega, by simp, hb0, hb2, hB1⟩
    (fun x a' W => ∃ u, a' = { tmps := #[.pointer (some ⟨t, o, none⟩), .agg #[.int .i64 b1, .int .i64 b2], .agg #[.int .i64 d1, .int .i64 d2], undef, .pointer (some ⟨w.heap.size, 0, none⟩), .pointer (some ⟨w.heap.size + 1, 0, none⟩), .pointer (some ⟨w.heap.size + 1 + 1, 0, none⟩), .pointer (some ⟨u, 0, none⟩), .pointer (some ⟨t, o, none⟩), .agg #[.int .i64 d1, .int .i64 d2], .func (.func 93) #[] #[.pointer (some ⟨w.heap.size + 1 + 1 + 1, 0, none⟩), .pointer (some ⟨w.heap.size + 1 + 1 + 1 + 1, 0, none⟩)], .agg #[.int .i64 x.1, .int .i64 x.2], undef, undef, undef], defers := [] } ∧ W.heap[u]? = some (.cells #[.int .i64 x.1, .int .i64 x.2] 24 (0, 0)) ∧ w.heap.size + 5 ≤ u) ?ownax ?assign ?body ?done ?stop
  case own =>
    rintro s A B row ⟨hz, h0, h1, h2, h3⟩ hg hrow
    have hr : ∀ r, row = some r → w.heap.size + 5 ≤ r := fun r e => by have := (hrow r e).1; omega
    exact ⟨Nat.le_trans hz hg.size, h0, at_other h1 hg hr (by omega), at_other h2 hg hr (by omega), below_grown h3 hg hr (by omega) (Nat.le_refl _)⟩
  case ownx =>
    rintro c s A B row ⟨h0, h1, h2, h3⟩ hg hrow
    have hr : ∀ r, row = some r → w.heap.size + 5 ≤ r := fun r e => by have := (hrow r e).1; omega
    exact ⟨h0, h1, at_other h2 hg hr (by omega), below_grown h3 hg hr (by omega) (Nat.le_refl _)⟩
  case ownax =>
    rintro x a' _ A B row ⟨u, e, h1, h2⟩ hg hrow
    refine ⟨u, e, (hg.block u (Array.getElem?_eq_some_iff.1 h1).1 (fun e' => ?_)).trans h1, h2⟩
    obtain ⟨_, ob, hob, ht'⟩ := hrow u e'.symm
    rw [h1] at hob
    cases hob
    rcases ht' with ht' | ⟨cs, fz, ht'⟩
    · cases ht'
    · cases ht'
  case assign =>
    rintro l pre x W K ⟨hz, h0, h1, h2, h3⟩ hK
    have hg := World.grownBy_alloc W (.cells #[.int .i64 x.1, .int .i64 x.2] 24) none
    have hn : ∀ r, (none : Option Nat) = some r → w.heap.size + 5 ≤ r := fun r e => by cases e
    have hfin := hid (hK { tmps := #[.pointer (some ⟨t, o, none⟩), .agg #[.int .i64 b1, .int .i64 b2], .agg #[.int .i64 d1, .int .i64 d2], undef, .pointer (some ⟨w.heap.size, 0, none⟩), .pointer (some ⟨w.heap.size + 1, 0, none⟩), .pointer (some ⟨w.heap.size + 1 + 1, 0, none⟩), .pointer (some ⟨W.heap.size, 0, none⟩), .pointer (some ⟨t, o, none⟩), .agg #[.int .i64 d1, .int .i64 d2], .func (.func 93) #[] #[.pointer (some ⟨w.heap.size + 1 + 1 + 1, 0, none⟩), .pointer (some ⟨w.heap.size + 1 + 1 + 1 + 1, 0, none⟩)], .agg #[.int .i64 x.1, .int .i64 x.2], undef, undef, undef], defers := [] } (W.alloc (.cells #[.int .i64 x.1, .int .i64 x.2] 24)) (KeepsFrom.of_grownBy hg (fun j e => by cases e)) (KU.below ((Below.refl _ W).alloc (Nat.le_refl _) _) hz) ⟨by simp; omega, h0, at_other h1 hg hn (by omega), at_other h2 hg hn (by omega), below_grown h3 hg hn (by omega) (Nat.le_refl _)⟩ ⟨W.heap.size, rfl, World.alloc_heap_new W _, hz⟩)
    clear hK h1 h2 h3 hg hn
    gi_wp2
    exact hfin.out
  case body =>
    rintro l' pre x a' W ⟨hz, h0, h1, h2, h3⟩ ⟨u, rfl, hu, hul⟩ hlen
    rw [hs1]
    obtain ⟨x1, x2⟩ := x
    have e0 : W.cell? ⟨u, 0, none⟩ = some (.int .i64 x1) := by simp [World.cell?, hu]
    have e1 : W.cell? ⟨u, 1, none⟩ = some (.int .i64 x2) := by simp [World.cell?, hu]
    have f0 : W.cell? ⟨w.heap.size, 0, none⟩ = some (.int .i64 b1) := by simp [World.cell?, h1]
    have f1 : W.cell? ⟨w.heap.size, 1, none⟩ = some (.int .i64 b2) := by simp [World.cell?, h1]
    have g0 : W.cell? ⟨w.heap.size + 1 + 1, 0, none⟩ = some (.bool false) := by simp [World.cell?, h2]
    have z0 : W.frozen? ⟨w.heap.size + 1 + 1, 0, none⟩ = false := by simp [World.frozen?, h2]
    by_cases hx : (x1, x2) = (b1, b2)
    · obtain ⟨rfl, rfl⟩ : x1 = b1 ∧ x2 = b2 := by simpa using hx
      have hg := grownBy_setCell W (w.heap.size + 1 + 1) 0 (.bool true)
      have hfin : Hid (KeepsFrom (w.heap.size + 5) W (W.setCell ⟨w.heap.size + 1 + 1, 0, none⟩ (.bool true)) ∧ (x1, x2) ∈ pre ++ [(x1, x2)] ∧ (W.setCell ⟨w.heap.size + 1 + 1, 0, none⟩ (.bool true)).heap[w.heap.size + 1 + 1]? = some (.cells #[.bool true] 4 (0, 0)) ∧ Below w.heap.size w (W.setCell ⟨w.heap.size + 1 + 1, 0, none⟩ (.bool true))) := hid ⟨KeepsFrom.of_grownBy hg (fun j e => by cases e; omega), by simp, set_blk (j := 0) h2 (.bool true), h3.setCell (p := ⟨w.heap.size + 1 + 1, 0, none⟩) (by simp; omega) _⟩
      clear h1 h2 h3 hg hu hx
      gi_wp2
      exact ⟨hfin.out.1, rfl, hfin.out.2⟩
    · have hfin : Hid (KeepsFrom (w.heap.size + 5) W W ∧ KU (w.heap.size + 5) (fun k => w.heap.size + 5 ≤ k) W W ∧ w.heap.size + 5 ≤ W.heap.size ∧ (b1, b2) ∉ pre ++ [(x1, x2)] ∧ W.heap[w.heap.size]? = some (.cells #[.int .i64 b1, .int .i64 b2] 24 (0, 0)) ∧ W.heap[w.heap.size + 1 + 1]? = some (.cells #[.bool false] 4 (0, 0)) ∧ Below w.heap.size w W) := hid ⟨KeepsFrom.refl _ _, KU.below (Below.refl _ _) hz, hz, fun hm => by
        rcases List.mem_append.1 hm with hm | hm
        · exact h0 hm
        · exact hx (List.mem_singleton.1 hm).symm, h1, h2, h3⟩
      clear h1 h2 h3 hu
      by_cases hx1 : x1 = b1
      · subst hx1
        have hx2 : (x2 == b2) = false := by
          rw [beq_eq_false_iff_ne]
          intro e; exact hx (by rw [e])
        clear hx
        gi_wp2
        exact hfin.out
      · have hx2 : (x1 == b1) = false := by simpa using hx1
        clear hx hx1
        gi_wp2
        exact hfin.out
  case done =>
    rintro D ys W hD hS' ⟨hz, h0, h1, h2, h3⟩ hK
    rw [hS'] at h0
    have hr : Hid (decide ((b1, b2) ∈ pth S (d1, d2)) = false) := hid (by simpa using h0)
    have g0 : W.cell? ⟨w.heap.size + 1 + 1, 0, none⟩ = some (.bool false) := by simp [World.cell?, h2]
    have z0 : W.frozen? ⟨w.heap.size + 1 + 1, 0, none⟩ = false := by simp [World.frozen?, h2]
    have hb := set_blk (j := 0) h2 (.bool false)
    have hKs : (W.setCell ⟨w.heap.size + 1 + 1, 0, none⟩ (.bool false)).heap[D]? = some (.deferred (some [])) := (grownBy_setCell W (w.heap.size + 1 + 1) 0 (.bool false)).block D (Array.getElem?_eq_some_iff.1 hK).1 (by simp; omega) |>.trans hK
    have hg := grownBy_putObj' (W.setCell ⟨w.heap.size + 1 + 1, 0, none⟩ (.bool false)) D (.deferred none)
    have hn : ∀ r, some D = some r → w.heap.size + 5 ≤ r := fun r e => by cases e; omega
    have p2 := at_other hb hg hn (by omega)
    have p3 : ((W.setCell ⟨w.heap.size + 1 + 1, 0, none⟩ (.bool false)).putObj D (.deferred none)).cell? ⟨w.heap.size + 1 + 1, 0, none⟩ = some (.bool false) := by simp [World.cell?, p2]
    have hfin := hid (below_grown (h3.setCell (p := ⟨w.heap.size + 1 + 1, 0, none⟩) (by simp; omega) (.bool false)) hg hn (by omega) (Nat.le_refl _))
    clear h0 h1 h2 h3 hb p2 hg hn
    gi_wp2
    refine ⟨by simp, .inl ⟨_, _, rfl, run_takeDeferred hKs, ?_⟩⟩
    refine ⟨.bool false, ?_, by rw [hr.out], hfin.out⟩
    simp [results, Tryz.results153, go_sem, p3]
  case stop =>
    rintro D c pre W hD hS' ⟨rfl, h1, h2, h3⟩ hK
    have hr : Hid (decide ((b1, b2) ∈ pth S (d1, d2)) = true) := hid (by
      obtain ⟨q, hq⟩ := hS'
      rw [decide_eq_true_eq, ← hq]
      exact List.mem_append_left _ h1)
    have hg := grownBy_putObj' W D (.deferred none)
    have hn : ∀ r, some D = some r → w.heap.size + 5 ≤ r := fun r e => by cases e; omega
    have p2 := at_other h2 hg hn (by omega)
    have p3 : (W.putObj D (.deferred none)).cell? ⟨w.heap.size + 1 + 1, 0, none⟩ = some (.bool true) := by simp [World.cell?, p2]
    have hfin := hid (below_grown h3 hg hn (by omega) (Nat.le_refl _))
    clear h1 h2 h3 p2 hg hn
    gi_wp2
    refine ⟨by simp, .inl ⟨_, _, rfl, run_takeDeferred hK, ?_⟩⟩
    refine ⟨.bool true, ?_, by rw [hr.out], hfin.out⟩
    simp [results, Tryz.results153, go_sem, p3]
end

section
set_option linter.unusedVariables false
set_option linter.unusedSimpArgs false
open Go.RowKit

/-- A move. -/
def mvv (m : Mv) : Value := .agg #[.int .i64 m.id.1, .int .i64 m.id.2, .int .i64 m.time, .int .i64 m.block.1, .int .i64 m.block.2, .int .i64 m.parent.1, .int .i64 m.parent.2, .string m.key]

theorem takes_no {S : List Sp} {m : Mv} (h : holdsB S m.parent = false) : takes S m = false := by
  unfold holdsB at h
  unfold takes
  rw [h]
  rfl

/-- A block that isn't there is above nothing. -/
theorem takes_made {S : List Sp} {r : Dt → Nat} (hS : Tk S r) {m : Mv} (he : ¬ isEnd m.block) (h : holdsB S m.parent = true) (hb : (lk S m.block).isSome = false) : takes S m = decide (m.block = m.id) := by
  have hn : lk S m.block = none := by
    cases e : lk S m.block with
    | none => rfl
    | some q => rw [e] at hb; cases hb
  have h1 : m.block ≠ m.parent := fun e => by
    unfold holdsB at h
    rw [← e, hn] at h
    simp only [Bool.or_eq_true, decide_eq_true_eq, Option.isSome_none, Bool.false_eq_true, or_false] at h
    exact he h
  have h2 : m.block ∉ pth S m.parent := fun e => by
    rcases hS.pth_there _ _ _ e with h' | ⟨s, hs, h'⟩
    · exact he h'
    · exact lk_none.1 hn s hs h'
  unfold holdsB at h
  unfold takes
  rw [h, hb]
  simp [h1, h2]

theorem takes_there {S : List Sp} {m : Mv} (h : holdsB S m.parent = true) (hb : (lk S m.block).isSome = true) : takes S m = (decide (m.block ≠ m.parent) && !(decide (m.block ∈ pth S m.parent))) := by
  unfold holdsB at h
  unfold takes
  rw [h, hb]
  simp

set_option maxRecDepth 100000 in
set_option maxHeartbeats 4000000 in
theorem takes_any (t o : Nat) (mv : Value) (S : List Sp) (r : Dt → Nat) (hS : Tk S r) (hW : Ws S) (m : Mv) (he : ¬ isEnd m.block) (hdp : Dw m.parent) (hdb : Dw m.block) (w : World) (hc : w.cell? ⟨t, o, none⟩ = some mv) (h : PlV w mv S) :
    Calls Tryz.prog 121 #[.pointer (some ⟨t, o, none⟩), mvv m] w fun e w' => e = .returned (.bool (takes S m)) ∧ Below w.heap.size w w' := by
  obtain ⟨⟨i1, i2⟩, tm, ⟨b1, b2⟩, ⟨p1, p2⟩, ky⟩ := m
  obtain ⟨W0, hW0⟩ : ∃ W0, W0 = w.alloc (.cells #[.int .i64 i1, .int .i64 i2, .int .i64 tm, .int .i64 b1, .int .i64 b2, .int .i64 p1, .int .i64 p2, .string ky] 139) := ⟨_, rfl⟩
  have hB0 : Below w.heap.size w W0 := by rw [hW0]; exact (Below.refl _ w).alloc (Nat.le_refl _) _
  have hb1 : W0.heap[w.heap.size]? = some (.cells #[.int .i64 i1, .int .i64 i2, .int .i64 tm, .int .i64 b1, .int .i64 b2, .int .i64 p1, .int .i64 p2, .string ky] 139 (0, 0)) := by rw [hW0]; exact World.alloc_heap_new w _
  have hl1 := (Array.getElem?_eq_some_iff.1 hb1).1
  have HC : Hid (∀ W, Below W0.heap.size W0 W → W.cell? ⟨w.heap.size, 0, none⟩ = some (.int .i64 i1) ∧ W.cell? ⟨w.heap.size, 1, none⟩ = some (.int .i64 i2) ∧ W.cell? ⟨w.heap.size, 3, none⟩ = some (.int .i64 b1) ∧ W.cell? ⟨w.heap.size, 4, none⟩ = some (.int .i64 b2) ∧ W.cell? ⟨w.heap.size, 5, none⟩ = some (.int .i64 p1) ∧ W.cell? ⟨w.heap.size, 6, none⟩ = some (.int .i64 p2)) := hid (fun W hb => by
    have g1 := (hb.block _ hl1).trans hb1
    exact ⟨by simp [World.cell?, g1], by simp [World.cell?, g1], by simp [World.cell?, g1], by simp [World.cell?, g1], by simp [World.cell?, g1], by simp [World.cell?, g1]⟩)
  have hat : ∀ W, Below W0.heap.size W0 W → W.cell? ⟨t, o, none⟩ = some mv ∧ PlV W mv S := fun W hb => by
    have hbw := hB0.trans (hb.mono hB0.size)
    exact ⟨(hbw.cell (p := ⟨t, o, none⟩) (cell_in hc)).trans hc, h.below hbw⟩
  have hH0 := hat W0 (Below.refl _ _)
  have hH : Calls Tryz.prog 151 #[.pointer (some ⟨t, o, none⟩), .agg #[.int .i64 p1, .int .i64 p2]] W0 fun e w' => e = .returned (.bool (holdsB S (p1, p2))) ∧ Hid (Below W0.heap.size W0 w') := (holds_any t o mv S (p1, p2) hdp W0 hH0.1 hH0.2).mono (fun e w' ⟨h1, h2⟩ => ⟨h1, hid h2⟩)
  have HT : Hid (∀ W, Below W0.heap.size W0 W → Calls Tryz.prog 152 #[.pointer (some ⟨t, o, none⟩), .agg #[.int .i64 b1, .int .i64 b2]] W fun e w' => e = .returned (.bool (lk S (b1, b2)).isSome) ∧ Hid (Below W0.heap.size W0 w')) := hid (fun W hb => (there_any t o mv S (b1, b2) hdb W (hat W hb).1 (hat W hb).2).mono (fun e w' ⟨h1, h2⟩ => ⟨h1, hid (hb.trans (h2.mono hb.size))⟩))
  have HA : Hid (∀ W, Below W0.heap.size W0 W → Calls Tryz.prog 153 #[.pointer (some ⟨t, o, none⟩), .agg #[.int .i64 b1, .int .i64 b2], .agg #[.int .i64 p1, .int .i64 p2]] W fun e w' => e = .returned (.bool (decide ((b1, b2) ∈ pth S (p1, p2)))) ∧ Hid (Below W0.heap.size W0 w')) := hid (fun W hb => (tabove_any t o mv S r hS hW (b1, b2) (p1, p2) hdp W (hat W hb).1 (hat W hb).2).mono (fun e w' ⟨h1, h2⟩ => ⟨h1, hid (hb.trans (h2.mono hb.size))⟩))
  have t1 : Hid (holdsB S (p1, p2) = false → takes S ⟨(i1, i2), tm, (b1, b2), (p1, p2), ky⟩ = false) := hid (fun h => takes_no h)
  have t2 : Hid (holdsB S (p1, p2) = true → (lk S (b1, b2)).isSome = false → takes S ⟨(i1, i2), tm, (b1, b2), (p1, p2), ky⟩ = decide ((b1, b2) = (i1, i2))) := hid (fun h k => takes_made hS he h k)
  have t3 : Hid (holdsB S (p1, p2) = true → (lk S (b1, b2)).isSome = true → takes S ⟨(i1, i2), tm, (b1, b2), (p1, p2), ky⟩ = (decide ((b1, b2) ≠ (p1, p2)) && !(decide ((b1, b2) ∈ pth S (p1, p2))))) := hid (fun h k => takes_there h k)
  obtain ⟨c0, c1, c3, c4, c5, c6⟩ := HC.out W0 (Below.refl _ _)
  have HW := hid hW0
  show Calls Tryz.prog 121 #[.pointer (some ⟨t, o, none⟩), .agg #[.int .i64 i1, .int .i64 i2, .int .i64 tm, .int .i64 b1, .int .i64 b2, .int .i64 p1, .int .i64 p2, .string ky]] w _
  clear hW0 hb1 hl1 hat hH0 hc h he hdp hdb hS
  generalize takes S ⟨(i1, i2), tm, (b1, b2), (p1, p2), ky⟩ = T at *
  generalize holdsB S (p1, p2) = A at *
  generalize (lk S (b1, b2)).isSome = B at *
  generalize decide ((b1, b2) ∈ pth S (p1, p2)) = U at *
  cases A with
  | false =>
    have hr := hid (t1.out rfl)
    clear t1 t2 t3
    go_enter Tryz.func121, Tryz.ntmps121
    go_wp2_with (go_at_call 151; rw [← HW.out]; refine hH.mono ?_; rintro e w1 ⟨rfl, HB1⟩; obtain ⟨c0, c1, c3, c4, c5, c6⟩ := HC.out _ HB1.out)
    go_ret
    exact ⟨by rw [hr.out]; rfl, hB0.trans (HB1.out.mono hB0.size)⟩
  | true =>
    cases B with
    | false =>
      have hr := hid (t2.out rfl rfl)
      clear t1 t2 t3
      by_cases hx : (b1, b2) = (i1, i2)
      · obtain ⟨rfl, rfl⟩ : b1 = i1 ∧ b2 = i2 := by simpa using hx
        have hr2 : Hid (T = true) := hid (by rw [hr.out]; simp)
        clear hx
        go_enter Tryz.func121, Tryz.ntmps121
        go_wp2_with (first | (have hq := HB1; go_at_call 152; refine (HT.out _ HB1.out).mono ?_; rintro e w2 ⟨rfl, HB2⟩; obtain ⟨g0, g1, g3, g4, g5, g6⟩ := HC.out _ HB2.out) | (go_at_call 151; rw [← HW.out]; refine hH.mono ?_; rintro e w1 ⟨rfl, HB1⟩; obtain ⟨c0, c1, c3, c4, c5, c6⟩ := HC.out _ HB1.out))
        go_ret
        exact ⟨by rw [hr2.out]; rfl, hB0.trans (HB2.out.mono hB0.size)⟩
      · have hr2 : Hid (T = false) := hid (by rw [hr.out]; exact decide_eq_false hx)
        by_cases hx1 : b1 = i1
        · subst hx1
          have hx2 : (b2 == i2) = false := by
            rw [beq_eq_false_iff_ne]
            intro e; exact hx (by rw [e])
          clear hx
          go_enter Tryz.func121, Tryz.ntmps121
          go_wp2_with (first | (have hq := HB1; go_at_call 152; refine (HT.out _ HB1.out).mono ?_; rintro e w2 ⟨rfl, HB2⟩; obtain ⟨g0, g1, g3, g4, g5, g6⟩ := HC.out _ HB2.out) | (go_at_call 151; rw [← HW.out]; refine hH.mono ?_; rintro e w1 ⟨rfl, HB1⟩; obtain ⟨c0, c1, c3, c4, c5, c6⟩ := HC.out _ HB1.out))
          go_ret
          exact ⟨by rw [hr2.out]; rfl, hB0.trans (HB2.out.mono hB0.size)⟩
        · have hx2 : (b1 == i1) = false := by simpa using hx1
          clear hx hx1
          go_enter Tryz.func121, Tryz.ntmps121
          go_wp2_with (first | (have hq := HB1; go_at_call 152; refine (HT.out _ HB1.out).mono ?_; rintro e w2 ⟨rfl, HB2⟩; obtain ⟨g0, g1, g3, g4, g5, g6⟩ := HC.out _ HB2.out) | (go_at_call 151; rw [← HW.out]; refine hH.mono ?_; rintro e w1 ⟨rfl, HB1⟩; obtain ⟨c0, c1, c3, c4, c5, c6⟩ := HC.out _ HB1.out))
          go_ret
          exact ⟨by rw [hr2.out]; rfl, hB0.trans (HB2.out.mono hB0.size)⟩
    | true =>
      have hr := hid (t3.out rfl rfl)
      clear t1 t2 t3
      by_cases hx : (b1, b2) = (p1, p2)
      · obtain ⟨rfl, rfl⟩ : b1 = p1 ∧ b2 = p2 := by simpa using hx
        have hr2 : Hid (T = false) := hid (by rw [hr.out]; simp)
        clear hx
        go_enter Tryz.func121, Tryz.ntmps121
        go_wp2_with (first | (have hq := HB2; go_at_call 153; refine (HA.out _ HB2.out).mono ?_; rintro e w3 ⟨rfl, HB3⟩) | (have hq := HB1; go_at_call 152; refine (HT.out _ HB1.out).mono ?_; rintro e w2 ⟨rfl, HB2⟩; obtain ⟨g0, g1, g3, g4, g5, g6⟩ := HC.out _ HB2.out) | (go_at_call 151; rw [← HW.out]; refine hH.mono ?_; rintro e w1 ⟨rfl, HB1⟩; obtain ⟨c0, c1, c3, c4, c5, c6⟩ := HC.out _ HB1.out))
        go_ret
        exact ⟨by rw [hr2.out]; rfl, hB0.trans (HB2.out.mono hB0.size)⟩
      · have hr2 : Hid (T = !U) := hid (by rw [hr.out, decide_eq_true hx]; rfl)
        by_cases hx1 : b1 = p1
        · subst hx1
          have hx2 : (b2 == p2) = false := by
            rw [beq_eq_false_iff_ne]
            intro e; exact hx (by rw [e])
          clear hx
          go_enter Tryz.func121, Tryz.ntmps121
          go_wp2_with (first | (have hq := HB2; go_at_call 153; refine (HA.out _ HB2.out).mono ?_; rintro e w3 ⟨rfl, HB3⟩) | (have hq := HB1; go_at_call 152; refine (HT.out _ HB1.out).mono ?_; rintro e w2 ⟨rfl, HB2⟩; obtain ⟨g0, g1, g3, g4, g5, g6⟩ := HC.out _ HB2.out) | (go_at_call 151; rw [← HW.out]; refine hH.mono ?_; rintro e w1 ⟨rfl, HB1⟩; obtain ⟨c0, c1, c3, c4, c5, c6⟩ := HC.out _ HB1.out))
          go_ret
          exact ⟨by rw [hr2.out]; rfl, hB0.trans (HB3.out.mono hB0.size)⟩
        · have hx2 : (b1 == p1) = false := by simpa using hx1
          clear hx hx1
          go_enter Tryz.func121, Tryz.ntmps121
          go_wp2_with (first | (have hq := HB2; go_at_call 153; refine (HA.out _ HB2.out).mono ?_; rintro e w3 ⟨rfl, HB3⟩) | (have hq := HB1; go_at_call 152; refine (HT.out _ HB1.out).mono ?_; rintro e w2 ⟨rfl, HB2⟩; obtain ⟨g0, g1, g3, g4, g5, g6⟩ := HC.out _ HB2.out) | (go_at_call 151; rw [← HW.out]; refine hH.mono ?_; rintro e w1 ⟨rfl, HB1⟩; obtain ⟨c0, c1, c3, c4, c5, c6⟩ := HC.out _ HB1.out))
          go_ret
          exact ⟨by rw [hr2.out]; rfl, hB0.trans (HB3.out.mono hB0.size)⟩
end

section
set_option linter.unusedVariables false
open Go.RowKit

/-- An entry: the move, whether it took effect, where the block lay. -/
def EN (w : World) (g : Nat) (m : Mv) (tk : Bool) (q : Pl) : Prop := w.heap[g]? = some (.cells #[.int .i64 m.id.1, .int .i64 m.id.2, .int .i64 m.time, .int .i64 m.block.1, .int .i64 m.block.2, .int .i64 m.parent.1, .int .i64 m.parent.2, .string m.key, .bool tk, .int .i64 q.1.1, .int .i64 q.1.2, .string q.2] 141 (0, 0))

theorem lift_id {S : List Sp} {b : Dt} (h : lk S b = none) : lift S b = S := by
  unfold lift
  rw [List.filter_eq_self]
  intro x hx
  simpa using lk_none.1 h x hx

theorem Bn.lt {w w' : World} {B : Nat → Prop} (hBs : ∀ j, B j → j < w.heap.size) (hz : w.heap.size ≤ w'.heap.size) : ∀ j, Bn w w' B j → j < w'.heap.size := fun j hj => by
  rcases hj with h | h
  · have := hBs j h; omega
  · exact h.2

theorem Bn.not {w w' : World} {B : Nat → Prop} {t : Nat} (hBt : ¬ B t) (ht : t < w.heap.size) : ¬ Bn w w' B t := fun h => by
  rcases h with h | h
  · exact hBt h
  · omega

theorem Bn.trans {w V X : World} {B : Nat → Prop} (h1 : w.heap.size ≤ V.heap.size) (h2 : V.heap.size ≤ X.heap.size) : ∀ j, Bn V X (Bn w V B) j → Bn w X B j := fun j hj => by
  rcases hj with (h | h) | h
  · exact Or.inl h
  · exact Or.inr ⟨h.1, by omega⟩
  · exact Or.inr ⟨by omega, h.2⟩

theorem KB.trans {w V X : World} {B : Nat → Prop} {t g : Nat} (h1 : KB w V (fun j => B j ∨ j = g) t) (h2 : KB V X (Bn w V B) t) : KB w X (fun j => B j ∨ j = g) t :=
  ⟨Nat.le_trans h1.size h2.size, fun j hj hB hjt => (h2.keep j (Nat.lt_of_lt_of_le hj h1.size) (fun h => by
    rcases h with h | h
    · exact hB (Or.inl h)
    · omega) hjt).trans (h1.keep j hj hB hjt), h1.sm.trans h2.sm⟩

theorem lift_any (t : Nat) (lg fd dn pl kd : Value) (S : List Sp) (B : Nat → Prop) (b : Dt) (w : World) (hT : TB w t lg fd dn pl kd) (hS : SB w pl kd S B) (hBt : ¬ B t) (hBs : ∀ j, B j → j < w.heap.size) (hn : (S.map Sp.b).Nodup) (hdw : ∀ x ∈ S, Dw x.b) (hW : Ws S) (hdb : Dw b) (hlen : S.length ≤ 1000000) :
    Calls Tryz.prog 122 #[.pointer (some ⟨t, 3, none⟩), dv b] w fun e w' => e = .returned (.tuple #[]) ∧ ∃ pl' kd', TB w' t lg fd dn pl' kd' ∧ SB w' pl' kd' (lift S b) (Bn w w' B) ∧ KB w w' B t := by
  cases hl : lk S b with
  | none =>
    refine (lift_no t lg fd dn pl kd S b w hT hS.v hdb hl).mono ?_
    rintro e w' ⟨rfl, hb⟩
    rw [lift_id hl]
    have htw : t < w.heap.size := (Array.getElem?_eq_some_iff.1 hT).1
    exact ⟨rfl, pl, kd, (hb.block t htw).trans hT, (hS.kept (fun j hj => hb.block j (hBs j hj))).mono (fun j h => Or.inl h), ⟨hb.size, fun j hj _ _ => hb.block j hj, Sm.b hb⟩⟩
  | some q =>
    obtain ⟨s, hs, rfl, _⟩ := lk_some hl
    rcases hS with ⟨_, _, h3⟩ | ⟨m, k, f, rfl, rfl, h3, h4, h5, h6, h7, h8⟩
    · subst h3; simp at hs
    · exact lift_yes t m k f lg fd dn S B s w hT h3 h4 h5 h6 h7 h8 hBt hBs hn hs hdw (hW s hs) hlen
end
end Go.Proofs.YtnmdcdphpcpojaaGreatDoor
