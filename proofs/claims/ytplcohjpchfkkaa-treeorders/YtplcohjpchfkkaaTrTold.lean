/- Took, Kids. -/
import Derived.Test.YtplcohjpchfkkaaGBase
import Derived.Test.YtplcohjpchfkkaaTrParent
namespace Go.Proofs.Ytplcohjpchfkkaa
section
open Go.RowKit
open Go.Sort (grow)

theorem run_eql_nil (w : World) (a : Option Addr) (l c : Nat) : (binOp BinOp.eql 56 (Value.slice a l c) (Value.slice none 0 0)).run Try.prog w = .ok (.bool a.isNone) w := by
  simp [binOp, go_sem, run_equal_slice_nil w 56 24 a l c Try.underlying56]

set_option maxHeartbeats 1000000 in
theorem rwith_any {a : Option Addr} {n c : Nat} {A : List Dt} {w : World} (d : Dt) (hs : PS w a n c A) (hn : n ≤ 1000000) (hA : VM A) : Calls Try.prog 46 #[.slice a n c, dv d] w (Ans w (vwith A d)) := by
  obtain ⟨d1, d2⟩ := d
  have b0 : RowKit.Below w.heap.size w (w.alloc (.cells #[.int .i64 d1, .int .i64 d2] 24)) := (Below.refl _ w).alloc (Nat.le_refl _) _
  have hM := rmay_any (d1, d2) (w.alloc (.cells #[.int .i64 d1, .int .i64 d2] 24))
  have k0 : (w.alloc (.cells #[.int .i64 d1, .int .i64 d2] 24)).cell? ⟨w.heap.size, 0, none⟩ = some (.int .i64 d1) := by go_simp
  have k1 : (w.alloc (.cells #[.int .i64 d1, .int .i64 d2] 24)).cell? ⟨w.heap.size, 1, none⟩ = some (.int .i64 d2) := by go_simp
  have hk : w.heap.size < (w.alloc (.cells #[.int .i64 d1, .int .i64 d2] 24)).heap.size := by simp
  by_cases hd : mayd (d1, d2) = true
  · have hv : Hid (vwith A (d1, d2) = vjoin A [(d1, d2)]) := hid (by unfold vwith; rw [if_pos hd])
    have hone := hid (vm_one hd)
    rw [hd] at hM
    go_enter Try.func46, Try.ntmps46
    go_wp2_with (first
      | (go_at_call 65; have hq := f0; refine (rjoin_any (A := A) (B := [(d1, d2)]) (hsW.below ((Below.refl _ w1).alloc (Nat.le_refl _) _)) hn (ps_one w1 (d1, d2)) (by omega) hA hone.out).mono ?_; rintro e w2 h2; obtain ⟨a2, c2, rfl, hp2, hb2⟩ := h2.ans)
      | (go_at_call 64; refine hM.mono ?_; rintro e w1 ⟨rfl, hF1⟩; have f0 := (hF1.below.cell (p := ⟨w.heap.size, 0, none⟩) hk).trans k0; have f1 := (hF1.below.cell (p := ⟨w.heap.size, 1, none⟩) hk).trans k1; have hbw := below2 b0 hF1.below; have hsW := hs.below hbw))
    go_ret
    rw [hv.out]
    have hbb : RowKit.Below w.heap.size w w2 := below2 hbw (below2 ((Below.refl _ w1).alloc (Nat.le_refl _) _) hb2)
    exact ⟨a2, c2, rfl, hp2, hbb⟩
  · have hv : Hid (vwith A (d1, d2) = A) := hid (by unfold vwith; rw [if_neg hd])
    have hd' : mayd (d1, d2) = false := by simpa using hd
    rw [hd'] at hM
    have HS := hid hs
    clear hs
    go_enter Try.func46, Try.ntmps46
    go_wp2_with (first
      | (go_at_call 64; refine hM.mono ?_; rintro e w1 ⟨rfl, hF1⟩; have hbw := below2 b0 hF1.below))
    go_ret
    rw [hv.out]
    exact ⟨a, c, by rw [HS.out.len]; rfl, by rw [HS.out.len]; exact HS.out.below hbw, hbw⟩

theorem made_snoc {l : List Dt} {k : Nat} (h : k < l.length) (hk : k < 50) : made (l.take (k + 1)) = vwith (made (l.take k)) l[k] := by
  unfold made
  rw [List.take_take, List.take_take, Nat.min_eq_right (by omega), Nat.min_eq_right (by omega), take_snoc h, List.foldl_append]
  rfl

theorem made_end {l : List Dt} {k : Nat} (h : k = l.length ∨ k = 50) : made (l.take k) = made l := by
  unfold made
  rw [List.take_take]
  rcases h with rfl | rfl
  · rw [show l.take (min 50 l.length) = l.take 50 by rw [List.take_eq_take_iff]; omega]
  · simp

end

section
set_option linter.unusedVariables false
set_option linter.unusedSimpArgs false
open Go.RowKit

/-- Did a move take effect? -/
def tookB (l : List Mv) (d : Dt) : Bool := (List.range l.length).any (fun i => match l[i]? with
  | some m => decide (m.id = d) && takes (run (l.take i)) m
  | none => false)

theorem tookB_iff {l : List Mv} {d : Dt} : tookB l d = true ↔ tookP l d := by
  unfold tookB tookP
  rw [List.any_eq_true]
  constructor
  · rintro ⟨i, hi, h⟩
    rw [List.mem_range] at hi
    rw [List.getElem?_eq_getElem hi] at h
    simp only [Bool.and_eq_true, decide_eq_true_eq] at h
    exact ⟨i, l[i], List.getElem?_eq_getElem hi, h.1, h.2⟩
  · rintro ⟨i, m, h1, h2, h3⟩
    have hi := (List.getElem?_eq_some_iff.1 h1).1
    refine ⟨i, List.mem_range.2 hi, ?_⟩
    rw [h1]
    simp [h2, h3]

theorem tookB_at {l : List Mv} (h : (l.map Mv.id).Nodup) {i : Nat} {m : Mv} (hi : l[i]? = some m) : tookB l m.id = takes (run (l.take i)) m := by
  cases hb : takes (run (l.take i)) m with
  | true => exact tookB_iff.2 ⟨i, m, hi, rfl, hb⟩
  | false =>
    cases hc : tookB l m.id with
    | false => rfl
    | true =>
      obtain ⟨j, x, h1, h2, h3⟩ := tookB_iff.1 hc
      have hj := (List.getElem?_eq_some_iff.1 h1).1
      have : j = i := by
        refine (List.getElem?_inj (l := l.map Mv.id) (by simpa using hj) h).1 ?_
        rw [List.getElem?_map, List.getElem?_map, h1, hi]
        simp [h2]
      subst this
      rw [h1] at hi
      cases hi
      rw [h3] at hb
      cases hb

theorem tookB_no {l : List Mv} {d : Dt} (h : ∀ m ∈ l, m.id ≠ d) : tookB l d = false := by
  cases hc : tookB l d with
  | false => rfl
  | true =>
    obtain ⟨j, x, h1, h2, h3⟩ := tookB_iff.1 hc
    exact absurd h2 (h x (List.mem_of_getElem? h1))

set_option maxRecDepth 100000 in
set_option maxHeartbeats 4000000 in
theorem took_no (t : Nat) (l : List Mv) (A : Nat → Prop) (d : Dt) (w : World) (h : TT w t l A) (hd : Dw d) (hn : ∀ m ∈ l, m.id ≠ d) :
    Calls Try.prog 18 #[.pointer (some ⟨t, 0, none⟩), dv d] w fun e w' => e = .returned (.bool false) ∧ ∃ A', TT w' t l A' ∧ KA w w' A A' := by
  obtain ⟨d1, d2⟩ := d
  have hmxo : Try.prog.follows .mixedOrders = true := by kernel_rfl
  obtain ⟨W0, hW0⟩ : ∃ W0, W0 = w.alloc (.cells #[.int .i64 d1, .int .i64 d2] 24) := ⟨_, rfl⟩
  have hB0 : Below w.heap.size w W0 := by rw [hW0]; exact (Below.refl _ w).alloc (Nat.le_refl _) _
  have hb0 : W0.heap[w.heap.size]? = some (.cells #[.int .i64 d1, .int .i64 d2] 24 (0, 0)) := by rw [hW0]; exact World.alloc_heap_new w _
  have hl0 := (Array.getElem?_eq_some_iff.1 hb0).1
  have hAH : ¬ A w.heap.size := fun e => by have := h.lt _ e; omega
  have hTT := h.below hB0
  have HN := (now_tt hTT).mono (R' := fun e W1 => e = .returned (.pointer (some ⟨t, 3, none⟩)) ∧ ∃ fd, (W1.drew.cell? ⟨t, 1, none⟩ = some fd ∧ W1.drew.cell? ⟨w.heap.size, 0, none⟩ = some (.int .i64 d1) ∧ W1.drew.cell? ⟨w.heap.size, 1, none⟩ = some (.int .i64 d2) ∧ (Instr.lookup 62 fd (.agg #[.int .i64 d1, .int .i64 d2]) false).run Try.prog W1.drew = .ok (.pointer none) W1.drew) ∧ Hid (∃ A', TT W1.drew t l A' ∧ KA w W1.drew A A')) (fun e W1 hh => by
    obtain ⟨e1, gs, S, lg, fd, pl, kd, fl, B, A', h1, h2, h3, h4, h5⟩ := hh
    have c0 : W1.drew.heap[w.heap.size]? = _ := (h5.keep w.heap.size hl0 hAH).trans hb0
    have htb := h1.tb
    unfold TB at htb
    have htb' : W1.drew.heap[t]? = _ := htb
    have h1' : TT W1.drew t l A' := (h1.tt h2 h3 h4).same (Nat.le_refl _) (fun j _ => rfl)
    refine ⟨e1, fd, ⟨by simp only [World.cell?, htb']; rfl, by simp only [World.cell?, c0]; rfl, by simp only [World.cell?, c0]; rfl, ?_⟩, hid ⟨A', h1', ?_⟩⟩
    · rcases TT.look h1 h3 h4 hd with ⟨_, hlk⟩ | ⟨i, g, m, e1, e2, e3, _⟩
      · exact hlk W1.drew (fun j _ => rfl)
      · exact absurd e3 (hn m (List.mem_of_getElem? e2))
    · have := KA.pre h.lt hB0 h5
      exact ⟨this.size, this.keep, this.new, this.sm⟩)
  have HW := hid hW0
  clear hW0 hB0 hb0 hl0 hAH hTT h
  go_enter Try.func18, Try.ntmps18
  go_wp2_with (go_at_call 39; rw [← HW.out]; refine HN.mono ?_; rintro e W1 ⟨rfl, fd, hS4, HF⟩)
  refine wp_region_held_drew (S := fun w' => w'.cell? ⟨t, 1, none⟩ = some fd ∧ w'.cell? ⟨w.heap.size, 0, none⟩ = some (.int .i64 d1) ∧ w'.cell? ⟨w.heap.size, 1, none⟩ = some (.int .i64 d2) ∧ (Instr.lookup 62 fd (.agg #[.int .i64 d1, .int .i64 d2]) false).run Try.prog w' = .ok (.pointer none) w') hmxo hS4 ?_
  intro _
  refine wpAnyH_take (i := 0) (v := .pointer (some ⟨t, 0, none⟩)) rfl (by kernel_rfl) (by kernel_rfl) (by kernel_rfl) (fun _ _ _ h => h) (Or.inl ⟨by kernel_rfl, fun w hSw => ?_⟩) hS4 ?_
  · obtain ⟨e1, e2, e3, e4⟩ := hSw; go_simp
  simp only [Act.put, List.getElem_toArray, List.getElem_cons_succ, List.getElem_cons_zero, List.setIfInBounds_toArray, List.set_cons_zero, List.set_cons_succ]
  refine wpAnyH_take (i := 1) (v := .pointer (some ⟨t, 0, none⟩)) rfl (by kernel_rfl) (by kernel_rfl) (by kernel_rfl) (fun _ _ _ h => h) (Or.inl ⟨by kernel_rfl, fun w hSw => ?_⟩) hS4 ?_
  · obtain ⟨e1, e2, e3, e4⟩ := hSw; go_simp
  simp only [Act.put, List.getElem_toArray, List.getElem_cons_succ, List.getElem_cons_zero, List.setIfInBounds_toArray, List.set_cons_zero, List.set_cons_succ]
  refine wpAnyH_take (i := 2) (v := .pointer (some ⟨t, 1, none⟩)) rfl (by kernel_rfl) (by kernel_rfl) (by kernel_rfl) (fun _ _ _ h => h) (Or.inl ⟨by kernel_rfl, fun w hSw => ?_⟩) hS4 ?_
  · obtain ⟨e1, e2, e3, e4⟩ := hSw; go_simp
  simp only [Act.put, List.getElem_toArray, List.getElem_cons_succ, List.getElem_cons_zero, List.setIfInBounds_toArray, List.set_cons_zero, List.set_cons_succ]
  refine wpAnyH_take (i := 3) (v := fd) rfl (by kernel_rfl) (by kernel_rfl) (by kernel_rfl) (fun _ _ _ h => h) (Or.inl ⟨by kernel_rfl, fun w hSw => ?_⟩) hS4 ?_
  · obtain ⟨e1, e2, e3, e4⟩ := hSw; go_simp
  simp only [Act.put, List.getElem_toArray, List.getElem_cons_succ, List.getElem_cons_zero, List.setIfInBounds_toArray, List.set_cons_zero, List.set_cons_succ]
  refine wpAnyH_take (i := 4) (v := .agg #[.int .i64 d1, .int .i64 d2]) rfl (by kernel_rfl) (by kernel_rfl) (by kernel_rfl) (fun _ _ _ h => h) (Or.inl ⟨by kernel_rfl, fun w hSw => ?_⟩) hS4 ?_
  · obtain ⟨e1, e2, e3, e4⟩ := hSw; go_simp
  simp only [Act.put, List.getElem_toArray, List.getElem_cons_succ, List.getElem_cons_zero, List.setIfInBounds_toArray, List.set_cons_zero, List.set_cons_succ]
  refine wpAnyH_take (i := 5) (v := .pointer none) rfl (by kernel_rfl) (by kernel_rfl) (by kernel_rfl) (fun _ _ _ h => h) (Or.inl ⟨by kernel_rfl, fun w hSw => ?_⟩) hS4 ?_
  · obtain ⟨e1, e2, e3, e4⟩ := hSw; go_simp
  simp only [Act.put, List.getElem_toArray, List.getElem_cons_succ, List.getElem_cons_zero, List.setIfInBounds_toArray, List.set_cons_zero, List.set_cons_succ]
  refine wpAnyH_take (i := 6) (v := .pointer none) rfl (by kernel_rfl) (by kernel_rfl) (by kernel_rfl) (fun _ _ _ h => h) (Or.inl ⟨by kernel_rfl, fun w hSw => ?_⟩) hS4 ?_
  · obtain ⟨e1, e2, e3, e4⟩ := hSw; go_simp
  simp only [Act.put, List.getElem_toArray, List.getElem_cons_succ, List.getElem_cons_zero, List.setIfInBounds_toArray, List.set_cons_zero, List.set_cons_succ]
  refine wpAnyH_done (by kernel_rfl) ?_ _
  clear hS4 HN
  go_wp2
  go_ret
  exact ⟨rfl, HF.out⟩

set_option maxRecDepth 100000 in
set_option maxHeartbeats 4000000 in
theorem took_yes (t : Nat) (l : List Mv) (A : Nat → Prop) (d : Dt) (w : World) (h : TT w t l A) (hd : Dw d) (i : Nat) (m : Mv) (him : l[i]? = some m) (hmd : m.id = d) (Bv : Bool) (hBv : Bv = takes (run (l.take i)) m) :
    Calls Try.prog 18 #[.pointer (some ⟨t, 0, none⟩), dv d] w fun e w' => e = .returned (.bool Bv) ∧ ∃ A', TT w' t l A' ∧ KA w w' A A' := by
  obtain ⟨d1, d2⟩ := d
  have hmxo : Try.prog.follows .mixedOrders = true := by kernel_rfl
  obtain ⟨W0, hW0⟩ : ∃ W0, W0 = w.alloc (.cells #[.int .i64 d1, .int .i64 d2] 24) := ⟨_, rfl⟩
  have hB0 : Below w.heap.size w W0 := by rw [hW0]; exact (Below.refl _ w).alloc (Nat.le_refl _) _
  have hb0 : W0.heap[w.heap.size]? = some (.cells #[.int .i64 d1, .int .i64 d2] 24 (0, 0)) := by rw [hW0]; exact World.alloc_heap_new w _
  have hl0 := (Array.getElem?_eq_some_iff.1 hb0).1
  have hAH : ¬ A w.heap.size := fun e => by have := h.lt _ e; omega
  have hTT := h.below hB0
  have HN := (now_tt hTT).mono (R' := fun e W1 => e = .returned (.pointer (some ⟨t, 3, none⟩)) ∧ ∃ fd, ∃ g, (W1.drew.cell? ⟨t, 1, none⟩ = some fd ∧ W1.drew.cell? ⟨w.heap.size, 0, none⟩ = some (.int .i64 d1) ∧ W1.drew.cell? ⟨w.heap.size, 1, none⟩ = some (.int .i64 d2) ∧ (Instr.lookup 62 fd (.agg #[.int .i64 d1, .int .i64 d2]) false).run Try.prog W1.drew = .ok (.pointer (some ⟨g, 0, none⟩)) W1.drew) ∧ W1.drew.cell? ⟨g, 8, none⟩ = some (.bool Bv) ∧ Hid (∃ A', TT W1.drew t l A' ∧ KA w W1.drew A A')) (fun e W1 hh => by
    obtain ⟨e1, gs, S, lg, fd, pl, kd, fl, B, A', h1, h2, h3, h4, h5⟩ := hh
    have c0 : W1.drew.heap[w.heap.size]? = _ := (h5.keep w.heap.size hl0 hAH).trans hb0
    have htb := h1.tb
    unfold TB at htb
    have htb' : W1.drew.heap[t]? = _ := htb
    have h1' : TT W1.drew t l A' := (h1.tt h2 h3 h4).same (Nat.le_refl _) (fun j _ => rfl)
    rcases TT.look h1 h3 h4 hd with ⟨hn, _⟩ | ⟨j, g, x, e2, e3, e4, hlk⟩
    · exact absurd hmd (hn m (List.mem_of_getElem? him))
    · have hij : j = i := by
        refine (List.getElem?_inj (l := l.map Mv.id) (by simpa using (List.getElem?_eq_some_iff.1 e3).1) h1.log.ids).1 ?_
        rw [List.getElem?_map, List.getElem?_map, e3, him]
        simp [e4, hmd]
      subst hij
      obtain rfl : x = m := by rw [e3] at him; exact Option.some.inj him
      obtain ⟨tk, o, hE, hx⟩ := h1.en j g x e2 e3
      have hE' : W1.drew.heap[g]? = _ := hE
      have htk := (hx (List.getElem?_eq_some_iff.1 e3).1).1
      refine ⟨e1, fd, g, ⟨by simp only [World.cell?, htb']; rfl, by simp only [World.cell?, c0]; rfl, by simp only [World.cell?, c0]; rfl, hlk W1.drew (fun j _ => rfl)⟩, by simp only [World.cell?, hE']; rw [hBv, ← htk]; rfl, hid ⟨A', h1', ?_⟩⟩
      have := KA.pre h.lt hB0 h5
      exact ⟨this.size, this.keep, this.new, this.sm⟩)
  clear him hmd hBv
  have HW := hid hW0
  clear hW0 hB0 hb0 hl0 hAH hTT h
  go_enter Try.func18, Try.ntmps18
  go_wp2_with (go_at_call 39; rw [← HW.out]; refine HN.mono ?_; rintro e W1 ⟨rfl, fd, g, hS4, ce, HF⟩)
  refine wp_region_held_drew (S := fun w' => w'.cell? ⟨t, 1, none⟩ = some fd ∧ w'.cell? ⟨w.heap.size, 0, none⟩ = some (.int .i64 d1) ∧ w'.cell? ⟨w.heap.size, 1, none⟩ = some (.int .i64 d2) ∧ (Instr.lookup 62 fd (.agg #[.int .i64 d1, .int .i64 d2]) false).run Try.prog w' = .ok (.pointer (some ⟨g, 0, none⟩)) w') hmxo hS4 ?_
  intro _
  refine wpAnyH_take (i := 0) (v := .pointer (some ⟨t, 0, none⟩)) rfl (by kernel_rfl) (by kernel_rfl) (by kernel_rfl) (fun _ _ _ h => h) (Or.inl ⟨by kernel_rfl, fun w hSw => ?_⟩) hS4 ?_
  · obtain ⟨e1, e2, e3, e4⟩ := hSw; go_simp
  simp only [Act.put, List.getElem_toArray, List.getElem_cons_succ, List.getElem_cons_zero, List.setIfInBounds_toArray, List.set_cons_zero, List.set_cons_succ]
  refine wpAnyH_take (i := 1) (v := .pointer (some ⟨t, 0, none⟩)) rfl (by kernel_rfl) (by kernel_rfl) (by kernel_rfl) (fun _ _ _ h => h) (Or.inl ⟨by kernel_rfl, fun w hSw => ?_⟩) hS4 ?_
  · obtain ⟨e1, e2, e3, e4⟩ := hSw; go_simp
  simp only [Act.put, List.getElem_toArray, List.getElem_cons_succ, List.getElem_cons_zero, List.setIfInBounds_toArray, List.set_cons_zero, List.set_cons_succ]
  refine wpAnyH_take (i := 2) (v := .pointer (some ⟨t, 1, none⟩)) rfl (by kernel_rfl) (by kernel_rfl) (by kernel_rfl) (fun _ _ _ h => h) (Or.inl ⟨by kernel_rfl, fun w hSw => ?_⟩) hS4 ?_
  · obtain ⟨e1, e2, e3, e4⟩ := hSw; go_simp
  simp only [Act.put, List.getElem_toArray, List.getElem_cons_succ, List.getElem_cons_zero, List.setIfInBounds_toArray, List.set_cons_zero, List.set_cons_succ]
  refine wpAnyH_take (i := 3) (v := fd) rfl (by kernel_rfl) (by kernel_rfl) (by kernel_rfl) (fun _ _ _ h => h) (Or.inl ⟨by kernel_rfl, fun w hSw => ?_⟩) hS4 ?_
  · obtain ⟨e1, e2, e3, e4⟩ := hSw; go_simp
  simp only [Act.put, List.getElem_toArray, List.getElem_cons_succ, List.getElem_cons_zero, List.setIfInBounds_toArray, List.set_cons_zero, List.set_cons_succ]
  refine wpAnyH_take (i := 4) (v := .agg #[.int .i64 d1, .int .i64 d2]) rfl (by kernel_rfl) (by kernel_rfl) (by kernel_rfl) (fun _ _ _ h => h) (Or.inl ⟨by kernel_rfl, fun w hSw => ?_⟩) hS4 ?_
  · obtain ⟨e1, e2, e3, e4⟩ := hSw; go_simp
  simp only [Act.put, List.getElem_toArray, List.getElem_cons_succ, List.getElem_cons_zero, List.setIfInBounds_toArray, List.set_cons_zero, List.set_cons_succ]
  refine wpAnyH_take (i := 5) (v := .pointer (some ⟨g, 0, none⟩)) rfl (by kernel_rfl) (by kernel_rfl) (by kernel_rfl) (fun _ _ _ h => h) (Or.inl ⟨by kernel_rfl, fun w hSw => ?_⟩) hS4 ?_
  · obtain ⟨e1, e2, e3, e4⟩ := hSw; go_simp
  simp only [Act.put, List.getElem_toArray, List.getElem_cons_succ, List.getElem_cons_zero, List.setIfInBounds_toArray, List.set_cons_zero, List.set_cons_succ]
  refine wpAnyH_take (i := 6) (v := .pointer (some ⟨g, 0, none⟩)) rfl (by kernel_rfl) (by kernel_rfl) (by kernel_rfl) (fun _ _ _ h => h) (Or.inl ⟨by kernel_rfl, fun w hSw => ?_⟩) hS4 ?_
  · obtain ⟨e1, e2, e3, e4⟩ := hSw; go_simp
  simp only [Act.put, List.getElem_toArray, List.getElem_cons_succ, List.getElem_cons_zero, List.setIfInBounds_toArray, List.set_cons_zero, List.set_cons_succ]
  refine wpAnyH_done (by kernel_rfl) ?_ _
  clear hS4 HN
  go_wp2
  go_ret
  exact ⟨rfl, HF.out⟩

theorem took_tt (t : Nat) (l : List Mv) (A : Nat → Prop) (d : Dt) (w : World) (h : TT w t l A) (hd : Dw d) :
    Calls Try.prog 18 #[.pointer (some ⟨t, 0, none⟩), dv d] w fun e w' => e = .returned (.bool (tookB l d)) ∧ ∃ A', TT w' t l A' ∧ KA w w' A A' := by
  by_cases hn : ∀ m ∈ l, m.id ≠ d
  · rw [tookB_no hn]
    exact took_no t l A d w h hd hn
  · obtain ⟨m, hm, e⟩ : ∃ m ∈ l, m.id = d := by
      refine Classical.byContradiction fun hc => hn fun m hm e => hc ⟨m, hm, e⟩
    obtain ⟨i, hi⟩ := List.mem_iff_getElem?.1 hm
    exact took_yes t l A d w h hd i m hi e _ (by rw [← e]; exact tookB_at h.log.1.ids hi)

theorem run_eql_nilD (w : World) (a : Option Addr) (l c : Nat) : (binOp BinOp.eql 29 (Value.slice a l c) (Value.slice none 0 0)).run Try.prog w = .ok (.bool a.isNone) w := by
  simp [binOp, go_sem, run_equal_slice_nil w 29 24 a l c Try.underlying29]

theorem tclone_any {a : Option Addr} {n c : Nat} {L : List Dt} {w : World} (hs : PS w a n c L) (hn : n ≤ 1000000) : Calls Try.prog 40 #[.slice a n c] w (Gives w L) := by
  have hq := run_eql_nilD
  have hl := hs.len
  cases a with
  | none =>
    obtain ⟨rfl, rfl⟩ := hs.nil rfl
    obtain rfl : L = [] := List.eq_nil_of_length_eq_zero hl
    go_enter Try.func40, Try.ntmps40
    go_wp2
    go_ret
    exact ⟨_, rfl, World.ownsRow_nil _ _ _ _, Below.refl _ _⟩
  | some ad =>
    have hw : RowKit.Below w.heap.size w (w.alloc (.cells #[] 24)) := (Below.refl _ w).alloc (Nat.le_refl _) _
    have ho : (w.alloc (.cells #[] 24)).ownsRow w.heap.size 24 2 (.slice (some ⟨w.heap.size, 0, none⟩) 0 0) 0 [] := World.ownsRow_made w #[] 0 (Nat.le_refl _) (by unfold maxLen; omega) rfl
    have hs1 := hid (hs.below hw)
    have HL := hid hl
    clear hs hl
    go_enter Try.func40, Try.ntmps40
    go_wp2_with (first
      | (at_builtin; refine wpList_append_dots rfl _ _ 29 Try.underlying29 rfl w.heap.size _ 0 [] rfl ho (some ad) n c L rfl hs1.out (by omega) (by simp) ?_; intro v5 w5 ho5 hg5))
    go_ret
    refine ⟨_, rfl, ?_, hw.grown hg5 (by simp) (fun j hj => (ho.lt j hj).1)⟩
    rw [HL.out]
    simpa using ho5

/-- A row of dots of its own: new memory that is none of the tree's. -/
def RowOf (w w' : World) (A' : Nat → Prop) (L : List Dt) (e : Ending) : Prop := ∃ v, e = .returned v ∧ w'.ownsRow w.heap.size 24 2 v L.length (flat L) ∧ ∀ j, v.ownBlock = some j → ¬ A' j

theorem owns_base {w : World} {b b' n size : Nat} {ty : TypeId} {v : Value} {L : List Value} (h : w.ownsRow b ty size v n L) (hb : b' ≤ b) : w.ownsRow b' ty size v n L := by
  obtain ⟨h1, h2⟩ := h
  refine ⟨h1, ?_⟩
  rcases h2 with h2 | ⟨g', cap', cur, hv, hg, r⟩
  · exact .inl h2
  · exact .inr ⟨g', cap', cur, hv, Nat.le_trans hb hg, r⟩

theorem kidB_len {w : World} {t : Nat} {l : List Mv} {k : Nat} {gs : List Nat} {S : List Sp} {lg fd pl kd : Value} {fl : List (Mv × Nat)} {B A : Nat → Prop} (h : TR w t l k gs S lg fd pl kd fl B A) (p : Dt) : (kidB S p).length ≤ 1000 := by
  obtain ⟨r, hr⟩ := h.tk
  obtain ⟨_, _, s3⟩ := h.spots
  unfold kidB
  rw [List.length_map]
  have := kidS_len hr.nd p
  omega

set_option maxRecDepth 100000 in
set_option maxHeartbeats 4000000 in
theorem kids_tt (t : Nat) (l : List Mv) (A : Nat → Prop) (d : Dt) (w : World) (h : TT w t l A) (hd : Dw d) :
    Calls Try.prog 17 #[.pointer (some ⟨t, 0, none⟩), dv d] w fun e w' => ∃ A', RowOf w w' A' (kidB (run l) d) e ∧ TT w' t l A' ∧ KA w w' A A' := by
  obtain ⟨d1, d2⟩ := d
  have hmxo : Try.prog.follows .mixedOrders = true := by kernel_rfl
  obtain ⟨W0, hW0⟩ : ∃ W0, W0 = w.alloc (.cells #[.int .i64 d1, .int .i64 d2] 24) := ⟨_, rfl⟩
  have hB0 : Below w.heap.size w W0 := by rw [hW0]; exact (Below.refl _ w).alloc (Nat.le_refl _) _
  have hb0 : W0.heap[w.heap.size]? = some (.cells #[.int .i64 d1, .int .i64 d2] 24 (0, 0)) := by rw [hW0]; exact World.alloc_heap_new w _
  have hl0 := (Array.getElem?_eq_some_iff.1 hb0).1
  have hAH : ¬ A w.heap.size := fun e => by have := h.lt _ e; omega
  have hTT := h.below hB0
  have hT0 : TT W0.drew t l A := hTT.same (Nat.le_refl _) (fun j _ => rfl)
  have HN := (now_tt hT0).mono (R' := fun e W1 => e = .returned (.pointer (some ⟨t, 3, none⟩)) ∧ (W1.cell? ⟨w.heap.size, 0, none⟩ = some (.int .i64 d1) ∧ W1.cell? ⟨w.heap.size, 1, none⟩ = some (.int .i64 d2)) ∧ ∃ kd a n c, W1.cell? ⟨t, 4, none⟩ = some kd ∧ (Instr.lookup 64 kd (.agg #[.int .i64 d1, .int .i64 d2]) false).run Try.prog W1 = .ok (.slice a n c) W1 ∧ Calls Try.prog 40 #[.slice a n c] W1 fun e W2 => ∃ v, e = .returned v ∧ (W2.cell? ⟨w.heap.size, 0, none⟩ = some (.int .i64 d1) ∧ W2.cell? ⟨w.heap.size, 1, none⟩ = some (.int .i64 d2)) ∧ Hid (∃ A', RowOf w W2 A' (kidB (run l) (d1, d2)) (.returned v) ∧ TT W2 t l A' ∧ KA w W2 A A')) (fun e W1 hh => by
    obtain ⟨e1, gs, S, lg, fd, pl, kd, fl, B, A', h1, h2, h3, h4, h5⟩ := hh
    obtain ⟨q1, q2, q3, q4⟩ := h1.lk_run
    have c0 : W1.heap[w.heap.size]? = _ := (h5.keep w.heap.size hl0 hAH).trans hb0
    have htb := h1.tb
    unfold TB at htb
    obtain ⟨a, c, hlk, hps⟩ := h1.sb.look (p := (d1, d2)) hd
    refine ⟨e1, ⟨by simp [World.cell?, c0], by simp [World.cell?, c0]⟩, kd, a, _, c, by simp [World.cell?, htb], hlk, ?_⟩
    have hkl := kidB_len h1 (d1, d2)
    have hka := KA.pre h.lt (hB0.trans ((((Far.refl W0).drewN 1).below).mono hB0.size)) h5
    refine (tclone_any hps (by omega)).mono ?_
    rintro e W2 ⟨v, e2, ho, hb⟩
    have c2 : W2.heap[w.heap.size]? = _ := (hb.block w.heap.size (Array.getElem?_eq_some_iff.1 c0).1).trans c0
    rw [q3] at ho
    exact ⟨v, e2, ⟨by simp [World.cell?, c2], by simp [World.cell?, c2]⟩, hid ⟨A', ⟨v, rfl, owns_base ho hka.size, fun j hj e => by have := (ho.lt j hj).1; have := h1.as_ j e; omega⟩, (h1.tt h2 h3 h4).below hb, hka.post hb⟩⟩)
  have hS0 : W0.drew.cell? ⟨w.heap.size, 0, none⟩ = some (.int .i64 d1) ∧ W0.drew.cell? ⟨w.heap.size, 1, none⟩ = some (.int .i64 d2) := ⟨by show W0.cell? _ = _; simp [World.cell?, hb0], by show W0.cell? _ = _; simp [World.cell?, hb0]⟩
  have HW := hid hW0
  clear hW0 hB0 hb0 hl0 hAH hTT hT0 h
  go_enter Try.func17, Try.ntmps17
  go_wp2_with fail
  rw [← HW.out]
  refine wp_region_held_drew (S := fun w' => w'.cell? ⟨w.heap.size, 0, none⟩ = some (.int .i64 d1) ∧ w'.cell? ⟨w.heap.size, 1, none⟩ = some (.int .i64 d2)) hmxo hS0 ?_
  intro _
  refine wpAnyH_take (i := 0) (v := .pointer (some ⟨t, 0, none⟩)) rfl (by kernel_rfl) (by kernel_rfl) (by kernel_rfl) (fun _ _ _ h => h) (Or.inl ⟨by kernel_rfl, fun w hSw => ?_⟩) hS0 ?_
  · obtain ⟨e1, e2⟩ := hSw; go_simp
  simp only [Act.put, List.getElem_toArray, List.getElem_cons_succ, List.getElem_cons_zero, List.setIfInBounds_toArray, List.set_cons_zero, List.set_cons_succ]
  refine wpAnyH_take (i := 5) (v := .agg #[.int .i64 d1, .int .i64 d2]) rfl (by kernel_rfl) (by kernel_rfl) (by kernel_rfl) (fun _ _ _ h => h) (Or.inl ⟨by kernel_rfl, fun w hSw => ?_⟩) hS0 ?_
  · obtain ⟨e1, e2⟩ := hSw; go_simp
  simp only [Act.put, List.getElem_toArray, List.getElem_cons_succ, List.getElem_cons_zero, List.setIfInBounds_toArray, List.set_cons_zero, List.set_cons_succ]
  refine wpAnyH_ready (rs := [1]) (by kernel_rfl) (by simp) ?_
  refine AllReadyH.cons rfl (fun K hK => ?_) AllReadyH.nil
  go_simp
  refine HN.mono ?_
  rintro e W1 ⟨rfl, S1, kd, a, n, c, ck, hlk, HC⟩
  refine hK.out _ _ S1 (fun _ => ?_)
  clear hK K
  refine wpAnyH_take (i := 2) (v := .pointer (some ⟨t, 3, none⟩)) rfl (by kernel_rfl) (by kernel_rfl) (by kernel_rfl) (fun _ _ _ h => h) (Or.inl ⟨by kernel_rfl, fun w hSw => ?_⟩) S1 ?_
  · obtain ⟨e1, e2⟩ := hSw; go_simp
  simp only [Act.put, List.getElem_toArray, List.getElem_cons_succ, List.getElem_cons_zero, List.setIfInBounds_toArray, List.set_cons_zero, List.set_cons_succ]
  refine wpAnyH_take (i := 3) (v := .pointer (some ⟨t, 4, none⟩)) rfl (by kernel_rfl) (by kernel_rfl) (by kernel_rfl) (fun _ _ _ h => h) (Or.inl ⟨by kernel_rfl, fun w hSw => ?_⟩) S1 ?_
  · obtain ⟨e1, e2⟩ := hSw; go_simp
  simp only [Act.put, List.getElem_toArray, List.getElem_cons_succ, List.getElem_cons_zero, List.setIfInBounds_toArray, List.set_cons_zero, List.set_cons_succ]
  refine wpAnyH_ready (rs := [4]) (by kernel_rfl) (by simp) ?_
  refine AllReadyH.cons rfl (fun K hK => ?_) AllReadyH.nil
  go_simp
  refine hK.out _ _ S1 (fun _ => ?_)
  clear hK K
  refine wpAnyH_ready (rs := [6]) (by kernel_rfl) (by simp) ?_
  refine AllReadyH.cons rfl (fun K hK => ?_) AllReadyH.nil
  go_simp
  refine hK.out _ _ S1 (fun _ => ?_)
  clear hK K
  refine wpAnyH_ready (rs := [7]) (by kernel_rfl) (by simp) ?_
  refine AllReadyH.cons rfl (fun K hK => ?_) AllReadyH.nil
  go_simp
  refine HC.mono ?_
  rintro e W2 ⟨v, rfl, S2, HF⟩
  refine hK.out _ _ S2 (fun _ => ?_)
  clear hK K
  refine wpAnyH_take (i := 8) (v := v) rfl (by kernel_rfl) (by kernel_rfl) (by kernel_rfl) (fun _ _ _ h => h) (Or.inl ⟨by kernel_rfl, fun w hSw => ?_⟩) S2 ?_
  · obtain ⟨e1, e2⟩ := hSw; go_simp
  simp only [Act.put, List.getElem_toArray, List.getElem_cons_succ, List.getElem_cons_zero, List.setIfInBounds_toArray, List.set_cons_zero, List.set_cons_succ]
  refine wpAnyH_done (by kernel_rfl) ?_ _
  go_wp2
  go_ret
  exact HF.out
end
end Go.Proofs.Ytplcohjpchfkkaa
