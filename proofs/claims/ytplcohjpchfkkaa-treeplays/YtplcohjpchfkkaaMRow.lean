/- row: the dots that are a map's keys, in new memory, rising. What the library's sort does to them is taken as said in SortSays (proved behind this). -/
import Derived.Test.YtplcohjpchfkkaaTrParent
import Derived.Test.YtplcohjpchfkkaaMKeys
import Derived.Test.YtplcohjpchfkkaaTrDoM
import Derived.WalkKit
import Derived.Below
import Derived.Maps.OwnSet
import Derived.Maps.RangeWalk
import Derived.Sort.KeysCollected
import Derived.WalkSpells
import Derived.WalkLawsBesides
import Derived.Sort.OwnSorted
namespace Go.Proofs.Ytplcohjpchfkkaa
section
set_option linter.unusedVariables false
set_option linter.unusedSimpArgs false
open Go.RowKit

/-- Did a move take effect? -/
def tookB (l : List Mv) (d : Dt) : Bool := (List.range l.length).any (fun i => match l[i]? with
  | some m => decide (m.id = d) && takes (run (l.take i)) m
  | none => false)

theorem tookB_iff {l : List Mv} {d : Dt} : tookB l d = true ↔ tookP l d := by
  unfold tookB tookP
  rw [List.any_eq_true]
  constructor
  · rintro ⟨i, hi, h⟩
    rw [List.mem_range] at hi
    rw [List.getElem?_eq_getElem hi] at h
    simp only [Bool.and_eq_true, decide_eq_true_eq] at h
    exact ⟨i, l[i], List.getElem?_eq_getElem hi, h.1, h.2⟩
  · rintro ⟨i, m, h1, h2, h3⟩
    have hi := (List.getElem?_eq_some_iff.1 h1).1
    refine ⟨i, List.mem_range.2 hi, ?_⟩
    rw [h1]
    simp [h2, h3]

theorem tookB_at {l : List Mv} (h : (l.map Mv.id).Nodup) {i : Nat} {m : Mv} (hi : l[i]? = some m) : tookB l m.id = takes (run (l.take i)) m := by
  cases hb : takes (run (l.take i)) m with
  | true => exact tookB_iff.2 ⟨i, m, hi, rfl, hb⟩
  | false =>
    cases hc : tookB l m.id with
    | false => rfl
    | true =>
      obtain ⟨j, x, h1, h2, h3⟩ := tookB_iff.1 hc
      have hj := (List.getElem?_eq_some_iff.1 h1).1
      have : j = i := by
        refine (List.getElem?_inj (l := l.map Mv.id) (by simpa using hj) h).1 ?_
        rw [List.getElem?_map, List.getElem?_map, h1, hi]
        simp [h2]
      subst this
      rw [h1] at hi
      cases hi
      rw [h3] at hb
      cases hb

theorem tookB_no {l : List Mv} {d : Dt} (h : ∀ m ∈ l, m.id ≠ d) : tookB l d = false := by
  cases hc : tookB l d with
  | false => rfl
  | true =>
    obtain ⟨j, x, h1, h2, h3⟩ := tookB_iff.1 hc
    exact absurd h2 (h x (List.mem_of_getElem? h1))

set_option maxRecDepth 100000 in
set_option maxHeartbeats 4000000 in
theorem took_no (t : Nat) (l : List Mv) (A : Nat → Prop) (d : Dt) (w : World) (h : TT w t l A) (hd : Dw d) (hn : ∀ m ∈ l, m.id ≠ d) :
    Calls Try.prog 18 #[.pointer (some ⟨t, 0, none⟩), dv d] w fun e w' => e = .returned (.bool false) ∧ ∃ A', TT w' t l A' ∧ KA w w' A A' := by
  obtain ⟨d1, d2⟩ := d
  have hmxo : Try.prog.follows .mixedOrders = true := by kernel_rfl
  obtain ⟨W0, hW0⟩ : ∃ W0, W0 = w.alloc (.cells #[.int .i64 d1, .int .i64 d2] 24) := ⟨_, rfl⟩
  have hB0 : Below w.heap.size w W0 := by rw [hW0]; exact (Below.refl _ w).alloc (Nat.le_refl _) _
  have hb0 : W0.heap[w.heap.size]? = some (.cells #[.int .i64 d1, .int .i64 d2] 24 (0, 0)) := by rw [hW0]; exact World.alloc_heap_new w _
  have hl0 := (Array.getElem?_eq_some_iff.1 hb0).1
  have hAH : ¬ A w.heap.size := fun e => by have := h.lt _ e; omega
  have hTT := h.below hB0
  have HN := (now_tt hTT).mono (R' := fun e W1 => e = .returned (.pointer (some ⟨t, 3, none⟩)) ∧ ∃ fd, (W1.drew.cell? ⟨t, 1, none⟩ = some fd ∧ W1.drew.cell? ⟨w.heap.size, 0, none⟩ = some (.int .i64 d1) ∧ W1.drew.cell? ⟨w.heap.size, 1, none⟩ = some (.int .i64 d2) ∧ (Instr.lookup 62 fd (.agg #[.int .i64 d1, .int .i64 d2]) false).run Try.prog W1.drew = .ok (.pointer none) W1.drew) ∧ Hid (∃ A', TT W1.drew t l A' ∧ KA w W1.drew A A')) (fun e W1 hh => by
    obtain ⟨e1, gs, S, lg, fd, pl, kd, fl, B, A', h1, h2, h3, h4, h5⟩ := hh
    have c0 : W1.drew.heap[w.heap.size]? = _ := (h5.keep w.heap.size hl0 hAH).trans hb0
    have htb := h1.tb
    unfold TB at htb
    have htb' : W1.drew.heap[t]? = _ := htb
    have h1' : TT W1.drew t l A' := (h1.tt h2 h3 h4).same (Nat.le_refl _) (fun j _ => rfl)
    refine ⟨e1, fd, ⟨by simp only [World.cell?, htb']; rfl, by simp only [World.cell?, c0]; rfl, by simp only [World.cell?, c0]; rfl, ?_⟩, hid ⟨A', h1', ?_⟩⟩
    · rcases TT.look h1 h3 h4 hd with ⟨_, hlk⟩ | ⟨i, g, m, e1, e2, e3, _⟩
      · exact hlk W1.drew (fun j _ => rfl)
      · exact absurd e3 (hn m (List.mem_of_getElem? e2))
    · have := KA.pre h.lt hB0 h5
      exact ⟨this.size, this.keep, this.new, this.sm⟩)
  have HW := hid hW0
  clear hW0 hB0 hb0 hl0 hAH hTT h
  go_enter Try.func18, Try.ntmps18
  go_wp2_with (go_at_call 39; rw [← HW.out]; refine HN.mono ?_; rintro e W1 ⟨rfl, fd, hS4, HF⟩)
  refine wp_region_held_drew (S := fun w' => w'.cell? ⟨t, 1, none⟩ = some fd ∧ w'.cell? ⟨w.heap.size, 0, none⟩ = some (.int .i64 d1) ∧ w'.cell? ⟨w.heap.size, 1, none⟩ = some (.int .i64 d2) ∧ (Instr.lookup 62 fd (.agg #[.int .i64 d1, .int .i64 d2]) false).run Try.prog w' = .ok (.pointer none) w') hmxo hS4 ?_
  intro _
  refine wpAnyH_take (i := 0) (v := .pointer (some ⟨t, 0, none⟩)) rfl (by kernel_rfl) (by kernel_rfl) (by kernel_rfl) (fun _ _ _ h => h) (Or.inl ⟨by kernel_rfl, fun w hSw => ?_⟩) hS4 ?_
  · obtain ⟨e1, e2, e3, e4⟩ := hSw; go_simp
  simp only [Act.put, List.getElem_toArray, List.getElem_cons_succ, List.getElem_cons_zero, List.setIfInBounds_toArray, List.set_cons_zero, List.set_cons_succ]
  refine wpAnyH_take (i := 1) (v := .pointer (some ⟨t, 0, none⟩)) rfl (by kernel_rfl) (by kernel_rfl) (by kernel_rfl) (fun _ _ _ h => h) (Or.inl ⟨by kernel_rfl, fun w hSw => ?_⟩) hS4 ?_
  · obtain ⟨e1, e2, e3, e4⟩ := hSw; go_simp
  simp only [Act.put, List.getElem_toArray, List.getElem_cons_succ, List.getElem_cons_zero, List.setIfInBounds_toArray, List.set_cons_zero, List.set_cons_succ]
  refine wpAnyH_take (i := 2) (v := .pointer (some ⟨t, 1, none⟩)) rfl (by kernel_rfl) (by kernel_rfl) (by kernel_rfl) (fun _ _ _ h => h) (Or.inl ⟨by kernel_rfl, fun w hSw => ?_⟩) hS4 ?_
  · obtain ⟨e1, e2, e3, e4⟩ := hSw; go_simp
  simp only [Act.put, List.getElem_toArray, List.getElem_cons_succ, List.getElem_cons_zero, List.setIfInBounds_toArray, List.set_cons_zero, List.set_cons_succ]
  refine wpAnyH_take (i := 3) (v := fd) rfl (by kernel_rfl) (by kernel_rfl) (by kernel_rfl) (fun _ _ _ h => h) (Or.inl ⟨by kernel_rfl, fun w hSw => ?_⟩) hS4 ?_
  · obtain ⟨e1, e2, e3, e4⟩ := hSw; go_simp
  simp only [Act.put, List.getElem_toArray, List.getElem_cons_succ, List.getElem_cons_zero, List.setIfInBounds_toArray, List.set_cons_zero, List.set_cons_succ]
  refine wpAnyH_take (i := 4) (v := .agg #[.int .i64 d1, .int .i64 d2]) rfl (by kernel_rfl) (by kernel_rfl) (by kernel_rfl) (fun _ _ _ h => h) (Or.inl ⟨by kernel_rfl, fun w hSw => ?_⟩) hS4 ?_
  · obtain ⟨e1, e2, e3, e4⟩ := hSw; go_simp
  simp only [Act.put, List.getElem_toArray, List.getElem_cons_succ, List.getElem_cons_zero, List.setIfInBounds_toArray, List.set_cons_zero, List.set_cons_succ]
  refine wpAnyH_take (i := 5) (v := .pointer none) rfl (by kernel_rfl) (by kernel_rfl) (by kernel_rfl) (fun _ _ _ h => h) (Or.inl ⟨by kernel_rfl, fun w hSw => ?_⟩) hS4 ?_
  · obtain ⟨e1, e2, e3, e4⟩ := hSw; go_simp
  simp only [Act.put, List.getElem_toArray, List.getElem_cons_succ, List.getElem_cons_zero, List.setIfInBounds_toArray, List.set_cons_zero, List.set_cons_succ]
  refine wpAnyH_take (i := 6) (v := .pointer none) rfl (by kernel_rfl) (by kernel_rfl) (by kernel_rfl) (fun _ _ _ h => h) (Or.inl ⟨by kernel_rfl, fun w hSw => ?_⟩) hS4 ?_
  · obtain ⟨e1, e2, e3, e4⟩ := hSw; go_simp
  simp only [Act.put, List.getElem_toArray, List.getElem_cons_succ, List.getElem_cons_zero, List.setIfInBounds_toArray, List.set_cons_zero, List.set_cons_succ]
  refine wpAnyH_done (by kernel_rfl) ?_ _
  clear hS4 HN
  go_wp2
  go_ret
  exact ⟨rfl, HF.out⟩

set_option maxRecDepth 100000 in
set_option maxHeartbeats 4000000 in
theorem took_yes (t : Nat) (l : List Mv) (A : Nat → Prop) (d : Dt) (w : World) (h : TT w t l A) (hd : Dw d) (i : Nat) (m : Mv) (him : l[i]? = some m) (hmd : m.id = d) (Bv : Bool) (hBv : Bv = takes (run (l.take i)) m) :
    Calls Try.prog 18 #[.pointer (some ⟨t, 0, none⟩), dv d] w fun e w' => e = .returned (.bool Bv) ∧ ∃ A', TT w' t l A' ∧ KA w w' A A' := by
  obtain ⟨d1, d2⟩ := d
  have hmxo : Try.prog.follows .mixedOrders = true := by kernel_rfl
  obtain ⟨W0, hW0⟩ : ∃ W0, W0 = w.alloc (.cells #[.int .i64 d1, .int .i64 d2] 24) := ⟨_, rfl⟩
  have hB0 : Below w.heap.size w W0 := by rw [hW0]; exact (Below.refl _ w).alloc (Nat.le_refl _) _
  have hb0 : W0.heap[w.heap.size]? = some (.cells #[.int .i64 d1, .int .i64 d2] 24 (0, 0)) := by rw [hW0]; exact World.alloc_heap_new w _
  have hl0 := (Array.getElem?_eq_some_iff.1 hb0).1
  have hAH : ¬ A w.heap.size := fun e => by have := h.lt _ e; omega
  have hTT := h.below hB0
  have HN := (now_tt hTT).mono (R' := fun e W1 => e = .returned (.pointer (some ⟨t, 3, none⟩)) ∧ ∃ fd, ∃ g, (W1.drew.cell? ⟨t, 1, none⟩ = some fd ∧ W1.drew.cell? ⟨w.heap.size, 0, none⟩ = some (.int .i64 d1) ∧ W1.drew.cell? ⟨w.heap.size, 1, none⟩ = some (.int .i64 d2) ∧ (Instr.lookup 62 fd (.agg #[.int .i64 d1, .int .i64 d2]) false).run Try.prog W1.drew = .ok (.pointer (some ⟨g, 0, none⟩)) W1.drew) ∧ W1.drew.cell? ⟨g, 8, none⟩ = some (.bool Bv) ∧ Hid (∃ A', TT W1.drew t l A' ∧ KA w W1.drew A A')) (fun e W1 hh => by
    obtain ⟨e1, gs, S, lg, fd, pl, kd, fl, B, A', h1, h2, h3, h4, h5⟩ := hh
    have c0 : W1.drew.heap[w.heap.size]? = _ := (h5.keep w.heap.size hl0 hAH).trans hb0
    have htb := h1.tb
    unfold TB at htb
    have htb' : W1.drew.heap[t]? = _ := htb
    have h1' : TT W1.drew t l A' := (h1.tt h2 h3 h4).same (Nat.le_refl _) (fun j _ => rfl)
    rcases TT.look h1 h3 h4 hd with ⟨hn, _⟩ | ⟨j, g, x, e2, e3, e4, hlk⟩
    · exact absurd hmd (hn m (List.mem_of_getElem? him))
    · have hij : j = i := by
        refine (List.getElem?_inj (l := l.map Mv.id) (by simpa using (List.getElem?_eq_some_iff.1 e3).1) h1.log.ids).1 ?_
        rw [List.getElem?_map, List.getElem?_map, e3, him]
        simp [e4, hmd]
      subst hij
      obtain rfl : x = m := by rw [e3] at him; exact Option.some.inj him
      obtain ⟨tk, o, hE, hx⟩ := h1.en j g x e2 e3
      have hE' : W1.drew.heap[g]? = _ := hE
      have htk := (hx (List.getElem?_eq_some_iff.1 e3).1).1
      refine ⟨e1, fd, g, ⟨by simp only [World.cell?, htb']; rfl, by simp only [World.cell?, c0]; rfl, by simp only [World.cell?, c0]; rfl, hlk W1.drew (fun j _ => rfl)⟩, by simp only [World.cell?, hE']; rw [hBv, ← htk]; rfl, hid ⟨A', h1', ?_⟩⟩
      have := KA.pre h.lt hB0 h5
      exact ⟨this.size, this.keep, this.new, this.sm⟩)
  clear him hmd hBv
  have HW := hid hW0
  clear hW0 hB0 hb0 hl0 hAH hTT h
  go_enter Try.func18, Try.ntmps18
  go_wp2_with (go_at_call 39; rw [← HW.out]; refine HN.mono ?_; rintro e W1 ⟨rfl, fd, g, hS4, ce, HF⟩)
  refine wp_region_held_drew (S := fun w' => w'.cell? ⟨t, 1, none⟩ = some fd ∧ w'.cell? ⟨w.heap.size, 0, none⟩ = some (.int .i64 d1) ∧ w'.cell? ⟨w.heap.size, 1, none⟩ = some (.int .i64 d2) ∧ (Instr.lookup 62 fd (.agg #[.int .i64 d1, .int .i64 d2]) false).run Try.prog w' = .ok (.pointer (some ⟨g, 0, none⟩)) w') hmxo hS4 ?_
  intro _
  refine wpAnyH_take (i := 0) (v := .pointer (some ⟨t, 0, none⟩)) rfl (by kernel_rfl) (by kernel_rfl) (by kernel_rfl) (fun _ _ _ h => h) (Or.inl ⟨by kernel_rfl, fun w hSw => ?_⟩) hS4 ?_
  · obtain ⟨e1, e2, e3, e4⟩ := hSw; go_simp
  simp only [Act.put, List.getElem_toArray, List.getElem_cons_succ, List.getElem_cons_zero, List.setIfInBounds_toArray, List.set_cons_zero, List.set_cons_succ]
  refine wpAnyH_take (i := 1) (v := .pointer (some ⟨t, 0, none⟩)) rfl (by kernel_rfl) (by kernel_rfl) (by kernel_rfl) (fun _ _ _ h => h) (Or.inl ⟨by kernel_rfl, fun w hSw => ?_⟩) hS4 ?_
  · obtain ⟨e1, e2, e3, e4⟩ := hSw; go_simp
  simp only [Act.put, List.getElem_toArray, List.getElem_cons_succ, List.getElem_cons_zero, List.setIfInBounds_toArray, List.set_cons_zero, List.set_cons_succ]
  refine wpAnyH_take (i := 2) (v := .pointer (some ⟨t, 1, none⟩)) rfl (by kernel_rfl) (by kernel_rfl) (by kernel_rfl) (fun _ _ _ h => h) (Or.inl ⟨by kernel_rfl, fun w hSw => ?_⟩) hS4 ?_
  · obtain ⟨e1, e2, e3, e4⟩ := hSw; go_simp
  simp only [Act.put, List.getElem_toArray, List.getElem_cons_succ, List.getElem_cons_zero, List.setIfInBounds_toArray, List.set_cons_zero, List.set_cons_succ]
  refine wpAnyH_take (i := 3) (v := fd) rfl (by kernel_rfl) (by kernel_rfl) (by kernel_rfl) (fun _ _ _ h => h) (Or.inl ⟨by kernel_rfl, fun w hSw => ?_⟩) hS4 ?_
  · obtain ⟨e1, e2, e3, e4⟩ := hSw; go_simp
  simp only [Act.put, List.getElem_toArray, List.getElem_cons_succ, List.getElem_cons_zero, List.setIfInBounds_toArray, List.set_cons_zero, List.set_cons_succ]
  refine wpAnyH_take (i := 4) (v := .agg #[.int .i64 d1, .int .i64 d2]) rfl (by kernel_rfl) (by kernel_rfl) (by kernel_rfl) (fun _ _ _ h => h) (Or.inl ⟨by kernel_rfl, fun w hSw => ?_⟩) hS4 ?_
  · obtain ⟨e1, e2, e3, e4⟩ := hSw; go_simp
  simp only [Act.put, List.getElem_toArray, List.getElem_cons_succ, List.getElem_cons_zero, List.setIfInBounds_toArray, List.set_cons_zero, List.set_cons_succ]
  refine wpAnyH_take (i := 5) (v := .pointer (some ⟨g, 0, none⟩)) rfl (by kernel_rfl) (by kernel_rfl) (by kernel_rfl) (fun _ _ _ h => h) (Or.inl ⟨by kernel_rfl, fun w hSw => ?_⟩) hS4 ?_
  · obtain ⟨e1, e2, e3, e4⟩ := hSw; go_simp
  simp only [Act.put, List.getElem_toArray, List.getElem_cons_succ, List.getElem_cons_zero, List.setIfInBounds_toArray, List.set_cons_zero, List.set_cons_succ]
  refine wpAnyH_take (i := 6) (v := .pointer (some ⟨g, 0, none⟩)) rfl (by kernel_rfl) (by kernel_rfl) (by kernel_rfl) (fun _ _ _ h => h) (Or.inl ⟨by kernel_rfl, fun w hSw => ?_⟩) hS4 ?_
  · obtain ⟨e1, e2, e3, e4⟩ := hSw; go_simp
  simp only [Act.put, List.getElem_toArray, List.getElem_cons_succ, List.getElem_cons_zero, List.setIfInBounds_toArray, List.set_cons_zero, List.set_cons_succ]
  refine wpAnyH_done (by kernel_rfl) ?_ _
  clear hS4 HN
  go_wp2
  go_ret
  exact ⟨rfl, HF.out⟩

theorem took_tt (t : Nat) (l : List Mv) (A : Nat → Prop) (d : Dt) (w : World) (h : TT w t l A) (hd : Dw d) :
    Calls Try.prog 18 #[.pointer (some ⟨t, 0, none⟩), dv d] w fun e w' => e = .returned (.bool (tookB l d)) ∧ ∃ A', TT w' t l A' ∧ KA w w' A A' := by
  by_cases hn : ∀ m ∈ l, m.id ≠ d
  · rw [tookB_no hn]
    exact took_no t l A d w h hd hn
  · obtain ⟨m, hm, e⟩ : ∃ m ∈ l, m.id = d := by
      refine Classical.byContradiction fun hc => hn fun m hm e => hc ⟨m, hm, e⟩
    obtain ⟨i, hi⟩ := List.mem_iff_getElem?.1 hm
    exact took_yes t l A d w h hd i m hi e _ (by rw [← e]; exact tookB_at h.log.1.ids hi)

theorem run_eql_nilD (w : World) (a : Option Addr) (l c : Nat) : (binOp BinOp.eql 29 (Value.slice a l c) (Value.slice none 0 0)).run Try.prog w = .ok (.bool a.isNone) w := by
  simp [binOp, go_sem, run_equal_slice_nil w 29 24 a l c Try.underlying29]

theorem tclone_any {a : Option Addr} {n c : Nat} {L : List Dt} {w : World} (hs : PS w a n c L) (hn : n ≤ 1000000) : Calls Try.prog 40 #[.slice a n c] w (Gives w L) := by
  have hq := run_eql_nilD
  have hl := hs.len
  cases a with
  | none =>
    obtain ⟨rfl, rfl⟩ := hs.nil rfl
    obtain rfl : L = [] := List.eq_nil_of_length_eq_zero hl
    go_enter Try.func40, Try.ntmps40
    go_wp2
    go_ret
    exact ⟨_, rfl, World.ownsRow_nil _ _ _ _, Below.refl _ _⟩
  | some ad =>
    have hw : RowKit.Below w.heap.size w (w.alloc (.cells #[] 24)) := (Below.refl _ w).alloc (Nat.le_refl _) _
    have ho : (w.alloc (.cells #[] 24)).ownsRow w.heap.size 24 2 (.slice (some ⟨w.heap.size, 0, none⟩) 0 0) 0 [] := World.ownsRow_made w #[] 0 (Nat.le_refl _) (by unfold maxLen; omega) rfl
    have hs1 := hid (hs.below hw)
    have HL := hid hl
    clear hs hl
    go_enter Try.func40, Try.ntmps40
    go_wp2_with (first
      | (at_builtin; refine wpList_append_dots rfl _ _ 29 Try.underlying29 rfl w.heap.size _ 0 [] rfl ho (some ad) n c L rfl hs1.out (by omega) (by simp) ?_; intro v5 w5 ho5 hg5))
    go_ret
    refine ⟨_, rfl, ?_, hw.grown hg5 (by simp) (fun j hj => (ho.lt j hj).1)⟩
    rw [HL.out]
    simpa using ho5

/-- A row of dots of its own: new memory that is none of the tree's. -/
def RowOf (w w' : World) (A' : Nat → Prop) (L : List Dt) (e : Ending) : Prop := ∃ v, e = .returned v ∧ w'.ownsRow w.heap.size 24 2 v L.length (flat L) ∧ ∀ j, v.ownBlock = some j → ¬ A' j

theorem owns_base {w : World} {b b' n size : Nat} {ty : TypeId} {v : Value} {L : List Value} (h : w.ownsRow b ty size v n L) (hb : b' ≤ b) : w.ownsRow b' ty size v n L := by
  obtain ⟨h1, h2⟩ := h
  refine ⟨h1, ?_⟩
  rcases h2 with h2 | ⟨g', cap', cur, hv, hg, r⟩
  · exact .inl h2
  · exact .inr ⟨g', cap', cur, hv, Nat.le_trans hb hg, r⟩

theorem kidB_len {w : World} {t : Nat} {l : List Mv} {k : Nat} {gs : List Nat} {S : List Sp} {lg fd pl kd : Value} {fl : List (Mv × Nat)} {B A : Nat → Prop} (h : TR w t l k gs S lg fd pl kd fl B A) (p : Dt) : (kidB S p).length ≤ 1000 := by
  obtain ⟨r, hr⟩ := h.tk
  obtain ⟨_, _, s3⟩ := h.spots
  unfold kidB
  rw [List.length_map]
  have := kidS_len hr.nd p
  omega

set_option maxRecDepth 100000 in
set_option maxHeartbeats 4000000 in
theorem kids_tt (t : Nat) (l : List Mv) (A : Nat → Prop) (d : Dt) (w : World) (h : TT w t l A) (hd : Dw d) :
    Calls Try.prog 17 #[.pointer (some ⟨t, 0, none⟩), dv d] w fun e w' => ∃ A', RowOf w w' A' (kidB (run l) d) e ∧ TT w' t l A' ∧ KA w w' A A' := by
  obtain ⟨d1, d2⟩ := d
  have hmxo : Try.prog.follows .mixedOrders = true := by kernel_rfl
  obtain ⟨W0, hW0⟩ : ∃ W0, W0 = w.alloc (.cells #[.int .i64 d1, .int .i64 d2] 24) := ⟨_, rfl⟩
  have hB0 : Below w.heap.size w W0 := by rw [hW0]; exact (Below.refl _ w).alloc (Nat.le_refl _) _
  have hb0 : W0.heap[w.heap.size]? = some (.cells #[.int .i64 d1, .int .i64 d2] 24 (0, 0)) := by rw [hW0]; exact World.alloc_heap_new w _
  have hl0 := (Array.getElem?_eq_some_iff.1 hb0).1
  have hAH : ¬ A w.heap.size := fun e => by have := h.lt _ e; omega
  have hTT := h.below hB0
  have hT0 : TT W0.drew t l A := hTT.same (Nat.le_refl _) (fun j _ => rfl)
  have HN := (now_tt hT0).mono (R' := fun e W1 => e = .returned (.pointer (some ⟨t, 3, none⟩)) ∧ (W1.cell? ⟨w.heap.size, 0, none⟩ = some (.int .i64 d1) ∧ W1.cell? ⟨w.heap.size, 1, none⟩ = some (.int .i64 d2)) ∧ ∃ kd a n c, W1.cell? ⟨t, 4, none⟩ = some kd ∧ (Instr.lookup 64 kd (.agg #[.int .i64 d1, .int .i64 d2]) false).run Try.prog W1 = .ok (.slice a n c) W1 ∧ Calls Try.prog 40 #[.slice a n c] W1 fun e W2 => ∃ v, e = .returned v ∧ (W2.cell? ⟨w.heap.size, 0, none⟩ = some (.int .i64 d1) ∧ W2.cell? ⟨w.heap.size, 1, none⟩ = some (.int .i64 d2)) ∧ Hid (∃ A', RowOf w W2 A' (kidB (run l) (d1, d2)) (.returned v) ∧ TT W2 t l A' ∧ KA w W2 A A')) (fun e W1 hh => by
    obtain ⟨e1, gs, S, lg, fd, pl, kd, fl, B, A', h1, h2, h3, h4, h5⟩ := hh
    obtain ⟨q1, q2, q3, q4⟩ := h1.lk_run
    have c0 : W1.heap[w.heap.size]? = _ := (h5.keep w.heap.size hl0 hAH).trans hb0
    have htb := h1.tb
    unfold TB at htb
    obtain ⟨a, c, hlk, hps⟩ := h1.sb.look (p := (d1, d2)) hd
    refine ⟨e1, ⟨by simp [World.cell?, c0], by simp [World.cell?, c0]⟩, kd, a, _, c, by simp [World.cell?, htb], hlk, ?_⟩
    have hkl := kidB_len h1 (d1, d2)
    have hka := KA.pre h.lt (hB0.trans ((((Far.refl W0).drewN 1).below).mono hB0.size)) h5
    refine (tclone_any hps (by omega)).mono ?_
    rintro e W2 ⟨v, e2, ho, hb⟩
    have c2 : W2.heap[w.heap.size]? = _ := (hb.block w.heap.size (Array.getElem?_eq_some_iff.1 c0).1).trans c0
    rw [q3] at ho
    exact ⟨v, e2, ⟨by simp [World.cell?, c2], by simp [World.cell?, c2]⟩, hid ⟨A', ⟨v, rfl, owns_base ho hka.size, fun j hj e => by have := (ho.lt j hj).1; have := h1.as_ j e; omega⟩, (h1.tt h2 h3 h4).below hb, hka.post hb⟩⟩)
  have hS0 : W0.drew.cell? ⟨w.heap.size, 0, none⟩ = some (.int .i64 d1) ∧ W0.drew.cell? ⟨w.heap.size, 1, none⟩ = some (.int .i64 d2) := ⟨by show W0.cell? _ = _; simp [World.cell?, hb0], by show W0.cell? _ = _; simp [World.cell?, hb0]⟩
  have HW := hid hW0
  clear hW0 hB0 hb0 hl0 hAH hTT hT0 h
  go_enter Try.func17, Try.ntmps17
  go_wp2_with fail
  rw [← HW.out]
  refine wp_region_held_drew (S := fun w' => w'.cell? ⟨w.heap.size, 0, none⟩ = some (.int .i64 d1) ∧ w'.cell? ⟨w.heap.size, 1, none⟩ = some (.int .i64 d2)) hmxo hS0 ?_
  intro _
  refine wpAnyH_take (i := 0) (v := .pointer (some ⟨t, 0, none⟩)) rfl (by kernel_rfl) (by kernel_rfl) (by kernel_rfl) (fun _ _ _ h => h) (Or.inl ⟨by kernel_rfl, fun w hSw => ?_⟩) hS0 ?_
  · obtain ⟨e1, e2⟩ := hSw; go_simp
  simp only [Act.put, List.getElem_toArray, List.getElem_cons_succ, List.getElem_cons_zero, List.setIfInBounds_toArray, List.set_cons_zero, List.set_cons_succ]
  refine wpAnyH_take (i := 5) (v := .agg #[.int .i64 d1, .int .i64 d2]) rfl (by kernel_rfl) (by kernel_rfl) (by kernel_rfl) (fun _ _ _ h => h) (Or.inl ⟨by kernel_rfl, fun w hSw => ?_⟩) hS0 ?_
  · obtain ⟨e1, e2⟩ := hSw; go_simp
  simp only [Act.put, List.getElem_toArray, List.getElem_cons_succ, List.getElem_cons_zero, List.setIfInBounds_toArray, List.set_cons_zero, List.set_cons_succ]
  refine wpAnyH_ready (rs := [1]) (by kernel_rfl) (by simp) ?_
  refine AllReadyH.cons rfl (fun K hK => ?_) AllReadyH.nil
  go_simp
  refine HN.mono ?_
  rintro e W1 ⟨rfl, S1, kd, a, n, c, ck, hlk, HC⟩
  refine hK.out _ _ S1 (fun _ => ?_)
  clear hK K
  refine wpAnyH_take (i := 2) (v := .pointer (some ⟨t, 3, none⟩)) rfl (by kernel_rfl) (by kernel_rfl) (by kernel_rfl) (fun _ _ _ h => h) (Or.inl ⟨by kernel_rfl, fun w hSw => ?_⟩) S1 ?_
  · obtain ⟨e1, e2⟩ := hSw; go_simp
  simp only [Act.put, List.getElem_toArray, List.getElem_cons_succ, List.getElem_cons_zero, List.setIfInBounds_toArray, List.set_cons_zero, List.set_cons_succ]
  refine wpAnyH_take (i := 3) (v := .pointer (some ⟨t, 4, none⟩)) rfl (by kernel_rfl) (by kernel_rfl) (by kernel_rfl) (fun _ _ _ h => h) (Or.inl ⟨by kernel_rfl, fun w hSw => ?_⟩) S1 ?_
  · obtain ⟨e1, e2⟩ := hSw; go_simp
  simp only [Act.put, List.getElem_toArray, List.getElem_cons_succ, List.getElem_cons_zero, List.setIfInBounds_toArray, List.set_cons_zero, List.set_cons_succ]
  refine wpAnyH_ready (rs := [4]) (by kernel_rfl) (by simp) ?_
  refine AllReadyH.cons rfl (fun K hK => ?_) AllReadyH.nil
  go_simp
  refine hK.out _ _ S1 (fun _ => ?_)
  clear hK K
  refine wpAnyH_ready (rs := [6]) (by kernel_rfl) (by simp) ?_
  refine AllReadyH.cons rfl (fun K hK => ?_) AllReadyH.nil
  go_simp
  refine hK.out _ _ S1 (fun _ => ?_)
  clear hK K
  refine wpAnyH_ready (rs := [7]) (by kernel_rfl) (by simp) ?_
  refine AllReadyH.cons rfl (fun K hK => ?_) AllReadyH.nil
  go_simp
  refine HC.mono ?_
  rintro e W2 ⟨v, rfl, S2, HF⟩
  refine hK.out _ _ S2 (fun _ => ?_)
  clear hK K
  refine wpAnyH_take (i := 8) (v := v) rfl (by kernel_rfl) (by kernel_rfl) (by kernel_rfl) (fun _ _ _ h => h) (Or.inl ⟨by kernel_rfl, fun w hSw => ?_⟩) S2 ?_
  · obtain ⟨e1, e2⟩ := hSw; go_simp
  simp only [Act.put, List.getElem_toArray, List.getElem_cons_succ, List.getElem_cons_zero, List.setIfInBounds_toArray, List.set_cons_zero, List.set_cons_succ]
  refine wpAnyH_done (by kernel_rfl) ?_ _
  go_wp2
  go_ret
  exact HF.out
end

section
set_option linter.unusedVariables false
open Go.RowKit Go.Shelf

theorem Try.infoDD : (Try.prog.info? 24).map (fun i => (i.zero, i.size, i.bytes)) = some (some (.agg #[.int .i64 0, .int .i64 0]), 2, 16) := by kernel_rfl

/-- The row's box Bs holds what came; all else that was there is as it was. -/
structure RI (V : World) (Bs : Nat) (pre : List Dt) (W : World) : Prop where
  row : ∃ v, Boxed W Bs 29 v ∧ W.ownsRow V.heap.size 24 2 v pre.length (flat pre)
  size : V.heap.size ≤ W.heap.size
  keep : ∀ j, j < V.heap.size → j ≠ Bs → W.heap[j]? = V.heap[j]?
  sm : Sm V W

theorem RI.own {V : World} {Bs : Nat} (hBs : Bs < V.heap.size) : OwnT V.heap.size (RI V Bs) := by
  rintro s A B row ⟨⟨v, h1, h2⟩, h3, h4, h5⟩ hg hrow
  have hn : ∀ (j : Nat) (cs : Array Value) (ty : TypeId) (fz : Nat × Nat), A.heap[j]? = some (Obj.cells cs ty fz) → ty ≠ 74 → B.heap[j]? = A.heap[j]? := fun j cs ty fz hj hty => hg.block j (Array.getElem?_eq_some_iff.1 hj).1 (fun e => by
    obtain ⟨_, o, ho, ht⟩ := hrow j e.symm
    rw [hj] at ho
    cases ho
    rcases ht with ht | ⟨cs', fz', ht⟩
    · cases ht
    · cases ht; exact hty rfl)
  refine ⟨⟨v, (hn Bs _ _ _ h1 (by decide)).trans h1, ?_⟩, Nat.le_trans h3 hg.size, fun j hj hne => (hg.block j (by omega) (fun e => by have := (hrow j e.symm).1; omega)).trans (h4 j hj hne), h5.trans (Sm.g hg)⟩
  refine h2.kept hg ?_
  rcases h2.2 with ⟨rfl, _⟩ | ⟨g, cap, cur, rfl, _, hgb, _⟩
  · exact .inl rfl
  · refine .inr fun e => ?_
    obtain ⟨_, o, ho, ht⟩ := hrow g (by simpa [Value.ownBlock] using e.symm)
    rw [hgb] at ho
    cases ho
    rcases ht with ht | ⟨cs', fz', ht⟩
    · cases ht
    · cases ht

theorem RI.alloc {V W : World} {Bs : Nat} {pre : List Dt} (hBs : Bs < V.heap.size) (h : RI V Bs pre W) (o : Obj) : RI V Bs pre (W.alloc o) := (RI.own hBs).alloc (s := pre) o h

theorem RI.app {V W w2 : World} {Bs : Nat} {pre : List Dt} {x : Dt} {v v' : Value} (hBs : Bs < V.heap.size) (h3 : V.heap.size ≤ W.heap.size) (h4 : ∀ j, j < V.heap.size → j ≠ Bs → W.heap[j]? = V.heap[j]?) (h5 : Sm V W) (h1 : Boxed W Bs 29 v) (h2 : W.ownsRow V.heap.size 24 2 v pre.length (flat pre)) {o : Obj} (ho : w2.ownsRow V.heap.size 24 2 v' (pre.length + 1) (flat pre ++ [.int .i64 x.1, .int .i64 x.2])) (hg : (W.alloc o).grownBy w2 v.ownBlock) :
    w2.cell? ⟨Bs, 0, none⟩ = some v ∧ w2.frozen? ⟨Bs, 0, none⟩ = false ∧ Hid (RI V Bs (pre ++ [x]) (w2.setCell ⟨Bs, 0, none⟩ v') ∧ KeepsFrom V.heap.size W (w2.setCell ⟨Bs, 0, none⟩ v') ∧ KU V.heap.size (fun k => V.heap.size ≤ k ∨ k = Bs) W (w2.setCell ⟨Bs, 0, none⟩ v')) := by
  have hv1 : Boxed w2 Bs 29 v := (h1.alloc o).kept hg (h1.not_row (by decide) h2)
  have hrb : ∀ j, v.ownBlock = some j → V.heap.size ≤ j ∧ ∃ cs, W.heap[j]? = some (.cells cs 24 (0, 0)) := fun j ej => by
    rcases h2.2 with ⟨rfl, _⟩ | ⟨g, cap, cur, rfl, hb, hgb, _⟩
    · simp [Value.ownBlock] at ej
    · obtain rfl : g = j := by simpa [Value.ownBlock] using ej
      exact ⟨hb, cur, hgb⟩
  have hz : W.heap.size ≤ (w2.setCell ⟨Bs, 0, none⟩ v').heap.size := by
    have := hg.size
    have := (grownBy_setCell' w2 Bs v').size
    simp at *
    omega
  have hk : ∀ j, j < W.heap.size → j ≠ Bs → v.ownBlock ≠ some j → (w2.setCell ⟨Bs, 0, none⟩ v').heap[j]? = W.heap[j]? := fun j hj hne hnv =>
    (Below.heap_setCell _ _ _ j (by simpa using hne)).trans ((hg.block j (by simp; omega) (fun e => hnv e.symm)).trans (Below.heap_alloc W o j hj))
  refine ⟨hv1.cell, hv1.frozen, hid ⟨⟨⟨v', hv1.set v', ?_⟩, Nat.le_trans h3 hz, fun j hj hne => (hk j (by omega) hne (fun e => by have := (hrb j e).1; omega)).trans (h4 j hj hne), h5.trans (Sm.trans ⟨rfl, rfl, rfl⟩ ((Sm.g hg).trans ⟨rfl, rfl, rfl⟩))⟩, ⟨hz, fun k ob hk2 hob hc => ?_⟩, ⟨hz, fun k cs ty fz hkk hor => ?_, fun k hk2 es c he => ?_⟩⟩⟩
  · have := ho.kept (grownBy_setCell' w2 Bs v') (.inr (hv1.not_row (by decide) ho).symm)
    rw [List.length_append, flat_append]
    exact this
  · refine (hk k (Array.getElem?_eq_some_iff.1 hob).1 (by omega) (fun e => ?_)).trans hob
    obtain ⟨_, cs, hcs⟩ := hrb k e
    rw [hob] at hcs
    cases hcs
    cases hc
  · refine (hk k (Array.getElem?_eq_some_iff.1 hkk).1 (fun e => ?_) (fun e => ?_)).trans hkk
    · rcases hor with hor | hor
      · exact hor (Or.inr e)
      · subst e
        rw [show W.heap[k]? = _ from h1] at hkk
        cases hkk
        exact absurd hor (by decide)
    · obtain ⟨hge, cs', hcs⟩ := hrb k e
      rcases hor with hor | hor
      · exact hor (Or.inl hge)
      · rw [hcs] at hkk
        cases hkk
        exact absurd hor (by decide)
  · refine (hk k (Array.getElem?_eq_some_iff.1 he).1 (fun e => ?_) (fun e => ?_)).trans he
    · subst e
      rw [show W.heap[k]? = _ from h1] at he
      cases he
    · have := (hrb k e).1
      omega

theorem cell_two {w : World} (x y : Value) (T : TypeId) : ∀ j u, ([x, y] : List Value)[j]? = some u → (w.alloc (.cells #[x, y] T)).cell? ((⟨w.heap.size, 0, none⟩ : Addr).add j) = some u := fun j u hu => by
  have ea : ((⟨w.heap.size, 0, none⟩ : Addr).add j) = ⟨w.heap.size, j, none⟩ := by unfold Addr.add; split <;> simp_all
  rw [ea]
  simp only [World.cell?]
  rw [show (w.alloc (.cells #[x, y] T)).heap[w.heap.size]? = some (.cells #[x, y] T (0, 0)) from World.alloc_heap_new w _]
  simpa using hu
end

section
open Go.RowKit Go.Sort Go.Maps

/-- What a map that reads as D holds at the dots. -/
def MTells (D : DataW Unit) (g : Dt → Option Int) : Prop :=
  ∀ d, Dw d → Maps.has D (kl d) = (g d).isSome ∧ ∀ c, g d = some c → ∀ z, D.atKey (kl d) z = .lit (.int .i64 c)

theorem tells_empty : MTells (.map []) (fun _ => Option.none) := fun d _ => ⟨rfl, fun c h => by cases h⟩

theorem MTells.put {D : DataW Unit} {g : Dt → Option Int} (h : MTells D g) (hm : IsMap D) {d : Dt} (hd : Dw d) (c : Int) :
    MTells (D.put (kl d) (.lit (.int .i64 c))) (fun e => if e = d then some c else g e) := by
  intro e he
  by_cases hed : e = d
  · subst hed
    simp only [if_true]
    refine ⟨by rw [has_put_same hm (kl_isKey _)]; rfl, fun c' hc z => ?_⟩
    cases hc
    exact atKey_put_same hm (kl_isKey _) _ _
  · have hne : kl e ≠ kl d := fun h' => hed (kl_inj he hd h')
    simp only [hed, if_false]
    refine ⟨by rw [has_put_other hne]; exact (h e he).1, fun c' hc z => ?_⟩
    rw [atKey_put_other hne]
    exact (h e he).2 c' hc z

theorem MTells.congr {D : DataW Unit} {g g' : Dt → Option Int} (h : MTells D g) (e : ∀ d, g d = g' d) : MTells D g' := fun d hd => by rw [← e d]; exact h d hd

theorem nodup_kl : ∀ {S : List Dt}, S.Nodup → Dws S → (S.map kl).Nodup
  | [], _, _ => List.nodup_nil
  | x :: r, h, hw => by
    obtain ⟨h1, h2⟩ := List.nodup_cons.1 h
    refine List.nodup_cons.2 ⟨fun hm => ?_, nodup_kl h2 (fun d hd => hw d (List.mem_cons_of_mem _ hd))⟩
    obtain ⟨d, hd, e⟩ := List.mem_map.1 hm
    exact h1 (kl_inj (hw d (List.mem_cons_of_mem _ hd)) (hw x (List.mem_cons_self ..)) e ▸ hd)

/-- How many entries: as many as there are dots. -/
theorem MTells.size {w : World} {b n : Nat} {D : DataW Unit} {g : Dt → Option Int} (h : MTells D g) (hown : w.ownsMap Try.prog 24 (plainElem (H := Unit) Try.prog 3) b n D) {S : List Dt} (hS : S.Nodup) (hw : Dws S) (hm : ∀ d, Dw d → ((g d).isSome = true ↔ d ∈ S)) :
    Maps.size D = S.length := by
  obtain ⟨es, hD, hpw, _⟩ := hown.entries law
  obtain ⟨es', hD', hko⟩ := hown.keysOf
  obtain rfl : es = es' := by rw [hD] at hD'; simpa using hD'
  subst hD
  have hp : (es.map Prod.fst).Perm (S.map kl) := by
    refine (List.perm_ext_iff_of_nodup ?_ ?_).2 fun x => ?_
    · exact List.pairwise_map.2 hpw
    · exact nodup_kl hS hw
    · constructor
      · intro hx
        obtain ⟨p, hp, rfl⟩ := List.mem_map.1 hx
        obtain ⟨v, hv⟩ := hko p hp
        obtain ⟨d, _, hdw, hk⟩ := keyOf_dot_inv hv
        have hh : Maps.has (.map es) (kl d) = true := List.any_eq_true.2 ⟨p, hp, by rw [hk]; exact WideAt.sameKey_self (kl_isKey d)⟩
        rw [(h d hdw).1] at hh
        exact List.mem_map.2 ⟨d, (hm d hdw).1 hh, hk.symm⟩
      · intro hx
        obtain ⟨d, hd, rfl⟩ := List.mem_map.1 hx
        have hh := (hm d (hw d hd)).2 hd
        rw [← (h d (hw d hd)).1] at hh
        obtain ⟨p, hp, hs⟩ := List.any_eq_true.1 hh
        exact List.mem_map.2 ⟨p, hp, WideAt.sameKey_eq hs⟩
  have := hp.length_eq
  simpa [Maps.size] using this

/-- Where each dot stands first. -/
def pl (L : List Dt) (d : Dt) : Option Int := if d ∈ L then some (L.idxOf d : Int) else Option.none

theorem pl_some (L : List Dt) (d : Dt) : (pl L d).isSome = true ↔ d ∈ L := by unfold pl; split <;> simp_all

theorem pl_snoc (L : List Dt) (d e : Dt) : pl (L ++ [d]) e = if (pl L d).isSome = true then pl L e else if e = d then some (L.length : Int) else pl L e := by
  unfold pl
  by_cases hd : d ∈ L
  · by_cases he : e ∈ L
    · simp [hd, he, List.idxOf_append]
    · have : e ≠ d := fun h => he (h ▸ hd)
      simp [hd, he, this]
  · by_cases hed : e = d
    · subst hed
      simp [hd, List.idxOf_append]
    · by_cases he : e ∈ L
      · simp [hd, he, hed, List.idxOf_append]
      · simp [hd, he, hed]
end

section
open Go.RowKit Go.Sort Go.Maps

/-- Block b is a map of at most n dots that tells g. -/
def DM (w : World) (b n : Nat) (g : Dt → Option Int) : Prop := ∃ D : DataW Unit, w.ownsMap Try.prog 24 (plainElem (H := Unit) Try.prog 3) b n D ∧ MTells D g

theorem DM.below {w w' : World} {b n : Nat} {g : Dt → Option Int} (h : DM w b n g) {B : Nat} (hb : Below B w w') (hB : b < B) : DM w' b n g := by
  obtain ⟨D, ⟨es, clock, h1, h2⟩, hT⟩ := h
  exact ⟨D, ⟨es, clock, by rw [hb.block b hB]; exact h1, h2⟩, hT⟩

theorem DM.lt {w : World} {b n : Nat} {g : Dt → Option Int} (h : DM w b n g) : b < w.heap.size := by
  obtain ⟨D, hown, _⟩ := h
  exact hown.lt

set_option maxHeartbeats 2000000 in
theorem places_any (a : Option Addr) (n c : Nat) (L : List Dt) (w : World) (hs : PS w a n c L) (hd : Dws L) (hn : n ≤ 1000000) :
    Calls Try.prog 58 #[.slice a n c] w fun e w' => e = .returned (.map (some w.heap.size)) ∧ DM w' w.heap.size n (pl L) ∧ Below w.heap.size w w' := by
  have hlen := hs.len
  have hcap := hs.cap
  have hmk := @run_makeMap Try.prog
  go_enter Try.func58, Try.ntmps58
  go_wp2
  go_loopw [11] (fun i wr => ∃ k : Nat, k ≤ n ∧ i = .int .i64 k ∧ DM wr w.heap.size k (pl (L.take k)) ∧ Below w.heap.size w wr) (fun i _ => n - (intOf i).toNat)
  case atStart => exact ⟨0, by omega, rfl, ⟨_, World.ownsMap_made _ _ _ _, tells_empty.congr (fun d => by simp [pl])⟩, (Below.refl _ _).alloc (Nat.le_refl _) _⟩
  case round =>
    obtain ⟨k, hk, rfl, hdm, hbl⟩ := hrel
    by_cases hlt : k < n
    · obtain ⟨g, o, rfl, hg, hcell⟩ := (hs.below hbl).at (by omega)
      obtain ⟨hc0, hc1⟩ := hcell k (by omega)
      have hdk : Dw (L[k]'(by omega)) := hd _ (List.getElem_mem _)
      have hts := take_snoc (L := L) (k := k) (by omega)
      generalize (L[k]'(by omega)) = d at hc0 hc1 hdk hts
      obtain ⟨D, hown, hT⟩ := hdm
      have hlk := hT d hdk
      clear hs hd hcell
      cases hp : pl (L.take k) d with
      | none =>
        rw [hp] at hlk
        obtain ⟨hhas, _⟩ := hlk
        have hhas' : Maps.has D (kl d) = false := hhas
        go_wp2_with (first
          | (at_lookup; refine wpList_lookup_own_ok_int _ rfl _ _ 106 rfl 24 3 .i64 law Try.underlying106 Try.underlying3 (zero3 _) w.heap.size k D rfl (hown.alloc _) _ _ rfl (keyOf_dot hdk) ?_; intro cc hat hwc; rw [hhas'])
          | (at_mapUpdate; refine wpList_mapUpdate_own _ rfl _ _ _ 106 rfl 24 3 law Try.underlying106 _ w.heap.size k D rfl (hown.alloc _) (by unfold maxLen; omega) _ _ (kl d) rfl rfl (keyOf_dot hdk) (.lit (.int .i64 k)) [] (plainElem_int Try.underlying3 (WalkArith.wf_i64 (by omega))) ?_; intro w1 hown1 hgrow1))
        go_roundw
        case rel =>
          refine ⟨k + 1, by omega, by go_num, ⟨_, hown1, ?_⟩, (hbl.alloc hbl.size _).grown hgrow1 (hbl.alloc hbl.size _).size (fun j hj => by cases hj; exact Nat.le_refl _)⟩
          refine (hT.put hown.isMap hdk k).congr fun e => ?_
          rw [hts, pl_snoc, hp, List.length_take]
          simp only [Option.isSome_none, Bool.false_eq_true, if_false]
          rw [Nat.min_eq_left (by omega)]
        case measure => simp [intOf]; omega
      | some cc =>
        rw [hp] at hlk
        obtain ⟨hhas, _⟩ := hlk
        have hhas' : Maps.has D (kl d) = true := hhas
        go_wp2_with (first
          | (at_lookup; refine wpList_lookup_own_ok_int _ rfl _ _ 106 rfl 24 3 .i64 law Try.underlying106 Try.underlying3 (zero3 _) w.heap.size k D rfl (hown.alloc _) _ _ rfl (keyOf_dot hdk) ?_; intro cc hat hwc; rw [hhas']))
        go_roundw
        case rel =>
          refine ⟨k + 1, by omega, by go_num, ⟨_, (hown.alloc _).mono (Nat.le_succ _), ?_⟩, hbl.alloc hbl.size _⟩
          refine hT.congr fun e => ?_
          rw [hts, pl_snoc, hp]
          simp
        case measure => simp [intOf]; omega
    · obtain rfl : k = n := by omega
      go_wp2
      go_ret
      rw [← hlen, List.take_length] at hdm
      exact ⟨rfl, hlen ▸ hdm, hbl⟩
end

section
open Go.RowKit Go.Sort Go.Maps

/-- The slice of n dots in block g, of this capacity, is of the call's own and holds L. -/
abbrev Own (w : World) (base g n c : Nat) (L : List Dt) : Prop := w.ownsRow base 24 2 (.slice (some ⟨g, 0, none⟩) n c) n (flat L)

theorem Own.ps {w : World} {base g n c : Nat} {L : List Dt} (h : Own w base g n c L) (hl : L.length = n) : PS w (some ⟨g, 0, none⟩) n c L := by
  have hc := h.cells (g := g) rfl
  rcases h.2 with ⟨h0, _⟩ | ⟨g', cap', cur, hv, hg, hb, hn, hcap, _, _⟩
  · cases h0
  · cases hv
    exact ⟨hl, hn, hcap, fun h => (by cases h), fun ad ha j u hj => (by cases ha; exact hc j u hj)⟩

/-- What the library's sort does to a row of dots each of which stands there once. -/
def SortSays : Prop := ∀ (base g c : Nat) (ds : List Dt) (w : World), Own w base g ds.length c ds → ds.Nodup → ds.length ≤ 1000000 →
  Calls Try.prog 78 #[.slice (some ⟨g, 0, none⟩) ds.length c, .func (.func 79) #[] #[]] w fun e w' =>
    e = .returned (.tuple #[]) ∧ Own w' base g ds.length c (rise ds) ∧ w.grownBy w' (some g)

/-- The dots that were met so far. -/
def Coll (D : DataW Unit) (left : Lit → Bool) (cs : List Dt) : Prop := cs.Nodup ∧ Dws cs ∧ ∀ d, Dw d → (d ∈ cs ↔ Maps.has D (kl d) = true ∧ left (kl d) = false)

theorem coll_start (D : DataW Unit) : Coll D (Maps.has D) [] := ⟨List.nodup_nil, fun d hd => by simp at hd, fun d _ => by cases Maps.has D (kl d) <;> simp⟩

theorem Coll.step {D : DataW Unit} {left : Lit → Bool} {cs : List Dt} (h : Coll D left cs) {x : Dt} (hx : Dw x) {y : DataW Unit} (hlk : left (kl x) = true) (hat : ∀ zd, D.atKey (kl x) zd = y) :
    Coll D (fun z => left z && !z.sameKey (kl x)) (cs ++ [x]) := by
  have hhas : Maps.has D (kl x) = true := has_true_of_atKey hat
  have hnew : x ∉ cs := fun hm => by have := ((h.2.2 x hx).1 hm).2; rw [hlk] at this; cases this
  refine ⟨List.nodup_append.2 ⟨h.1, by simp, fun a ha b hb => by simp at hb; subst hb; exact fun e => hnew (e ▸ ha)⟩, fun d hd => ?_, fun d hd => ?_⟩
  · rcases List.mem_append.1 hd with hd | hd
    · exact h.2.1 d hd
    · simp at hd; exact hd ▸ hx
  · by_cases hdx : d = x
    · subst hdx
      simp [hhas, WideAt.sameKey_self (kl_isKey d)]
    · have hs : (kl d).sameKey (kl x) = false := sameKey_ne (fun e => hdx (kl_inj hd hx e))
      simp [h.2.2 d hd, hdx, hs]

theorem cell_two_new1 (w : World) (o : Obj) (x y : Value) (T : TypeId) : ∀ j u, ([x, y] : List Value)[j]? = some u → ((w.alloc o).alloc (.cells #[x, y] T)).cell? ((⟨w.heap.size + 1, 0, none⟩ : Addr).add j) = some u := by
  have := cell_two_new (w.alloc o) x y T
  simpa using this

theorem nodup_rise_length {l : List Dt} (h : l.Nodup) : (rise l).length = l.length :=
  ((List.perm_ext_iff_of_nodup (up_nodup (up_rise l)) h).2 (fun d => mem_rise d l)).length_eq

set_option maxRecDepth 100000 in
set_option maxHeartbeats 2000000 in
theorem row_has (hsort : SortSays) (b m : Nat) (D : DataW Unit) (S : List Dt) (w : World) (hown : w.ownsMap Try.prog 24 (plainElem (H := Unit) Try.prog 3) b m D) (hS : ∀ d, Dw d → (Maps.has D (kl d) = true ↔ d ∈ S)) (hw : Dws S) (hm : m ≤ 1000000) :
    Calls Try.prog 57 #[.map (some b)] w fun e w' => ∃ g c, e = .returned (.slice (some ⟨g, 0, none⟩) (rise S).length c) ∧ Own w' w.heap.size g (rise S).length c (rise S) ∧ Below w.heap.size w w' := by
  obtain ⟨i0, hi, hz0, hz1, hz2⟩ := info_parts Try.info24
  have hbl := hown.lt
  have hsz := hown.size_le
  go_enter Try.func57, Try.ntmps57
  go_wp2_with (first
    | (at_len; refine wpList_len_own _ rfl _ 106 rfl 24 3 Try.underlying106 _ b m _ rfl hown ?_)
    | (at_make; refine wpList_make_own _ rfl _ _ 29 rfl w.heap.size 24 i0 (.agg #[.int .i64 0, .int .i64 0]) 2 Try.underlying29 hi hz0 hz1 _ _ _ (Maps.size D) rfl rfl rfl (by rw [hz2]; omega) (by unfold maxLen; omega) (Nat.le_refl _) ?_; intro w1 hrow1 hg1)
    | (at_range; refine wpList_range_own _ rfl _ 106 rfl 24 3 law Try.underlying106 _ b m _ rfl (hown.kept hg1 (by simp)) ?_; intro w0 hrg0 hg0 hs0)
    | go_in)
  go_frame
  go_loopw [3] (fun v wr => ∃ (left : Lit → Bool) (cnt : Nat) (cs : List Dt), wr.ranges Try.prog 24 (plainElem (H := Unit) Try.prog 3) b w1.heap.size m D left cnt ∧ cs.length + cnt ≤ Maps.size D ∧
      wr.ownsRow w.heap.size 24 2 v cs.length (flat cs) ∧ v ≠ .slice none 0 0 ∧ Coll D left cs ∧ Below w.heap.size w wr)
    (fun _ wr => wr.rangeLeft b w1.heap.size)
  case atStart =>
    exact ⟨_, _, [], hrg0, by simp, hrow1.kept hg0 (Or.inr (by simp [Value.ownBlock])), by simp, coll_start D,
      ((Below.refl _ _).grown hg1 (Nat.le_refl _) (fun j hj => by cases hj)).grown hg0 hg1.size (fun j hj => by cases hj)⟩
  case round =>
    obtain ⟨left, cnt, cs, hrg, hcs, hrow, hnn, hC, hnx⟩ := hrel
    go_wp2_with (first
      | (at_next; refine wpList_next_ranges _ rfl _ rfl 24 law (plainElem (H := Unit) Try.prog 3) dv (Value.int .i64) (fun key kl hk => by obtain ⟨x, hx, _⟩ := keyOf_dot_inv hk; exact ⟨x, hx⟩) (fun v y hv => by obtain ⟨c, rfl, _⟩ := plainElem_int_inv Try.underlying3 hv; exact ⟨c, rfl⟩) b w1.heap.size m _ _ _ rfl hrg ?_ ?_)
      | go_in)
    · intro hc0 hl0
      rcases hrow.2 with ⟨hnil, _⟩ | ⟨g, cap, cur, rfl, hbase, hb, h1, h2, h3, h4⟩
      · exact absurd hnil hnn
      have hc := hsort w.heap.size g cap cs wr hrow hC.1 (by omega)
      have hrs : rise cs = rise S := up_ext (up_rise _) (up_rise _) (fun d => by
        rw [mem_rise, mem_rise]
        constructor
        · intro hd
          have hdw := hC.2.1 d hd
          exact (hS d hdw).1 ((hC.2.2 d hdw).1 hd).1
        · intro hd
          have hdw := hw d hd
          exact (hC.2.2 d hdw).2 ⟨(hS d hdw).2 hd, hl0 _⟩)
      have hk : Hid (rise cs = rise S ∧ cs.length = (rise S).length) := hid ⟨hrs, by rw [← hrs]; exact (nodup_rise_length hC.1).symm⟩
      clear hrs hc0 hl0
      go_wp2_with (go_at_call 78; refine hc.mono ?_; rintro e w' ⟨rfl, ho', hg'⟩)
      go_ret
      obtain ⟨hrs, hcl⟩ := hk.out
      rw [hrs, hcl] at ho'
      refine ⟨g, cap, by rw [hcl]; rfl, ho', hnx.grown hg' hnx.size (fun j hj => by cases hj; exact hbase)⟩
    · intro x1 x2 c kk yd yp w2 cnt2 hkey hlk hv hat hrg2 hlt hg2 hs2 hen
      obtain ⟨x', ex, hxw, rfl⟩ := keyOf_dot_inv hkey
      obtain rfl : (x1, x2) = x' := (agg_eq (x1, x2) x').1 ex
      have hrow2 := hrow.kept hg2 (Or.inr (row_ne_iter hrow hrg).symm)
      clear hs2
      go_wp2_with (first
        | (at_builtin; refine wpList_append_own _ rfl _ _ 29 rfl w.heap.size 24 i0 (.agg #[.int .i64 0, .int .i64 0]) 2 16 Try.underlying29 hi hz0 hz1 hz2 rfl (by decide) _ _ _ rfl ((hrow2.alloc _).alloc _) ⟨w2.heap.size + 1, 0, none⟩ 1 1 [.int .i64 x1, .int .i64 x2] rfl rfl (cell_two_new1 _ _ _ _ _) (by simp [Value.oneCell']) (by unfold maxLen at *; omega) (by omega) (by have := hnx.size; have := hg2.size; simp; omega) ?_; intro v' w3 hown' hg3 hnil3; go_frame)
        | go_in)
      have hrg3 := ((hrg2.alloc _).alloc _).kept hg3 (row_ne_low hrow2 hbl) (row_ne_iter hrow2 hrg2)
      go_roundw
      case rel =>
        refine ⟨_, cnt2, cs ++ [(x1, x2)], hrg3, by simp; omega, by simpa [flat_append, flat] using hown', fun hv' => by have := (hnil3.1 hv').2; omega, hC.step hxw hlk hat, ?_⟩
        exact (((hnx.grown hg2 hnx.size (fun j hj => by cases hj; exact hg1.size)).alloc (by have := hnx.size; have := hg2.size; omega) _).alloc (by have := hnx.size; have := hg2.size; simp; omega) _).grown hg3 (by have := hnx.size; have := hg2.size; simp; omega) (fun j hj => (hrow2.lt j hj).1)
      case measure => rw [hrg3.left_eq, hrg.left_eq]; exact hlt

theorem row_any (hsort : SortSays) (b m : Nat) (f : Dt → Option Int) (S : List Dt) (w : World) (hdm : DM w b m f) (hS : ∀ d, Dw d → ((f d).isSome = true ↔ d ∈ S)) (hw : Dws S) (hm : m ≤ 1000000) :
    Calls Try.prog 57 #[.map (some b)] w fun e w' => ∃ g c, e = .returned (.slice (some ⟨g, 0, none⟩) (rise S).length c) ∧ Own w' w.heap.size g (rise S).length c (rise S) ∧ Below w.heap.size w w' := by
  obtain ⟨D, hown, hT⟩ := hdm
  exact row_has hsort b m D S w hown (fun d hd => by rw [(hT d hd).1]; exact hS d hd) hw hm
end
end Go.Proofs.Ytplcohjpchfkkaa
