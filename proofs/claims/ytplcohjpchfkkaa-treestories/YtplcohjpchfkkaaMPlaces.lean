/- Places: a new map that tells of each dot of the row where it stands first. -/
import Derived.Test.YtplcohjpchfkkaaTrMove
import Derived.Test.YtplcohjpchfkkaaVMay
import Derived.Test.YtplcohjpchfkkaaTrState
import Derived.Test.YtplcohjpchfkkaaTrDoM
import Derived.Test.YtplcohjpchfkkaaTrKey
import Derived.WalkKit
import Derived.Below
import Derived.Maps.OwnSet
import Derived.Maps.RangeWalk
import Derived.Sort.KeysCollected
import Derived.WalkSpells
import Derived.WalkLawsBesides
namespace Go.Proofs.Ytplcohjpchfkkaa
section
set_option linter.unusedVariables false
set_option linter.unusedSimpArgs false
open Go.RowKit

/-- now, of a tree as its users see it. -/
theorem now_tt {t : Nat} {l : List Mv} {A : Nat → Prop} {w : World} (h : TT w t l A) :
    Calls Try.prog 39 #[.pointer (some ⟨t, 0, none⟩)] w fun e w' => e = .returned (.pointer (some ⟨t, 3, none⟩)) ∧ ∃ gs S lg fd pl kd fl B A', TR w' t l l.length gs S lg fd pl kd fl B A' ∧ fl.length = l.length ∧ (∀ (i g : Nat) (m : Mv), gs[i]? = some g → l[i]? = some m → (m, g) ∈ fl) ∧ (∀ x ∈ fl, ∃ i : Nat, gs[i]? = some x.2 ∧ l[i]? = some x.1) ∧ KA w w' A A' := by
  obtain ⟨k, gs, S, lg, fd, pl, kd, fl, B, h1, h2, h3, h4⟩ := h
  refine (now_any t l k gs S lg fd pl kd fl B A w h1).mono ?_
  rintro e w' ⟨e1, S', pl', kd', B', A', h5, h6⟩
  exact ⟨e1, gs, S', lg, fd, pl', kd', fl, B', A', h5, h2, h3, h4, h6⟩

theorem TR.tt {w : World} {t : Nat} {l : List Mv} {k : Nat} {gs : List Nat} {S : List Sp} {lg fd pl kd : Value} {fl : List (Mv × Nat)} {B A : Nat → Prop} (h : TR w t l k gs S lg fd pl kd fl B A) (h2 : fl.length = l.length) (h3 : ∀ (i g : Nat) (m : Mv), gs[i]? = some g → l[i]? = some m → (m, g) ∈ fl) (h4 : ∀ x ∈ fl, ∃ i : Nat, gs[i]? = some x.2 ∧ l[i]? = some x.1) : TT w t l A := ⟨k, gs, S, lg, fd, pl, kd, fl, B, h, h2, h3, h4⟩

theorem TR.lk_run {w : World} {t : Nat} {l : List Mv} {gs : List Nat} {S : List Sp} {lg fd pl kd : Value} {fl : List (Mv × Nat)} {B A : Nat → Prop} (h : TR w t l l.length gs S lg fd pl kd fl B A) : S.Perm (run l) ∧ (∀ d, lk S d = lk (run l) d) ∧ (∀ p, kidB S p = kidB (run l) p) ∧ (∀ d, pth S d = pth (run l) d) := by
  have hp := h.perm
  rw [List.take_length] at hp
  obtain ⟨r, hr⟩ := h.tk
  exact ⟨hp, lk_perm hr.nd hp, fun p => by unfold kidB; rw [kidS_perm hr.nd hp p], hr.pth_perm hp⟩

theorem KA.pre {w V X : World} {A A' : Nat → Prop} (hA : ∀ j, A j → j < w.heap.size) (hb : Below w.heap.size w V) (h : KA V X A A') : KA w X A A' :=
  (KA.below (A := A) hb).trans h
theorem KA.post {w V X : World} {A A' : Nat → Prop} (h : KA w V A A') (hb : Below V.heap.size V X) : KA w X A A' := h.trans (KA.below (A := A') hb)

theorem new_tt (w : World) : Calls Try.prog 10 #[] w fun e w' => e = .returned (.pointer (some ⟨w.heap.size, 0, none⟩)) ∧ TT w' w.heap.size [] (fun j => j = w.heap.size) ∧ Below w.heap.size w w' := by
  have hb : Below w.heap.size w (w.alloc (.cells #[.slice none 0 0, .map none, .int .i64 0, .map none, .map none] 68)) := (Below.refl _ w).alloc (Nat.le_refl _) _
  have hn : (w.alloc (.cells #[.slice none 0 0, .map none, .int .i64 0, .map none, .map none] 68)).heap[w.heap.size]? = some (.cells #[.slice none 0 0, .map none, .int .i64 0, .map none, .map none] 68 (0, 0)) := World.alloc_heap_new w _
  have HF : Hid (TT (w.alloc (.cells #[.slice none 0 0, .map none, .int .i64 0, .map none, .map none] 68)) w.heap.size [] (fun j => j = w.heap.size)) := hid
    ⟨0, [], [], .slice none 0 0, .map none, .map none, .map none, [], fun _ => False, ⟨hn, World.ownsRow_nil _ _ _ _, rfl, List.nodup_nil, fun i g m h1 h2 => by simp at h1, Nat.le_refl _, Or.inl ⟨rfl, rfl, rfl⟩, List.Perm.refl _, Lg.nil, by simp, fun j hj => hj.elim, fun hj => hj, fun g hg => by simp at hg, fun j hj => by simp [Value.ownBlock] at hj, Or.inl ⟨rfl, rfl⟩, by simp, fun j hj => hj.elim, rfl, fun g hg => by simp at hg, fun j hj => by simp [Value.ownBlock] at hj, fun j hj => by subst hj; simp⟩, rfl, fun i g m h1 h2 => by simp at h1, by simp⟩
  have HB := hid hb
  clear hb hn
  go_enter Try.func10, Try.ntmps10
  go_wp2
  go_ret
  exact ⟨rfl, HF.out, HB.out⟩

set_option maxRecDepth 100000 in
set_option maxHeartbeats 4000000 in
theorem there_tt (t : Nat) (l : List Mv) (A : Nat → Prop) (d : Dt) (w : World) (h : TT w t l A) (hd : Dw d) :
    Calls Try.prog 25 #[.pointer (some ⟨t, 0, none⟩), dv d] w fun e w' => e = .returned (.bool (lk (run l) d).isSome) ∧ ∃ A', TT w' t l A' ∧ KA w w' A A' := by
  obtain ⟨d1, d2⟩ := d
  have hmxo : Try.prog.follows .mixedOrders = true := by kernel_rfl
  obtain ⟨W0, hW0⟩ : ∃ W0, W0 = w.alloc (.cells #[.int .i64 d1, .int .i64 d2] 24) := ⟨_, rfl⟩
  have hB0 : Below w.heap.size w W0 := by rw [hW0]; exact (Below.refl _ w).alloc (Nat.le_refl _) _
  have hb0 : W0.heap[w.heap.size]? = some (.cells #[.int .i64 d1, .int .i64 d2] 24 (0, 0)) := by rw [hW0]; exact World.alloc_heap_new w _
  have hl0 := (Array.getElem?_eq_some_iff.1 hb0).1
  have hAH : ¬ A w.heap.size := fun e => by have := h.lt _ e; omega
  have hTT := h.below hB0
  have hT0 : TT W0.drew t l A := hTT.same (Nat.le_refl _) (fun j _ => rfl)
  obtain ⟨Bv, hBv⟩ : ∃ Bv, Bv = (lk (run l) (d1, d2)).isSome := ⟨_, rfl⟩
  have HN := (now_tt hT0).mono (R' := fun e W1 => e = .returned (.pointer (some ⟨t, 3, none⟩)) ∧ (W1.cell? ⟨w.heap.size, 0, none⟩ = some (.int .i64 d1) ∧ W1.cell? ⟨w.heap.size, 1, none⟩ = some (.int .i64 d2)) ∧ Calls Try.prog 43 #[.pointer (some ⟨t, 3, none⟩), .agg #[.int .i64 d1, .int .i64 d2]] W1 fun e W2 => e = .returned (.bool Bv) ∧ (W2.cell? ⟨w.heap.size, 0, none⟩ = some (.int .i64 d1) ∧ W2.cell? ⟨w.heap.size, 1, none⟩ = some (.int .i64 d2)) ∧ Hid (∃ A', TT W2 t l A' ∧ KA w W2 A A')) (fun e W1 hh => by
    obtain ⟨e1, gs, S, lg, fd, pl, kd, fl, B, A', h1, h2, h3, h4, h5⟩ := hh
    obtain ⟨q1, q2, q3, q4⟩ := h1.lk_run
    have c0 : W1.heap[w.heap.size]? = _ := (h5.keep w.heap.size hl0 hAH).trans hb0
    have htb := h1.tb
    unfold TB at htb
    refine ⟨e1, ⟨by simp [World.cell?, c0], by simp [World.cell?, c0]⟩, ?_⟩
    refine (there_any t 3 pl S (d1, d2) hd W1 (by simp [World.cell?, htb]) h1.sb.v).mono ?_
    rintro e W2 ⟨e2, hb⟩
    have c2 : W2.heap[w.heap.size]? = _ := (hb.block w.heap.size (Array.getElem?_eq_some_iff.1 c0).1).trans c0
    refine ⟨by rw [e2, q2, hBv], ⟨by simp [World.cell?, c2], by simp [World.cell?, c2]⟩, hid ⟨A', (h1.tt h2 h3 h4).below hb, ?_⟩⟩
    exact (KA.pre h.lt (hB0.trans ((((Far.refl W0).drewN 1).below).mono hB0.size)) h5).post hb)
  have hS0 : W0.drew.cell? ⟨w.heap.size, 0, none⟩ = some (.int .i64 d1) ∧ W0.drew.cell? ⟨w.heap.size, 1, none⟩ = some (.int .i64 d2) := ⟨by show W0.cell? _ = _; simp [World.cell?, hb0], by show W0.cell? _ = _; simp [World.cell?, hb0]⟩
  have HW := hid hW0
  have HBV := hid hBv
  rw [← HBV.out]
  clear hW0 hB0 hb0 hl0 hAH hTT hT0 hBv h
  go_enter Try.func25, Try.ntmps25
  go_wp2_with fail
  rw [← HW.out]
  refine wp_region_held_drew (S := fun w' => w'.cell? ⟨w.heap.size, 0, none⟩ = some (.int .i64 d1) ∧ w'.cell? ⟨w.heap.size, 1, none⟩ = some (.int .i64 d2)) hmxo hS0 ?_
  intro _
  refine wpAnyH_take (i := 0) (v := .pointer (some ⟨t, 0, none⟩)) rfl (by kernel_rfl) (by kernel_rfl) (by kernel_rfl) (fun _ _ _ h => h) (Or.inl ⟨by kernel_rfl, fun w hSw => ?_⟩) hS0 ?_
  · obtain ⟨e1, e2⟩ := hSw; go_simp
  simp only [Act.put, List.getElem_toArray, List.getElem_cons_succ, List.getElem_cons_zero, List.setIfInBounds_toArray, List.set_cons_zero, List.set_cons_succ]
  refine wpAnyH_take (i := 2) (v := .agg #[.int .i64 d1, .int .i64 d2]) rfl (by kernel_rfl) (by kernel_rfl) (by kernel_rfl) (fun _ _ _ h => h) (Or.inl ⟨by kernel_rfl, fun w hSw => ?_⟩) hS0 ?_
  · obtain ⟨e1, e2⟩ := hSw; go_simp
  simp only [Act.put, List.getElem_toArray, List.getElem_cons_succ, List.getElem_cons_zero, List.setIfInBounds_toArray, List.set_cons_zero, List.set_cons_succ]
  refine wpAnyH_ready (rs := [1]) (by kernel_rfl) (by simp) ?_
  refine AllReadyH.cons rfl (fun K hK => ?_) AllReadyH.nil
  go_simp
  refine HN.mono ?_
  rintro e W1 ⟨rfl, S1, HT⟩
  refine hK.out _ _ S1 (fun _ => ?_)
  clear hK K
  refine wpAnyH_ready (rs := [3]) (by kernel_rfl) (by simp) ?_
  refine AllReadyH.cons rfl (fun K hK => ?_) AllReadyH.nil
  go_simp
  refine HT.mono ?_
  rintro e W2 ⟨rfl, S2, HF⟩
  refine hK.out _ _ S2 (fun _ => ?_)
  clear hK K
  refine wpAnyH_take (i := 4) (v := .bool Bv) rfl (by kernel_rfl) (by kernel_rfl) (by kernel_rfl) (fun _ _ _ h => h) (Or.inl ⟨by kernel_rfl, fun w hSw => ?_⟩) S2 ?_
  · obtain ⟨e1, e2⟩ := hSw; go_simp
  simp only [Act.put, List.getElem_toArray, List.getElem_cons_succ, List.getElem_cons_zero, List.setIfInBounds_toArray, List.set_cons_zero, List.set_cons_succ]
  refine wpAnyH_done (by kernel_rfl) ?_ _
  go_wp2
  go_ret
  exact ⟨rfl, HF.out⟩
end

section
set_option linter.unusedVariables false
set_option linter.unusedSimpArgs false
open Go.RowKit

/-- Did a move take effect? -/
def tookB (l : List Mv) (d : Dt) : Bool := (List.range l.length).any (fun i => match l[i]? with
  | some m => decide (m.id = d) && takes (run (l.take i)) m
  | none => false)

theorem tookB_iff {l : List Mv} {d : Dt} : tookB l d = true ↔ tookP l d := by
  unfold tookB tookP
  rw [List.any_eq_true]
  constructor
  · rintro ⟨i, hi, h⟩
    rw [List.mem_range] at hi
    rw [List.getElem?_eq_getElem hi] at h
    simp only [Bool.and_eq_true, decide_eq_true_eq] at h
    exact ⟨i, l[i], List.getElem?_eq_getElem hi, h.1, h.2⟩
  · rintro ⟨i, m, h1, h2, h3⟩
    have hi := (List.getElem?_eq_some_iff.1 h1).1
    refine ⟨i, List.mem_range.2 hi, ?_⟩
    rw [h1]
    simp [h2, h3]

theorem tookB_at {l : List Mv} (h : (l.map Mv.id).Nodup) {i : Nat} {m : Mv} (hi : l[i]? = some m) : tookB l m.id = takes (run (l.take i)) m := by
  cases hb : takes (run (l.take i)) m with
  | true => exact tookB_iff.2 ⟨i, m, hi, rfl, hb⟩
  | false =>
    cases hc : tookB l m.id with
    | false => rfl
    | true =>
      obtain ⟨j, x, h1, h2, h3⟩ := tookB_iff.1 hc
      have hj := (List.getElem?_eq_some_iff.1 h1).1
      have : j = i := by
        refine (List.getElem?_inj (l := l.map Mv.id) (by simpa using hj) h).1 ?_
        rw [List.getElem?_map, List.getElem?_map, h1, hi]
        simp [h2]
      subst this
      rw [h1] at hi
      cases hi
      rw [h3] at hb
      cases hb

theorem tookB_no {l : List Mv} {d : Dt} (h : ∀ m ∈ l, m.id ≠ d) : tookB l d = false := by
  cases hc : tookB l d with
  | false => rfl
  | true =>
    obtain ⟨j, x, h1, h2, h3⟩ := tookB_iff.1 hc
    exact absurd h2 (h x (List.mem_of_getElem? h1))

set_option maxRecDepth 100000 in
set_option maxHeartbeats 4000000 in
theorem took_no (t : Nat) (l : List Mv) (A : Nat → Prop) (d : Dt) (w : World) (h : TT w t l A) (hd : Dw d) (hn : ∀ m ∈ l, m.id ≠ d) :
    Calls Try.prog 18 #[.pointer (some ⟨t, 0, none⟩), dv d] w fun e w' => e = .returned (.bool false) ∧ ∃ A', TT w' t l A' ∧ KA w w' A A' := by
  obtain ⟨d1, d2⟩ := d
  have hmxo : Try.prog.follows .mixedOrders = true := by kernel_rfl
  obtain ⟨W0, hW0⟩ : ∃ W0, W0 = w.alloc (.cells #[.int .i64 d1, .int .i64 d2] 24) := ⟨_, rfl⟩
  have hB0 : Below w.heap.size w W0 := by rw [hW0]; exact (Below.refl _ w).alloc (Nat.le_refl _) _
  have hb0 : W0.heap[w.heap.size]? = some (.cells #[.int .i64 d1, .int .i64 d2] 24 (0, 0)) := by rw [hW0]; exact World.alloc_heap_new w _
  have hl0 := (Array.getElem?_eq_some_iff.1 hb0).1
  have hAH : ¬ A w.heap.size := fun e => by have := h.lt _ e; omega
  have hTT := h.below hB0
  have HN := (now_tt hTT).mono (R' := fun e W1 => e = .returned (.pointer (some ⟨t, 3, none⟩)) ∧ ∃ fd, (W1.drew.cell? ⟨t, 1, none⟩ = some fd ∧ W1.drew.cell? ⟨w.heap.size, 0, none⟩ = some (.int .i64 d1) ∧ W1.drew.cell? ⟨w.heap.size, 1, none⟩ = some (.int .i64 d2) ∧ (Instr.lookup 62 fd (.agg #[.int .i64 d1, .int .i64 d2]) false).run Try.prog W1.drew = .ok (.pointer none) W1.drew) ∧ Hid (∃ A', TT W1.drew t l A' ∧ KA w W1.drew A A')) (fun e W1 hh => by
    obtain ⟨e1, gs, S, lg, fd, pl, kd, fl, B, A', h1, h2, h3, h4, h5⟩ := hh
    have c0 : W1.drew.heap[w.heap.size]? = _ := (h5.keep w.heap.size hl0 hAH).trans hb0
    have htb := h1.tb
    unfold TB at htb
    have htb' : W1.drew.heap[t]? = _ := htb
    have h1' : TT W1.drew t l A' := (h1.tt h2 h3 h4).same (Nat.le_refl _) (fun j _ => rfl)
    refine ⟨e1, fd, ⟨by simp only [World.cell?, htb']; rfl, by simp only [World.cell?, c0]; rfl, by simp only [World.cell?, c0]; rfl, ?_⟩, hid ⟨A', h1', ?_⟩⟩
    · rcases TT.look h1 h3 h4 hd with ⟨_, hlk⟩ | ⟨i, g, m, e1, e2, e3, _⟩
      · exact hlk W1.drew (fun j _ => rfl)
      · exact absurd e3 (hn m (List.mem_of_getElem? e2))
    · have := KA.pre h.lt hB0 h5
      exact ⟨this.size, this.keep, this.new, this.sm⟩)
  have HW := hid hW0
  clear hW0 hB0 hb0 hl0 hAH hTT h
  go_enter Try.func18, Try.ntmps18
  go_wp2_with (go_at_call 39; rw [← HW.out]; refine HN.mono ?_; rintro e W1 ⟨rfl, fd, hS4, HF⟩)
  refine wp_region_held_drew (S := fun w' => w'.cell? ⟨t, 1, none⟩ = some fd ∧ w'.cell? ⟨w.heap.size, 0, none⟩ = some (.int .i64 d1) ∧ w'.cell? ⟨w.heap.size, 1, none⟩ = some (.int .i64 d2) ∧ (Instr.lookup 62 fd (.agg #[.int .i64 d1, .int .i64 d2]) false).run Try.prog w' = .ok (.pointer none) w') hmxo hS4 ?_
  intro _
  refine wpAnyH_take (i := 0) (v := .pointer (some ⟨t, 0, none⟩)) rfl (by kernel_rfl) (by kernel_rfl) (by kernel_rfl) (fun _ _ _ h => h) (Or.inl ⟨by kernel_rfl, fun w hSw => ?_⟩) hS4 ?_
  · obtain ⟨e1, e2, e3, e4⟩ := hSw; go_simp
  simp only [Act.put, List.getElem_toArray, List.getElem_cons_succ, List.getElem_cons_zero, List.setIfInBounds_toArray, List.set_cons_zero, List.set_cons_succ]
  refine wpAnyH_take (i := 1) (v := .pointer (some ⟨t, 0, none⟩)) rfl (by kernel_rfl) (by kernel_rfl) (by kernel_rfl) (fun _ _ _ h => h) (Or.inl ⟨by kernel_rfl, fun w hSw => ?_⟩) hS4 ?_
  · obtain ⟨e1, e2, e3, e4⟩ := hSw; go_simp
  simp only [Act.put, List.getElem_toArray, List.getElem_cons_succ, List.getElem_cons_zero, List.setIfInBounds_toArray, List.set_cons_zero, List.set_cons_succ]
  refine wpAnyH_take (i := 2) (v := .pointer (some ⟨t, 1, none⟩)) rfl (by kernel_rfl) (by kernel_rfl) (by kernel_rfl) (fun _ _ _ h => h) (Or.inl ⟨by kernel_rfl, fun w hSw => ?_⟩) hS4 ?_
  · obtain ⟨e1, e2, e3, e4⟩ := hSw; go_simp
  simp only [Act.put, List.getElem_toArray, List.getElem_cons_succ, List.getElem_cons_zero, List.setIfInBounds_toArray, List.set_cons_zero, List.set_cons_succ]
  refine wpAnyH_take (i := 3) (v := fd) rfl (by kernel_rfl) (by kernel_rfl) (by kernel_rfl) (fun _ _ _ h => h) (Or.inl ⟨by kernel_rfl, fun w hSw => ?_⟩) hS4 ?_
  · obtain ⟨e1, e2, e3, e4⟩ := hSw; go_simp
  simp only [Act.put, List.getElem_toArray, List.getElem_cons_succ, List.getElem_cons_zero, List.setIfInBounds_toArray, List.set_cons_zero, List.set_cons_succ]
  refine wpAnyH_take (i := 4) (v := .agg #[.int .i64 d1, .int .i64 d2]) rfl (by kernel_rfl) (by kernel_rfl) (by kernel_rfl) (fun _ _ _ h => h) (Or.inl ⟨by kernel_rfl, fun w hSw => ?_⟩) hS4 ?_
  · obtain ⟨e1, e2, e3, e4⟩ := hSw; go_simp
  simp only [Act.put, List.getElem_toArray, List.getElem_cons_succ, List.getElem_cons_zero, List.setIfInBounds_toArray, List.set_cons_zero, List.set_cons_succ]
  refine wpAnyH_take (i := 5) (v := .pointer none) rfl (by kernel_rfl) (by kernel_rfl) (by kernel_rfl) (fun _ _ _ h => h) (Or.inl ⟨by kernel_rfl, fun w hSw => ?_⟩) hS4 ?_
  · obtain ⟨e1, e2, e3, e4⟩ := hSw; go_simp
  simp only [Act.put, List.getElem_toArray, List.getElem_cons_succ, List.getElem_cons_zero, List.setIfInBounds_toArray, List.set_cons_zero, List.set_cons_succ]
  refine wpAnyH_take (i := 6) (v := .pointer none) rfl (by kernel_rfl) (by kernel_rfl) (by kernel_rfl) (fun _ _ _ h => h) (Or.inl ⟨by kernel_rfl, fun w hSw => ?_⟩) hS4 ?_
  · obtain ⟨e1, e2, e3, e4⟩ := hSw; go_simp
  simp only [Act.put, List.getElem_toArray, List.getElem_cons_succ, List.getElem_cons_zero, List.setIfInBounds_toArray, List.set_cons_zero, List.set_cons_succ]
  refine wpAnyH_done (by kernel_rfl) ?_ _
  clear hS4 HN
  go_wp2
  go_ret
  exact ⟨rfl, HF.out⟩

set_option maxRecDepth 100000 in
set_option maxHeartbeats 4000000 in
theorem took_yes (t : Nat) (l : List Mv) (A : Nat → Prop) (d : Dt) (w : World) (h : TT w t l A) (hd : Dw d) (i : Nat) (m : Mv) (him : l[i]? = some m) (hmd : m.id = d) (Bv : Bool) (hBv : Bv = takes (run (l.take i)) m) :
    Calls Try.prog 18 #[.pointer (some ⟨t, 0, none⟩), dv d] w fun e w' => e = .returned (.bool Bv) ∧ ∃ A', TT w' t l A' ∧ KA w w' A A' := by
  obtain ⟨d1, d2⟩ := d
  have hmxo : Try.prog.follows .mixedOrders = true := by kernel_rfl
  obtain ⟨W0, hW0⟩ : ∃ W0, W0 = w.alloc (.cells #[.int .i64 d1, .int .i64 d2] 24) := ⟨_, rfl⟩
  have hB0 : Below w.heap.size w W0 := by rw [hW0]; exact (Below.refl _ w).alloc (Nat.le_refl _) _
  have hb0 : W0.heap[w.heap.size]? = some (.cells #[.int .i64 d1, .int .i64 d2] 24 (0, 0)) := by rw [hW0]; exact World.alloc_heap_new w _
  have hl0 := (Array.getElem?_eq_some_iff.1 hb0).1
  have hAH : ¬ A w.heap.size := fun e => by have := h.lt _ e; omega
  have hTT := h.below hB0
  have HN := (now_tt hTT).mono (R' := fun e W1 => e = .returned (.pointer (some ⟨t, 3, none⟩)) ∧ ∃ fd, ∃ g, (W1.drew.cell? ⟨t, 1, none⟩ = some fd ∧ W1.drew.cell? ⟨w.heap.size, 0, none⟩ = some (.int .i64 d1) ∧ W1.drew.cell? ⟨w.heap.size, 1, none⟩ = some (.int .i64 d2) ∧ (Instr.lookup 62 fd (.agg #[.int .i64 d1, .int .i64 d2]) false).run Try.prog W1.drew = .ok (.pointer (some ⟨g, 0, none⟩)) W1.drew) ∧ W1.drew.cell? ⟨g, 8, none⟩ = some (.bool Bv) ∧ Hid (∃ A', TT W1.drew t l A' ∧ KA w W1.drew A A')) (fun e W1 hh => by
    obtain ⟨e1, gs, S, lg, fd, pl, kd, fl, B, A', h1, h2, h3, h4, h5⟩ := hh
    have c0 : W1.drew.heap[w.heap.size]? = _ := (h5.keep w.heap.size hl0 hAH).trans hb0
    have htb := h1.tb
    unfold TB at htb
    have htb' : W1.drew.heap[t]? = _ := htb
    have h1' : TT W1.drew t l A' := (h1.tt h2 h3 h4).same (Nat.le_refl _) (fun j _ => rfl)
    rcases TT.look h1 h3 h4 hd with ⟨hn, _⟩ | ⟨j, g, x, e2, e3, e4, hlk⟩
    · exact absurd hmd (hn m (List.mem_of_getElem? him))
    · have hij : j = i := by
        refine (List.getElem?_inj (l := l.map Mv.id) (by simpa using (List.getElem?_eq_some_iff.1 e3).1) h1.log.ids).1 ?_
        rw [List.getElem?_map, List.getElem?_map, e3, him]
        simp [e4, hmd]
      subst hij
      obtain rfl : x = m := by rw [e3] at him; exact Option.some.inj him
      obtain ⟨tk, o, hE, hx⟩ := h1.en j g x e2 e3
      have hE' : W1.drew.heap[g]? = _ := hE
      have htk := (hx (List.getElem?_eq_some_iff.1 e3).1).1
      refine ⟨e1, fd, g, ⟨by simp only [World.cell?, htb']; rfl, by simp only [World.cell?, c0]; rfl, by simp only [World.cell?, c0]; rfl, hlk W1.drew (fun j _ => rfl)⟩, by simp only [World.cell?, hE']; rw [hBv, ← htk]; rfl, hid ⟨A', h1', ?_⟩⟩
      have := KA.pre h.lt hB0 h5
      exact ⟨this.size, this.keep, this.new, this.sm⟩)
  clear him hmd hBv
  have HW := hid hW0
  clear hW0 hB0 hb0 hl0 hAH hTT h
  go_enter Try.func18, Try.ntmps18
  go_wp2_with (go_at_call 39; rw [← HW.out]; refine HN.mono ?_; rintro e W1 ⟨rfl, fd, g, hS4, ce, HF⟩)
  refine wp_region_held_drew (S := fun w' => w'.cell? ⟨t, 1, none⟩ = some fd ∧ w'.cell? ⟨w.heap.size, 0, none⟩ = some (.int .i64 d1) ∧ w'.cell? ⟨w.heap.size, 1, none⟩ = some (.int .i64 d2) ∧ (Instr.lookup 62 fd (.agg #[.int .i64 d1, .int .i64 d2]) false).run Try.prog w' = .ok (.pointer (some ⟨g, 0, none⟩)) w') hmxo hS4 ?_
  intro _
  refine wpAnyH_take (i := 0) (v := .pointer (some ⟨t, 0, none⟩)) rfl (by kernel_rfl) (by kernel_rfl) (by kernel_rfl) (fun _ _ _ h => h) (Or.inl ⟨by kernel_rfl, fun w hSw => ?_⟩) hS4 ?_
  · obtain ⟨e1, e2, e3, e4⟩ := hSw; go_simp
  simp only [Act.put, List.getElem_toArray, List.getElem_cons_succ, List.getElem_cons_zero, List.setIfInBounds_toArray, List.set_cons_zero, List.set_cons_succ]
  refine wpAnyH_take (i := 1) (v := .pointer (some ⟨t, 0, none⟩)) rfl (by kernel_rfl) (by kernel_rfl) (by kernel_rfl) (fun _ _ _ h => h) (Or.inl ⟨by kernel_rfl, fun w hSw => ?_⟩) hS4 ?_
  · obtain ⟨e1, e2, e3, e4⟩ := hSw; go_simp
  simp only [Act.put, List.getElem_toArray, List.getElem_cons_succ, List.getElem_cons_zero, List.setIfInBounds_toArray, List.set_cons_zero, List.set_cons_succ]
  refine wpAnyH_take (i := 2) (v := .pointer (some ⟨t, 1, none⟩)) rfl (by kernel_rfl) (by kernel_rfl) (by kernel_rfl) (fun _ _ _ h => h) (Or.inl ⟨by kernel_rfl, fun w hSw => ?_⟩) hS4 ?_
  · obtain ⟨e1, e2, e3, e4⟩ := hSw; go_simp
  simp only [Act.put, List.getElem_toArray, List.getElem_cons_succ, List.getElem_cons_zero, List.setIfInBounds_toArray, List.set_cons_zero, List.set_cons_succ]
  refine wpAnyH_take (i := 3) (v := fd) rfl (by kernel_rfl) (by kernel_rfl) (by kernel_rfl) (fun _ _ _ h => h) (Or.inl ⟨by kernel_rfl, fun w hSw => ?_⟩) hS4 ?_
  · obtain ⟨e1, e2, e3, e4⟩ := hSw; go_simp
  simp only [Act.put, List.getElem_toArray, List.getElem_cons_succ, List.getElem_cons_zero, List.setIfInBounds_toArray, List.set_cons_zero, List.set_cons_succ]
  refine wpAnyH_take (i := 4) (v := .agg #[.int .i64 d1, .int .i64 d2]) rfl (by kernel_rfl) (by kernel_rfl) (by kernel_rfl) (fun _ _ _ h => h) (Or.inl ⟨by kernel_rfl, fun w hSw => ?_⟩) hS4 ?_
  · obtain ⟨e1, e2, e3, e4⟩ := hSw; go_simp
  simp only [Act.put, List.getElem_toArray, List.getElem_cons_succ, List.getElem_cons_zero, List.setIfInBounds_toArray, List.set_cons_zero, List.set_cons_succ]
  refine wpAnyH_take (i := 5) (v := .pointer (some ⟨g, 0, none⟩)) rfl (by kernel_rfl) (by kernel_rfl) (by kernel_rfl) (fun _ _ _ h => h) (Or.inl ⟨by kernel_rfl, fun w hSw => ?_⟩) hS4 ?_
  · obtain ⟨e1, e2, e3, e4⟩ := hSw; go_simp
  simp only [Act.put, List.getElem_toArray, List.getElem_cons_succ, List.getElem_cons_zero, List.setIfInBounds_toArray, List.set_cons_zero, List.set_cons_succ]
  refine wpAnyH_take (i := 6) (v := .pointer (some ⟨g, 0, none⟩)) rfl (by kernel_rfl) (by kernel_rfl) (by kernel_rfl) (fun _ _ _ h => h) (Or.inl ⟨by kernel_rfl, fun w hSw => ?_⟩) hS4 ?_
  · obtain ⟨e1, e2, e3, e4⟩ := hSw; go_simp
  simp only [Act.put, List.getElem_toArray, List.getElem_cons_succ, List.getElem_cons_zero, List.setIfInBounds_toArray, List.set_cons_zero, List.set_cons_succ]
  refine wpAnyH_done (by kernel_rfl) ?_ _
  clear hS4 HN
  go_wp2
  go_ret
  exact ⟨rfl, HF.out⟩

theorem took_tt (t : Nat) (l : List Mv) (A : Nat → Prop) (d : Dt) (w : World) (h : TT w t l A) (hd : Dw d) :
    Calls Try.prog 18 #[.pointer (some ⟨t, 0, none⟩), dv d] w fun e w' => e = .returned (.bool (tookB l d)) ∧ ∃ A', TT w' t l A' ∧ KA w w' A A' := by
  by_cases hn : ∀ m ∈ l, m.id ≠ d
  · rw [tookB_no hn]
    exact took_no t l A d w h hd hn
  · obtain ⟨m, hm, e⟩ : ∃ m ∈ l, m.id = d := by
      refine Classical.byContradiction fun hc => hn fun m hm e => hc ⟨m, hm, e⟩
    obtain ⟨i, hi⟩ := List.mem_iff_getElem?.1 hm
    exact took_yes t l A d w h hd i m hi e _ (by rw [← e]; exact tookB_at h.log.1.ids hi)

theorem run_eql_nilD (w : World) (a : Option Addr) (l c : Nat) : (binOp BinOp.eql 29 (Value.slice a l c) (Value.slice none 0 0)).run Try.prog w = .ok (.bool a.isNone) w := by
  simp [binOp, go_sem, run_equal_slice_nil w 29 24 a l c Try.underlying29]

theorem tclone_any {a : Option Addr} {n c : Nat} {L : List Dt} {w : World} (hs : PS w a n c L) (hn : n ≤ 1000000) : Calls Try.prog 40 #[.slice a n c] w (Gives w L) := by
  have hq := run_eql_nilD
  have hl := hs.len
  cases a with
  | none =>
    obtain ⟨rfl, rfl⟩ := hs.nil rfl
    obtain rfl : L = [] := List.eq_nil_of_length_eq_zero hl
    go_enter Try.func40, Try.ntmps40
    go_wp2
    go_ret
    exact ⟨_, rfl, World.ownsRow_nil _ _ _ _, Below.refl _ _⟩
  | some ad =>
    have hw : RowKit.Below w.heap.size w (w.alloc (.cells #[] 24)) := (Below.refl _ w).alloc (Nat.le_refl _) _
    have ho : (w.alloc (.cells #[] 24)).ownsRow w.heap.size 24 2 (.slice (some ⟨w.heap.size, 0, none⟩) 0 0) 0 [] := World.ownsRow_made w #[] 0 (Nat.le_refl _) (by unfold maxLen; omega) rfl
    have hs1 := hid (hs.below hw)
    have HL := hid hl
    clear hs hl
    go_enter Try.func40, Try.ntmps40
    go_wp2_with (first
      | (at_builtin; refine wpList_append_dots rfl _ _ 29 Try.underlying29 rfl w.heap.size _ 0 [] rfl ho (some ad) n c L rfl hs1.out (by omega) (by simp) ?_; intro v5 w5 ho5 hg5))
    go_ret
    refine ⟨_, rfl, ?_, hw.grown hg5 (by simp) (fun j hj => (ho.lt j hj).1)⟩
    rw [HL.out]
    simpa using ho5

/-- A row of dots of its own: new memory that is none of the tree's. -/
def RowOf (w w' : World) (A' : Nat → Prop) (L : List Dt) (e : Ending) : Prop := ∃ v, e = .returned v ∧ w'.ownsRow w.heap.size 24 2 v L.length (flat L) ∧ ∀ j, v.ownBlock = some j → ¬ A' j

theorem owns_base {w : World} {b b' n size : Nat} {ty : TypeId} {v : Value} {L : List Value} (h : w.ownsRow b ty size v n L) (hb : b' ≤ b) : w.ownsRow b' ty size v n L := by
  obtain ⟨h1, h2⟩ := h
  refine ⟨h1, ?_⟩
  rcases h2 with h2 | ⟨g', cap', cur, hv, hg, r⟩
  · exact .inl h2
  · exact .inr ⟨g', cap', cur, hv, Nat.le_trans hb hg, r⟩
end

section
set_option linter.unusedVariables false
open Go.RowKit Go.Shelf

theorem Try.infoDD : (Try.prog.info? 24).map (fun i => (i.zero, i.size, i.bytes)) = some (some (.agg #[.int .i64 0, .int .i64 0]), 2, 16) := by kernel_rfl

/-- The row's box Bs holds what came; all else that was there is as it was. -/
structure RI (V : World) (Bs : Nat) (pre : List Dt) (W : World) : Prop where
  row : ∃ v, Boxed W Bs 29 v ∧ W.ownsRow V.heap.size 24 2 v pre.length (flat pre)
  size : V.heap.size ≤ W.heap.size
  keep : ∀ j, j < V.heap.size → j ≠ Bs → W.heap[j]? = V.heap[j]?
  sm : Sm V W

theorem RI.own {V : World} {Bs : Nat} (hBs : Bs < V.heap.size) : OwnT V.heap.size (RI V Bs) := by
  rintro s A B row ⟨⟨v, h1, h2⟩, h3, h4, h5⟩ hg hrow
  have hn : ∀ (j : Nat) (cs : Array Value) (ty : TypeId) (fz : Nat × Nat), A.heap[j]? = some (Obj.cells cs ty fz) → ty ≠ 74 → B.heap[j]? = A.heap[j]? := fun j cs ty fz hj hty => hg.block j (Array.getElem?_eq_some_iff.1 hj).1 (fun e => by
    obtain ⟨_, o, ho, ht⟩ := hrow j e.symm
    rw [hj] at ho
    cases ho
    rcases ht with ht | ⟨cs', fz', ht⟩
    · cases ht
    · cases ht; exact hty rfl)
  refine ⟨⟨v, (hn Bs _ _ _ h1 (by decide)).trans h1, ?_⟩, Nat.le_trans h3 hg.size, fun j hj hne => (hg.block j (by omega) (fun e => by have := (hrow j e.symm).1; omega)).trans (h4 j hj hne), h5.trans (Sm.g hg)⟩
  refine h2.kept hg ?_
  rcases h2.2 with ⟨rfl, _⟩ | ⟨g, cap, cur, rfl, _, hgb, _⟩
  · exact .inl rfl
  · refine .inr fun e => ?_
    obtain ⟨_, o, ho, ht⟩ := hrow g (by simpa [Value.ownBlock] using e.symm)
    rw [hgb] at ho
    cases ho
    rcases ht with ht | ⟨cs', fz', ht⟩
    · cases ht
    · cases ht

theorem RI.alloc {V W : World} {Bs : Nat} {pre : List Dt} (hBs : Bs < V.heap.size) (h : RI V Bs pre W) (o : Obj) : RI V Bs pre (W.alloc o) := (RI.own hBs).alloc (s := pre) o h

theorem RI.app {V W w2 : World} {Bs : Nat} {pre : List Dt} {x : Dt} {v v' : Value} (hBs : Bs < V.heap.size) (h3 : V.heap.size ≤ W.heap.size) (h4 : ∀ j, j < V.heap.size → j ≠ Bs → W.heap[j]? = V.heap[j]?) (h5 : Sm V W) (h1 : Boxed W Bs 29 v) (h2 : W.ownsRow V.heap.size 24 2 v pre.length (flat pre)) {o : Obj} (ho : w2.ownsRow V.heap.size 24 2 v' (pre.length + 1) (flat pre ++ [.int .i64 x.1, .int .i64 x.2])) (hg : (W.alloc o).grownBy w2 v.ownBlock) :
    w2.cell? ⟨Bs, 0, none⟩ = some v ∧ w2.frozen? ⟨Bs, 0, none⟩ = false ∧ Hid (RI V Bs (pre ++ [x]) (w2.setCell ⟨Bs, 0, none⟩ v') ∧ KeepsFrom V.heap.size W (w2.setCell ⟨Bs, 0, none⟩ v') ∧ KU V.heap.size (fun k => V.heap.size ≤ k ∨ k = Bs) W (w2.setCell ⟨Bs, 0, none⟩ v')) := by
  have hv1 : Boxed w2 Bs 29 v := (h1.alloc o).kept hg (h1.not_row (by decide) h2)
  have hrb : ∀ j, v.ownBlock = some j → V.heap.size ≤ j ∧ ∃ cs, W.heap[j]? = some (.cells cs 24 (0, 0)) := fun j ej => by
    rcases h2.2 with ⟨rfl, _⟩ | ⟨g, cap, cur, rfl, hb, hgb, _⟩
    · simp [Value.ownBlock] at ej
    · obtain rfl : g = j := by simpa [Value.ownBlock] using ej
      exact ⟨hb, cur, hgb⟩
  have hz : W.heap.size ≤ (w2.setCell ⟨Bs, 0, none⟩ v').heap.size := by
    have := hg.size
    have := (grownBy_setCell' w2 Bs v').size
    simp at *
    omega
  have hk : ∀ j, j < W.heap.size → j ≠ Bs → v.ownBlock ≠ some j → (w2.setCell ⟨Bs, 0, none⟩ v').heap[j]? = W.heap[j]? := fun j hj hne hnv =>
    (Below.heap_setCell _ _ _ j (by simpa using hne)).trans ((hg.block j (by simp; omega) (fun e => hnv e.symm)).trans (Below.heap_alloc W o j hj))
  refine ⟨hv1.cell, hv1.frozen, hid ⟨⟨⟨v', hv1.set v', ?_⟩, Nat.le_trans h3 hz, fun j hj hne => (hk j (by omega) hne (fun e => by have := (hrb j e).1; omega)).trans (h4 j hj hne), h5.trans (Sm.trans ⟨rfl, rfl, rfl⟩ ((Sm.g hg).trans ⟨rfl, rfl, rfl⟩))⟩, ⟨hz, fun k ob hk2 hob hc => ?_⟩, ⟨hz, fun k cs ty fz hkk hor => ?_, fun k hk2 es c he => ?_⟩⟩⟩
  · have := ho.kept (grownBy_setCell' w2 Bs v') (.inr (hv1.not_row (by decide) ho).symm)
    rw [List.length_append, flat_append]
    exact this
  · refine (hk k (Array.getElem?_eq_some_iff.1 hob).1 (by omega) (fun e => ?_)).trans hob
    obtain ⟨_, cs, hcs⟩ := hrb k e
    rw [hob] at hcs
    cases hcs
    cases hc
  · refine (hk k (Array.getElem?_eq_some_iff.1 hkk).1 (fun e => ?_) (fun e => ?_)).trans hkk
    · rcases hor with hor | hor
      · exact hor (Or.inr e)
      · subst e
        rw [show W.heap[k]? = _ from h1] at hkk
        cases hkk
        exact absurd hor (by decide)
    · obtain ⟨hge, cs', hcs⟩ := hrb k e
      rcases hor with hor | hor
      · exact hor (Or.inl hge)
      · rw [hcs] at hkk
        cases hkk
        exact absurd hor (by decide)
  · refine (hk k (Array.getElem?_eq_some_iff.1 he).1 (fun e => ?_) (fun e => ?_)).trans he
    · subst e
      rw [show W.heap[k]? = _ from h1] at he
      cases he
    · have := (hrb k e).1
      omega

theorem cell_two {w : World} (x y : Value) (T : TypeId) : ∀ j u, ([x, y] : List Value)[j]? = some u → (w.alloc (.cells #[x, y] T)).cell? ((⟨w.heap.size, 0, none⟩ : Addr).add j) = some u := fun j u hu => by
  have ea : ((⟨w.heap.size, 0, none⟩ : Addr).add j) = ⟨w.heap.size, j, none⟩ := by unfold Addr.add; split <;> simp_all
  rw [ea]
  simp only [World.cell?]
  rw [show (w.alloc (.cells #[x, y] T)).heap[w.heap.size]? = some (.cells #[x, y] T (0, 0)) from World.alloc_heap_new w _]
  simpa using hu
end

section
open Go.RowKit Go.Sort Go.Maps

/-- What a map that reads as D holds at the dots. -/
def MTells (D : DataW Unit) (g : Dt → Option Int) : Prop :=
  ∀ d, Dw d → Maps.has D (kl d) = (g d).isSome ∧ ∀ c, g d = some c → ∀ z, D.atKey (kl d) z = .lit (.int .i64 c)

theorem tells_empty : MTells (.map []) (fun _ => Option.none) := fun d _ => ⟨rfl, fun c h => by cases h⟩

theorem MTells.put {D : DataW Unit} {g : Dt → Option Int} (h : MTells D g) (hm : IsMap D) {d : Dt} (hd : Dw d) (c : Int) :
    MTells (D.put (kl d) (.lit (.int .i64 c))) (fun e => if e = d then some c else g e) := by
  intro e he
  by_cases hed : e = d
  · subst hed
    simp only [if_true]
    refine ⟨by rw [has_put_same hm (kl_isKey _)]; rfl, fun c' hc z => ?_⟩
    cases hc
    exact atKey_put_same hm (kl_isKey _) _ _
  · have hne : kl e ≠ kl d := fun h' => hed (kl_inj he hd h')
    simp only [hed, if_false]
    refine ⟨by rw [has_put_other hne]; exact (h e he).1, fun c' hc z => ?_⟩
    rw [atKey_put_other hne]
    exact (h e he).2 c' hc z

theorem MTells.congr {D : DataW Unit} {g g' : Dt → Option Int} (h : MTells D g) (e : ∀ d, g d = g' d) : MTells D g' := fun d hd => by rw [← e d]; exact h d hd

theorem nodup_kl : ∀ {S : List Dt}, S.Nodup → Dws S → (S.map kl).Nodup
  | [], _, _ => List.nodup_nil
  | x :: r, h, hw => by
    obtain ⟨h1, h2⟩ := List.nodup_cons.1 h
    refine List.nodup_cons.2 ⟨fun hm => ?_, nodup_kl h2 (fun d hd => hw d (List.mem_cons_of_mem _ hd))⟩
    obtain ⟨d, hd, e⟩ := List.mem_map.1 hm
    exact h1 (kl_inj (hw d (List.mem_cons_of_mem _ hd)) (hw x (List.mem_cons_self ..)) e ▸ hd)

/-- How many entries: as many as there are dots. -/
theorem MTells.size {w : World} {b n : Nat} {D : DataW Unit} {g : Dt → Option Int} (h : MTells D g) (hown : w.ownsMap Try.prog 24 (plainElem (H := Unit) Try.prog 3) b n D) {S : List Dt} (hS : S.Nodup) (hw : Dws S) (hm : ∀ d, Dw d → ((g d).isSome = true ↔ d ∈ S)) :
    Maps.size D = S.length := by
  obtain ⟨es, hD, hpw, _⟩ := hown.entries law
  obtain ⟨es', hD', hko⟩ := hown.keysOf
  obtain rfl : es = es' := by rw [hD] at hD'; simpa using hD'
  subst hD
  have hp : (es.map Prod.fst).Perm (S.map kl) := by
    refine (List.perm_ext_iff_of_nodup ?_ ?_).2 fun x => ?_
    · exact List.pairwise_map.2 hpw
    · exact nodup_kl hS hw
    · constructor
      · intro hx
        obtain ⟨p, hp, rfl⟩ := List.mem_map.1 hx
        obtain ⟨v, hv⟩ := hko p hp
        obtain ⟨d, _, hdw, hk⟩ := keyOf_dot_inv hv
        have hh : Maps.has (.map es) (kl d) = true := List.any_eq_true.2 ⟨p, hp, by rw [hk]; exact WideAt.sameKey_self (kl_isKey d)⟩
        rw [(h d hdw).1] at hh
        exact List.mem_map.2 ⟨d, (hm d hdw).1 hh, hk.symm⟩
      · intro hx
        obtain ⟨d, hd, rfl⟩ := List.mem_map.1 hx
        have hh := (hm d (hw d hd)).2 hd
        rw [← (h d (hw d hd)).1] at hh
        obtain ⟨p, hp, hs⟩ := List.any_eq_true.1 hh
        exact List.mem_map.2 ⟨p, hp, WideAt.sameKey_eq hs⟩
  have := hp.length_eq
  simpa [Maps.size] using this

/-- Where each dot stands first. -/
def pl (L : List Dt) (d : Dt) : Option Int := if d ∈ L then some (L.idxOf d : Int) else Option.none

theorem pl_some (L : List Dt) (d : Dt) : (pl L d).isSome = true ↔ d ∈ L := by unfold pl; split <;> simp_all

theorem pl_snoc (L : List Dt) (d e : Dt) : pl (L ++ [d]) e = if (pl L d).isSome = true then pl L e else if e = d then some (L.length : Int) else pl L e := by
  unfold pl
  by_cases hd : d ∈ L
  · by_cases he : e ∈ L
    · simp [hd, he, List.idxOf_append]
    · have : e ≠ d := fun h => he (h ▸ hd)
      simp [hd, he, this]
  · by_cases hed : e = d
    · subst hed
      simp [hd, List.idxOf_append]
    · by_cases he : e ∈ L
      · simp [hd, he, hed, List.idxOf_append]
      · simp [hd, he, hed]
end

section
open Go.RowKit Go.Sort Go.Maps

/-- Block b is a map of at most n dots that tells g. -/
def DM (w : World) (b n : Nat) (g : Dt → Option Int) : Prop := ∃ D : DataW Unit, w.ownsMap Try.prog 24 (plainElem (H := Unit) Try.prog 3) b n D ∧ MTells D g

theorem DM.below {w w' : World} {b n : Nat} {g : Dt → Option Int} (h : DM w b n g) {B : Nat} (hb : Below B w w') (hB : b < B) : DM w' b n g := by
  obtain ⟨D, ⟨es, clock, h1, h2⟩, hT⟩ := h
  exact ⟨D, ⟨es, clock, by rw [hb.block b hB]; exact h1, h2⟩, hT⟩

theorem DM.lt {w : World} {b n : Nat} {g : Dt → Option Int} (h : DM w b n g) : b < w.heap.size := by
  obtain ⟨D, hown, _⟩ := h
  exact hown.lt

set_option maxHeartbeats 2000000 in
theorem places_any (a : Option Addr) (n c : Nat) (L : List Dt) (w : World) (hs : PS w a n c L) (hd : Dws L) (hn : n ≤ 1000000) :
    Calls Try.prog 58 #[.slice a n c] w fun e w' => e = .returned (.map (some w.heap.size)) ∧ DM w' w.heap.size n (pl L) ∧ Below w.heap.size w w' := by
  have hlen := hs.len
  have hcap := hs.cap
  have hmk := @run_makeMap Try.prog
  go_enter Try.func58, Try.ntmps58
  go_wp2
  go_loopw [11] (fun i wr => ∃ k : Nat, k ≤ n ∧ i = .int .i64 k ∧ DM wr w.heap.size k (pl (L.take k)) ∧ Below w.heap.size w wr) (fun i _ => n - (intOf i).toNat)
  case atStart => exact ⟨0, by omega, rfl, ⟨_, World.ownsMap_made _ _ _ _, tells_empty.congr (fun d => by simp [pl])⟩, (Below.refl _ _).alloc (Nat.le_refl _) _⟩
  case round =>
    obtain ⟨k, hk, rfl, hdm, hbl⟩ := hrel
    by_cases hlt : k < n
    · obtain ⟨g, o, rfl, hg, hcell⟩ := (hs.below hbl).at (by omega)
      obtain ⟨hc0, hc1⟩ := hcell k (by omega)
      have hdk : Dw (L[k]'(by omega)) := hd _ (List.getElem_mem _)
      have hts := take_snoc (L := L) (k := k) (by omega)
      generalize (L[k]'(by omega)) = d at hc0 hc1 hdk hts
      obtain ⟨D, hown, hT⟩ := hdm
      have hlk := hT d hdk
      clear hs hd hcell
      cases hp : pl (L.take k) d with
      | none =>
        rw [hp] at hlk
        obtain ⟨hhas, _⟩ := hlk
        have hhas' : Maps.has D (kl d) = false := hhas
        go_wp2_with (first
          | (at_lookup; refine wpList_lookup_own_ok_int _ rfl _ _ 106 rfl 24 3 .i64 law Try.underlying106 Try.underlying3 (zero3 _) w.heap.size k D rfl (hown.alloc _) _ _ rfl (keyOf_dot hdk) ?_; intro cc hat hwc; rw [hhas'])
          | (at_mapUpdate; refine wpList_mapUpdate_own _ rfl _ _ _ 106 rfl 24 3 law Try.underlying106 _ w.heap.size k D rfl (hown.alloc _) (by unfold maxLen; omega) _ _ (kl d) rfl rfl (keyOf_dot hdk) (.lit (.int .i64 k)) [] (plainElem_int Try.underlying3 (WalkArith.wf_i64 (by omega))) ?_; intro w1 hown1 hgrow1))
        go_roundw
        case rel =>
          refine ⟨k + 1, by omega, by go_num, ⟨_, hown1, ?_⟩, (hbl.alloc hbl.size _).grown hgrow1 (hbl.alloc hbl.size _).size (fun j hj => by cases hj; exact Nat.le_refl _)⟩
          refine (hT.put hown.isMap hdk k).congr fun e => ?_
          rw [hts, pl_snoc, hp, List.length_take]
          simp only [Option.isSome_none, Bool.false_eq_true, if_false]
          rw [Nat.min_eq_left (by omega)]
        case measure => simp [intOf]; omega
      | some cc =>
        rw [hp] at hlk
        obtain ⟨hhas, _⟩ := hlk
        have hhas' : Maps.has D (kl d) = true := hhas
        go_wp2_with (first
          | (at_lookup; refine wpList_lookup_own_ok_int _ rfl _ _ 106 rfl 24 3 .i64 law Try.underlying106 Try.underlying3 (zero3 _) w.heap.size k D rfl (hown.alloc _) _ _ rfl (keyOf_dot hdk) ?_; intro cc hat hwc; rw [hhas']))
        go_roundw
        case rel =>
          refine ⟨k + 1, by omega, by go_num, ⟨_, (hown.alloc _).mono (Nat.le_succ _), ?_⟩, hbl.alloc hbl.size _⟩
          refine hT.congr fun e => ?_
          rw [hts, pl_snoc, hp]
          simp
        case measure => simp [intOf]; omega
    · obtain rfl : k = n := by omega
      go_wp2
      go_ret
      rw [← hlen, List.take_length] at hdm
      exact ⟨rfl, hlen ▸ hdm, hbl⟩
end
end Go.Proofs.Ytplcohjpchfkkaa
