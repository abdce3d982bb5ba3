/- Append: what is there in the end. -/
import Derived.Test.YtegikicpffoglaaDkUpd
namespace Go.Proofs.Ytegikicpffoglaa
section
set_option linter.unusedVariables false
set_option linter.unusedSimpArgs false
open Go.RowKit Go.Sort Go.Maps

/-- How much is done: whole (below 0), or so many. -/
def pv : Option Nat → Value
  | none => .int .i64 (-1)
  | some p => .int .i64 (p : Int)

theorem nl {n : Nm} (h : n.length ≤ 16777216) : n.length ≤ maxLen := by unfold maxLen; omega

theorem look_run {w : World} {m : Nat} {S : List (Nm × Fi)} (h : MP w m S) {n : Nm} (hn : n.length ≤ maxLen) {o : Option Fi} (e : lk S n = o) : (Instr.lookup 51 (.map (some m)) (encStr n) false).run Try.prog w = .ok (pvo (o.map Fi.g)) w := by
  rw [h.look (n := n) hn, e]

theorem lk_F {D : Dk} {S : List (Nm × Fi)} (hF : mp Fi.fl S = D.F) (n : Nm) {o : Option Fi} (e : lk S n = o) : lk D.F n = o.map Fi.fl := by rw [← hF, lk_mp, e]

/-- Nothing was done. -/
theorem DK.none {w : World} {d : Nat} {D : Dk} {P : Nat → Prop} (h : DK w d D P) (hoff : D.off = false) {e : Nat} {x : List (Nm × Fl) × Nat} (hx : x = (D.F, e)) : e = x.2 ∧ DK w.drew d ⟨D.room, false, D.due, x.1⟩ P ∧ KP w w.drew P := by
  subst hx
  refine ⟨rfl, ?_, ⟨Nat.le_refl _, fun _ _ _ => rfl, ⟨rfl, rfl, rfl⟩⟩⟩
  obtain ⟨m, cv, S, A, hD, hc, hF, hP⟩ := h
  refine ⟨m, cv, S, A, ?_, hc, hF, hP⟩
  rw [hoff] at hD
  exact hD.same (fun _ _ => rfl) (Nat.le_refl _)
theorem DK.none0 {w : World} {d : Nat} {D : Dk} {P : Nat → Prop} (h : DK w d D P) (hoff : D.off = false) {e : Nat} {x : List (Nm × Fl) × Nat} (hx : x = (D.F, e)) : e = x.2 ∧ DK w d ⟨D.room, false, D.due, x.1⟩ P ∧ KP w w P := by
  subst hx
  refine ⟨rfl, ?_, KP.refl _ _⟩
  obtain ⟨m, cv, S, A, hD, hc, hF, hP⟩ := h
  rw [hoff] at hD
  exact ⟨m, cv, S, A, hD, hc, hF, hP⟩
theorem DA.drew {w : World} {d m : Nat} {cv : Value} {room : Nat} {off : Bool} {S : List (Nm × Fi)} {A : Nat → Prop} (h : DA w d m cv room off S A) : DA w.drew d m cv room off S A := h.same (fun _ _ => rfl) (Nat.le_refl _)
theorem KA.drew {w w' : World} {A A' : Nat → Prop} (h : KA w.drew w' A A') : KA w w' A A' := ⟨h.size, h.keep, h.new, h.sm⟩
theorem CT.drew {w : World} {cv : Value} {due : Option (Nat × Nat × Nat)} {A P : Nat → Prop} (h : CT w cv due A P) : CT w.drew cv due A P := h
end

section
set_option linter.unusedVariables false
set_option linter.unusedSimpArgs false
open Go.RowKit Go.Sort Go.Maps

set_option maxRecDepth 100000 in
set_option maxHeartbeats 4000000 in
theorem sync1_any (d : Nat) (n : Nm) (pt : Option Nat) (D : Dk) (P : Nat → Prop) (w : World) (h : DK w d D P) (hoff : D.off = false) (xd xn : Nat) (hxd : w.heap[xd]? = some (.cells #[.pointer (some ⟨d, 0, none⟩)] 24 (0, 0))) (hxn : w.heap[xn]? = some (.cells #[encStr n] 9 (0, 0))) (hp : ∀ p, pt = some p → p ≤ 9223372036854775807) (hn : n.length ≤ maxLen) :
    Calls Try.prog 48 #[pv pt, .pointer (some ⟨xd, 0, none⟩), .pointer (some ⟨xn, 0, none⟩)] w fun e w' => ∃ x : Nat, e = .returned (.int .i64 (x : Int)) ∧ x = (eSync n pt D.F).2 ∧ DK w' d ⟨D.room, false, D.due, (eSync n pt D.F).1⟩ P ∧ KP w w' P := by
  have hDK := h
  obtain ⟨m, cv, S, A, hD, hc, hF, hP⟩ := h
  have S0 : w.drew.cell? ⟨xd, 0, none⟩ = some (.pointer (some ⟨d, 0, none⟩)) ∧ w.drew.cell? ⟨d, 1, none⟩ = some (.map (some m)) ∧ w.drew.cell? ⟨xn, 0, none⟩ = some (encStr n) := ⟨cell_blk (w := w.drew) hxd rfl, cell_blk (w := w.drew) hD.blk rfl, cell_blk (w := w.drew) hxn rfl⟩
  obtain ⟨room, off, due, F⟩ := D
  simp only at hoff hD hc hF ⊢
  subst hoff
  have hmxo : Try.prog.follows .mixedOrders = true := by kernel_rfl
  cases hl : lk S n with
  | none =>
    have hlk := look_run hD.drew.map hn hl
    have hlF := lk_F (D := ⟨room, false, due, F⟩) hF n hl
    have R := hid (hDK.none rfl (e := 70) (x := eSync n pt F) (by unfold eSync; rw [hlF]; rfl))
    simp only [Option.map_none, pvo] at hlk
    clear hDK hD hc hF hl hlF hxd hxn
    go_enter Try.func48, Try.ntmps48
    go_wp2_with fail
    refine wp_region_held_drew (S := fun w' => w'.cell? ⟨xd, 0, none⟩ = some (.pointer (some ⟨d, 0, none⟩)) ∧ w'.cell? ⟨d, 1, none⟩ = some (.map (some m)) ∧ w'.cell? ⟨xn, 0, none⟩ = some (encStr n)) hmxo S0 ?_
    intro _
    refine wpAnyH_take (i := 0) (v := .pointer (some ⟨d, 0, none⟩)) rfl (by kernel_rfl) (by kernel_rfl) (by kernel_rfl) (fun _ _ _ h => h) (Or.inl ⟨by kernel_rfl, fun w hSw => ?_⟩) S0 ?_
    · obtain ⟨e1, e2, e3⟩ := hSw; go_simp
    simp only [Act.put, List.getElem_toArray, List.getElem_cons_succ, List.getElem_cons_zero, List.setIfInBounds_toArray, List.set_cons_zero, List.set_cons_succ]
    refine wpAnyH_take (i := 1) (v := .pointer (some ⟨d, 0, none⟩)) rfl (by kernel_rfl) (by kernel_rfl) (by kernel_rfl) (fun _ _ _ h => h) (Or.inl ⟨by kernel_rfl, fun w hSw => ?_⟩) S0 ?_
    · obtain ⟨e1, e2, e3⟩ := hSw; go_simp
    simp only [Act.put, List.getElem_toArray, List.getElem_cons_succ, List.getElem_cons_zero, List.setIfInBounds_toArray, List.set_cons_zero, List.set_cons_succ]
    refine wpAnyH_take (i := 2) (v := .pointer (some ⟨d, 1, none⟩)) rfl (by kernel_rfl) (by kernel_rfl) (by kernel_rfl) (fun _ _ _ h => h) (Or.inl ⟨by kernel_rfl, fun w hSw => ?_⟩) S0 ?_
    · obtain ⟨e1, e2, e3⟩ := hSw; go_simp
    simp only [Act.put, List.getElem_toArray, List.getElem_cons_succ, List.getElem_cons_zero, List.setIfInBounds_toArray, List.set_cons_zero, List.set_cons_succ]
    refine wpAnyH_take (i := 3) (v := .map (some m)) rfl (by kernel_rfl) (by kernel_rfl) (by kernel_rfl) (fun _ _ _ h => h) (Or.inl ⟨by kernel_rfl, fun w hSw => ?_⟩) S0 ?_
    · obtain ⟨e1, e2, e3⟩ := hSw; go_simp
    simp only [Act.put, List.getElem_toArray, List.getElem_cons_succ, List.getElem_cons_zero, List.setIfInBounds_toArray, List.set_cons_zero, List.set_cons_succ]
    refine wpAnyH_take (i := 4) (v := encStr n) rfl (by kernel_rfl) (by kernel_rfl) (by kernel_rfl) (fun _ _ _ h => h) (Or.inl ⟨by kernel_rfl, fun w hSw => ?_⟩) S0 ?_
    · obtain ⟨e1, e2, e3⟩ := hSw; go_simp
    simp only [Act.put, List.getElem_toArray, List.getElem_cons_succ, List.getElem_cons_zero, List.setIfInBounds_toArray, List.set_cons_zero, List.set_cons_succ]
    refine wpAnyH_ready (rs := [5]) (by kernel_rfl) (by simp) ?_
    refine AllReadyH.cons rfl (fun K hK => ?_) AllReadyH.nil
    go_simp
    refine hK.out _ _ S0 (fun _ => ?_)
    clear hK K
    try simp only [Act.put, List.getElem_toArray, List.getElem_cons_succ, List.getElem_cons_zero, List.setIfInBounds_toArray, List.set_cons_zero, List.set_cons_succ]
    refine wpAnyH_take (i := 6) (v := .pointer none) rfl (by kernel_rfl) (by kernel_rfl) (by kernel_rfl) (fun _ _ _ h => h) (Or.inl ⟨by kernel_rfl, fun w hSw => ?_⟩) S0 ?_
    · obtain ⟨e1, e2, e3⟩ := hSw; go_simp
    simp only [Act.put, List.getElem_toArray, List.getElem_cons_succ, List.getElem_cons_zero, List.setIfInBounds_toArray, List.set_cons_zero, List.set_cons_succ]
    refine wpAnyH_done (by kernel_rfl) ?_ _
    go_wp2
    go_ret
    exact ⟨70, rfl, R.out⟩
  | some f =>
    have hlk := look_run hD.drew.map hn hl
    have hlF := lk_F (D := ⟨room, false, due, F⟩) hF n hl
    simp only [Option.map_some, pvo] at hlk
    have g0 := hD.files.file n f hl
    have hrow := hD.files.row n f hl
    obtain ⟨a, cc, hav, _⟩ := own_src hrow
    have b0 : w.drew.cell? ⟨f.g, 0, none⟩ = some (.slice a f.b.length cc) := by rw [cell_blk (w := w.drew) g0 rfl, hav]; rfl
    have b1 : w.drew.cell? ⟨f.g, 1, none⟩ = some (.int .i64 (f.s : Int)) := cell_blk (w := w.drew) g0 rfl
    have u1 := frz_blk (w := w.drew) (i := 1) g0
    have hfl : f.b.length ≤ 16777216 := Nat.le_trans (sm_at (fun f : Fi => f.b.length) hl) (Nat.le_trans hD.fits hD.small)
    cases pt with
    | some p =>
      have hp := hp p rfl
      have R := hid (hDK.none rfl (e := 0) (x := eSync n (some p) F) (by unfold eSync; rw [hlF]; rfl))
      simp only [pv]
      clear hDK hD hc hF hl hlF hxd hxn g0 hrow hav
      go_enter Try.func48, Try.ntmps48
      go_wp2_with fail
      refine wp_region_held_drew (S := fun w' => w'.cell? ⟨xd, 0, none⟩ = some (.pointer (some ⟨d, 0, none⟩)) ∧ w'.cell? ⟨d, 1, none⟩ = some (.map (some m)) ∧ w'.cell? ⟨xn, 0, none⟩ = some (encStr n)) hmxo S0 ?_
      intro _
      refine wpAnyH_take (i := 0) (v := .pointer (some ⟨d, 0, none⟩)) rfl (by kernel_rfl) (by kernel_rfl) (by kernel_rfl) (fun _ _ _ h => h) (Or.inl ⟨by kernel_rfl, fun w hSw => ?_⟩) S0 ?_
      · obtain ⟨e1, e2, e3⟩ := hSw; go_simp
      simp only [Act.put, List.getElem_toArray, List.getElem_cons_succ, List.getElem_cons_zero, List.setIfInBounds_toArray, List.set_cons_zero, List.set_cons_succ]
      refine wpAnyH_take (i := 1) (v := .pointer (some ⟨d, 0, none⟩)) rfl (by kernel_rfl) (by kernel_rfl) (by kernel_rfl) (fun _ _ _ h => h) (Or.inl ⟨by kernel_rfl, fun w hSw => ?_⟩) S0 ?_
      · obtain ⟨e1, e2, e3⟩ := hSw; go_simp
      simp only [Act.put, List.getElem_toArray, List.getElem_cons_succ, List.getElem_cons_zero, List.setIfInBounds_toArray, List.set_cons_zero, List.set_cons_succ]
      refine wpAnyH_take (i := 2) (v := .pointer (some ⟨d, 1, none⟩)) rfl (by kernel_rfl) (by kernel_rfl) (by kernel_rfl) (fun _ _ _ h => h) (Or.inl ⟨by kernel_rfl, fun w hSw => ?_⟩) S0 ?_
      · obtain ⟨e1, e2, e3⟩ := hSw; go_simp
      simp only [Act.put, List.getElem_toArray, List.getElem_cons_succ, List.getElem_cons_zero, List.setIfInBounds_toArray, List.set_cons_zero, List.set_cons_succ]
      refine wpAnyH_take (i := 3) (v := .map (some m)) rfl (by kernel_rfl) (by kernel_rfl) (by kernel_rfl) (fun _ _ _ h => h) (Or.inl ⟨by kernel_rfl, fun w hSw => ?_⟩) S0 ?_
      · obtain ⟨e1, e2, e3⟩ := hSw; go_simp
      simp only [Act.put, List.getElem_toArray, List.getElem_cons_succ, List.getElem_cons_zero, List.setIfInBounds_toArray, List.set_cons_zero, List.set_cons_succ]
      refine wpAnyH_take (i := 4) (v := encStr n) rfl (by kernel_rfl) (by kernel_rfl) (by kernel_rfl) (fun _ _ _ h => h) (Or.inl ⟨by kernel_rfl, fun w hSw => ?_⟩) S0 ?_
      · obtain ⟨e1, e2, e3⟩ := hSw; go_simp
      simp only [Act.put, List.getElem_toArray, List.getElem_cons_succ, List.getElem_cons_zero, List.setIfInBounds_toArray, List.set_cons_zero, List.set_cons_succ]
      refine wpAnyH_ready (rs := [5]) (by kernel_rfl) (by simp) ?_
      refine AllReadyH.cons rfl (fun K hK => ?_) AllReadyH.nil
      go_simp
      refine hK.out _ _ S0 (fun _ => ?_)
      clear hK K
      try simp only [Act.put, List.getElem_toArray, List.getElem_cons_succ, List.getElem_cons_zero, List.setIfInBounds_toArray, List.set_cons_zero, List.set_cons_succ]
      refine wpAnyH_take (i := 6) (v := .pointer (some ⟨f.g, 0, none⟩)) rfl (by kernel_rfl) (by kernel_rfl) (by kernel_rfl) (fun _ _ _ h => h) (Or.inl ⟨by kernel_rfl, fun w hSw => ?_⟩) S0 ?_
      · obtain ⟨e1, e2, e3⟩ := hSw; go_simp
      simp only [Act.put, List.getElem_toArray, List.getElem_cons_succ, List.getElem_cons_zero, List.setIfInBounds_toArray, List.set_cons_zero, List.set_cons_succ]
      refine wpAnyH_done (by kernel_rfl) ?_ _
      go_wp2
      go_ret
      exact ⟨0, rfl, R.out⟩
    | none =>
      have hu := hD.upd (w' := w.drew.setCell ⟨f.g, 1, none⟩ (.int .i64 (f.b.length : Int))) hl ⟨f.b, f.b.length, f.g, f.v⟩ rfl (by simp) (fun j hj h1 h2 => Below.heap_setCell _ _ _ _ (by simp; exact h1)) (by rw [set_blk (i := 1) _ (w := w.drew) g0]; simp) (row_kept5 hrow (fun k hk => Below.heap_setCell _ _ _ _ (fun e => hD.files.gv hl hl (by rw [hk]; exact congrArg some e)))) (fun i hi => Or.inl hi) ⟨(hD.files.ok n f hl).1, Nat.le_refl _⟩ (by have := hD.fits; simp; omega) ⟨rfl, rfl, rfl⟩
      have R := hid (DK.of (due := due) (F := (eSync n none F).1) hc hP hu.2 hu.1 (by unfold eSync; rw [hlF, put_mp, hF]; rfl))
      have R2 : Hid (0 = (eSync n none F).2) := hid (by unfold eSync; rw [hlF]; rfl)
      simp only [pv]
      clear hDK hD hc hF hl hlF hxd hxn g0 hrow hav hu
      go_enter Try.func48, Try.ntmps48
      go_wp2_with fail
      refine wp_region_held_drew (S := fun w' => w'.cell? ⟨xd, 0, none⟩ = some (.pointer (some ⟨d, 0, none⟩)) ∧ w'.cell? ⟨d, 1, none⟩ = some (.map (some m)) ∧ w'.cell? ⟨xn, 0, none⟩ = some (encStr n)) hmxo S0 ?_
      intro _
      refine wpAnyH_take (i := 0) (v := .pointer (some ⟨d, 0, none⟩)) rfl (by kernel_rfl) (by kernel_rfl) (by kernel_rfl) (fun _ _ _ h => h) (Or.inl ⟨by kernel_rfl, fun w hSw => ?_⟩) S0 ?_
      · obtain ⟨e1, e2, e3⟩ := hSw; go_simp
      simp only [Act.put, List.getElem_toArray, List.getElem_cons_succ, List.getElem_cons_zero, List.setIfInBounds_toArray, List.set_cons_zero, List.set_cons_succ]
      refine wpAnyH_take (i := 1) (v := .pointer (some ⟨d, 0, none⟩)) rfl (by kernel_rfl) (by kernel_rfl) (by kernel_rfl) (fun _ _ _ h => h) (Or.inl ⟨by kernel_rfl, fun w hSw => ?_⟩) S0 ?_
      · obtain ⟨e1, e2, e3⟩ := hSw; go_simp
      simp only [Act.put, List.getElem_toArray, List.getElem_cons_succ, List.getElem_cons_zero, List.setIfInBounds_toArray, List.set_cons_zero, List.set_cons_succ]
      refine wpAnyH_take (i := 2) (v := .pointer (some ⟨d, 1, none⟩)) rfl (by kernel_rfl) (by kernel_rfl) (by kernel_rfl) (fun _ _ _ h => h) (Or.inl ⟨by kernel_rfl, fun w hSw => ?_⟩) S0 ?_
      · obtain ⟨e1, e2, e3⟩ := hSw; go_simp
      simp only [Act.put, List.getElem_toArray, List.getElem_cons_succ, List.getElem_cons_zero, List.setIfInBounds_toArray, List.set_cons_zero, List.set_cons_succ]
      refine wpAnyH_take (i := 3) (v := .map (some m)) rfl (by kernel_rfl) (by kernel_rfl) (by kernel_rfl) (fun _ _ _ h => h) (Or.inl ⟨by kernel_rfl, fun w hSw => ?_⟩) S0 ?_
      · obtain ⟨e1, e2, e3⟩ := hSw; go_simp
      simp only [Act.put, List.getElem_toArray, List.getElem_cons_succ, List.getElem_cons_zero, List.setIfInBounds_toArray, List.set_cons_zero, List.set_cons_succ]
      refine wpAnyH_take (i := 4) (v := encStr n) rfl (by kernel_rfl) (by kernel_rfl) (by kernel_rfl) (fun _ _ _ h => h) (Or.inl ⟨by kernel_rfl, fun w hSw => ?_⟩) S0 ?_
      · obtain ⟨e1, e2, e3⟩ := hSw; go_simp
      simp only [Act.put, List.getElem_toArray, List.getElem_cons_succ, List.getElem_cons_zero, List.setIfInBounds_toArray, List.set_cons_zero, List.set_cons_succ]
      refine wpAnyH_ready (rs := [5]) (by kernel_rfl) (by simp) ?_
      refine AllReadyH.cons rfl (fun K hK => ?_) AllReadyH.nil
      go_simp
      refine hK.out _ _ S0 (fun _ => ?_)
      clear hK K
      try simp only [Act.put, List.getElem_toArray, List.getElem_cons_succ, List.getElem_cons_zero, List.setIfInBounds_toArray, List.set_cons_zero, List.set_cons_succ]
      refine wpAnyH_take (i := 6) (v := .pointer (some ⟨f.g, 0, none⟩)) rfl (by kernel_rfl) (by kernel_rfl) (by kernel_rfl) (fun _ _ _ h => h) (Or.inl ⟨by kernel_rfl, fun w hSw => ?_⟩) S0 ?_
      · obtain ⟨e1, e2, e3⟩ := hSw; go_simp
      simp only [Act.put, List.getElem_toArray, List.getElem_cons_succ, List.getElem_cons_zero, List.setIfInBounds_toArray, List.set_cons_zero, List.set_cons_succ]
      refine wpAnyH_done (by kernel_rfl) ?_ _
      go_wp2
      go_ret
      exact ⟨0, rfl, R2.out, R.out⟩
end

section
set_option linter.unusedVariables false
set_option linter.unusedSimpArgs false
open Go.RowKit Go.Sort Go.Maps

set_option maxRecDepth 100000 in
set_option maxHeartbeats 4000000 in
theorem shorten1_any (d : Nat) (n : Nm) (pt : Option Nat) (k : Int) (D : Dk) (P : Nat → Prop) (w : World) (h : DK w d D P) (hoff : D.off = false) (xd xn xk : Nat) (hxd : w.heap[xd]? = some (.cells #[.pointer (some ⟨d, 0, none⟩)] 24 (0, 0))) (hxn : w.heap[xn]? = some (.cells #[encStr n] 9 (0, 0))) (hxk : w.heap[xk]? = some (.cells #[.int .i64 k] 3 (0, 0))) (hp : ∀ p, pt = some p → p ≤ 9223372036854775807) (hn : n.length ≤ maxLen) (hk : k ≤ 9223372036854775807) :
    Calls Try.prog 43 #[pv pt, .pointer (some ⟨xd, 0, none⟩), .pointer (some ⟨xn, 0, none⟩), .pointer (some ⟨xk, 0, none⟩)] w fun e w' => ∃ x : Nat, e = .returned (.int .i64 (x : Int)) ∧ x = (eSho n k pt D.F).2 ∧ DK w' d ⟨D.room, false, D.due, (eSho n k pt D.F).1⟩ P ∧ KP w w' P := by
  have hDK := h
  obtain ⟨m, cv, S, A, hD, hc, hF, hP⟩ := h
  have S0 : w.drew.cell? ⟨xd, 0, none⟩ = some (.pointer (some ⟨d, 0, none⟩)) ∧ w.drew.cell? ⟨d, 1, none⟩ = some (.map (some m)) ∧ w.drew.cell? ⟨xn, 0, none⟩ = some (encStr n) := ⟨cell_blk (w := w.drew) hxd rfl, cell_blk (w := w.drew) hD.blk rfl, cell_blk (w := w.drew) hxn rfl⟩
  obtain ⟨room, off, due, F⟩ := D
  simp only at hoff hD hc hF ⊢
  subst hoff
  have hmxo : Try.prog.follows .mixedOrders = true := by kernel_rfl
  have k0 : w.drew.cell? ⟨xk, 0, none⟩ = some (.int .i64 k) := cell_blk (w := w.drew) hxk rfl
  cases hl : lk S n with
  | none =>
    have hlk := look_run hD.drew.map hn hl
    have hlF := lk_F (D := ⟨room, false, due, F⟩) hF n hl
    have R := hid (hDK.none rfl (e := 70) (x := eSho n k pt F) (by unfold eSho; rw [hlF]; rfl))
    simp only [Option.map_none, pvo] at hlk
    clear hDK hD hc hF hl hlF hxd hxn hxk
    go_enter Try.func43, Try.ntmps43
    go_wp2_with fail
    refine wp_region_held_drew (S := fun w' => w'.cell? ⟨xd, 0, none⟩ = some (.pointer (some ⟨d, 0, none⟩)) ∧ w'.cell? ⟨d, 1, none⟩ = some (.map (some m)) ∧ w'.cell? ⟨xn, 0, none⟩ = some (encStr n)) hmxo S0 ?_
    intro _
    refine wpAnyH_take (i := 0) (v := .pointer (some ⟨d, 0, none⟩)) rfl (by kernel_rfl) (by kernel_rfl) (by kernel_rfl) (fun _ _ _ h => h) (Or.inl ⟨by kernel_rfl, fun w hSw => ?_⟩) S0 ?_
    · obtain ⟨e1, e2, e3⟩ := hSw; go_simp
    simp only [Act.put, List.getElem_toArray, List.getElem_cons_succ, List.getElem_cons_zero, List.setIfInBounds_toArray, List.set_cons_zero, List.set_cons_succ]
    refine wpAnyH_take (i := 1) (v := .pointer (some ⟨d, 0, none⟩)) rfl (by kernel_rfl) (by kernel_rfl) (by kernel_rfl) (fun _ _ _ h => h) (Or.inl ⟨by kernel_rfl, fun w hSw => ?_⟩) S0 ?_
    · obtain ⟨e1, e2, e3⟩ := hSw; go_simp
    simp only [Act.put, List.getElem_toArray, List.getElem_cons_succ, List.getElem_cons_zero, List.setIfInBounds_toArray, List.set_cons_zero, List.set_cons_succ]
    refine wpAnyH_take (i := 2) (v := .pointer (some ⟨d, 1, none⟩)) rfl (by kernel_rfl) (by kernel_rfl) (by kernel_rfl) (fun _ _ _ h => h) (Or.inl ⟨by kernel_rfl, fun w hSw => ?_⟩) S0 ?_
    · obtain ⟨e1, e2, e3⟩ := hSw; go_simp
    simp only [Act.put, List.getElem_toArray, List.getElem_cons_succ, List.getElem_cons_zero, List.setIfInBounds_toArray, List.set_cons_zero, List.set_cons_succ]
    refine wpAnyH_take (i := 3) (v := .map (some m)) rfl (by kernel_rfl) (by kernel_rfl) (by kernel_rfl) (fun _ _ _ h => h) (Or.inl ⟨by kernel_rfl, fun w hSw => ?_⟩) S0 ?_
    · obtain ⟨e1, e2, e3⟩ := hSw; go_simp
    simp only [Act.put, List.getElem_toArray, List.getElem_cons_succ, List.getElem_cons_zero, List.setIfInBounds_toArray, List.set_cons_zero, List.set_cons_succ]
    refine wpAnyH_take (i := 4) (v := encStr n) rfl (by kernel_rfl) (by kernel_rfl) (by kernel_rfl) (fun _ _ _ h => h) (Or.inl ⟨by kernel_rfl, fun w hSw => ?_⟩) S0 ?_
    · obtain ⟨e1, e2, e3⟩ := hSw; go_simp
    simp only [Act.put, List.getElem_toArray, List.getElem_cons_succ, List.getElem_cons_zero, List.setIfInBounds_toArray, List.set_cons_zero, List.set_cons_succ]
    refine wpAnyH_ready (rs := [5]) (by kernel_rfl) (by simp) ?_
    refine AllReadyH.cons rfl (fun K hK => ?_) AllReadyH.nil
    go_simp
    refine hK.out _ _ S0 (fun _ => ?_)
    clear hK K
    try simp only [Act.put, List.getElem_toArray, List.getElem_cons_succ, List.getElem_cons_zero, List.setIfInBounds_toArray, List.set_cons_zero, List.set_cons_succ]
    refine wpAnyH_take (i := 6) (v := .pointer none) rfl (by kernel_rfl) (by kernel_rfl) (by kernel_rfl) (fun _ _ _ h => h) (Or.inl ⟨by kernel_rfl, fun w hSw => ?_⟩) S0 ?_
    · obtain ⟨e1, e2, e3⟩ := hSw; go_simp
    simp only [Act.put, List.getElem_toArray, List.getElem_cons_succ, List.getElem_cons_zero, List.setIfInBounds_toArray, List.set_cons_zero, List.set_cons_succ]
    refine wpAnyH_done (by kernel_rfl) ?_ _
    go_wp2
    go_ret
    exact ⟨70, rfl, R.out⟩
  | some f =>
    have hlk := look_run hD.drew.map hn hl
    have hlF := lk_F (D := ⟨room, false, due, F⟩) hF n hl
    simp only [Option.map_some, pvo] at hlk
    by_cases hk0 : k < 0
    · have R := hid (hDK.none rfl (e := 1) (x := eSho n k pt F) (by unfold eSho; rw [hlF]; simp only [Option.map_some]; rw [if_pos hk0]))
      clear hDK hD hc hF hl hlF hxd hxn hxk
      go_enter Try.func43, Try.ntmps43
      go_wp2_with fail
      refine wp_region_held_drew (S := fun w' => w'.cell? ⟨xd, 0, none⟩ = some (.pointer (some ⟨d, 0, none⟩)) ∧ w'.cell? ⟨d, 1, none⟩ = some (.map (some m)) ∧ w'.cell? ⟨xn, 0, none⟩ = some (encStr n)) hmxo S0 ?_
      intro _
      refine wpAnyH_take (i := 0) (v := .pointer (some ⟨d, 0, none⟩)) rfl (by kernel_rfl) (by kernel_rfl) (by kernel_rfl) (fun _ _ _ h => h) (Or.inl ⟨by kernel_rfl, fun w hSw => ?_⟩) S0 ?_
      · obtain ⟨e1, e2, e3⟩ := hSw; go_simp
      simp only [Act.put, List.getElem_toArray, List.getElem_cons_succ, List.getElem_cons_zero, List.setIfInBounds_toArray, List.set_cons_zero, List.set_cons_succ]
      refine wpAnyH_take (i := 1) (v := .pointer (some ⟨d, 0, none⟩)) rfl (by kernel_rfl) (by kernel_rfl) (by kernel_rfl) (fun _ _ _ h => h) (Or.inl ⟨by kernel_rfl, fun w hSw => ?_⟩) S0 ?_
      · obtain ⟨e1, e2, e3⟩ := hSw; go_simp
      simp only [Act.put, List.getElem_toArray, List.getElem_cons_succ, List.getElem_cons_zero, List.setIfInBounds_toArray, List.set_cons_zero, List.set_cons_succ]
      refine wpAnyH_take (i := 2) (v := .pointer (some ⟨d, 1, none⟩)) rfl (by kernel_rfl) (by kernel_rfl) (by kernel_rfl) (fun _ _ _ h => h) (Or.inl ⟨by kernel_rfl, fun w hSw => ?_⟩) S0 ?_
      · obtain ⟨e1, e2, e3⟩ := hSw; go_simp
      simp only [Act.put, List.getElem_toArray, List.getElem_cons_succ, List.getElem_cons_zero, List.setIfInBounds_toArray, List.set_cons_zero, List.set_cons_succ]
      refine wpAnyH_take (i := 3) (v := .map (some m)) rfl (by kernel_rfl) (by kernel_rfl) (by kernel_rfl) (fun _ _ _ h => h) (Or.inl ⟨by kernel_rfl, fun w hSw => ?_⟩) S0 ?_
      · obtain ⟨e1, e2, e3⟩ := hSw; go_simp
      simp only [Act.put, List.getElem_toArray, List.getElem_cons_succ, List.getElem_cons_zero, List.setIfInBounds_toArray, List.set_cons_zero, List.set_cons_succ]
      refine wpAnyH_take (i := 4) (v := encStr n) rfl (by kernel_rfl) (by kernel_rfl) (by kernel_rfl) (fun _ _ _ h => h) (Or.inl ⟨by kernel_rfl, fun w hSw => ?_⟩) S0 ?_
      · obtain ⟨e1, e2, e3⟩ := hSw; go_simp
      simp only [Act.put, List.getElem_toArray, List.getElem_cons_succ, List.getElem_cons_zero, List.setIfInBounds_toArray, List.set_cons_zero, List.set_cons_succ]
      refine wpAnyH_ready (rs := [5]) (by kernel_rfl) (by simp) ?_
      refine AllReadyH.cons rfl (fun K hK => ?_) AllReadyH.nil
      go_simp
      refine hK.out _ _ S0 (fun _ => ?_)
      clear hK K
      try simp only [Act.put, List.getElem_toArray, List.getElem_cons_succ, List.getElem_cons_zero, List.setIfInBounds_toArray, List.set_cons_zero, List.set_cons_succ]
      refine wpAnyH_take (i := 6) (v := .pointer (some ⟨f.g, 0, none⟩)) rfl (by kernel_rfl) (by kernel_rfl) (by kernel_rfl) (fun _ _ _ h => h) (Or.inl ⟨by kernel_rfl, fun w hSw => ?_⟩) S0 ?_
      · obtain ⟨e1, e2, e3⟩ := hSw; go_simp
      simp only [Act.put, List.getElem_toArray, List.getElem_cons_succ, List.getElem_cons_zero, List.setIfInBounds_toArray, List.set_cons_zero, List.set_cons_succ]
      refine wpAnyH_done (by kernel_rfl) ?_ _
      go_wp2
      go_ret
      exact ⟨1, rfl, R.out⟩
    by_cases hz : pt = some 0
    · subst hz
      have R := hid (hDK.none rfl (e := 0) (x := eSho n k (some 0) F) (by unfold eSho; rw [hlF]; simp only [Option.map_some]; rw [if_neg hk0]; rfl))
      simp only [pv]
      clear hDK hD hc hF hl hlF hxd hxn hxk
      go_enter Try.func43, Try.ntmps43
      go_wp2_with fail
      refine wp_region_held_drew (S := fun w' => w'.cell? ⟨xd, 0, none⟩ = some (.pointer (some ⟨d, 0, none⟩)) ∧ w'.cell? ⟨d, 1, none⟩ = some (.map (some m)) ∧ w'.cell? ⟨xn, 0, none⟩ = some (encStr n)) hmxo S0 ?_
      intro _
      refine wpAnyH_take (i := 0) (v := .pointer (some ⟨d, 0, none⟩)) rfl (by kernel_rfl) (by kernel_rfl) (by kernel_rfl) (fun _ _ _ h => h) (Or.inl ⟨by kernel_rfl, fun w hSw => ?_⟩) S0 ?_
      · obtain ⟨e1, e2, e3⟩ := hSw; go_simp
      simp only [Act.put, List.getElem_toArray, List.getElem_cons_succ, List.getElem_cons_zero, List.setIfInBounds_toArray, List.set_cons_zero, List.set_cons_succ]
      refine wpAnyH_take (i := 1) (v := .pointer (some ⟨d, 0, none⟩)) rfl (by kernel_rfl) (by kernel_rfl) (by kernel_rfl) (fun _ _ _ h => h) (Or.inl ⟨by kernel_rfl, fun w hSw => ?_⟩) S0 ?_
      · obtain ⟨e1, e2, e3⟩ := hSw; go_simp
      simp only [Act.put, List.getElem_toArray, List.getElem_cons_succ, List.getElem_cons_zero, List.setIfInBounds_toArray, List.set_cons_zero, List.set_cons_succ]
      refine wpAnyH_take (i := 2) (v := .pointer (some ⟨d, 1, none⟩)) rfl (by kernel_rfl) (by kernel_rfl) (by kernel_rfl) (fun _ _ _ h => h) (Or.inl ⟨by kernel_rfl, fun w hSw => ?_⟩) S0 ?_
      · obtain ⟨e1, e2, e3⟩ := hSw; go_simp
      simp only [Act.put, List.getElem_toArray, List.getElem_cons_succ, List.getElem_cons_zero, List.setIfInBounds_toArray, List.set_cons_zero, List.set_cons_succ]
      refine wpAnyH_take (i := 3) (v := .map (some m)) rfl (by kernel_rfl) (by kernel_rfl) (by kernel_rfl) (fun _ _ _ h => h) (Or.inl ⟨by kernel_rfl, fun w hSw => ?_⟩) S0 ?_
      · obtain ⟨e1, e2, e3⟩ := hSw; go_simp
      simp only [Act.put, List.getElem_toArray, List.getElem_cons_succ, List.getElem_cons_zero, List.setIfInBounds_toArray, List.set_cons_zero, List.set_cons_succ]
      refine wpAnyH_take (i := 4) (v := encStr n) rfl (by kernel_rfl) (by kernel_rfl) (by kernel_rfl) (fun _ _ _ h => h) (Or.inl ⟨by kernel_rfl, fun w hSw => ?_⟩) S0 ?_
      · obtain ⟨e1, e2, e3⟩ := hSw; go_simp
      simp only [Act.put, List.getElem_toArray, List.getElem_cons_succ, List.getElem_cons_zero, List.setIfInBounds_toArray, List.set_cons_zero, List.set_cons_succ]
      refine wpAnyH_ready (rs := [5]) (by kernel_rfl) (by simp) ?_
      refine AllReadyH.cons rfl (fun K hK => ?_) AllReadyH.nil
      go_simp
      refine hK.out _ _ S0 (fun _ => ?_)
      clear hK K
      try simp only [Act.put, List.getElem_toArray, List.getElem_cons_succ, List.getElem_cons_zero, List.setIfInBounds_toArray, List.set_cons_zero, List.set_cons_succ]
      refine wpAnyH_take (i := 6) (v := .pointer (some ⟨f.g, 0, none⟩)) rfl (by kernel_rfl) (by kernel_rfl) (by kernel_rfl) (fun _ _ _ h => h) (Or.inl ⟨by kernel_rfl, fun w hSw => ?_⟩) S0 ?_
      · obtain ⟨e1, e2, e3⟩ := hSw; go_simp
      simp only [Act.put, List.getElem_toArray, List.getElem_cons_succ, List.getElem_cons_zero, List.setIfInBounds_toArray, List.set_cons_zero, List.set_cons_succ]
      refine wpAnyH_done (by kernel_rfl) ?_ _
      go_wp2
      go_ret
      exact ⟨0, rfl, R.out⟩
    · obtain ⟨q, hq, hq0⟩ : ∃ q : Int, pv pt = .int .i64 q ∧ q ≠ 0 := by
        cases pt with
        | none => exact ⟨-1, rfl, by omega⟩
        | some p => exact ⟨p, rfl, fun e => hz (by rw [show p = 0 by omega])⟩
      rw [hq]
      have hfl : f.b.length ≤ 16777216 := Nat.le_trans (sm_at (fun f : Fi => f.b.length) hl) (Nat.le_trans hD.fits hD.small)
      obtain ⟨kn, hkn⟩ : ∃ kn : Nat, k = (kn : Int) := ⟨k.toNat, by omega⟩
      subst hkn
      have hof := hD.files.ok n f hl
      have hsh := hid (shorten_any f.g f.v f.b f.s kn w.drew (hD.files.file n f hl) (hD.files.row n f hl) hfl hof.2 (by omega))
      have hend : ∀ w1 : World, ∀ v' : Value, w1.heap[f.g]? = some (.cells #[v', .int .i64 ((min f.s kn : Nat) : Int)] 60 (0, 0)) → w1.ownsRow 0 5 1 v' (f.b.take kn).length ((f.b.take kn).map (Value.int .u8)) → w.drew.grownBy w1 (some f.g) → (∀ i, v'.ownBlock = some i → f.v.ownBlock = some i ∨ w.drew.heap.size ≤ i) → DK w1 d ⟨room, false, due, (eSho n (kn : Int) pt F).1⟩ P ∧ KP w w1 P := fun w1 v' q1 q2 q3 q4 => by
        have hu := hD.upd (w' := w1) hl ⟨f.b.take kn, min f.s kn, f.g, v'⟩ rfl q3.size (fun j hj h1 h2 => q3.block j hj (fun e => h1 (by simpa using e))) q1 q2 q4 ⟨fun x hx => hof.1 x (List.mem_of_mem_take hx), by have := hof.2; simp; omega⟩ (by have := hD.fits; simp; omega) ⟨q3.os, q3.tape, q3.output⟩
        refine DK.of (due := due) (F := (eSho n (kn : Int) pt F).1) hc hP hu.2 hu.1 ?_
        unfold eSho
        rw [hlF]
        simp only [Option.map_some]
        rw [if_neg hk0, if_neg hz, put_mp, hF]
        have : Fi.fl ⟨f.b.take kn, min f.s kn, f.g, v'⟩ = f.fl.cutTo (kn : Int).toNat := by
          unfold Fl.cutTo Fi.fl
          simp only [Int.toNat_natCast]
          by_cases hle : f.b.length ≤ kn
          · rw [if_pos hle, List.take_of_length_le hle, show min f.s kn = f.s by omega]
          · rw [if_neg hle]
        rw [this]
      have HE := hid hend
      have R2 : Hid (0 = (eSho n (kn : Int) pt F).2) := hid (by unfold eSho; rw [hlF]; simp only [Option.map_some]; rw [if_neg hk0, if_neg hz])
      clear hDK hD hc hF hl hlF hxd hxn hxk hend hq
      go_enter Try.func43, Try.ntmps43
      go_wp2_with fail
      refine wp_region_held_drew (S := fun w' => w'.cell? ⟨xd, 0, none⟩ = some (.pointer (some ⟨d, 0, none⟩)) ∧ w'.cell? ⟨d, 1, none⟩ = some (.map (some m)) ∧ w'.cell? ⟨xn, 0, none⟩ = some (encStr n)) hmxo S0 ?_
      intro _
      refine wpAnyH_take (i := 0) (v := .pointer (some ⟨d, 0, none⟩)) rfl (by kernel_rfl) (by kernel_rfl) (by kernel_rfl) (fun _ _ _ h => h) (Or.inl ⟨by kernel_rfl, fun w hSw => ?_⟩) S0 ?_
      · obtain ⟨e1, e2, e3⟩ := hSw; go_simp
      simp only [Act.put, List.getElem_toArray, List.getElem_cons_succ, List.getElem_cons_zero, List.setIfInBounds_toArray, List.set_cons_zero, List.set_cons_succ]
      refine wpAnyH_take (i := 1) (v := .pointer (some ⟨d, 0, none⟩)) rfl (by kernel_rfl) (by kernel_rfl) (by kernel_rfl) (fun _ _ _ h => h) (Or.inl ⟨by kernel_rfl, fun w hSw => ?_⟩) S0 ?_
      · obtain ⟨e1, e2, e3⟩ := hSw; go_simp
      simp only [Act.put, List.getElem_toArray, List.getElem_cons_succ, List.getElem_cons_zero, List.setIfInBounds_toArray, List.set_cons_zero, List.set_cons_succ]
      refine wpAnyH_take (i := 2) (v := .pointer (some ⟨d, 1, none⟩)) rfl (by kernel_rfl) (by kernel_rfl) (by kernel_rfl) (fun _ _ _ h => h) (Or.inl ⟨by kernel_rfl, fun w hSw => ?_⟩) S0 ?_
      · obtain ⟨e1, e2, e3⟩ := hSw; go_simp
      simp only [Act.put, List.getElem_toArray, List.getElem_cons_succ, List.getElem_cons_zero, List.setIfInBounds_toArray, List.set_cons_zero, List.set_cons_succ]
      refine wpAnyH_take (i := 3) (v := .map (some m)) rfl (by kernel_rfl) (by kernel_rfl) (by kernel_rfl) (fun _ _ _ h => h) (Or.inl ⟨by kernel_rfl, fun w hSw => ?_⟩) S0 ?_
      · obtain ⟨e1, e2, e3⟩ := hSw; go_simp
      simp only [Act.put, List.getElem_toArray, List.getElem_cons_succ, List.getElem_cons_zero, List.setIfInBounds_toArray, List.set_cons_zero, List.set_cons_succ]
      refine wpAnyH_take (i := 4) (v := encStr n) rfl (by kernel_rfl) (by kernel_rfl) (by kernel_rfl) (fun _ _ _ h => h) (Or.inl ⟨by kernel_rfl, fun w hSw => ?_⟩) S0 ?_
      · obtain ⟨e1, e2, e3⟩ := hSw; go_simp
      simp only [Act.put, List.getElem_toArray, List.getElem_cons_succ, List.getElem_cons_zero, List.setIfInBounds_toArray, List.set_cons_zero, List.set_cons_succ]
      refine wpAnyH_ready (rs := [5]) (by kernel_rfl) (by simp) ?_
      refine AllReadyH.cons rfl (fun K hK => ?_) AllReadyH.nil
      go_simp
      refine hK.out _ _ S0 (fun _ => ?_)
      clear hK K
      try simp only [Act.put, List.getElem_toArray, List.getElem_cons_succ, List.getElem_cons_zero, List.setIfInBounds_toArray, List.set_cons_zero, List.set_cons_succ]
      refine wpAnyH_take (i := 6) (v := .pointer (some ⟨f.g, 0, none⟩)) rfl (by kernel_rfl) (by kernel_rfl) (by kernel_rfl) (fun _ _ _ h => h) (Or.inl ⟨by kernel_rfl, fun w hSw => ?_⟩) S0 ?_
      · obtain ⟨e1, e2, e3⟩ := hSw; go_simp
      simp only [Act.put, List.getElem_toArray, List.getElem_cons_succ, List.getElem_cons_zero, List.setIfInBounds_toArray, List.set_cons_zero, List.set_cons_succ]
      refine wpAnyH_done (by kernel_rfl) ?_ _
      go_wp2_with (go_at_call 44; refine hsh.out.mono ?_; rintro e w1 ⟨rfl, v', q1, q2, q3, q4⟩; have R := hid (HE.out w1 v' q1 q2 q3 q4); clear q1 q2 q3 q4)
      go_ret
      exact ⟨0, rfl, R2.out, R.out⟩
end

section
set_option linter.unusedVariables false
set_option linter.unusedSimpArgs false
open Go.RowKit Go.Sort Go.Maps

theorem may_nm (t : Nm) (w : World) (ht : t.length ≤ maxLen) (b : Bool) (hb : mayB t = b) : Calls Try.prog 26 #[encStr t] w fun e w' => e = .returned (.bool b) ∧ w = w' := by
  have := may_any ⟨t.toArray⟩ w (by show t.toArray.size ≤ _; simpa using ht)
  rw [← hb]
  exact this
theorem mayB_len {t : Nm} (h : mayB t = true) : t.length ≤ 32 := by
  unfold mayB at h
  simp at h
  exact h.1.2
end

section
set_option linter.unusedVariables false
set_option linter.unusedSimpArgs false
open Go.RowKit Go.Sort Go.Maps

theorem app_end {d m : Nat} {cv : Value} {room : Nat} {due : Option (Nat × Nat × Nat)} {n : Nm} {L : List Int} {pt : Option Nat} {F : List (Nm × Fl)} {P A A6 : Nat → Prop} {w w6 w7 : World} {S6 : List (Nm × Fi)} {f : Fi} {k : Nat} {a' : Option Addr} {c' : Nat}
    (hc : CT w cv due A P) (hP : ∀ j, P j → j < w.heap.size ∧ ¬ A j) (h6 : DA w6 d m cv room false S6 A6) (hka : KA w w6 A A6) (hf : lk S6 n = some f) (hfl : f.fl = fz (lk F n)) (hput : ∀ f', mp Fi.fl (put S6 n f') = put F n f'.fl) (hsum : sm (fun f => f.b.length) S6 = sm Fl.n F) (hfit : sm Fl.n F + L.length ≤ room)
    (hmay : mayB n = true) (hno : ¬ (room - sm Fl.n F < L.length ∨ (lk F n = none ∧ 100 ≤ F.length))) (hkk : k = min (pt.getD L.length) L.length) (hL : Bts L)
    (q1 : w7.ownsRow 0 5 1 (.slice a' (f.b.length + k) c') (f.b.length + k) (f.b.map (Value.int .u8) ++ (L.take k).map (Value.int .u8))) (q2 : w6.drew.grownBy w7 f.v.ownBlock) (q3 : (Value.slice a' (f.b.length + k) c').ownBlock = f.v.ownBlock ∨ (Value.slice a' (f.b.length + k) c').ownBlock = some w6.drew.heap.size) :
    0 = (eApp room n L pt F).2 ∧ DK (w7.setCell ⟨f.g, 0, none⟩ (.slice a' (f.b.length + k) c')) d ⟨room, false, due, (eApp room n L pt F).1⟩ P ∧ KP w (w7.setCell ⟨f.g, 0, none⟩ (.slice a' (f.b.length + k) c')) P := by
  have hz : w6.heap.size ≤ w7.heap.size := q2.size
  have hgl := h6.lt _ (h6.files.own n f hf).1
  have hgv := h6.files.gv hf hf
  have g7 : w7.heap[f.g]? = some (.cells #[f.v, .int .i64 (f.s : Int)] 60 (0, 0)) := (q2.block f.g hgl (fun e => hgv e.symm)).trans (h6.files.file n f hf)
  have hlen : (f.b ++ L.take k).length = f.b.length + k := by rw [List.length_append, List.length_take]; omega
  have hof := h6.files.ok n f hf
  have hu := h6.upd (w' := w7.setCell ⟨f.g, 0, none⟩ (.slice a' (f.b.length + k) c')) hf ⟨f.b ++ L.take k, f.s, f.g, .slice a' (f.b.length + k) c'⟩ rfl (by simp; exact hz)
    (fun j hj h1 h2 => (Below.heap_setCell _ _ _ _ h1).trans (q2.block j hj (fun e => h2 e.symm)))
    (by rw [set_blk (i := 0) _ g7]; simp)
    (by
      have q1' : w7.ownsRow 0 5 1 (.slice a' (f.b.length + k) c') (f.b ++ L.take k).length ((f.b ++ L.take k).map (Value.int .u8)) := by rw [hlen, List.map_append]; exact q1
      refine row_kept5 q1' (fun i hi => Below.heap_setCell _ _ _ _ (fun e => ?_))
      rcases q3 with h | h
      · exact hgv (by rw [← h, hi]; exact congrArg some e)
      · rw [hi] at h
        have e1 := Option.some.inj h
        have e2 : i = f.g := e
        have e3 : w6.drew.heap.size = w6.heap.size := rfl
        omega)
    (fun i hi => by
      rcases q3 with h | h
      · exact Or.inl (by rw [← h]; exact hi)
      · have hi' : (Value.slice a' (f.b.length + k) c').ownBlock = some i := hi
        rw [hi'] at h
        have e1 := Option.some.inj h
        exact Or.inr (Nat.le_of_eq e1.symm))
    ⟨hof.1.app (fun x hx => hL x (List.mem_of_mem_take hx)), by rw [hlen]; have := hof.2; simp; omega⟩
    (by
      show sm (fun f : Fi => f.b.length) S6 + (f.b ++ L.take k).length ≤ room + f.b.length
      rw [hlen, hsum]
      omega)
    ⟨q2.os, q2.tape, q2.output⟩
  have hx : eApp room n L pt F = (put F n ⟨f.b ++ L.take k, f.s⟩, 0) := by
    unfold eApp
    rw [if_neg (by rw [hmay]; decide), if_neg hno, ← hfl]
    have : L.take (pt.getD L.length) = L.take k := by
      rw [hkk]
      cases pt with
      | none => simp
      | some p =>
        simp only [Option.getD_some]
        by_cases h : p ≤ L.length
        · rw [show min p L.length = p by omega]
        · rw [show min p L.length = L.length by omega, List.take_of_length_le (Nat.le_refl _), List.take_of_length_le (by omega)]
    rw [this]
    rfl
  rw [hx]
  refine ⟨rfl, DK.of hc hP (hka.trans hu.2) hu.1 ?_⟩
  exact hput _
end
end Go.Proofs.Ytegikicpffoglaa
