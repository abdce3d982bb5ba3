/- lay, where there is no map yet. -/
import Derived.Test.YtplcohjpchfkkaaTrLayT
import Derived.Test.YtplcohjpchfkkaaTrUp
set_option linter.unusedVariables false
set_option linter.unusedSimpArgs false
namespace Go.Proofs.Ytplcohjpchfkkaa
open Go.RowKit

set_option maxRecDepth 100000 in
set_option maxHeartbeats 4000000 in
theorem lay_none (t : Nat) (lg fd dn : Value) (B : Nat → Prop) (s : Sp) (w : World) (hT : TB w t lg fd dn (.map none) (.map none)) (hBt : ¬ B t) (hBs : ∀ j, B j → j < w.heap.size) (hdb : Dw s.b) (hdp : Dw s.p) :
    Calls Try.prog 75 #[.pointer (some ⟨t, 3, none⟩), dv s.b, plv (s.p, s.k)] w fun e w' => e = .returned (.tuple #[]) ∧ ∃ pl' kd', TB w' t lg fd dn pl' kd' ∧ SB w' pl' kd' ([] ++ [s]) (Bn w w' B) ∧ KB w w' B t := by
  obtain ⟨⟨b1, b2⟩, ⟨p1, p2⟩, ky⟩ := s
  have hmxo : Try.prog.follows .mixedOrders = true := by kernel_rfl
  have htw : t < w.heap.size := (Array.getElem?_eq_some_iff.1 hT).1
  have c3 : w.cell? ⟨t, 3, none⟩ = some (.map none) := by unfold TB at hT; simp [World.cell?, hT]
  have c4 : w.cell? ⟨t, 4, none⟩ = some (.map none) := by unfold TB at hT; simp [World.cell?, hT]
  have hmn := plmap_none
  have hmk := @run_makeMap Try.prog
  have hB0 : Below w.heap.size w ((((w.alloc (.cells #[.int .i64 b1, .int .i64 b2] 24)).alloc (.cells #[.int .i64 p1, .int .i64 p2, .string ky] 74)).alloc (.map #[] 0)).alloc (.map #[] 0)) := (((((Below.refl _ w).alloc (Nat.le_refl _) _).alloc (by simp) _).alloc (by simp; omega) _).alloc (by simp; omega) _)
  have hb0 := (hB0.block t htw).trans hT
  have z3' : ((((w.alloc (.cells #[.int .i64 b1, .int .i64 b2] 24)).alloc (.cells #[.int .i64 p1, .int .i64 p2, .string ky] 74)).alloc (.map #[] 0)).alloc (.map #[] 0)).frozen? ⟨t, 3, none⟩ = false := by simp only [World.frozen?, hb0]; rfl
  have z4' : ((((w.alloc (.cells #[.int .i64 b1, .int .i64 b2] 24)).alloc (.cells #[.int .i64 p1, .int .i64 p2, .string ky] 74)).alloc (.map #[] 0)).alloc (.map #[] 0)).frozen? ⟨t, 4, none⟩ = false := by simp only [World.frozen?, hb0]; rfl
  have d3' : ((((w.alloc (.cells #[.int .i64 b1, .int .i64 b2] 24)).alloc (.cells #[.int .i64 p1, .int .i64 p2, .string ky] 74)).alloc (.map #[] 0)).alloc (.map #[] 0)).cell? ⟨t, 3, none⟩ = some (.map none) := by simp only [World.cell?, hb0]; rfl
  have d4' : ((((w.alloc (.cells #[.int .i64 b1, .int .i64 b2] 24)).alloc (.cells #[.int .i64 p1, .int .i64 p2, .string ky] 74)).alloc (.map #[] 0)).alloc (.map #[] 0)).cell? ⟨t, 4, none⟩ = some (.map none) := by simp only [World.cell?, hb0]; rfl
  obtain ⟨W1, hW1⟩ : ∃ W1, W1 = ((((((w.alloc (.cells #[.int .i64 b1, .int .i64 b2] 24)).alloc (.cells #[.int .i64 p1, .int .i64 p2, .string ky] 74)).alloc (.map #[] 0)).alloc (.map #[] 0)).setCell ⟨t, 3, none⟩ (.map (some (w.heap.size + 1 + 1)))).setCell ⟨t, 4, none⟩ (.map (some (w.heap.size + 1 + 1 + 1)))) := ⟨_, rfl⟩
  have hsz : W1.heap.size = w.heap.size + 4 := by rw [hW1]; simp [World.setCell]
  have g1 : ((((w.alloc (.cells #[.int .i64 b1, .int .i64 b2] 24)).alloc (.cells #[.int .i64 p1, .int .i64 p2, .string ky] 74)).alloc (.map #[] 0)).alloc (.map #[] 0)).grownBy W1 (some t) := by rw [hW1]; exact (grownBy_setCell _ t 3 _).trans (grownBy_setCell _ t 4 _)
  have q0 : ((((w.alloc (.cells #[.int .i64 b1, .int .i64 b2] 24)).alloc (.cells #[.int .i64 p1, .int .i64 p2, .string ky] 74)).alloc (.map #[] 0)).alloc (.map #[] 0)).heap[w.heap.size]? = some (.cells #[.int .i64 b1, .int .i64 b2] 24 (0, 0)) := (Below.heap_alloc _ _ _ (by simp; omega)).trans ((Below.heap_alloc _ _ _ (by simp; omega)).trans ((Below.heap_alloc _ _ _ (by simp)).trans (World.alloc_heap_new w _)))
  have q1 : ((((w.alloc (.cells #[.int .i64 b1, .int .i64 b2] 24)).alloc (.cells #[.int .i64 p1, .int .i64 p2, .string ky] 74)).alloc (.map #[] 0)).alloc (.map #[] 0)).heap[w.heap.size + 1]? = some (.cells #[.int .i64 p1, .int .i64 p2, .string ky] 74 (0, 0)) := by
    have := World.alloc_heap_new (w.alloc (.cells #[.int .i64 b1, .int .i64 b2] 24)) (.cells #[.int .i64 p1, .int .i64 p2, .string ky] 74)
    rw [World.size_alloc] at this
    exact (Below.heap_alloc _ _ _ (by simp)).trans ((Below.heap_alloc _ _ _ (by simp)).trans this)
  have pm0 := PLM.made ((w.alloc (.cells #[.int .i64 b1, .int .i64 b2] 24)).alloc (.cells #[.int .i64 p1, .int .i64 p2, .string ky] 74))
  have km0 := KM.made (((w.alloc (.cells #[.int .i64 b1, .int .i64 b2] 24)).alloc (.cells #[.int .i64 p1, .int .i64 p2, .string ky] 74)).alloc (.map #[] 0))
  rw [World.size_alloc, World.size_alloc] at pm0
  rw [World.size_alloc, World.size_alloc, World.size_alloc] at km0
  have st : ∀ j, j < w.heap.size + 4 → j ≠ t → W1.heap[j]? = ((((w.alloc (.cells #[.int .i64 b1, .int .i64 b2] 24)).alloc (.cells #[.int .i64 p1, .int .i64 p2, .string ky] 74)).alloc (.map #[] 0)).alloc (.map #[] 0)).heap[j]? := fun j hj hjt => g1.block j (by simp; omega) (by simpa using hjt)
  have tb1 : TB W1 t lg fd dn (.map (some (w.heap.size + 1 + 1))) (.map (some (w.heap.size + 1 + 1 + 1))) := by
    rw [hW1]
    have k3 := set_blk (j := 3) hb0 (.map (some (w.heap.size + 1 + 1)))
    have k4 := set_blk (j := 4) k3 (.map (some (w.heap.size + 1 + 1 + 1)))
    unfold TB
    simpa using k4
  have hL : LF w W1 t (w.heap.size + 1 + 1) (w.heap.size + 1 + 1 + 1) (fun _ => none) lg fd dn [] B b1 b2 p1 p2 ky := by
    refine ⟨⟨tb1, by omega, Or.inr ⟨by omega, by omega⟩, Or.inr ⟨by omega, by omega⟩, (pm0.same (Below.heap_alloc _ _ _ (by simp))).same (st _ (by omega) (by omega)), km0.same (st _ (by omega) (by omega)), ⟨fun p => ⟨rfl, Or.inl ⟨rfl, rfl⟩⟩, fun p q e => (by cases e), fun p p' q q' e => (by cases e), fun _ _ => rfl⟩, ⟨by omega, fun j hj hB hjt => (st j (by omega) hjt).trans (hB0.block j hj), (Sm.b hB0).trans (Sm.g g1)⟩⟩, (st _ (by omega) (by omega)).trans q0, (st _ (by omega) (by omega)).trans q1, fun p q e => (by cases e)⟩
  obtain ⟨R, HR⟩ := lay_tail hL hBt hBs htw (by simp) (by simp) hdb hdp (by simp)
  have HR2 := HR.mono (R' := fun e W2 => e = .returned (.int .i64 (R : Int)) ∧ Hid _) (fun e W2 h => ⟨h.1, hid h.2⟩)
  have HW := hid hW1
  clear HR hL st tb1 pm0 km0 q0 q1 g1 hb0 hW1
  show Calls Try.prog 75 #[.pointer (some ⟨t, 3, none⟩), .agg #[.int .i64 b1, .int .i64 b2], .agg #[.int .i64 p1, .int .i64 p2, .string ky]] w _
  go_enter Try.func75, Try.ntmps75
  go_wp2_with (go_at_call 84; rw [← HW.out]; refine HR2.mono ?_; rintro e W2 ⟨rfl, HT⟩)
  obtain ⟨S2, S2d, W3, hr3, S3, S3d, vs, hl3, hl4, S4, HI⟩ := HT.out
  refine wp_region_held_drew (S := fun w' => w'.cell? ⟨t, 3, none⟩ = some (.map (some (w.heap.size + 1 + 1))) ∧ w'.cell? ⟨t, 4, none⟩ = some (.map (some (w.heap.size + 1 + 1 + 1))) ∧ w'.cell? ⟨w.heap.size, 0, none⟩ = some (.int .i64 b1) ∧ w'.cell? ⟨w.heap.size, 1, none⟩ = some (.int .i64 b2) ∧ w'.cell? ⟨w.heap.size + 1, 0, none⟩ = some (.int .i64 p1) ∧ w'.cell? ⟨w.heap.size + 1, 1, none⟩ = some (.int .i64 p2) ∧ w'.cell? ⟨w.heap.size + 1, 2, none⟩ = some (.string ky)) hmxo S2d ?_
  intro _
  refine wpAnyH_take (i := 0) (v := .pointer (some ⟨t, 3, none⟩)) rfl (by kernel_rfl) (by kernel_rfl) (by kernel_rfl) (fun _ _ _ h => h) (Or.inl ⟨by kernel_rfl, fun w hSw => ?_⟩) S2d ?_
  · obtain ⟨e3, e4, x0, x1, y0, y1, y2⟩ := hSw; go_simp
  simp only [Act.put, List.getElem_toArray, List.getElem_cons_succ, List.getElem_cons_zero, List.setIfInBounds_toArray, List.set_cons_zero, List.set_cons_succ]
  refine wpAnyH_take (i := 1) (v := .pointer (some ⟨t, 3, none⟩)) rfl (by kernel_rfl) (by kernel_rfl) (by kernel_rfl) (fun _ _ _ h => h) (Or.inl ⟨by kernel_rfl, fun w hSw => ?_⟩) S2d ?_
  · obtain ⟨e3, e4, x0, x1, y0, y1, y2⟩ := hSw; go_simp
  simp only [Act.put, List.getElem_toArray, List.getElem_cons_succ, List.getElem_cons_zero, List.setIfInBounds_toArray, List.set_cons_zero, List.set_cons_succ]
  refine wpAnyH_take (i := 2) (v := .pointer (some ⟨t, 3, none⟩)) rfl (by kernel_rfl) (by kernel_rfl) (by kernel_rfl) (fun _ _ _ h => h) (Or.inl ⟨by kernel_rfl, fun w hSw => ?_⟩) S2d ?_
  · obtain ⟨e3, e4, x0, x1, y0, y1, y2⟩ := hSw; go_simp
  simp only [Act.put, List.getElem_toArray, List.getElem_cons_succ, List.getElem_cons_zero, List.setIfInBounds_toArray, List.set_cons_zero, List.set_cons_succ]
  refine wpAnyH_take (i := 3) (v := .map (some (w.heap.size + 1 + 1))) rfl (by kernel_rfl) (by kernel_rfl) (by kernel_rfl) (fun _ _ _ h => h) (Or.inl ⟨by kernel_rfl, fun w hSw => ?_⟩) S2d ?_
  · obtain ⟨e3, e4, x0, x1, y0, y1, y2⟩ := hSw; go_simp
  simp only [Act.put, List.getElem_toArray, List.getElem_cons_succ, List.getElem_cons_zero, List.setIfInBounds_toArray, List.set_cons_zero, List.set_cons_succ]
  refine wpAnyH_take (i := 4) (v := .agg #[.int .i64 b1, .int .i64 b2]) rfl (by kernel_rfl) (by kernel_rfl) (by kernel_rfl) (fun _ _ _ h => h) (Or.inl ⟨by kernel_rfl, fun w hSw => ?_⟩) S2d ?_
  · obtain ⟨e3, e4, x0, x1, y0, y1, y2⟩ := hSw; go_simp
  simp only [Act.put, List.getElem_toArray, List.getElem_cons_succ, List.getElem_cons_zero, List.setIfInBounds_toArray, List.set_cons_zero, List.set_cons_succ]
  refine wpAnyH_take (i := 5) (v := .agg #[.int .i64 p1, .int .i64 p2, .string ky]) rfl (by kernel_rfl) (by kernel_rfl) (by kernel_rfl) (fun _ _ _ h => h) (Or.inl ⟨by kernel_rfl, fun w hSw => ?_⟩) S2d ?_
  · obtain ⟨e3, e4, x0, x1, y0, y1, y2⟩ := hSw; go_simp
  simp only [Act.put, List.getElem_toArray, List.getElem_cons_succ, List.getElem_cons_zero, List.setIfInBounds_toArray, List.set_cons_zero, List.set_cons_succ]
  refine wpAnyH_ready (rs := [6]) (by kernel_rfl) (by simp) ?_
  refine AllReadyH.cons rfl (fun K hK => ?_) AllReadyH.nil
  go_simp
  refine hK.out _ _ S3 (fun _ => ?_)
  clear hK K
  refine wpAnyH_done (by kernel_rfl) ?_ _
  go_wp2_with fail
  refine wp_region_held_drew (S := fun w' => w'.cell? ⟨t, 3, none⟩ = some (.map (some (w.heap.size + 1 + 1))) ∧ w'.cell? ⟨t, 4, none⟩ = some (.map (some (w.heap.size + 1 + 1 + 1))) ∧ w'.cell? ⟨w.heap.size, 0, none⟩ = some (.int .i64 b1) ∧ w'.cell? ⟨w.heap.size, 1, none⟩ = some (.int .i64 b2) ∧ w'.cell? ⟨w.heap.size + 1, 0, none⟩ = some (.int .i64 p1) ∧ w'.cell? ⟨w.heap.size + 1, 1, none⟩ = some (.int .i64 p2) ∧ w'.cell? ⟨w.heap.size + 1, 2, none⟩ = some (.string ky)) hmxo S3d ?_
  intro _
  refine wpAnyH_take (i := 0) (v := .pointer (some ⟨t, 3, none⟩)) rfl (by kernel_rfl) (by kernel_rfl) (by kernel_rfl) (fun _ _ _ h => h) (Or.inl ⟨by kernel_rfl, fun w hSw => ?_⟩) S3d ?_
  · obtain ⟨e3, e4, x0, x1, y0, y1, y2⟩ := hSw; go_simp
  simp only [Act.put, List.getElem_toArray, List.getElem_cons_succ, List.getElem_cons_zero, List.setIfInBounds_toArray, List.set_cons_zero, List.set_cons_succ]
  refine wpAnyH_take (i := 1) (v := .pointer (some ⟨t, 3, none⟩)) rfl (by kernel_rfl) (by kernel_rfl) (by kernel_rfl) (fun _ _ _ h => h) (Or.inl ⟨by kernel_rfl, fun w hSw => ?_⟩) S3d ?_
  · obtain ⟨e3, e4, x0, x1, y0, y1, y2⟩ := hSw; go_simp
  simp only [Act.put, List.getElem_toArray, List.getElem_cons_succ, List.getElem_cons_zero, List.setIfInBounds_toArray, List.set_cons_zero, List.set_cons_succ]
  refine wpAnyH_take (i := 2) (v := .pointer (some ⟨t, 4, none⟩)) rfl (by kernel_rfl) (by kernel_rfl) (by kernel_rfl) (fun _ _ _ h => h) (Or.inl ⟨by kernel_rfl, fun w hSw => ?_⟩) S3d ?_
  · obtain ⟨e3, e4, x0, x1, y0, y1, y2⟩ := hSw; go_simp
  simp only [Act.put, List.getElem_toArray, List.getElem_cons_succ, List.getElem_cons_zero, List.setIfInBounds_toArray, List.set_cons_zero, List.set_cons_succ]
  refine wpAnyH_take (i := 3) (v := .map (some (w.heap.size + 1 + 1 + 1))) rfl (by kernel_rfl) (by kernel_rfl) (by kernel_rfl) (fun _ _ _ h => h) (Or.inl ⟨by kernel_rfl, fun w hSw => ?_⟩) S3d ?_
  · obtain ⟨e3, e4, x0, x1, y0, y1, y2⟩ := hSw; go_simp
  simp only [Act.put, List.getElem_toArray, List.getElem_cons_succ, List.getElem_cons_zero, List.setIfInBounds_toArray, List.set_cons_zero, List.set_cons_succ]
  refine wpAnyH_take (i := 4) (v := .pointer (some ⟨w.heap.size + 1, 0, none⟩)) rfl (by kernel_rfl) (by kernel_rfl) (by kernel_rfl) (fun _ _ _ h => h) (Or.inl ⟨by kernel_rfl, fun w hSw => ?_⟩) S3d ?_
  · obtain ⟨e3, e4, x0, x1, y0, y1, y2⟩ := hSw; go_simp
  simp only [Act.put, List.getElem_toArray, List.getElem_cons_succ, List.getElem_cons_zero, List.setIfInBounds_toArray, List.set_cons_zero, List.set_cons_succ]
  refine wpAnyH_take (i := 5) (v := .agg #[.int .i64 p1, .int .i64 p2]) rfl (by kernel_rfl) (by kernel_rfl) (by kernel_rfl) (fun _ _ _ h => h) (Or.inl ⟨by kernel_rfl, fun w hSw => ?_⟩) S3d ?_
  · obtain ⟨e3, e4, x0, x1, y0, y1, y2⟩ := hSw; go_simp
  simp only [Act.put, List.getElem_toArray, List.getElem_cons_succ, List.getElem_cons_zero, List.setIfInBounds_toArray, List.set_cons_zero, List.set_cons_succ]
  refine wpAnyH_take (i := 6) (v := .pointer (some ⟨t, 3, none⟩)) rfl (by kernel_rfl) (by kernel_rfl) (by kernel_rfl) (fun _ _ _ h => h) (Or.inl ⟨by kernel_rfl, fun w hSw => ?_⟩) S3d ?_
  · obtain ⟨e3, e4, x0, x1, y0, y1, y2⟩ := hSw; go_simp
  simp only [Act.put, List.getElem_toArray, List.getElem_cons_succ, List.getElem_cons_zero, List.setIfInBounds_toArray, List.set_cons_zero, List.set_cons_succ]
  refine wpAnyH_take (i := 7) (v := .pointer (some ⟨t, 3, none⟩)) rfl (by kernel_rfl) (by kernel_rfl) (by kernel_rfl) (fun _ _ _ h => h) (Or.inl ⟨by kernel_rfl, fun w hSw => ?_⟩) S3d ?_
  · obtain ⟨e3, e4, x0, x1, y0, y1, y2⟩ := hSw; go_simp
  simp only [Act.put, List.getElem_toArray, List.getElem_cons_succ, List.getElem_cons_zero, List.setIfInBounds_toArray, List.set_cons_zero, List.set_cons_succ]
  refine wpAnyH_take (i := 8) (v := .pointer (some ⟨t, 4, none⟩)) rfl (by kernel_rfl) (by kernel_rfl) (by kernel_rfl) (fun _ _ _ h => h) (Or.inl ⟨by kernel_rfl, fun w hSw => ?_⟩) S3d ?_
  · obtain ⟨e3, e4, x0, x1, y0, y1, y2⟩ := hSw; go_simp
  simp only [Act.put, List.getElem_toArray, List.getElem_cons_succ, List.getElem_cons_zero, List.setIfInBounds_toArray, List.set_cons_zero, List.set_cons_succ]
  refine wpAnyH_take (i := 9) (v := .map (some (w.heap.size + 1 + 1 + 1))) rfl (by kernel_rfl) (by kernel_rfl) (by kernel_rfl) (fun _ _ _ h => h) (Or.inl ⟨by kernel_rfl, fun w hSw => ?_⟩) S3d ?_
  · obtain ⟨e3, e4, x0, x1, y0, y1, y2⟩ := hSw; go_simp
  simp only [Act.put, List.getElem_toArray, List.getElem_cons_succ, List.getElem_cons_zero, List.setIfInBounds_toArray, List.set_cons_zero, List.set_cons_succ]
  refine wpAnyH_take (i := 10) (v := .pointer (some ⟨w.heap.size + 1, 0, none⟩)) rfl (by kernel_rfl) (by kernel_rfl) (by kernel_rfl) (fun _ _ _ h => h) (Or.inl ⟨by kernel_rfl, fun w hSw => ?_⟩) S3d ?_
  · obtain ⟨e3, e4, x0, x1, y0, y1, y2⟩ := hSw; go_simp
  simp only [Act.put, List.getElem_toArray, List.getElem_cons_succ, List.getElem_cons_zero, List.setIfInBounds_toArray, List.set_cons_zero, List.set_cons_succ]
  refine wpAnyH_take (i := 11) (v := .agg #[.int .i64 p1, .int .i64 p2]) rfl (by kernel_rfl) (by kernel_rfl) (by kernel_rfl) (fun _ _ _ h => h) (Or.inl ⟨by kernel_rfl, fun w hSw => ?_⟩) S3d ?_
  · obtain ⟨e3, e4, x0, x1, y0, y1, y2⟩ := hSw; go_simp
  simp only [Act.put, List.getElem_toArray, List.getElem_cons_succ, List.getElem_cons_zero, List.setIfInBounds_toArray, List.set_cons_zero, List.set_cons_succ]
  refine wpAnyH_take (i := 13) (v := .int .i64 (R : Int)) rfl (by kernel_rfl) (by kernel_rfl) (by kernel_rfl) (fun _ _ _ h => h) (Or.inl ⟨by kernel_rfl, fun w hSw => ?_⟩) S3d ?_
  · obtain ⟨e3, e4, x0, x1, y0, y1, y2⟩ := hSw; go_simp
  simp only [Act.put, List.getElem_toArray, List.getElem_cons_succ, List.getElem_cons_zero, List.setIfInBounds_toArray, List.set_cons_zero, List.set_cons_succ]
  refine wpAnyH_take (i := 14) (v := .agg #[.int .i64 b1, .int .i64 b2]) rfl (by kernel_rfl) (by kernel_rfl) (by kernel_rfl) (fun _ _ _ h => h) (Or.inl ⟨by kernel_rfl, fun w hSw => ?_⟩) S3d ?_
  · obtain ⟨e3, e4, x0, x1, y0, y1, y2⟩ := hSw; go_simp
  simp only [Act.put, List.getElem_toArray, List.getElem_cons_succ, List.getElem_cons_zero, List.setIfInBounds_toArray, List.set_cons_zero, List.set_cons_succ]
  refine wpAnyH_ready (rs := [12, 15]) (by kernel_rfl) (by simp) ?_
  refine AllReadyH.cons rfl (fun K hK => ?_) (AllReadyH.cons rfl (fun K hK => ?_) AllReadyH.nil)
  · go_simp
    refine hK.out _ _ S3d (fun _ => ?_)
    clear hK K
    refine wpAnyH_ready (rs := [15]) (by kernel_rfl) (by simp) ?_
    refine AllReadyH.cons rfl (fun K hK => ?_) AllReadyH.nil
    go_simp
    refine hK.out _ _ S4 (fun _ => ?_)
    clear hK K
    refine wpAnyH_ready (rs := [16]) (by kernel_rfl) (by simp) ?_
    refine AllReadyH.cons rfl (fun K hK => ?_) AllReadyH.nil
    go_simp
    refine HI.mono ?_
    rintro e W5 ⟨v5, W6, rfl, S5, hr6, S6, hfin⟩
    refine hK.out _ _ S5 (fun _ => ?_)
    clear hK K
    refine wpAnyH_ready (rs := [17]) (by kernel_rfl) (by simp) ?_
    refine AllReadyH.cons rfl (fun K hK => ?_) AllReadyH.nil
    go_simp
    refine hK.out _ _ S6 (fun _ => ?_)
    clear hK K
    refine wpAnyH_done (by kernel_rfl) ?_ _
    go_wp2
    refine bodyPost_end (results_none rfl _ _ _) rfl ?_
    exact ⟨rfl, _, _, hfin.out⟩
  · go_simp
    refine hK.out _ _ S4 (fun _ => ?_)
    clear hK K
    refine wpAnyH_ready (rs := [12]) (by kernel_rfl) (by simp) ?_
    refine AllReadyH.cons rfl (fun K hK => ?_) AllReadyH.nil
    go_simp
    refine hK.out _ _ S4 (fun _ => ?_)
    clear hK K
    refine wpAnyH_ready (rs := [16]) (by kernel_rfl) (by simp) ?_
    refine AllReadyH.cons rfl (fun K hK => ?_) AllReadyH.nil
    go_simp
    refine HI.mono ?_
    rintro e W5 ⟨v5, W6, rfl, S5, hr6, S6, hfin⟩
    refine hK.out _ _ S5 (fun _ => ?_)
    clear hK K
    refine wpAnyH_ready (rs := [17]) (by kernel_rfl) (by simp) ?_
    refine AllReadyH.cons rfl (fun K hK => ?_) AllReadyH.nil
    go_simp
    refine hK.out _ _ S6 (fun _ => ?_)
    clear hK K
    refine wpAnyH_done (by kernel_rfl) ?_ _
    go_wp2
    refine bodyPost_end (results_none rfl _ _ _) rfl ?_
    exact ⟨rfl, _, _, hfin.out⟩
end Go.Proofs.Ytplcohjpchfkkaa
