/- slices.Delete of one dot out of a row of dots of one's own: two cells each. -/
import Derived.Test.YtnmdcdphpcpojaaGreatDoorTrRange
import Derived.Test.YtnmdcdphpcpojaaGreatDoorTrUp
import Derived.Test.YtnmdcdphpcpojaaGreatDoorTrCmp
import Derived.Deep.RegionLaw
import Derived.Lib.SliceRun
namespace Go.Proofs.YtnmdcdphpcpojaaGreatDoor
section
set_option linter.unusedVariables false
set_option linter.unusedSimpArgs false
open Go.RowKit

set_option maxRecDepth 100000 in
set_option maxHeartbeats 4000000 in
theorem lay_none (t : Nat) (lg fd dn : Value) (B : Nat → Prop) (s : Sp) (w : World) (hT : TB w t lg fd dn (.map none) (.map none)) (hBt : ¬ B t) (hBs : ∀ j, B j → j < w.heap.size) (hdb : Dw s.b) (hdp : Dw s.p) :
    Calls Tryz.prog 123 #[.pointer (some ⟨t, 3, none⟩), dv s.b, plv (s.p, s.k)] w fun e w' => e = .returned (.tuple #[]) ∧ ∃ pl' kd', TB w' t lg fd dn pl' kd' ∧ SB w' pl' kd' ([] ++ [s]) (Bn w w' B) ∧ KB w w' B t := by
  obtain ⟨⟨b1, b2⟩, ⟨p1, p2⟩, ky⟩ := s
  have hmxo : Tryz.prog.follows .mixedOrders = true := by kernel_rfl
  have htw : t < w.heap.size := (Array.getElem?_eq_some_iff.1 hT).1
  have c3 : w.cell? ⟨t, 3, none⟩ = some (.map none) := by unfold TB at hT; simp [World.cell?, hT]
  have c4 : w.cell? ⟨t, 4, none⟩ = some (.map none) := by unfold TB at hT; simp [World.cell?, hT]
  have hmn := plmap_none
  have hmk := @run_makeMap Tryz.prog
  have hB0 : Below w.heap.size w ((((w.alloc (.cells #[.int .i64 b1, .int .i64 b2] 24)).alloc (.cells #[.int .i64 p1, .int .i64 p2, .string ky] 113)).alloc (.map #[] 0)).alloc (.map #[] 0)) := (((((Below.refl _ w).alloc (Nat.le_refl _) _).alloc (by simp) _).alloc (by simp; omega) _).alloc (by simp; omega) _)
  have hb0 := (hB0.block t htw).trans hT
  have z3' : ((((w.alloc (.cells #[.int .i64 b1, .int .i64 b2] 24)).alloc (.cells #[.int .i64 p1, .int .i64 p2, .string ky] 113)).alloc (.map #[] 0)).alloc (.map #[] 0)).frozen? ⟨t, 3, none⟩ = false := by simp only [World.frozen?, hb0]; rfl
  have z4' : ((((w.alloc (.cells #[.int .i64 b1, .int .i64 b2] 24)).alloc (.cells #[.int .i64 p1, .int .i64 p2, .string ky] 113)).alloc (.map #[] 0)).alloc (.map #[] 0)).frozen? ⟨t, 4, none⟩ = false := by simp only [World.frozen?, hb0]; rfl
  have d3' : ((((w.alloc (.cells #[.int .i64 b1, .int .i64 b2] 24)).alloc (.cells #[.int .i64 p1, .int .i64 p2, .string ky] 113)).alloc (.map #[] 0)).alloc (.map #[] 0)).cell? ⟨t, 3, none⟩ = some (.map none) := by simp only [World.cell?, hb0]; rfl
  have d4' : ((((w.alloc (.cells #[.int .i64 b1, .int .i64 b2] 24)).alloc (.cells #[.int .i64 p1, .int .i64 p2, .string ky] 113)).alloc (.map #[] 0)).alloc (.map #[] 0)).cell? ⟨t, 4, none⟩ = some (.map none) := by simp only [World.cell?, hb0]; rfl
  obtain ⟨W1, hW1⟩ : ∃ W1, W1 = ((((((w.alloc (.cells #[.int .i64 b1, .int .i64 b2] 24)).alloc (.cells #[.int .i64 p1, .int .i64 p2, .string ky] 113)).alloc (.map #[] 0)).alloc (.map #[] 0)).setCell ⟨t, 3, none⟩ (.map (some (w.heap.size + 1 + 1)))).setCell ⟨t, 4, none⟩ (.map (some (w.heap.size + 1 + 1 + 1)))) := ⟨_, rfl⟩
  have hsz : W1.heap.size = w.heap.size + 4 := by rw [hW1]; simp [World.setCell]
  have g1 : ((((w.alloc (.cells #[.int .i64 b1, .int .i64 b2] 24)).alloc (.cells #[.int .i64 p1, .int .i64 p2, .string ky] 113)).alloc (.map #[] 0)).alloc (.map #[] 0)).grownBy W1 (some t) := by rw [hW1]; exact (grownBy_setCell _ t 3 _).trans (grownBy_setCell _ t 4 _)
  have q0 : ((((w.alloc (.cells #[.int .i64 b1, .int .i64 b2] 24)).alloc (.cells #[.int .i64 p1, .int .i64 p2, .string ky] 113)).alloc (.map #[] 0)).alloc (.map #[] 0)).heap[w.heap.size]? = some (.cells #[.int .i64 b1, .int .i64 b2] 24 (0, 0)) := (Below.heap_alloc _ _ _ (by simp; omega)).trans ((Below.heap_alloc _ _ _ (by simp; omega)).trans ((Below.heap_alloc _ _ _ (by simp)).trans (World.alloc_heap_new w _)))
  have q1 : ((((w.alloc (.cells #[.int .i64 b1, .int .i64 b2] 24)).alloc (.cells #[.int .i64 p1, .int .i64 p2, .string ky] 113)).alloc (.map #[] 0)).alloc (.map #[] 0)).heap[w.heap.size + 1]? = some (.cells #[.int .i64 p1, .int .i64 p2, .string ky] 113 (0, 0)) := by
    have := World.alloc_heap_new (w.alloc (.cells #[.int .i64 b1, .int .i64 b2] 24)) (.cells #[.int .i64 p1, .int .i64 p2, .string ky] 113)
    rw [World.size_alloc] at this
    exact (Below.heap_alloc _ _ _ (by simp)).trans ((Below.heap_alloc _ _ _ (by simp)).trans this)
  have pm0 := PLM.made ((w.alloc (.cells #[.int .i64 b1, .int .i64 b2] 24)).alloc (.cells #[.int .i64 p1, .int .i64 p2, .string ky] 113))
  have km0 := KM.made (((w.alloc (.cells #[.int .i64 b1, .int .i64 b2] 24)).alloc (.cells #[.int .i64 p1, .int .i64 p2, .string ky] 113)).alloc (.map #[] 0))
  rw [World.size_alloc, World.size_alloc] at pm0
  rw [World.size_alloc, World.size_alloc, World.size_alloc] at km0
  have st : ∀ j, j < w.heap.size + 4 → j ≠ t → W1.heap[j]? = ((((w.alloc (.cells #[.int .i64 b1, .int .i64 b2] 24)).alloc (.cells #[.int .i64 p1, .int .i64 p2, .string ky] 113)).alloc (.map #[] 0)).alloc (.map #[] 0)).heap[j]? := fun j hj hjt => g1.block j (by simp; omega) (by simpa using hjt)
  have tb1 : TB W1 t lg fd dn (.map (some (w.heap.size + 1 + 1))) (.map (some (w.heap.size + 1 + 1 + 1))) := by
    rw [hW1]
    have k3 := set_blk (j := 3) hb0 (.map (some (w.heap.size + 1 + 1)))
    have k4 := set_blk (j := 4) k3 (.map (some (w.heap.size + 1 + 1 + 1)))
    unfold TB
    simpa using k4
  have hL : LF w W1 t (w.heap.size + 1 + 1) (w.heap.size + 1 + 1 + 1) (fun _ => none) lg fd dn [] B b1 b2 p1 p2 ky := by
    refine ⟨⟨tb1, by omega, Or.inr ⟨by omega, by omega⟩, Or.inr ⟨by omega, by omega⟩, (pm0.same (Below.heap_alloc _ _ _ (by simp))).same (st _ (by omega) (by omega)), km0.same (st _ (by omega) (by omega)), ⟨fun p => ⟨rfl, Or.inl ⟨rfl, rfl⟩⟩, fun p q e => (by cases e), fun p p' q q' e => (by cases e), fun _ _ => rfl⟩, ⟨by omega, fun j hj hB hjt => (st j (by omega) hjt).trans (hB0.block j hj), (Sm.b hB0).trans (Sm.g g1)⟩⟩, (st _ (by omega) (by omega)).trans q0, (st _ (by omega) (by omega)).trans q1, fun p q e => (by cases e)⟩
  obtain ⟨R, HR⟩ := lay_tail hL hBt hBs htw (by simp) (by simp) hdb hdp (by simp)
  have HR2 := HR.mono (R' := fun e W2 => e = .returned (.int .i64 (R : Int)) ∧ Hid _) (fun e W2 h => ⟨h.1, hid h.2⟩)
  have HW := hid hW1
  clear HR hL st tb1 pm0 km0 q0 q1 g1 hb0 hW1
  show Calls Tryz.prog 123 #[.pointer (some ⟨t, 3, none⟩), .agg #[.int .i64 b1, .int .i64 b2], .agg #[.int .i64 p1, .int .i64 p2, .string ky]] w _
  go_enter Tryz.func123, Tryz.ntmps123
  go_wp2_with (go_at_call 154; rw [← HW.out]; refine HR2.mono ?_; rintro e W2 ⟨rfl, HT⟩)
  obtain ⟨S2, S2d, W3, hr3, S3, S3d, vs, hl3, hl4, S4, HI⟩ := HT.out
  refine wp_region_held_drew (S := fun w' => w'.cell? ⟨t, 3, none⟩ = some (.map (some (w.heap.size + 1 + 1))) ∧ w'.cell? ⟨t, 4, none⟩ = some (.map (some (w.heap.size + 1 + 1 + 1))) ∧ w'.cell? ⟨w.heap.size, 0, none⟩ = some (.int .i64 b1) ∧ w'.cell? ⟨w.heap.size, 1, none⟩ = some (.int .i64 b2) ∧ w'.cell? ⟨w.heap.size + 1, 0, none⟩ = some (.int .i64 p1) ∧ w'.cell? ⟨w.heap.size + 1, 1, none⟩ = some (.int .i64 p2) ∧ w'.cell? ⟨w.heap.size + 1, 2, none⟩ = some (.string ky)) hmxo S2d ?_
  intro _
  refine wpAnyH_take (i := 0) (v := .pointer (some ⟨t, 3, none⟩)) rfl (by kernel_rfl) (by kernel_rfl) (by kernel_rfl) (fun _ _ _ h => h) (Or.inl ⟨by kernel_rfl, fun w hSw => ?_⟩) S2d ?_
  · obtain ⟨e3, e4, x0, x1, y0, y1, y2⟩ := hSw; go_simp
  simp only [Act.put, List.getElem_toArray, List.getElem_cons_succ, List.getElem_cons_zero, List.setIfInBounds_toArray, List.set_cons_zero, List.set_cons_succ]
  refine wpAnyH_take (i := 1) (v := .pointer (some ⟨t, 3, none⟩)) rfl (by kernel_rfl) (by kernel_rfl) (by kernel_rfl) (fun _ _ _ h => h) (Or.inl ⟨by kernel_rfl, fun w hSw => ?_⟩) S2d ?_
  · obtain ⟨e3, e4, x0, x1, y0, y1, y2⟩ := hSw; go_simp
  simp only [Act.put, List.getElem_toArray, List.getElem_cons_succ, List.getElem_cons_zero, List.setIfInBounds_toArray, List.set_cons_zero, List.set_cons_succ]
  refine wpAnyH_take (i := 2) (v := .pointer (some ⟨t, 3, none⟩)) rfl (by kernel_rfl) (by kernel_rfl) (by kernel_rfl) (fun _ _ _ h => h) (Or.inl ⟨by kernel_rfl, fun w hSw => ?_⟩) S2d ?_
  · obtain ⟨e3, e4, x0, x1, y0, y1, y2⟩ := hSw; go_simp
  simp only [Act.put, List.getElem_toArray, List.getElem_cons_succ, List.getElem_cons_zero, List.setIfInBounds_toArray, List.set_cons_zero, List.set_cons_succ]
  refine wpAnyH_take (i := 3) (v := .map (some (w.heap.size + 1 + 1))) rfl (by kernel_rfl) (by kernel_rfl) (by kernel_rfl) (fun _ _ _ h => h) (Or.inl ⟨by kernel_rfl, fun w hSw => ?_⟩) S2d ?_
  · obtain ⟨e3, e4, x0, x1, y0, y1, y2⟩ := hSw; go_simp
  simp only [Act.put, List.getElem_toArray, List.getElem_cons_succ, List.getElem_cons_zero, List.setIfInBounds_toArray, List.set_cons_zero, List.set_cons_succ]
  refine wpAnyH_take (i := 4) (v := .agg #[.int .i64 b1, .int .i64 b2]) rfl (by kernel_rfl) (by kernel_rfl) (by kernel_rfl) (fun _ _ _ h => h) (Or.inl ⟨by kernel_rfl, fun w hSw => ?_⟩) S2d ?_
  · obtain ⟨e3, e4, x0, x1, y0, y1, y2⟩ := hSw; go_simp
  simp only [Act.put, List.getElem_toArray, List.getElem_cons_succ, List.getElem_cons_zero, List.setIfInBounds_toArray, List.set_cons_zero, List.set_cons_succ]
  refine wpAnyH_take (i := 5) (v := .agg #[.int .i64 p1, .int .i64 p2, .string ky]) rfl (by kernel_rfl) (by kernel_rfl) (by kernel_rfl) (fun _ _ _ h => h) (Or.inl ⟨by kernel_rfl, fun w hSw => ?_⟩) S2d ?_
  · obtain ⟨e3, e4, x0, x1, y0, y1, y2⟩ := hSw; go_simp
  simp only [Act.put, List.getElem_toArray, List.getElem_cons_succ, List.getElem_cons_zero, List.setIfInBounds_toArray, List.set_cons_zero, List.set_cons_succ]
  refine wpAnyH_ready (rs := [6]) (by kernel_rfl) (by simp) ?_
  refine AllReadyH.cons rfl (fun K hK => ?_) AllReadyH.nil
  go_simp
  refine hK.out _ _ S3 (fun _ => ?_)
  clear hK K
  refine wpAnyH_done (by kernel_rfl) ?_ _
  go_wp2_with fail
  refine wp_region_held_drew (S := fun w' => w'.cell? ⟨t, 3, none⟩ = some (.map (some (w.heap.size + 1 + 1))) ∧ w'.cell? ⟨t, 4, none⟩ = some (.map (some (w.heap.size + 1 + 1 + 1))) ∧ w'.cell? ⟨w.heap.size, 0, none⟩ = some (.int .i64 b1) ∧ w'.cell? ⟨w.heap.size, 1, none⟩ = some (.int .i64 b2) ∧ w'.cell? ⟨w.heap.size + 1, 0, none⟩ = some (.int .i64 p1) ∧ w'.cell? ⟨w.heap.size + 1, 1, none⟩ = some (.int .i64 p2) ∧ w'.cell? ⟨w.heap.size + 1, 2, none⟩ = some (.string ky)) hmxo S3d ?_
  intro _
  refine wpAnyH_take (i := 0) (v := .pointer (some ⟨t, 3, none⟩)) rfl (by kernel_rfl) (by kernel_rfl) (by kernel_rfl) (fun _ _ _ h => h) (Or.inl ⟨by kernel_rfl, fun w hSw => ?_⟩) S3d ?_
  · obtain ⟨e3, e4, x0, x1, y0, y1, y2⟩ := hSw; go_simp
  simp only [Act.put, List.getElem_toArray, List.getElem_cons_succ, List.getElem_cons_zero, List.setIfInBounds_toArray, List.set_cons_zero, List.set_cons_succ]
  refine wpAnyH_take (i := 1) (v := .pointer (some ⟨t, 3, none⟩)) rfl (by kernel_rfl) (by kernel_rfl) (by kernel_rfl) (fun _ _ _ h => h) (Or.inl ⟨by kernel_rfl, fun w hSw => ?_⟩) S3d ?_
  · obtain ⟨e3, e4, x0, x1, y0, y1, y2⟩ := hSw; go_simp
  simp only [Act.put, List.getElem_toArray, List.getElem_cons_succ, List.getElem_cons_zero, List.setIfInBounds_toArray, List.set_cons_zero, List.set_cons_succ]
  refine wpAnyH_take (i := 2) (v := .pointer (some ⟨t, 4, none⟩)) rfl (by kernel_rfl) (by kernel_rfl) (by kernel_rfl) (fun _ _ _ h => h) (Or.inl ⟨by kernel_rfl, fun w hSw => ?_⟩) S3d ?_
  · obtain ⟨e3, e4, x0, x1, y0, y1, y2⟩ := hSw; go_simp
  simp only [Act.put, List.getElem_toArray, List.getElem_cons_succ, List.getElem_cons_zero, List.setIfInBounds_toArray, List.set_cons_zero, List.set_cons_succ]
  refine wpAnyH_take (i := 3) (v := .map (some (w.heap.size + 1 + 1 + 1))) rfl (by kernel_rfl) (by kernel_rfl) (by kernel_rfl) (fun _ _ _ h => h) (Or.inl ⟨by kernel_rfl, fun w hSw => ?_⟩) S3d ?_
  · obtain ⟨e3, e4, x0, x1, y0, y1, y2⟩ := hSw; go_simp
  simp only [Act.put, List.getElem_toArray, List.getElem_cons_succ, List.getElem_cons_zero, List.setIfInBounds_toArray, List.set_cons_zero, List.set_cons_succ]
  refine wpAnyH_take (i := 4) (v := .pointer (some ⟨w.heap.size + 1, 0, none⟩)) rfl (by kernel_rfl) (by kernel_rfl) (by kernel_rfl) (fun _ _ _ h => h) (Or.inl ⟨by kernel_rfl, fun w hSw => ?_⟩) S3d ?_
  · obtain ⟨e3, e4, x0, x1, y0, y1, y2⟩ := hSw; go_simp
  simp only [Act.put, List.getElem_toArray, List.getElem_cons_succ, List.getElem_cons_zero, List.setIfInBounds_toArray, List.set_cons_zero, List.set_cons_succ]
  refine wpAnyH_take (i := 5) (v := .agg #[.int .i64 p1, .int .i64 p2]) rfl (by kernel_rfl) (by kernel_rfl) (by kernel_rfl) (fun _ _ _ h => h) (Or.inl ⟨by kernel_rfl, fun w hSw => ?_⟩) S3d ?_
  · obtain ⟨e3, e4, x0, x1, y0, y1, y2⟩ := hSw; go_simp
  simp only [Act.put, List.getElem_toArray, List.getElem_cons_succ, List.getElem_cons_zero, List.setIfInBounds_toArray, List.set_cons_zero, List.set_cons_succ]
  refine wpAnyH_take (i := 6) (v := .pointer (some ⟨t, 3, none⟩)) rfl (by kernel_rfl) (by kernel_rfl) (by kernel_rfl) (fun _ _ _ h => h) (Or.inl ⟨by kernel_rfl, fun w hSw => ?_⟩) S3d ?_
  · obtain ⟨e3, e4, x0, x1, y0, y1, y2⟩ := hSw; go_simp
  simp only [Act.put, List.getElem_toArray, List.getElem_cons_succ, List.getElem_cons_zero, List.setIfInBounds_toArray, List.set_cons_zero, List.set_cons_succ]
  refine wpAnyH_take (i := 7) (v := .pointer (some ⟨t, 3, none⟩)) rfl (by kernel_rfl) (by kernel_rfl) (by kernel_rfl) (fun _ _ _ h => h) (Or.inl ⟨by kernel_rfl, fun w hSw => ?_⟩) S3d ?_
  · obtain ⟨e3, e4, x0, x1, y0, y1, y2⟩ := hSw; go_simp
  simp only [Act.put, List.getElem_toArray, List.getElem_cons_succ, List.getElem_cons_zero, List.setIfInBounds_toArray, List.set_cons_zero, List.set_cons_succ]
  refine wpAnyH_take (i := 8) (v := .pointer (some ⟨t, 4, none⟩)) rfl (by kernel_rfl) (by kernel_rfl) (by kernel_rfl) (fun _ _ _ h => h) (Or.inl ⟨by kernel_rfl, fun w hSw => ?_⟩) S3d ?_
  · obtain ⟨e3, e4, x0, x1, y0, y1, y2⟩ := hSw; go_simp
  simp only [Act.put, List.getElem_toArray, List.getElem_cons_succ, List.getElem_cons_zero, List.setIfInBounds_toArray, List.set_cons_zero, List.set_cons_succ]
  refine wpAnyH_take (i := 9) (v := .map (some (w.heap.size + 1 + 1 + 1))) rfl (by kernel_rfl) (by kernel_rfl) (by kernel_rfl) (fun _ _ _ h => h) (Or.inl ⟨by kernel_rfl, fun w hSw => ?_⟩) S3d ?_
  · obtain ⟨e3, e4, x0, x1, y0, y1, y2⟩ := hSw; go_simp
  simp only [Act.put, List.getElem_toArray, List.getElem_cons_succ, List.getElem_cons_zero, List.setIfInBounds_toArray, List.set_cons_zero, List.set_cons_succ]
  refine wpAnyH_take (i := 10) (v := .pointer (some ⟨w.heap.size + 1, 0, none⟩)) rfl (by kernel_rfl) (by kernel_rfl) (by kernel_rfl) (fun _ _ _ h => h) (Or.inl ⟨by kernel_rfl, fun w hSw => ?_⟩) S3d ?_
  · obtain ⟨e3, e4, x0, x1, y0, y1, y2⟩ := hSw; go_simp
  simp only [Act.put, List.getElem_toArray, List.getElem_cons_succ, List.getElem_cons_zero, List.setIfInBounds_toArray, List.set_cons_zero, List.set_cons_succ]
  refine wpAnyH_take (i := 11) (v := .agg #[.int .i64 p1, .int .i64 p2]) rfl (by kernel_rfl) (by kernel_rfl) (by kernel_rfl) (fun _ _ _ h => h) (Or.inl ⟨by kernel_rfl, fun w hSw => ?_⟩) S3d ?_
  · obtain ⟨e3, e4, x0, x1, y0, y1, y2⟩ := hSw; go_simp
  simp only [Act.put, List.getElem_toArray, List.getElem_cons_succ, List.getElem_cons_zero, List.setIfInBounds_toArray, List.set_cons_zero, List.set_cons_succ]
  refine wpAnyH_take (i := 13) (v := .int .i64 (R : Int)) rfl (by kernel_rfl) (by kernel_rfl) (by kernel_rfl) (fun _ _ _ h => h) (Or.inl ⟨by kernel_rfl, fun w hSw => ?_⟩) S3d ?_
  · obtain ⟨e3, e4, x0, x1, y0, y1, y2⟩ := hSw; go_simp
  simp only [Act.put, List.getElem_toArray, List.getElem_cons_succ, List.getElem_cons_zero, List.setIfInBounds_toArray, List.set_cons_zero, List.set_cons_succ]
  refine wpAnyH_take (i := 14) (v := .agg #[.int .i64 b1, .int .i64 b2]) rfl (by kernel_rfl) (by kernel_rfl) (by kernel_rfl) (fun _ _ _ h => h) (Or.inl ⟨by kernel_rfl, fun w hSw => ?_⟩) S3d ?_
  · obtain ⟨e3, e4, x0, x1, y0, y1, y2⟩ := hSw; go_simp
  simp only [Act.put, List.getElem_toArray, List.getElem_cons_succ, List.getElem_cons_zero, List.setIfInBounds_toArray, List.set_cons_zero, List.set_cons_succ]
  refine wpAnyH_ready (rs := [12, 15]) (by kernel_rfl) (by simp) ?_
  refine AllReadyH.cons rfl (fun K hK => ?_) (AllReadyH.cons rfl (fun K hK => ?_) AllReadyH.nil)
  · go_simp
    refine hK.out _ _ S3d (fun _ => ?_)
    clear hK K
    refine wpAnyH_ready (rs := [15]) (by kernel_rfl) (by simp) ?_
    refine AllReadyH.cons rfl (fun K hK => ?_) AllReadyH.nil
    go_simp
    refine hK.out _ _ S4 (fun _ => ?_)
    clear hK K
    refine wpAnyH_ready (rs := [16]) (by kernel_rfl) (by simp) ?_
    refine AllReadyH.cons rfl (fun K hK => ?_) AllReadyH.nil
    go_simp
    refine HI.mono ?_
    rintro e W5 ⟨v5, W6, rfl, S5, hr6, S6, hfin⟩
    refine hK.out _ _ S5 (fun _ => ?_)
    clear hK K
    refine wpAnyH_ready (rs := [17]) (by kernel_rfl) (by simp) ?_
    refine AllReadyH.cons rfl (fun K hK => ?_) AllReadyH.nil
    go_simp
    refine hK.out _ _ S6 (fun _ => ?_)
    clear hK K
    refine wpAnyH_done (by kernel_rfl) ?_ _
    go_wp2
    refine bodyPost_end (results_none rfl _ _ _) rfl ?_
    exact ⟨rfl, _, _, hfin.out⟩
  · go_simp
    refine hK.out _ _ S4 (fun _ => ?_)
    clear hK K
    refine wpAnyH_ready (rs := [12]) (by kernel_rfl) (by simp) ?_
    refine AllReadyH.cons rfl (fun K hK => ?_) AllReadyH.nil
    go_simp
    refine hK.out _ _ S4 (fun _ => ?_)
    clear hK K
    refine wpAnyH_ready (rs := [16]) (by kernel_rfl) (by simp) ?_
    refine AllReadyH.cons rfl (fun K hK => ?_) AllReadyH.nil
    go_simp
    refine HI.mono ?_
    rintro e W5 ⟨v5, W6, rfl, S5, hr6, S6, hfin⟩
    refine hK.out _ _ S5 (fun _ => ?_)
    clear hK K
    refine wpAnyH_ready (rs := [17]) (by kernel_rfl) (by simp) ?_
    refine AllReadyH.cons rfl (fun K hK => ?_) AllReadyH.nil
    go_simp
    refine hK.out _ _ S6 (fun _ => ?_)
    clear hK K
    refine wpAnyH_done (by kernel_rfl) ?_ _
    go_wp2
    refine bodyPost_end (results_none rfl _ _ _) rfl ?_
    exact ⟨rfl, _, _, hfin.out⟩
end

section
set_option linter.unusedVariables false
set_option linter.unusedSimpArgs false
open Go.RowKit

set_option maxRecDepth 100000 in
set_option maxHeartbeats 4000000 in
theorem lay_some (t m k : Nat) (f : Rf) (lg fd dn : Value) (S : List Sp) (B : Nat → Prop) (s : Sp) (w : World) (hT : TB w t lg fd dn (.map (some m)) (.map (some k))) (hne : m ≠ k) (hBm : B m) (hBk : B k) (hpm : PLM w m S) (hkm : KM w k S.length f) (hrw : RW w S f B) (hBt : ¬ B t) (hBs : ∀ j, B j → j < w.heap.size) (hnd : ((S ++ [s]).map Sp.b).Nodup) (hdw : ∀ x ∈ S, Dw x.b) (hdb : Dw s.b) (hdp : Dw s.p) (hlen : S.length < 1000000) :
    Calls Tryz.prog 123 #[.pointer (some ⟨t, 3, none⟩), dv s.b, plv (s.p, s.k)] w fun e w' => e = .returned (.tuple #[]) ∧ ∃ pl' kd', TB w' t lg fd dn pl' kd' ∧ SB w' pl' kd' (S ++ [s]) (Bn w w' B) ∧ KB w w' B t := by
  obtain ⟨⟨b1, b2⟩, ⟨p1, p2⟩, ky⟩ := s
  have hmxo : Tryz.prog.follows .mixedOrders = true := by kernel_rfl
  have htw : t < w.heap.size := (Array.getElem?_eq_some_iff.1 hT).1
  have c3 : w.cell? ⟨t, 3, none⟩ = some (.map (some m)) := by unfold TB at hT; simp [World.cell?, hT]
  have hmn := plmap_some m
  obtain ⟨W1, hW1⟩ : ∃ W1, W1 = ((w.alloc (.cells #[.int .i64 b1, .int .i64 b2] 24)).alloc (.cells #[.int .i64 p1, .int .i64 p2, .string ky] 113)) := ⟨_, rfl⟩
  have hsz : W1.heap.size = w.heap.size + 2 := by rw [hW1]; simp
  have hB0 : Below w.heap.size w W1 := by rw [hW1]; exact ((Below.refl _ w).alloc (Nat.le_refl _) _).alloc (by simp) _
  have q0 : W1.heap[w.heap.size]? = some (.cells #[.int .i64 b1, .int .i64 b2] 24 (0, 0)) := by rw [hW1]; exact (Below.heap_alloc _ _ _ (by simp)).trans (World.alloc_heap_new w _)
  have q1 : W1.heap[w.heap.size + 1]? = some (.cells #[.int .i64 p1, .int .i64 p2, .string ky] 113 (0, 0)) := by
    rw [hW1]
    have := World.alloc_heap_new (w.alloc (.cells #[.int .i64 b1, .int .i64 b2] 24)) (.cells #[.int .i64 p1, .int .i64 p2, .string ky] 113)
    rw [World.size_alloc] at this
    exact this
  have hL : LF w W1 t m k f lg fd dn S B b1 b2 p1 p2 ky :=
    ⟨⟨(hB0.block t htw).trans hT, hne, Or.inl hBm, Or.inl hBk, hpm.same (hB0.block m hpm.lt), hkm.same (hB0.block k hkm.lt), (hrw.kept (fun p q e => hB0.block _ (hBs _ (hrw.own p q e)))).mono (fun j h => Or.inl h), ⟨hB0.size, fun j hj _ _ => hB0.block j hj, Sm.b hB0⟩⟩, q0, q1, fun p q e => hBs _ (hrw.own p q e)⟩
  obtain ⟨R, HR⟩ := lay_tail hL hBt hBs htw hnd hdw hdb hdp hlen
  have HR2 := HR.mono (R' := fun e W2 => e = .returned (.int .i64 (R : Int)) ∧ Hid _) (fun e W2 h => ⟨h.1, hid h.2⟩)
  have HW := hid hW1
  clear HR hL q0 q1 hW1 hpm hkm hrw hnd hdw
  show Calls Tryz.prog 123 #[.pointer (some ⟨t, 3, none⟩), .agg #[.int .i64 b1, .int .i64 b2], .agg #[.int .i64 p1, .int .i64 p2, .string ky]] w _
  go_enter Tryz.func123, Tryz.ntmps123
  go_wp2_with (go_at_call 154; rw [← HW.out]; refine HR2.mono ?_; rintro e W2 ⟨rfl, HT⟩)
  obtain ⟨S2, S2d, W3, hr3, S3, S3d, vs, hl3, hl4, S4, HI⟩ := HT.out
  refine wp_region_held_drew (S := fun w' => w'.cell? ⟨t, 3, none⟩ = some (.map (some m)) ∧ w'.cell? ⟨t, 4, none⟩ = some (.map (some k)) ∧ w'.cell? ⟨w.heap.size, 0, none⟩ = some (.int .i64 b1) ∧ w'.cell? ⟨w.heap.size, 1, none⟩ = some (.int .i64 b2) ∧ w'.cell? ⟨w.heap.size + 1, 0, none⟩ = some (.int .i64 p1) ∧ w'.cell? ⟨w.heap.size + 1, 1, none⟩ = some (.int .i64 p2) ∧ w'.cell? ⟨w.heap.size + 1, 2, none⟩ = some (.string ky)) hmxo S2d ?_
  intro _
  refine wpAnyH_take (i := 0) (v := .pointer (some ⟨t, 3, none⟩)) rfl (by kernel_rfl) (by kernel_rfl) (by kernel_rfl) (fun _ _ _ h => h) (Or.inl ⟨by kernel_rfl, fun w hSw => ?_⟩) S2d ?_
  · obtain ⟨e3, e4, x0, x1, y0, y1, y2⟩ := hSw; go_simp
  simp only [Act.put, List.getElem_toArray, List.getElem_cons_succ, List.getElem_cons_zero, List.setIfInBounds_toArray, List.set_cons_zero, List.set_cons_succ]
  refine wpAnyH_take (i := 1) (v := .pointer (some ⟨t, 3, none⟩)) rfl (by kernel_rfl) (by kernel_rfl) (by kernel_rfl) (fun _ _ _ h => h) (Or.inl ⟨by kernel_rfl, fun w hSw => ?_⟩) S2d ?_
  · obtain ⟨e3, e4, x0, x1, y0, y1, y2⟩ := hSw; go_simp
  simp only [Act.put, List.getElem_toArray, List.getElem_cons_succ, List.getElem_cons_zero, List.setIfInBounds_toArray, List.set_cons_zero, List.set_cons_succ]
  refine wpAnyH_take (i := 2) (v := .pointer (some ⟨t, 3, none⟩)) rfl (by kernel_rfl) (by kernel_rfl) (by kernel_rfl) (fun _ _ _ h => h) (Or.inl ⟨by kernel_rfl, fun w hSw => ?_⟩) S2d ?_
  · obtain ⟨e3, e4, x0, x1, y0, y1, y2⟩ := hSw; go_simp
  simp only [Act.put, List.getElem_toArray, List.getElem_cons_succ, List.getElem_cons_zero, List.setIfInBounds_toArray, List.set_cons_zero, List.set_cons_succ]
  refine wpAnyH_take (i := 3) (v := .map (some m)) rfl (by kernel_rfl) (by kernel_rfl) (by kernel_rfl) (fun _ _ _ h => h) (Or.inl ⟨by kernel_rfl, fun w hSw => ?_⟩) S2d ?_
  · obtain ⟨e3, e4, x0, x1, y0, y1, y2⟩ := hSw; go_simp
  simp only [Act.put, List.getElem_toArray, List.getElem_cons_succ, List.getElem_cons_zero, List.setIfInBounds_toArray, List.set_cons_zero, List.set_cons_succ]
  refine wpAnyH_take (i := 4) (v := .agg #[.int .i64 b1, .int .i64 b2]) rfl (by kernel_rfl) (by kernel_rfl) (by kernel_rfl) (fun _ _ _ h => h) (Or.inl ⟨by kernel_rfl, fun w hSw => ?_⟩) S2d ?_
  · obtain ⟨e3, e4, x0, x1, y0, y1, y2⟩ := hSw; go_simp
  simp only [Act.put, List.getElem_toArray, List.getElem_cons_succ, List.getElem_cons_zero, List.setIfInBounds_toArray, List.set_cons_zero, List.set_cons_succ]
  refine wpAnyH_take (i := 5) (v := .agg #[.int .i64 p1, .int .i64 p2, .string ky]) rfl (by kernel_rfl) (by kernel_rfl) (by kernel_rfl) (fun _ _ _ h => h) (Or.inl ⟨by kernel_rfl, fun w hSw => ?_⟩) S2d ?_
  · obtain ⟨e3, e4, x0, x1, y0, y1, y2⟩ := hSw; go_simp
  simp only [Act.put, List.getElem_toArray, List.getElem_cons_succ, List.getElem_cons_zero, List.setIfInBounds_toArray, List.set_cons_zero, List.set_cons_succ]
  refine wpAnyH_ready (rs := [6]) (by kernel_rfl) (by simp) ?_
  refine AllReadyH.cons rfl (fun K hK => ?_) AllReadyH.nil
  go_simp
  refine hK.out _ _ S3 (fun _ => ?_)
  clear hK K
  refine wpAnyH_done (by kernel_rfl) ?_ _
  go_wp2_with fail
  refine wp_region_held_drew (S := fun w' => w'.cell? ⟨t, 3, none⟩ = some (.map (some m)) ∧ w'.cell? ⟨t, 4, none⟩ = some (.map (some k)) ∧ w'.cell? ⟨w.heap.size, 0, none⟩ = some (.int .i64 b1) ∧ w'.cell? ⟨w.heap.size, 1, none⟩ = some (.int .i64 b2) ∧ w'.cell? ⟨w.heap.size + 1, 0, none⟩ = some (.int .i64 p1) ∧ w'.cell? ⟨w.heap.size + 1, 1, none⟩ = some (.int .i64 p2) ∧ w'.cell? ⟨w.heap.size + 1, 2, none⟩ = some (.string ky)) hmxo S3d ?_
  intro _
  refine wpAnyH_take (i := 0) (v := .pointer (some ⟨t, 3, none⟩)) rfl (by kernel_rfl) (by kernel_rfl) (by kernel_rfl) (fun _ _ _ h => h) (Or.inl ⟨by kernel_rfl, fun w hSw => ?_⟩) S3d ?_
  · obtain ⟨e3, e4, x0, x1, y0, y1, y2⟩ := hSw; go_simp
  simp only [Act.put, List.getElem_toArray, List.getElem_cons_succ, List.getElem_cons_zero, List.setIfInBounds_toArray, List.set_cons_zero, List.set_cons_succ]
  refine wpAnyH_take (i := 1) (v := .pointer (some ⟨t, 3, none⟩)) rfl (by kernel_rfl) (by kernel_rfl) (by kernel_rfl) (fun _ _ _ h => h) (Or.inl ⟨by kernel_rfl, fun w hSw => ?_⟩) S3d ?_
  · obtain ⟨e3, e4, x0, x1, y0, y1, y2⟩ := hSw; go_simp
  simp only [Act.put, List.getElem_toArray, List.getElem_cons_succ, List.getElem_cons_zero, List.setIfInBounds_toArray, List.set_cons_zero, List.set_cons_succ]
  refine wpAnyH_take (i := 2) (v := .pointer (some ⟨t, 4, none⟩)) rfl (by kernel_rfl) (by kernel_rfl) (by kernel_rfl) (fun _ _ _ h => h) (Or.inl ⟨by kernel_rfl, fun w hSw => ?_⟩) S3d ?_
  · obtain ⟨e3, e4, x0, x1, y0, y1, y2⟩ := hSw; go_simp
  simp only [Act.put, List.getElem_toArray, List.getElem_cons_succ, List.getElem_cons_zero, List.setIfInBounds_toArray, List.set_cons_zero, List.set_cons_succ]
  refine wpAnyH_take (i := 3) (v := .map (some k)) rfl (by kernel_rfl) (by kernel_rfl) (by kernel_rfl) (fun _ _ _ h => h) (Or.inl ⟨by kernel_rfl, fun w hSw => ?_⟩) S3d ?_
  · obtain ⟨e3, e4, x0, x1, y0, y1, y2⟩ := hSw; go_simp
  simp only [Act.put, List.getElem_toArray, List.getElem_cons_succ, List.getElem_cons_zero, List.setIfInBounds_toArray, List.set_cons_zero, List.set_cons_succ]
  refine wpAnyH_take (i := 4) (v := .pointer (some ⟨w.heap.size + 1, 0, none⟩)) rfl (by kernel_rfl) (by kernel_rfl) (by kernel_rfl) (fun _ _ _ h => h) (Or.inl ⟨by kernel_rfl, fun w hSw => ?_⟩) S3d ?_
  · obtain ⟨e3, e4, x0, x1, y0, y1, y2⟩ := hSw; go_simp
  simp only [Act.put, List.getElem_toArray, List.getElem_cons_succ, List.getElem_cons_zero, List.setIfInBounds_toArray, List.set_cons_zero, List.set_cons_succ]
  refine wpAnyH_take (i := 5) (v := .agg #[.int .i64 p1, .int .i64 p2]) rfl (by kernel_rfl) (by kernel_rfl) (by kernel_rfl) (fun _ _ _ h => h) (Or.inl ⟨by kernel_rfl, fun w hSw => ?_⟩) S3d ?_
  · obtain ⟨e3, e4, x0, x1, y0, y1, y2⟩ := hSw; go_simp
  simp only [Act.put, List.getElem_toArray, List.getElem_cons_succ, List.getElem_cons_zero, List.setIfInBounds_toArray, List.set_cons_zero, List.set_cons_succ]
  refine wpAnyH_take (i := 6) (v := .pointer (some ⟨t, 3, none⟩)) rfl (by kernel_rfl) (by kernel_rfl) (by kernel_rfl) (fun _ _ _ h => h) (Or.inl ⟨by kernel_rfl, fun w hSw => ?_⟩) S3d ?_
  · obtain ⟨e3, e4, x0, x1, y0, y1, y2⟩ := hSw; go_simp
  simp only [Act.put, List.getElem_toArray, List.getElem_cons_succ, List.getElem_cons_zero, List.setIfInBounds_toArray, List.set_cons_zero, List.set_cons_succ]
  refine wpAnyH_take (i := 7) (v := .pointer (some ⟨t, 3, none⟩)) rfl (by kernel_rfl) (by kernel_rfl) (by kernel_rfl) (fun _ _ _ h => h) (Or.inl ⟨by kernel_rfl, fun w hSw => ?_⟩) S3d ?_
  · obtain ⟨e3, e4, x0, x1, y0, y1, y2⟩ := hSw; go_simp
  simp only [Act.put, List.getElem_toArray, List.getElem_cons_succ, List.getElem_cons_zero, List.setIfInBounds_toArray, List.set_cons_zero, List.set_cons_succ]
  refine wpAnyH_take (i := 8) (v := .pointer (some ⟨t, 4, none⟩)) rfl (by kernel_rfl) (by kernel_rfl) (by kernel_rfl) (fun _ _ _ h => h) (Or.inl ⟨by kernel_rfl, fun w hSw => ?_⟩) S3d ?_
  · obtain ⟨e3, e4, x0, x1, y0, y1, y2⟩ := hSw; go_simp
  simp only [Act.put, List.getElem_toArray, List.getElem_cons_succ, List.getElem_cons_zero, List.setIfInBounds_toArray, List.set_cons_zero, List.set_cons_succ]
  refine wpAnyH_take (i := 9) (v := .map (some k)) rfl (by kernel_rfl) (by kernel_rfl) (by kernel_rfl) (fun _ _ _ h => h) (Or.inl ⟨by kernel_rfl, fun w hSw => ?_⟩) S3d ?_
  · obtain ⟨e3, e4, x0, x1, y0, y1, y2⟩ := hSw; go_simp
  simp only [Act.put, List.getElem_toArray, List.getElem_cons_succ, List.getElem_cons_zero, List.setIfInBounds_toArray, List.set_cons_zero, List.set_cons_succ]
  refine wpAnyH_take (i := 10) (v := .pointer (some ⟨w.heap.size + 1, 0, none⟩)) rfl (by kernel_rfl) (by kernel_rfl) (by kernel_rfl) (fun _ _ _ h => h) (Or.inl ⟨by kernel_rfl, fun w hSw => ?_⟩) S3d ?_
  · obtain ⟨e3, e4, x0, x1, y0, y1, y2⟩ := hSw; go_simp
  simp only [Act.put, List.getElem_toArray, List.getElem_cons_succ, List.getElem_cons_zero, List.setIfInBounds_toArray, List.set_cons_zero, List.set_cons_succ]
  refine wpAnyH_take (i := 11) (v := .agg #[.int .i64 p1, .int .i64 p2]) rfl (by kernel_rfl) (by kernel_rfl) (by kernel_rfl) (fun _ _ _ h => h) (Or.inl ⟨by kernel_rfl, fun w hSw => ?_⟩) S3d ?_
  · obtain ⟨e3, e4, x0, x1, y0, y1, y2⟩ := hSw; go_simp
  simp only [Act.put, List.getElem_toArray, List.getElem_cons_succ, List.getElem_cons_zero, List.setIfInBounds_toArray, List.set_cons_zero, List.set_cons_succ]
  refine wpAnyH_take (i := 13) (v := .int .i64 (R : Int)) rfl (by kernel_rfl) (by kernel_rfl) (by kernel_rfl) (fun _ _ _ h => h) (Or.inl ⟨by kernel_rfl, fun w hSw => ?_⟩) S3d ?_
  · obtain ⟨e3, e4, x0, x1, y0, y1, y2⟩ := hSw; go_simp
  simp only [Act.put, List.getElem_toArray, List.getElem_cons_succ, List.getElem_cons_zero, List.setIfInBounds_toArray, List.set_cons_zero, List.set_cons_succ]
  refine wpAnyH_take (i := 14) (v := .agg #[.int .i64 b1, .int .i64 b2]) rfl (by kernel_rfl) (by kernel_rfl) (by kernel_rfl) (fun _ _ _ h => h) (Or.inl ⟨by kernel_rfl, fun w hSw => ?_⟩) S3d ?_
  · obtain ⟨e3, e4, x0, x1, y0, y1, y2⟩ := hSw; go_simp
  simp only [Act.put, List.getElem_toArray, List.getElem_cons_succ, List.getElem_cons_zero, List.setIfInBounds_toArray, List.set_cons_zero, List.set_cons_succ]
  refine wpAnyH_ready (rs := [12, 15]) (by kernel_rfl) (by simp) ?_
  refine AllReadyH.cons rfl (fun K hK => ?_) (AllReadyH.cons rfl (fun K hK => ?_) AllReadyH.nil)
  · go_simp
    refine hK.out _ _ S3d (fun _ => ?_)
    clear hK K
    refine wpAnyH_ready (rs := [15]) (by kernel_rfl) (by simp) ?_
    refine AllReadyH.cons rfl (fun K hK => ?_) AllReadyH.nil
    go_simp
    refine hK.out _ _ S4 (fun _ => ?_)
    clear hK K
    refine wpAnyH_ready (rs := [16]) (by kernel_rfl) (by simp) ?_
    refine AllReadyH.cons rfl (fun K hK => ?_) AllReadyH.nil
    go_simp
    refine HI.mono ?_
    rintro e W5 ⟨v5, W6, rfl, S5, hr6, S6, hfin⟩
    refine hK.out _ _ S5 (fun _ => ?_)
    clear hK K
    refine wpAnyH_ready (rs := [17]) (by kernel_rfl) (by simp) ?_
    refine AllReadyH.cons rfl (fun K hK => ?_) AllReadyH.nil
    go_simp
    refine hK.out _ _ S6 (fun _ => ?_)
    clear hK K
    refine wpAnyH_done (by kernel_rfl) ?_ _
    go_wp2
    refine bodyPost_end (results_none rfl _ _ _) rfl ?_
    exact ⟨rfl, _, _, hfin.out⟩
  · go_simp
    refine hK.out _ _ S4 (fun _ => ?_)
    clear hK K
    refine wpAnyH_ready (rs := [12]) (by kernel_rfl) (by simp) ?_
    refine AllReadyH.cons rfl (fun K hK => ?_) AllReadyH.nil
    go_simp
    refine hK.out _ _ S4 (fun _ => ?_)
    clear hK K
    refine wpAnyH_ready (rs := [16]) (by kernel_rfl) (by simp) ?_
    refine AllReadyH.cons rfl (fun K hK => ?_) AllReadyH.nil
    go_simp
    refine HI.mono ?_
    rintro e W5 ⟨v5, W6, rfl, S5, hr6, S6, hfin⟩
    refine hK.out _ _ S5 (fun _ => ?_)
    clear hK K
    refine wpAnyH_ready (rs := [17]) (by kernel_rfl) (by simp) ?_
    refine AllReadyH.cons rfl (fun K hK => ?_) AllReadyH.nil
    go_simp
    refine hK.out _ _ S6 (fun _ => ?_)
    clear hK K
    refine wpAnyH_done (by kernel_rfl) ?_ _
    go_wp2
    refine bodyPost_end (results_none rfl _ _ _) rfl ?_
    exact ⟨rfl, _, _, hfin.out⟩

theorem lay_any (t : Nat) (lg fd dn pl kd : Value) (S : List Sp) (B : Nat → Prop) (s : Sp) (w : World) (hT : TB w t lg fd dn pl kd) (hS : SB w pl kd S B) (hBt : ¬ B t) (hBs : ∀ j, B j → j < w.heap.size) (hnd : ((S ++ [s]).map Sp.b).Nodup) (hdw : ∀ x ∈ S, Dw x.b) (hdb : Dw s.b) (hdp : Dw s.p) (hlen : S.length < 1000000) :
    Calls Tryz.prog 123 #[.pointer (some ⟨t, 3, none⟩), dv s.b, plv (s.p, s.k)] w fun e w' => e = .returned (.tuple #[]) ∧ ∃ pl' kd', TB w' t lg fd dn pl' kd' ∧ SB w' pl' kd' (S ++ [s]) (Bn w w' B) ∧ KB w w' B t := by
  rcases hS with ⟨rfl, rfl, rfl⟩ | ⟨m, k, f, rfl, rfl, h3, h4, h5, h6, h7, h8⟩
  · exact lay_none t lg fd dn B s w hT hBt hBs hdb hdp
  · exact lay_some t m k f lg fd dn S B s w hT h3 h4 h5 h6 h7 h8 hBt hBs hnd hdw hdb hdp hlen
end

section
set_option linter.unusedVariables false
open Go.RowKit Go.Lib

/-- clear, of one element of two cells. -/
theorem run_clear2 (w : World) (ty : TypeId) (b o c m : Nat) (hm : m = 1) (hc : ∀ j, j < 2 → (w.cell? ⟨b, o + j, none⟩).isSome = true) (hf : ∀ j, j < 2 → w.frozen? ⟨b, o + j, none⟩ = false) :
    (Builtin.clear_ #[32] ty #[.slice (some ⟨b, o, none⟩) m c]).run Tryz.prog w = .ok (.tuple #[]) (w.setCells b o [.int .i64 0, .int .i64 0]) := by
  subst hm
  have hst := run_storeCells_cells (P := Tryz.prog) b o [.int .i64 0, .int .i64 0] 0 w (by simpa using hc) (by simpa using hf) (by intro v hv'; simp at hv'; rw [hv']; rfl)
  simp only [Nat.add_zero] at hst
  have hzc : (Builtin.zeroCells (Value.agg #[.int .i64 0, .int .i64 0]).cells 1).toList = [.int .i64 0, .int .i64 0] := by first | rfl | kernel_rfl
  simp [Builtin.clear_, run_underlying Tryz.underlying32, Tryz.zeroValue24, hzc, hst]

/-- A row of one's own, fewer told. -/
theorem own_fewer2 {w : World} {base e g n cap : Nat} {xs : List Value} (h : w.ownsRow base e 2 (.slice (some ⟨g, 0, none⟩) n cap) n xs) {m : Nat} (hm : m ≤ n) : w.ownsRow base e 2 (.slice (some ⟨g, 0, none⟩) m cap) m (xs.take (m * 2)) := by
  rcases h.2 with ⟨e, _⟩ | ⟨g', cap', cur, e, hb, hg, hn, hc, hs, ht⟩
  · simp at e
  · simp only [Value.slice.injEq, Option.some.injEq, Addr.mk.injEq, and_true, true_and] at e
    obtain ⟨rfl, rfl⟩ := e
    refine ⟨by rw [List.length_take, h.1]; omega, Or.inr ⟨g, cap, cur, rfl, hb, hg, by omega, hc, hs, ?_⟩⟩
    rw [← ht, List.take_take, Nat.min_eq_left (by omega)]

set_option maxRecDepth 100000 in
set_option maxHeartbeats 4000000 in
theorem ddel_run (base g n c i : Nat) (xs : List Value) (w : World) (hi : i < n) (hn : n ≤ 1000000) (hown : w.ownsRow base 24 2 (.slice (some ⟨g, 0, none⟩) n c) n xs) (h1 : ∀ v ∈ xs, v.oneCell' = true) :
    Calls Tryz.prog 155 #[.slice (some ⟨g, 0, none⟩) n c, .int .i64 i, .int .i64 ((i : Int) + 1)] w fun e w' =>
      e = .returned (.slice (some ⟨g, 0, none⟩) (i + (n - (i + 1))) c) ∧ w' = (w.drew.setCells g (0 + i * 2) (xs.drop ((i + 1) * 2))).setCells g ((i + (n - (i + 1))) * 2) [.int .i64 0, .int .i64 0] := by
  have mixed := mixed
  have hxl : xs.length = n * 2 := hown.1
  obtain ⟨i0, hi0, hz0, hzs, hzb⟩ := info_parts Tryz.infoDot2
  have hcm : n ≤ c ∧ c ≤ maxLen := by
    rcases hown.2 with ⟨e, _⟩ | ⟨g', cap', cur, e, hb, hg, hnn, hc, hs, ht⟩
    · simp at e
    · simp only [Value.slice.injEq, Option.some.injEq, Addr.mk.injEq, and_true, true_and] at e
      obtain ⟨rfl, rfl⟩ := e
      exact ⟨hnn, hc⟩
  obtain ⟨hnc, hcm⟩ := hcm
  unfold maxLen at hcm
  have hcell : ∀ j v, xs[j]? = some v → w.cell? ⟨g, j, none⟩ = some v := fun j v hj => by
    have hjn : j < n * 2 := by
      have := (List.getElem?_eq_some_iff.1 hj).1
      omega
    rw [World.ownsRow.cellAt hown j (by omega)]
    exact hj
  have hsp : ∀ j, j < n * 2 → (w.cell? ⟨g, j, none⟩).isSome = true := fun j hj => by
    rw [World.ownsRow.cellAt hown j (by omega), List.getElem?_eq_getElem (by omega)]
    rfl
  have hfz : ∀ j, w.frozen? ⟨g, j, none⟩ = false := fun j => World.ownsRow.frozenAt hown j
  obtain ⟨news, hnews⟩ : ∃ news, news = xs.drop ((i + 1) * 2) := ⟨_, rfl⟩
  have hlen : news.length = (n - (i + 1)) * 2 := by rw [hnews, List.length_drop, hxl]; omega
  obtain ⟨A, hA, hsrc⟩ : ∃ A : Addr, (if c = i + 1 then some (⟨g, 0, none⟩ : Addr) else some ⟨g, (i + 1) * 2, none⟩) = some A ∧ Hid (∀ t u, news[t]? = some u → w.drew.cell? (A.add t) = some u) := by
    by_cases h : c = i + 1
    · refine ⟨⟨g, 0, none⟩, by simp [h], fun t u hu => ?_⟩
      have h0 : news.length = 0 := by rw [hlen]; omega
      rw [List.length_eq_zero_iff.1 h0] at hu
      simp at hu
    · refine ⟨⟨g, (i + 1) * 2, none⟩, by simp [h], fun t u hu => ?_⟩
      rw [Addr.add_lit]
      exact hcell ((i + 1) * 2 + t) u (by rw [hnews, List.getElem?_drop] at hu; exact hu)
  have s1 : Hid (news.length = (n - (i + 1)) * 2) := hid hlen
  have s2 : Hid (∀ u ∈ news, u.oneCell' = true) := hid (fun u hu => h1 u (by rw [hnews] at hu; exact List.mem_of_mem_drop hu))
  have s3 : Hid (∀ t, t < news.length → (w.drew.cell? ⟨g, 0 + i * 2 + t, none⟩).isSome = true ∧ w.drew.frozen? ⟨g, 0 + i * 2 + t, none⟩ = false) := hid (fun t ht => by
    rw [hlen] at ht
    exact ⟨hsp _ (by omega), hfz _⟩)
  obtain ⟨W1, hW1⟩ : ∃ W1, W1 = w.drew.setCells g (0 + i * 2) news := ⟨_, rfl⟩
  have hcl : ∀ ty, (Builtin.clear_ #[32] ty #[.slice (some ⟨g, (i + (n - (i + 1))) * 2, none⟩) (n - (i + (n - (i + 1)))) (c - (i + (n - (i + 1))))]).run Tryz.prog W1 = .ok (.tuple #[]) (W1.setCells g ((i + (n - (i + 1))) * 2) [.int .i64 0, .int .i64 0]) := fun ty =>
    run_clear2 W1 ty g _ _ _ (by omega) (fun j hj => by rw [hW1]; exact isSome_setCells g news (0 + i * 2) w.drew (fun t ht => (s3.out t ht).1) _ (hsp _ (by omega))) (fun j hj => by rw [hW1, World.frozen?_setCells]; exact hfz _)
  have hW : Hid (W1 = w.drew.setCells g (0 + i * 2) news) := hid hW1
  have hic : i ≤ c := by omega
  have hjc : i + 1 ≤ c := by omega
  have hin : i ≤ n := by omega
  have hw1 : IntKind.i64.wrap ((i : Int) + 1) = (i : Int) + 1 := by rw [IntKind.wrap_i64]; omega
  have hb1 : (0 : Int) ≤ (i : Int) + 1 := by omega
  have htn : ((i : Int) + 1).toNat = i + 1 := by omega
  have hne : ¬ ((i : Int) = (i : Int) + 1) := by omega
  have hle : (i : Int) + 1 ≤ (n : Int) := by omega
  have hlc : (i : Int) ≤ (i : Int) + 1 := by omega
  have HN := hid hnews
  clear hW1 hown hcell hsp hfz hnews hlen hxl
  go_enter Tryz.func155, Tryz.ntmps155
  go_wp2_with fail
  go_region_law_o (refine step_append_room rfl (.tmp 22) (.tmp 25) 32 rfl 24 i0 2 Tryz.underlying32 hi0 hzs g 0 i c (by simp [Act.eval, Act.put]) A (n - (i + 1)) (c - (i + 1)) news (by simp [Act.eval, Act.put]) s1.out hsrc.out s2.out (by omega) s3.out ?_; rw [← hW.out])
  go_wp2
  go_ret
  exact ⟨rfl, by rw [hW.out, HN.out]⟩

/-- Told in dots: the dot number i is taken out. -/
theorem ddelete_dots (base g c i : Nat) (L : List Dt) (w : World) (hi : i < L.length) (hn : L.length ≤ 1000000) (hown : w.ownsRow base 24 2 (.slice (some ⟨g, 0, none⟩) L.length c) L.length (flat L)) :
    Calls Tryz.prog 155 #[.slice (some ⟨g, 0, none⟩) L.length c, .int .i64 i, .int .i64 ((i : Int) + 1)] w fun e w' =>
      e = .returned (.slice (some ⟨g, 0, none⟩) (L.length - 1) c) ∧ w'.ownsRow base 24 2 (.slice (some ⟨g, 0, none⟩) (L.length - 1) c) (L.length - 1) (flat (L.take i ++ L.drop (i + 1))) ∧ w.grownBy w' (some g) := by
  refine (ddel_run base g L.length c i (flat L) w hi hn hown (flat_one L)).mono ?_
  rintro e w' ⟨rfl, rfl⟩
  have hxl := flat_length L
  have e1 : i + (L.length - (i + 1)) = L.length - 1 := by omega
  rw [e1]
  have hw' : w.drew.ownsRow base 24 2 (.slice (some ⟨g, 0, none⟩) L.length c) L.length (flat L) := hown
  have hdl : ((flat L).drop ((i + 1) * 2)).length = (L.length - (i + 1)) * 2 := by rw [List.length_drop, hxl]; omega
  have hA := own_setCells2 ((flat L).drop ((i + 1) * 2)) (0 + i * 2) _ _ hw' (by rw [hdl]; omega)
  have hB := own_setCells2 [.int .i64 0, .int .i64 0] ((L.length - 1) * 2) _ _ hA.1 (by simp; omega)
  refine ⟨rfl, ?_, ((grownBy_drew1 _ _).trans hA.2).trans hB.2⟩
  have hC := own_fewer2 hB.1 (m := L.length - 1) (by omega)
  have e2 : ((flat L).take (0 + i * 2) ++ (flat L).drop ((i + 1) * 2)).length = (L.length - 1) * 2 := by rw [List.length_append, hdl, List.length_take, hxl]; omega
  have e3 : (((flat L).take (0 + i * 2) ++ (flat L).drop ((i + 1) * 2) ++ (flat L).drop (0 + i * 2 + ((flat L).drop ((i + 1) * 2)).length)).take ((L.length - 1) * 2) ++ [Value.int .i64 0, .int .i64 0] ++ ((flat L).take (0 + i * 2) ++ (flat L).drop ((i + 1) * 2) ++ (flat L).drop (0 + i * 2 + ((flat L).drop ((i + 1) * 2)).length)).drop ((L.length - 1) * 2 + [Value.int .i64 0, .int .i64 0].length)).take ((L.length - 1) * 2) = flat (L.take i ++ L.drop (i + 1)) := by
    rw [flat_append, flat_take10, flat_drop, List.append_assoc _ [Value.int .i64 0, .int .i64 0], List.take_left' (by rw [List.take_left' e2, e2]), List.take_left' e2, Nat.zero_add]
  rw [e3] at hC
  exact hC
end
end Go.Proofs.YtnmdcdphpcpojaaGreatDoor
