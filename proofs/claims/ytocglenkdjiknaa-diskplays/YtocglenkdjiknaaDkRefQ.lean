/- is: both tell the same. -/
import Derived.Test.YtocglenkdjiknaaDkRefP
set_option linter.unusedVariables false
set_option linter.unusedSimpArgs false
namespace Go.Proofs.Ytocglenkdjiknaa
open Go.RowKit
set_option linter.unusedSectionVars false
variable {sp : Sep}

theorem read_none {room : Nat} {due : Option (Nat × Nat × Nat)} {F : List (Nm × Fl)} {n : Nm} (h : lk F n = none) : readD ⟨room, false, due, F⟩ n = ([], 70) := by
  unfold readD
  simp only [h]
  rfl
theorem read_some {room : Nat} {due : Option (Nat × Nat × Nat)} {F : List (Nm × Fl)} {n : Nm} {f : Fl} (h : lk F n = some f) : readD ⟨room, false, due, F⟩ n = (f.b, 0) := by
  unfold readD
  simp only [h]
  rfl

set_option maxRecDepth 100000 in
set_option maxHeartbeats 8000000 in
theorem is_off (d : Nat) (vl : Value) (R : List (Nm × RFi)) (room : Nat) (dueD : Option (Nat × Nat × Nat)) (due : Bool) (o p k : Int) (P : Nat → Prop) (w : World) (h : DK w d ⟨room, true, dueD, mp RFi.fl R⟩ P) (hf : FR sp w vl R) :
    Calls Try.prog 11 #[.pointer (some ⟨d, 0, none⟩), .agg #[vl, .int .i64 (room : Int), .bool true, .bool due, .int .i64 o, .int .i64 p, .int .i64 k]] w fun e w' => e = .returned (.bool true) ∧ Below w.heap.size w w' := by
  have hgd := h.good
  have hR100 : R.length ≤ 100 := by rw [← fl_len]; exact hgd.few
  have hasc : Asc (mp RFi.fl R) := hgd.asc
  have hfit : sm (fun f => f.b.length) R ≤ room := by rw [← sm_RF]; exact hgd.fits
  have hsm : room ≤ 1000000 := hgd.small
  have hnice := hgd.nice
  simp only at hnice
  obtain ⟨a, c, rfl, hrow⟩ := hf.row
  have hb1 := new_below w (.cells #[.slice a R.length c, .int .i64 (room : Int), .bool true, .bool due, .int .i64 o, .int .i64 p, .int .i64 k] 28)
  have hn1 := heap_new w (.cells #[.slice a R.length c, .int .i64 (room : Int), .bool true, .bool due, .int .i64 o, .int .i64 p, .int .i64 k] 28)
  obtain ⟨w1, hw1⟩ : ∃ w1, w1 = w.alloc (.cells #[.slice a R.length c, .int .i64 (room : Int), .bool true, .bool due, .int .i64 o, .int .i64 p, .int .i64 k] 28) := ⟨_, rfl⟩
  rw [← hw1] at hb1 hn1
  obtain ⟨t, ht⟩ : ∃ t, t = room - sm (fun f : RFi => f.b.length) R := ⟨_, rfl⟩
  have HT := hid ht
  have K1 : Hid (DK w1 d ⟨room, true, dueD, mp RFi.fl R⟩ P) := hid (h.below hb1)
  have HF := hid hf
  have HR := hid hrow
  have HB1 := hid hb1
  have HW := hid hw1
  have HN1 := hid hn1
  have HA := hid hasc
  have HNI := hid hnice
  have HFIT := hid hfit
  clear h hf hrow hb1 hn1 hw1 hasc hnice hgd ht hfit
  have hmxo : Try.prog.follows .mixedOrders = true := by kernel_rfl
  go_enter Try.func11, Try.ntmps11
  go_wp2_with (go_at_call 22; have hq := K1.out; simp only [← HW.out]; refine (names_any _ _ _ _ hq).mono ?_; rintro e w5 ⟨v5, rfl, hr5, hb5⟩; have hr6 : w5.ownsRow w1.heap.size 9 1 v5 (nms (mp RFi.fl R)).length ((nms (mp RFi.fl R)).map encStr) := hr5; obtain ⟨an, cn, rfl, hN⟩ := names_row hr6; have HN := hid hN; have K5 := hid (And.intro (hq.below hb5) hb5); rw [nms_len, fl_len]; clear hq hr5 hr6 hN hb5)
  have S5 : w5.drew.heap[w.heap.size]? = some (.cells #[.slice a R.length c, .int .i64 (room : Int), .bool true, .bool due, .int .i64 o, .int .i64 p, .int .i64 k] 28 (0, 0)) := (K5.out.2.block w.heap.size (Array.getElem?_eq_some_iff.1 HN1.out).1).trans HN1.out
  refine wp_region_held_drew (S := fun u => u.heap[w.heap.size]? = some (.cells #[.slice a R.length c, .int .i64 (room : Int), .bool true, .bool due, .int .i64 o, .int .i64 p, .int .i64 k] 28 (0, 0))) hmxo S5 ?_
  intro _
  refine wpAnyH_take (i := 0) (v := .slice an R.length cn) rfl (by kernel_rfl) (by kernel_rfl) (by kernel_rfl) (fun _ _ _ h => h) (Or.inl ⟨by kernel_rfl, fun u hSu => ?_⟩) S5 ?_
  · have q0 := cell_blk (w := u) (i := 0) hSu rfl; have q1 := cell_blk (w := u) (i := 1) hSu rfl; have q2 := cell_blk (w := u) (i := 2) hSu rfl; have q3 := cell_blk (w := u) (i := 3) hSu rfl; have q4 := cell_blk (w := u) (i := 4) hSu rfl; have q5 := cell_blk (w := u) (i := 5) hSu rfl; have q6 := cell_blk (w := u) (i := 6) hSu rfl; clear hSu; go_simp
  simp only [Act.put, List.getElem_toArray, List.getElem_cons_succ, List.getElem_cons_zero, List.setIfInBounds_toArray, List.set_cons_zero, List.set_cons_succ]
  refine wpAnyH_take (i := 1) (v := .int .i64 (R.length : Int)) rfl (by kernel_rfl) (by kernel_rfl) (by kernel_rfl) (fun _ _ _ h => h) (Or.inl ⟨by kernel_rfl, fun u hSu => ?_⟩) S5 ?_
  · have q0 := cell_blk (w := u) (i := 0) hSu rfl; have q1 := cell_blk (w := u) (i := 1) hSu rfl; have q2 := cell_blk (w := u) (i := 2) hSu rfl; have q3 := cell_blk (w := u) (i := 3) hSu rfl; have q4 := cell_blk (w := u) (i := 4) hSu rfl; have q5 := cell_blk (w := u) (i := 5) hSu rfl; have q6 := cell_blk (w := u) (i := 6) hSu rfl; clear hSu; go_simp
  simp only [Act.put, List.getElem_toArray, List.getElem_cons_succ, List.getElem_cons_zero, List.setIfInBounds_toArray, List.set_cons_zero, List.set_cons_succ]
  refine wpAnyH_take (i := 2) (v := .pointer (some ⟨w.heap.size, 0, none⟩)) rfl (by kernel_rfl) (by kernel_rfl) (by kernel_rfl) (fun _ _ _ h => h) (Or.inl ⟨by kernel_rfl, fun u hSu => ?_⟩) S5 ?_
  · have q0 := cell_blk (w := u) (i := 0) hSu rfl; have q1 := cell_blk (w := u) (i := 1) hSu rfl; have q2 := cell_blk (w := u) (i := 2) hSu rfl; have q3 := cell_blk (w := u) (i := 3) hSu rfl; have q4 := cell_blk (w := u) (i := 4) hSu rfl; have q5 := cell_blk (w := u) (i := 5) hSu rfl; have q6 := cell_blk (w := u) (i := 6) hSu rfl; clear hSu; go_simp
  simp only [Act.put, List.getElem_toArray, List.getElem_cons_succ, List.getElem_cons_zero, List.setIfInBounds_toArray, List.set_cons_zero, List.set_cons_succ]
  refine wpAnyH_take (i := 3) (v := .slice a R.length c) rfl (by kernel_rfl) (by kernel_rfl) (by kernel_rfl) (fun _ _ _ h => h) (Or.inl ⟨by kernel_rfl, fun u hSu => ?_⟩) S5 ?_
  · have q0 := cell_blk (w := u) (i := 0) hSu rfl; have q1 := cell_blk (w := u) (i := 1) hSu rfl; have q2 := cell_blk (w := u) (i := 2) hSu rfl; have q3 := cell_blk (w := u) (i := 3) hSu rfl; have q4 := cell_blk (w := u) (i := 4) hSu rfl; have q5 := cell_blk (w := u) (i := 5) hSu rfl; have q6 := cell_blk (w := u) (i := 6) hSu rfl; clear hSu; go_simp
  simp only [Act.put, List.getElem_toArray, List.getElem_cons_succ, List.getElem_cons_zero, List.setIfInBounds_toArray, List.set_cons_zero, List.set_cons_succ]
  refine wpAnyH_take (i := 4) (v := .int .i64 (R.length : Int)) rfl (by kernel_rfl) (by kernel_rfl) (by kernel_rfl) (fun _ _ _ h => h) (Or.inl ⟨by kernel_rfl, fun u hSu => ?_⟩) S5 ?_
  · have q0 := cell_blk (w := u) (i := 0) hSu rfl; have q1 := cell_blk (w := u) (i := 1) hSu rfl; have q2 := cell_blk (w := u) (i := 2) hSu rfl; have q3 := cell_blk (w := u) (i := 3) hSu rfl; have q4 := cell_blk (w := u) (i := 4) hSu rfl; have q5 := cell_blk (w := u) (i := 5) hSu rfl; have q6 := cell_blk (w := u) (i := 6) hSu rfl; clear hSu; go_simp
  simp only [Act.put, List.getElem_toArray, List.getElem_cons_succ, List.getElem_cons_zero, List.setIfInBounds_toArray, List.set_cons_zero, List.set_cons_succ]
  refine wpAnyH_take (i := 5) (v := .bool false) rfl (by kernel_rfl) (by kernel_rfl) (by kernel_rfl) (fun _ _ _ h => h) (Or.inl ⟨by kernel_rfl, fun u hSu => ?_⟩) S5 ?_
  · have q0 := cell_blk (w := u) (i := 0) hSu rfl; have q1 := cell_blk (w := u) (i := 1) hSu rfl; have q2 := cell_blk (w := u) (i := 2) hSu rfl; have q3 := cell_blk (w := u) (i := 3) hSu rfl; have q4 := cell_blk (w := u) (i := 4) hSu rfl; have q5 := cell_blk (w := u) (i := 5) hSu rfl; have q6 := cell_blk (w := u) (i := 6) hSu rfl; clear hSu; go_simp
  simp only [Act.put, List.getElem_toArray, List.getElem_cons_succ, List.getElem_cons_zero, List.setIfInBounds_toArray, List.set_cons_zero, List.set_cons_succ]
  refine wpAnyH_take (i := 6) (v := .bool false) rfl (by kernel_rfl) (by kernel_rfl) (by kernel_rfl) (fun _ _ _ h => h) (Or.inl ⟨by kernel_rfl, fun u hSu => ?_⟩) S5 ?_
  · have q0 := cell_blk (w := u) (i := 0) hSu rfl; have q1 := cell_blk (w := u) (i := 1) hSu rfl; have q2 := cell_blk (w := u) (i := 2) hSu rfl; have q3 := cell_blk (w := u) (i := 3) hSu rfl; have q4 := cell_blk (w := u) (i := 4) hSu rfl; have q5 := cell_blk (w := u) (i := 5) hSu rfl; have q6 := cell_blk (w := u) (i := 6) hSu rfl; clear hSu; go_simp
  simp only [Act.put, List.getElem_toArray, List.getElem_cons_succ, List.getElem_cons_zero, List.setIfInBounds_toArray, List.set_cons_zero, List.set_cons_succ]
  refine wpAnyH_take (i := 7) (v := .pointer (some ⟨d, 0, none⟩)) rfl (by kernel_rfl) (by kernel_rfl) (by kernel_rfl) (fun _ _ _ h => h) (Or.inl ⟨by kernel_rfl, fun u hSu => ?_⟩) S5 ?_
  · have q0 := cell_blk (w := u) (i := 0) hSu rfl; have q1 := cell_blk (w := u) (i := 1) hSu rfl; have q2 := cell_blk (w := u) (i := 2) hSu rfl; have q3 := cell_blk (w := u) (i := 3) hSu rfl; have q4 := cell_blk (w := u) (i := 4) hSu rfl; have q5 := cell_blk (w := u) (i := 5) hSu rfl; have q6 := cell_blk (w := u) (i := 6) hSu rfl; clear hSu; go_simp
  simp only [Act.put, List.getElem_toArray, List.getElem_cons_succ, List.getElem_cons_zero, List.setIfInBounds_toArray, List.set_cons_zero, List.set_cons_succ]
  refine wpAnyH_take (i := 9) (v := .agg #[.slice a R.length c, .int .i64 (room : Int), .bool true, .bool due, .int .i64 o, .int .i64 p, .int .i64 k]) rfl (by kernel_rfl) (by kernel_rfl) (by kernel_rfl) (fun _ _ _ h => h) (Or.inl ⟨by kernel_rfl, fun u hSu => ?_⟩) S5 ?_
  · have q0 := cell_blk (w := u) (i := 0) hSu rfl; have q1 := cell_blk (w := u) (i := 1) hSu rfl; have q2 := cell_blk (w := u) (i := 2) hSu rfl; have q3 := cell_blk (w := u) (i := 3) hSu rfl; have q4 := cell_blk (w := u) (i := 4) hSu rfl; have q5 := cell_blk (w := u) (i := 5) hSu rfl; have q6 := cell_blk (w := u) (i := 6) hSu rfl; clear hSu; go_simp
  simp only [Act.put, List.getElem_toArray, List.getElem_cons_succ, List.getElem_cons_zero, List.setIfInBounds_toArray, List.set_cons_zero, List.set_cons_succ]
  refine wpAnyH_ready (rs := [8]) (by kernel_rfl) (by simp) ?_
  refine AllReadyH.cons rfl (fun K hK => ?_) AllReadyH.nil
  go_simp
  have hq5 : DK w5.drew d ⟨room, true, dueD, mp RFi.fl R⟩ P := K5.out.1.below (bdrew (Below.refl _ _))
  refine (room_dk _ _ _ _ hq5).mono ?_
  rintro e w6 ⟨rfl, hb6⟩
  simp only
  rw [sm_RF, ← HT.out]
  have S6 : w6.heap[w.heap.size]? = some (.cells #[.slice a R.length c, .int .i64 (room : Int), .bool true, .bool due, .int .i64 o, .int .i64 p, .int .i64 k] 28 (0, 0)) := (hb6.block w.heap.size (Array.getElem?_eq_some_iff.1 S5).1).trans S5
  have K6 := hid (And.intro (hq5.below hb6) (And.intro ((bdrew K5.out.2).trans (hb6.mono K5.out.2.size)) ((bdrew (Below.refl w5.heap.size w5)).trans hb6)))
  clear hq5 hb6
  refine hK.out _ _ S6 (fun _ => ?_)
  clear hK K
  try simp only [Act.put, List.getElem_toArray, List.getElem_cons_succ, List.getElem_cons_zero, List.setIfInBounds_toArray, List.set_cons_zero, List.set_cons_succ]
  refine wpAnyH_ready (rs := [10]) (by kernel_rfl) (by simp) ?_
  refine AllReadyH.cons rfl (fun K hK => ?_) AllReadyH.nil
  go_simp
  have hf6 : FR sp w6 (.slice a R.length c) R := HF.out.below (HB1.out.trans (K6.out.2.1.mono HB1.out.size))
  refine (rroom_any _ R room true due o p k w6 hf6 HFIT.out hsm (by omega)).mono ?_
  rintro e w7 ⟨rfl, hb7⟩
  rw [← HT.out]
  have S7 : w7.heap[w.heap.size]? = some (.cells #[.slice a R.length c, .int .i64 (room : Int), .bool true, .bool due, .int .i64 o, .int .i64 p, .int .i64 k] 28 (0, 0)) := (hb7.block w.heap.size (Array.getElem?_eq_some_iff.1 S6).1).trans S6
  have K7 := hid (And.intro (K6.out.1.below hb7) (And.intro (K6.out.2.1.trans (hb7.mono K6.out.2.1.size)) (K6.out.2.2.trans (hb7.mono K6.out.2.2.size))))
  clear hf6 hb7
  refine hK.out _ _ S7 (fun _ => ?_)
  clear hK K
  try simp only [Act.put, List.getElem_toArray, List.getElem_cons_succ, List.getElem_cons_zero, List.setIfInBounds_toArray, List.set_cons_zero, List.set_cons_succ]
  refine wpAnyH_take (i := 11) (v := .bool false) rfl (by kernel_rfl) (by kernel_rfl) (by kernel_rfl) (fun _ _ _ h => h) (Or.inl ⟨by kernel_rfl, fun u hSu => ?_⟩) S7 ?_
  · have q0 := cell_blk (w := u) (i := 0) hSu rfl; have q1 := cell_blk (w := u) (i := 1) hSu rfl; have q2 := cell_blk (w := u) (i := 2) hSu rfl; have q3 := cell_blk (w := u) (i := 3) hSu rfl; have q4 := cell_blk (w := u) (i := 4) hSu rfl; have q5 := cell_blk (w := u) (i := 5) hSu rfl; have q6 := cell_blk (w := u) (i := 6) hSu rfl; clear hSu; go_simp
  simp only [Act.put, List.getElem_toArray, List.getElem_cons_succ, List.getElem_cons_zero, List.setIfInBounds_toArray, List.set_cons_zero, List.set_cons_succ]
  refine wpAnyH_take (i := 12) (v := .bool false) rfl (by kernel_rfl) (by kernel_rfl) (by kernel_rfl) (fun _ _ _ h => h) (Or.inl ⟨by kernel_rfl, fun u hSu => ?_⟩) S7 ?_
  · have q0 := cell_blk (w := u) (i := 0) hSu rfl; have q1 := cell_blk (w := u) (i := 1) hSu rfl; have q2 := cell_blk (w := u) (i := 2) hSu rfl; have q3 := cell_blk (w := u) (i := 3) hSu rfl; have q4 := cell_blk (w := u) (i := 4) hSu rfl; have q5 := cell_blk (w := u) (i := 5) hSu rfl; have q6 := cell_blk (w := u) (i := 6) hSu rfl; clear hSu; go_simp
  simp only [Act.put, List.getElem_toArray, List.getElem_cons_succ, List.getElem_cons_zero, List.setIfInBounds_toArray, List.set_cons_zero, List.set_cons_succ]
  refine wpAnyH_take (i := 13) (v := .bool false) rfl (by kernel_rfl) (by kernel_rfl) (by kernel_rfl) (fun _ _ _ h => h) (Or.inl ⟨by kernel_rfl, fun u hSu => ?_⟩) S7 ?_
  · have q0 := cell_blk (w := u) (i := 0) hSu rfl; have q1 := cell_blk (w := u) (i := 1) hSu rfl; have q2 := cell_blk (w := u) (i := 2) hSu rfl; have q3 := cell_blk (w := u) (i := 3) hSu rfl; have q4 := cell_blk (w := u) (i := 4) hSu rfl; have q5 := cell_blk (w := u) (i := 5) hSu rfl; have q6 := cell_blk (w := u) (i := 6) hSu rfl; clear hSu; go_simp
  simp only [Act.put, List.getElem_toArray, List.getElem_cons_succ, List.getElem_cons_zero, List.setIfInBounds_toArray, List.set_cons_zero, List.set_cons_succ]
  refine wpAnyH_take (i := 14) (v := .pointer (some ⟨d, 0, none⟩)) rfl (by kernel_rfl) (by kernel_rfl) (by kernel_rfl) (fun _ _ _ h => h) (Or.inl ⟨by kernel_rfl, fun u hSu => ?_⟩) S7 ?_
  · have q0 := cell_blk (w := u) (i := 0) hSu rfl; have q1 := cell_blk (w := u) (i := 1) hSu rfl; have q2 := cell_blk (w := u) (i := 2) hSu rfl; have q3 := cell_blk (w := u) (i := 3) hSu rfl; have q4 := cell_blk (w := u) (i := 4) hSu rfl; have q5 := cell_blk (w := u) (i := 5) hSu rfl; have q6 := cell_blk (w := u) (i := 6) hSu rfl; clear hSu; go_simp
  simp only [Act.put, List.getElem_toArray, List.getElem_cons_succ, List.getElem_cons_zero, List.setIfInBounds_toArray, List.set_cons_zero, List.set_cons_succ]
  refine wpAnyH_take (i := 16) (v := .pointer (some ⟨w.heap.size, 2, none⟩)) rfl (by kernel_rfl) (by kernel_rfl) (by kernel_rfl) (fun _ _ _ h => h) (Or.inl ⟨by kernel_rfl, fun u hSu => ?_⟩) S7 ?_
  · have q0 := cell_blk (w := u) (i := 0) hSu rfl; have q1 := cell_blk (w := u) (i := 1) hSu rfl; have q2 := cell_blk (w := u) (i := 2) hSu rfl; have q3 := cell_blk (w := u) (i := 3) hSu rfl; have q4 := cell_blk (w := u) (i := 4) hSu rfl; have q5 := cell_blk (w := u) (i := 5) hSu rfl; have q6 := cell_blk (w := u) (i := 6) hSu rfl; clear hSu; go_simp
  simp only [Act.put, List.getElem_toArray, List.getElem_cons_succ, List.getElem_cons_zero, List.setIfInBounds_toArray, List.set_cons_zero, List.set_cons_succ]
  refine wpAnyH_take (i := 17) (v := .bool true) rfl (by kernel_rfl) (by kernel_rfl) (by kernel_rfl) (fun _ _ _ h => h) (Or.inl ⟨by kernel_rfl, fun u hSu => ?_⟩) S7 ?_
  · have q0 := cell_blk (w := u) (i := 0) hSu rfl; have q1 := cell_blk (w := u) (i := 1) hSu rfl; have q2 := cell_blk (w := u) (i := 2) hSu rfl; have q3 := cell_blk (w := u) (i := 3) hSu rfl; have q4 := cell_blk (w := u) (i := 4) hSu rfl; have q5 := cell_blk (w := u) (i := 5) hSu rfl; have q6 := cell_blk (w := u) (i := 6) hSu rfl; clear hSu; go_simp
  simp only [Act.put, List.getElem_toArray, List.getElem_cons_succ, List.getElem_cons_zero, List.setIfInBounds_toArray, List.set_cons_zero, List.set_cons_succ]
  refine wpAnyH_ready (rs := [15]) (by kernel_rfl) (by simp) ?_
  refine AllReadyH.cons rfl (fun K hK => ?_) AllReadyH.nil
  go_simp
  refine (off_any _ _ _ _ K7.out.1).mono ?_
  rintro e w8 ⟨rfl, hw8⟩
  rw [hw8]
  clear hw8 w8
  simp only
  refine hK.out _ _ S7 (fun _ => ?_)
  clear hK K
  try simp only [Act.put, List.getElem_toArray, List.getElem_cons_succ, List.getElem_cons_zero, List.setIfInBounds_toArray, List.set_cons_zero, List.set_cons_succ]
  refine wpAnyH_take (i := 18) (v := .bool false) rfl (by kernel_rfl) (by kernel_rfl) (by kernel_rfl) (fun _ _ _ h => h) (Or.inl ⟨by kernel_rfl, fun u hSu => ?_⟩) S7 ?_
  · have q0 := cell_blk (w := u) (i := 0) hSu rfl; have q1 := cell_blk (w := u) (i := 1) hSu rfl; have q2 := cell_blk (w := u) (i := 2) hSu rfl; have q3 := cell_blk (w := u) (i := 3) hSu rfl; have q4 := cell_blk (w := u) (i := 4) hSu rfl; have q5 := cell_blk (w := u) (i := 5) hSu rfl; have q6 := cell_blk (w := u) (i := 6) hSu rfl; clear hSu; go_simp
  simp only [Act.put, List.getElem_toArray, List.getElem_cons_succ, List.getElem_cons_zero, List.setIfInBounds_toArray, List.set_cons_zero, List.set_cons_succ]
  refine wpAnyH_take (i := 19) (v := .bool false) rfl (by kernel_rfl) (by kernel_rfl) (by kernel_rfl) (fun _ _ _ h => h) (Or.inl ⟨by kernel_rfl, fun u hSu => ?_⟩) S7 ?_
  · have q0 := cell_blk (w := u) (i := 0) hSu rfl; have q1 := cell_blk (w := u) (i := 1) hSu rfl; have q2 := cell_blk (w := u) (i := 2) hSu rfl; have q3 := cell_blk (w := u) (i := 3) hSu rfl; have q4 := cell_blk (w := u) (i := 4) hSu rfl; have q5 := cell_blk (w := u) (i := 5) hSu rfl; have q6 := cell_blk (w := u) (i := 6) hSu rfl; clear hSu; go_simp
  simp only [Act.put, List.getElem_toArray, List.getElem_cons_succ, List.getElem_cons_zero, List.setIfInBounds_toArray, List.set_cons_zero, List.set_cons_succ]
  refine wpAnyH_done (by kernel_rfl) ?_ _
  go_wp2
  have HB7 := hid K7.out.2.1
  have HBN := hid K7.out.2.2
  go_loopw [6] (fun vi wr => ∃ j : Nat, vi = .int .i64 (j : Int) ∧ j ≤ R.length ∧ Hid (Below w7.heap.size w7 wr)) (fun vi _ => R.length - (intOf vi).toNat)
  case atStart => exact ⟨0, rfl, Nat.zero_le _, hid (Below.refl _ _)⟩
  case round =>
    obtain ⟨j, rfl, hj, HB⟩ := hrel
    have hb1r := HB7.out.trans (HB.out.mono HB7.out.size)
    have hbw := HB1.out.trans (hb1r.mono HB1.out.size)
    have X0 : wr.heap[w.heap.size]? = some (.cells #[.slice a R.length c, .int .i64 (room : Int), .bool true, .bool due, .int .i64 o, .int .i64 p, .int .i64 k] 28 (0, 0)) := (HB.out.block w.heap.size (Array.getElem?_eq_some_iff.1 S7).1).trans S7
    have KR := hid (K7.out.1.below HB.out)
    by_cases hlt : j < R.length
    · have e5 : decide ((j : Int) < (R.length : Int)) = true := decide_eq_true (by omega)
      obtain ⟨q, hq⟩ : ∃ q, R[j]? = some q := ⟨R[j], List.getElem?_eq_getElem hlt⟩
      obtain ⟨g, ea, x0, x1, x2⟩ := HR.out j q hq
      subst ea
      have hqm : (q.1, q.2.fl) ∈ mp RFi.fl R := List.mem_map.2 ⟨q, List.mem_of_getElem? hq, rfl⟩
      have hlk : lk (mp RFi.fl R) q.1 = some q.2.fl := mem_lk HA.out hqm
      have hn32 := (HNI.out q.1 _ hlk).1
      have hrd : readD ⟨room, true, dueD, mp RFi.fl R⟩ q.1 = ([], 71) := by
        rfl
      obtain ⟨gn, ean, hgn, cn5⟩ := HN.out j q.1 (by rw [nms_mp]; simp [nms, hq])
      subst ean
      have cn6 : wr.cell? ⟨gn, j, none⟩ = some (.string (bs q.1)) := ((HBN.out.trans (HB.out.mono HBN.out.size)).cell (cell_block cn5)).trans cn5
      have y0 : wr.cell? ⟨g, j * 3, none⟩ = some (.string (bs q.1)) := (hbw.cell (cell_block x0)).trans x0
      have y1 : wr.cell? ⟨g, j * 3 + 1, none⟩ = some (.slice q.2.a q.2.b.length q.2.c) := (hbw.cell (cell_block x1)).trans x1
      have HSQ := hid ((HF.out.ok q (List.mem_of_getElem? hq)).1.below hbw)
      have HRD := hid hrd
      have HX0 := hid X0
      clear x0 x1 x2 hq hqm hlk hrd cn5 hgn X0
      go_wp2_with (go_at_call 18; have hq := KR.out; refine (read_any _ q.1 _ _ _ hq (nl (by omega))).mono ?_; rintro e w9 ⟨ra, rc, x9, rfl, hx9, hr9, hb9⟩; rw [HRD.out] at hx9 hr9 ⊢; subst hx9; have HO := hid hr9; have HB9 := hid hb9; clear hq hr9 hb9)

      have X9 := hid ((HB9.out.block w.heap.size (Array.getElem?_eq_some_iff.1 HX0.out).1).trans HX0.out)
      have S9 : (fun u : World => u.cell? ⟨gn, j, none⟩ = some (.string (bs q.1)) ∧ u.cell? ⟨w.heap.size, 0, none⟩ = some (.slice (some ⟨g, 0, none⟩) R.length c) ∧ u.cell? ⟨w.heap.size, 2, none⟩ = some (.bool true) ∧ u.cell? ⟨g, j * 3, none⟩ = some (.string (bs q.1)) ∧ u.cell? ⟨g, j * 3 + 1, none⟩ = some (.slice q.2.a q.2.b.length q.2.c)) w9.drew := ⟨(HB9.out.cell (cell_block cn6)).trans cn6, cell_blk (i := 0) X9.out rfl, cell_blk (i := 2) X9.out rfl, (HB9.out.cell (cell_block y0)).trans y0, (HB9.out.cell (cell_block y1)).trans y1⟩
      refine wp_region_held_drew (S := fun u => u.cell? ⟨gn, j, none⟩ = some (.string (bs q.1)) ∧ u.cell? ⟨w.heap.size, 0, none⟩ = some (.slice (some ⟨g, 0, none⟩) R.length c) ∧ u.cell? ⟨w.heap.size, 2, none⟩ = some (.bool true) ∧ u.cell? ⟨g, j * 3, none⟩ = some (.string (bs q.1)) ∧ u.cell? ⟨g, j * 3 + 1, none⟩ = some (.slice q.2.a q.2.b.length q.2.c)) hmxo S9 ?_
      intro _
      refine wpAnyH_take (i := 0) (v := .slice (some ⟨gn, 0, none⟩) R.length cn) rfl (by kernel_rfl) (by kernel_rfl) (by kernel_rfl) (fun _ _ _ h => h) (Or.inl ⟨by kernel_rfl, fun u hSu => ?_⟩) S9 ?_
      · obtain ⟨z0, z1, z2, z3, z4⟩ := hSu; go_simp
      simp only [Act.put, List.getElem_toArray, List.getElem_cons_succ, List.getElem_cons_zero, List.setIfInBounds_toArray, List.set_cons_zero, List.set_cons_succ]
      refine wpAnyH_take (i := 1) (v := .int .i64 (j : Int)) rfl (by kernel_rfl) (by kernel_rfl) (by kernel_rfl) (fun _ _ _ h => h) (Or.inl ⟨by kernel_rfl, fun u hSu => ?_⟩) S9 ?_
      · obtain ⟨z0, z1, z2, z3, z4⟩ := hSu; go_simp
      simp only [Act.put, List.getElem_toArray, List.getElem_cons_succ, List.getElem_cons_zero, List.setIfInBounds_toArray, List.set_cons_zero, List.set_cons_succ]
      refine wpAnyH_take (i := 2) (v := .pointer (some ⟨gn, j, none⟩)) rfl (by kernel_rfl) (by kernel_rfl) (by kernel_rfl) (fun _ _ _ h => h) (Or.inl ⟨by kernel_rfl, fun u hSu => ?_⟩) S9 ?_
      · obtain ⟨z0, z1, z2, z3, z4⟩ := hSu; go_simp
      simp only [Act.put, List.getElem_toArray, List.getElem_cons_succ, List.getElem_cons_zero, List.setIfInBounds_toArray, List.set_cons_zero, List.set_cons_succ]
      refine wpAnyH_take (i := 3) (v := .string (bs q.1)) rfl (by kernel_rfl) (by kernel_rfl) (by kernel_rfl) (fun _ _ _ h => h) (Or.inl ⟨by kernel_rfl, fun u hSu => ?_⟩) S9 ?_
      · obtain ⟨z0, z1, z2, z3, z4⟩ := hSu; go_simp
      simp only [Act.put, List.getElem_toArray, List.getElem_cons_succ, List.getElem_cons_zero, List.setIfInBounds_toArray, List.set_cons_zero, List.set_cons_succ]
      refine wpAnyH_take (i := 4) (v := .pointer (some ⟨w.heap.size, 0, none⟩)) rfl (by kernel_rfl) (by kernel_rfl) (by kernel_rfl) (fun _ _ _ h => h) (Or.inl ⟨by kernel_rfl, fun u hSu => ?_⟩) S9 ?_
      · obtain ⟨z0, z1, z2, z3, z4⟩ := hSu; go_simp
      simp only [Act.put, List.getElem_toArray, List.getElem_cons_succ, List.getElem_cons_zero, List.setIfInBounds_toArray, List.set_cons_zero, List.set_cons_succ]
      refine wpAnyH_take (i := 5) (v := .slice (some ⟨g, 0, none⟩) R.length c) rfl (by kernel_rfl) (by kernel_rfl) (by kernel_rfl) (fun _ _ _ h => h) (Or.inl ⟨by kernel_rfl, fun u hSu => ?_⟩) S9 ?_
      · obtain ⟨z0, z1, z2, z3, z4⟩ := hSu; go_simp
      simp only [Act.put, List.getElem_toArray, List.getElem_cons_succ, List.getElem_cons_zero, List.setIfInBounds_toArray, List.set_cons_zero, List.set_cons_succ]
      refine wpAnyH_take (i := 6) (v := .int .i64 (j : Int)) rfl (by kernel_rfl) (by kernel_rfl) (by kernel_rfl) (fun _ _ _ h => h) (Or.inl ⟨by kernel_rfl, fun u hSu => ?_⟩) S9 ?_
      · obtain ⟨z0, z1, z2, z3, z4⟩ := hSu; go_simp
      simp only [Act.put, List.getElem_toArray, List.getElem_cons_succ, List.getElem_cons_zero, List.setIfInBounds_toArray, List.set_cons_zero, List.set_cons_succ]
      refine wpAnyH_take (i := 7) (v := .pointer (some ⟨g, j * 3, none⟩)) rfl (by kernel_rfl) (by kernel_rfl) (by kernel_rfl) (fun _ _ _ h => h) (Or.inl ⟨by kernel_rfl, fun u hSu => ?_⟩) S9 ?_
      · obtain ⟨z0, z1, z2, z3, z4⟩ := hSu; go_simp
      simp only [Act.put, List.getElem_toArray, List.getElem_cons_succ, List.getElem_cons_zero, List.setIfInBounds_toArray, List.set_cons_zero, List.set_cons_succ]
      refine wpAnyH_take (i := 8) (v := .pointer (some ⟨g, j * 3, none⟩)) rfl (by kernel_rfl) (by kernel_rfl) (by kernel_rfl) (fun _ _ _ h => h) (Or.inl ⟨by kernel_rfl, fun u hSu => ?_⟩) S9 ?_
      · obtain ⟨z0, z1, z2, z3, z4⟩ := hSu; go_simp
      simp only [Act.put, List.getElem_toArray, List.getElem_cons_succ, List.getElem_cons_zero, List.setIfInBounds_toArray, List.set_cons_zero, List.set_cons_succ]
      refine wpAnyH_take (i := 9) (v := .string (bs q.1)) rfl (by kernel_rfl) (by kernel_rfl) (by kernel_rfl) (fun _ _ _ h => h) (Or.inl ⟨by kernel_rfl, fun u hSu => ?_⟩) S9 ?_
      · obtain ⟨z0, z1, z2, z3, z4⟩ := hSu; go_simp
      simp only [Act.put, List.getElem_toArray, List.getElem_cons_succ, List.getElem_cons_zero, List.setIfInBounds_toArray, List.set_cons_zero, List.set_cons_succ]
      refine wpAnyH_take (i := 10) (v := .bool false) rfl (by kernel_rfl) (by kernel_rfl) (by kernel_rfl) (fun _ _ _ h => h) (Or.inl ⟨by kernel_rfl, fun u hSu => ?_⟩) S9 ?_
      · obtain ⟨z0, z1, z2, z3, z4⟩ := hSu; go_simp
      simp only [Act.put, List.getElem_toArray, List.getElem_cons_succ, List.getElem_cons_zero, List.setIfInBounds_toArray, List.set_cons_zero, List.set_cons_succ]
      refine wpAnyH_take (i := 11) (v := .bool false) rfl (by kernel_rfl) (by kernel_rfl) (by kernel_rfl) (fun _ _ _ h => h) (Or.inl ⟨by kernel_rfl, fun u hSu => ?_⟩) S9 ?_
      · obtain ⟨z0, z1, z2, z3, z4⟩ := hSu; go_simp
      simp only [Act.put, List.getElem_toArray, List.getElem_cons_succ, List.getElem_cons_zero, List.setIfInBounds_toArray, List.set_cons_zero, List.set_cons_succ]
      refine wpAnyH_take (i := 12) (v := .pointer (some ⟨w.heap.size, 2, none⟩)) rfl (by kernel_rfl) (by kernel_rfl) (by kernel_rfl) (fun _ _ _ h => h) (Or.inl ⟨by kernel_rfl, fun u hSu => ?_⟩) S9 ?_
      · obtain ⟨z0, z1, z2, z3, z4⟩ := hSu; go_simp
      simp only [Act.put, List.getElem_toArray, List.getElem_cons_succ, List.getElem_cons_zero, List.setIfInBounds_toArray, List.set_cons_zero, List.set_cons_succ]
      refine wpAnyH_take (i := 13) (v := .bool true) rfl (by kernel_rfl) (by kernel_rfl) (by kernel_rfl) (fun _ _ _ h => h) (Or.inl ⟨by kernel_rfl, fun u hSu => ?_⟩) S9 ?_
      · obtain ⟨z0, z1, z2, z3, z4⟩ := hSu; go_simp
      simp only [Act.put, List.getElem_toArray, List.getElem_cons_succ, List.getElem_cons_zero, List.setIfInBounds_toArray, List.set_cons_zero, List.set_cons_succ]
      refine wpAnyH_take (i := 14) (v := .bool true) rfl (by kernel_rfl) (by kernel_rfl) (by kernel_rfl) (fun _ _ _ h => h) (Or.inl ⟨by kernel_rfl, fun u hSu => ?_⟩) S9 ?_
      · obtain ⟨z0, z1, z2, z3, z4⟩ := hSu; go_simp
      simp only [Act.put, List.getElem_toArray, List.getElem_cons_succ, List.getElem_cons_zero, List.setIfInBounds_toArray, List.set_cons_zero, List.set_cons_succ]
      refine wpAnyH_take (i := 15) (v := .int .i64 71) rfl (by kernel_rfl) (by kernel_rfl) (by kernel_rfl) (fun _ _ _ h => h) (Or.inl ⟨by kernel_rfl, fun u hSu => ?_⟩) S9 ?_
      · obtain ⟨z0, z1, z2, z3, z4⟩ := hSu; go_simp
      simp only [Act.put, List.getElem_toArray, List.getElem_cons_succ, List.getElem_cons_zero, List.setIfInBounds_toArray, List.set_cons_zero, List.set_cons_succ]
      refine wpAnyH_take (i := 16) (v := .bool false) rfl (by kernel_rfl) (by kernel_rfl) (by kernel_rfl) (fun _ _ _ h => h) (Or.inl ⟨by kernel_rfl, fun u hSu => ?_⟩) S9 ?_
      · obtain ⟨z0, z1, z2, z3, z4⟩ := hSu; go_simp
      simp only [Act.put, List.getElem_toArray, List.getElem_cons_succ, List.getElem_cons_zero, List.setIfInBounds_toArray, List.set_cons_zero, List.set_cons_succ]
      refine wpAnyH_take (i := 17) (v := .bool false) rfl (by kernel_rfl) (by kernel_rfl) (by kernel_rfl) (fun _ _ _ h => h) (Or.inl ⟨by kernel_rfl, fun u hSu => ?_⟩) S9 ?_
      · obtain ⟨z0, z1, z2, z3, z4⟩ := hSu; go_simp
      simp only [Act.put, List.getElem_toArray, List.getElem_cons_succ, List.getElem_cons_zero, List.setIfInBounds_toArray, List.set_cons_zero, List.set_cons_succ]
      refine wpAnyH_take (i := 18) (v := .slice ra 0 rc) rfl (by kernel_rfl) (by kernel_rfl) (by kernel_rfl) (fun _ _ _ h => h) (Or.inl ⟨by kernel_rfl, fun u hSu => ?_⟩) S9 ?_
      · obtain ⟨z0, z1, z2, z3, z4⟩ := hSu; go_simp
      simp only [Act.put, List.getElem_toArray, List.getElem_cons_succ, List.getElem_cons_zero, List.setIfInBounds_toArray, List.set_cons_zero, List.set_cons_succ]
      refine wpAnyH_take (i := 19) (v := .int .i64 0) rfl (by kernel_rfl) (by kernel_rfl) (by kernel_rfl) (fun _ _ _ h => h) (Or.inl ⟨by kernel_rfl, fun u hSu => ?_⟩) S9 ?_
      · obtain ⟨z0, z1, z2, z3, z4⟩ := hSu; go_simp
      simp only [Act.put, List.getElem_toArray, List.getElem_cons_succ, List.getElem_cons_zero, List.setIfInBounds_toArray, List.set_cons_zero, List.set_cons_succ]
      refine wpAnyH_take (i := 20) (v := .bool false) rfl (by kernel_rfl) (by kernel_rfl) (by kernel_rfl) (fun _ _ _ h => h) (Or.inl ⟨by kernel_rfl, fun u hSu => ?_⟩) S9 ?_
      · obtain ⟨z0, z1, z2, z3, z4⟩ := hSu; go_simp
      simp only [Act.put, List.getElem_toArray, List.getElem_cons_succ, List.getElem_cons_zero, List.setIfInBounds_toArray, List.set_cons_zero, List.set_cons_succ]
      refine wpAnyH_take (i := 21) (v := .bool false) rfl (by kernel_rfl) (by kernel_rfl) (by kernel_rfl) (fun _ _ _ h => h) (Or.inl ⟨by kernel_rfl, fun u hSu => ?_⟩) S9 ?_
      · obtain ⟨z0, z1, z2, z3, z4⟩ := hSu; go_simp
      simp only [Act.put, List.getElem_toArray, List.getElem_cons_succ, List.getElem_cons_zero, List.setIfInBounds_toArray, List.set_cons_zero, List.set_cons_succ]
      refine wpAnyH_take (i := 22) (v := .bool false) rfl (by kernel_rfl) (by kernel_rfl) (by kernel_rfl) (fun _ _ _ h => h) (Or.inl ⟨by kernel_rfl, fun u hSu => ?_⟩) S9 ?_
      · obtain ⟨z0, z1, z2, z3, z4⟩ := hSu; go_simp
      simp only [Act.put, List.getElem_toArray, List.getElem_cons_succ, List.getElem_cons_zero, List.setIfInBounds_toArray, List.set_cons_zero, List.set_cons_succ]
      refine wpAnyH_take (i := 23) (v := .bool false) rfl (by kernel_rfl) (by kernel_rfl) (by kernel_rfl) (fun _ _ _ h => h) (Or.inl ⟨by kernel_rfl, fun u hSu => ?_⟩) S9 ?_
      · obtain ⟨z0, z1, z2, z3, z4⟩ := hSu; go_simp
      simp only [Act.put, List.getElem_toArray, List.getElem_cons_succ, List.getElem_cons_zero, List.setIfInBounds_toArray, List.set_cons_zero, List.set_cons_succ]
      refine wpAnyH_take (i := 24) (v := .bool false) rfl (by kernel_rfl) (by kernel_rfl) (by kernel_rfl) (fun _ _ _ h => h) (Or.inl ⟨by kernel_rfl, fun u hSu => ?_⟩) S9 ?_
      · obtain ⟨z0, z1, z2, z3, z4⟩ := hSu; go_simp
      simp only [Act.put, List.getElem_toArray, List.getElem_cons_succ, List.getElem_cons_zero, List.setIfInBounds_toArray, List.set_cons_zero, List.set_cons_succ]
      refine wpAnyH_take (i := 25) (v := .pointer (some ⟨w.heap.size, 2, none⟩)) rfl (by kernel_rfl) (by kernel_rfl) (by kernel_rfl) (fun _ _ _ h => h) (Or.inl ⟨by kernel_rfl, fun u hSu => ?_⟩) S9 ?_
      · obtain ⟨z0, z1, z2, z3, z4⟩ := hSu; go_simp
      simp only [Act.put, List.getElem_toArray, List.getElem_cons_succ, List.getElem_cons_zero, List.setIfInBounds_toArray, List.set_cons_zero, List.set_cons_succ]
      refine wpAnyH_take (i := 26) (v := .bool true) rfl (by kernel_rfl) (by kernel_rfl) (by kernel_rfl) (fun _ _ _ h => h) (Or.inl ⟨by kernel_rfl, fun u hSu => ?_⟩) S9 ?_
      · obtain ⟨z0, z1, z2, z3, z4⟩ := hSu; go_simp
      simp only [Act.put, List.getElem_toArray, List.getElem_cons_succ, List.getElem_cons_zero, List.setIfInBounds_toArray, List.set_cons_zero, List.set_cons_succ]
      refine wpAnyH_take (i := 27) (v := .bool false) rfl (by kernel_rfl) (by kernel_rfl) (by kernel_rfl) (fun _ _ _ h => h) (Or.inl ⟨by kernel_rfl, fun u hSu => ?_⟩) S9 ?_
      · obtain ⟨z0, z1, z2, z3, z4⟩ := hSu; go_simp
      simp only [Act.put, List.getElem_toArray, List.getElem_cons_succ, List.getElem_cons_zero, List.setIfInBounds_toArray, List.set_cons_zero, List.set_cons_succ]
      refine wpAnyH_take (i := 28) (v := .bool false) rfl (by kernel_rfl) (by kernel_rfl) (by kernel_rfl) (fun _ _ _ h => h) (Or.inl ⟨by kernel_rfl, fun u hSu => ?_⟩) S9 ?_
      · obtain ⟨z0, z1, z2, z3, z4⟩ := hSu; go_simp
      simp only [Act.put, List.getElem_toArray, List.getElem_cons_succ, List.getElem_cons_zero, List.setIfInBounds_toArray, List.set_cons_zero, List.set_cons_succ]
      refine wpAnyH_take (i := 29) (v := undef) rfl (by kernel_rfl) (by kernel_rfl) (by kernel_rfl) (fun _ _ _ h => h) (Or.inr ⟨by kernel_rfl, rfl⟩) S9 ?_
      simp only [Act.put, List.getElem_toArray, List.getElem_cons_succ, List.getElem_cons_zero, List.setIfInBounds_toArray, List.set_cons_zero, List.set_cons_succ]
      refine wpAnyH_take (i := 30) (v := undef) rfl (by kernel_rfl) (by kernel_rfl) (by kernel_rfl) (fun _ _ _ h => h) (Or.inr ⟨by kernel_rfl, rfl⟩) S9 ?_
      simp only [Act.put, List.getElem_toArray, List.getElem_cons_succ, List.getElem_cons_zero, List.setIfInBounds_toArray, List.set_cons_zero, List.set_cons_succ]
      refine wpAnyH_take (i := 31) (v := undef) rfl (by kernel_rfl) (by kernel_rfl) (by kernel_rfl) (fun _ _ _ h => h) (Or.inr ⟨by kernel_rfl, rfl⟩) S9 ?_
      simp only [Act.put, List.getElem_toArray, List.getElem_cons_succ, List.getElem_cons_zero, List.setIfInBounds_toArray, List.set_cons_zero, List.set_cons_succ]
      refine wpAnyH_take (i := 32) (v := undef) rfl (by kernel_rfl) (by kernel_rfl) (by kernel_rfl) (fun _ _ _ h => h) (Or.inr ⟨by kernel_rfl, rfl⟩) S9 ?_
      simp only [Act.put, List.getElem_toArray, List.getElem_cons_succ, List.getElem_cons_zero, List.setIfInBounds_toArray, List.set_cons_zero, List.set_cons_succ]
      refine wpAnyH_take (i := 33) (v := undef) rfl (by kernel_rfl) (by kernel_rfl) (by kernel_rfl) (fun _ _ _ h => h) (Or.inr ⟨by kernel_rfl, rfl⟩) S9 ?_
      simp only [Act.put, List.getElem_toArray, List.getElem_cons_succ, List.getElem_cons_zero, List.setIfInBounds_toArray, List.set_cons_zero, List.set_cons_succ]
      refine wpAnyH_take (i := 34) (v := undef) rfl (by kernel_rfl) (by kernel_rfl) (by kernel_rfl) (fun _ _ _ h => h) (Or.inr ⟨by kernel_rfl, rfl⟩) S9 ?_
      simp only [Act.put, List.getElem_toArray, List.getElem_cons_succ, List.getElem_cons_zero, List.setIfInBounds_toArray, List.set_cons_zero, List.set_cons_succ]
      refine wpAnyH_take (i := 35) (v := undef) rfl (by kernel_rfl) (by kernel_rfl) (by kernel_rfl) (fun _ _ _ h => h) (Or.inr ⟨by kernel_rfl, rfl⟩) S9 ?_
      simp only [Act.put, List.getElem_toArray, List.getElem_cons_succ, List.getElem_cons_zero, List.setIfInBounds_toArray, List.set_cons_zero, List.set_cons_succ]
      refine wpAnyH_take (i := 36) (v := undef) rfl (by kernel_rfl) (by kernel_rfl) (by kernel_rfl) (fun _ _ _ h => h) (Or.inr ⟨by kernel_rfl, rfl⟩) S9 ?_
      simp only [Act.put, List.getElem_toArray, List.getElem_cons_succ, List.getElem_cons_zero, List.setIfInBounds_toArray, List.set_cons_zero, List.set_cons_succ]
      refine wpAnyH_take (i := 37) (v := undef) rfl (by kernel_rfl) (by kernel_rfl) (by kernel_rfl) (fun _ _ _ h => h) (Or.inr ⟨by kernel_rfl, rfl⟩) S9 ?_
      simp only [Act.put, List.getElem_toArray, List.getElem_cons_succ, List.getElem_cons_zero, List.setIfInBounds_toArray, List.set_cons_zero, List.set_cons_succ]
      refine wpAnyH_take (i := 38) (v := undef) rfl (by kernel_rfl) (by kernel_rfl) (by kernel_rfl) (fun _ _ _ h => h) (Or.inr ⟨by kernel_rfl, rfl⟩) S9 ?_
      simp only [Act.put, List.getElem_toArray, List.getElem_cons_succ, List.getElem_cons_zero, List.setIfInBounds_toArray, List.set_cons_zero, List.set_cons_succ]
      refine wpAnyH_take (i := 39) (v := undef) rfl (by kernel_rfl) (by kernel_rfl) (by kernel_rfl) (fun _ _ _ h => h) (Or.inr ⟨by kernel_rfl, rfl⟩) S9 ?_
      simp only [Act.put, List.getElem_toArray, List.getElem_cons_succ, List.getElem_cons_zero, List.setIfInBounds_toArray, List.set_cons_zero, List.set_cons_succ]
      refine wpAnyH_take (i := 40) (v := undef) rfl (by kernel_rfl) (by kernel_rfl) (by kernel_rfl) (fun _ _ _ h => h) (Or.inr ⟨by kernel_rfl, rfl⟩) S9 ?_
      simp only [Act.put, List.getElem_toArray, List.getElem_cons_succ, List.getElem_cons_zero, List.setIfInBounds_toArray, List.set_cons_zero, List.set_cons_succ]
      refine wpAnyH_take (i := 41) (v := undef) rfl (by kernel_rfl) (by kernel_rfl) (by kernel_rfl) (fun _ _ _ h => h) (Or.inr ⟨by kernel_rfl, rfl⟩) S9 ?_
      simp only [Act.put, List.getElem_toArray, List.getElem_cons_succ, List.getElem_cons_zero, List.setIfInBounds_toArray, List.set_cons_zero, List.set_cons_succ]
      refine wpAnyH_take (i := 42) (v := undef) rfl (by kernel_rfl) (by kernel_rfl) (by kernel_rfl) (fun _ _ _ h => h) (Or.inr ⟨by kernel_rfl, rfl⟩) S9 ?_
      simp only [Act.put, List.getElem_toArray, List.getElem_cons_succ, List.getElem_cons_zero, List.setIfInBounds_toArray, List.set_cons_zero, List.set_cons_succ]
      refine wpAnyH_take (i := 43) (v := .bool false) rfl (by kernel_rfl) (by kernel_rfl) (by kernel_rfl) (fun _ _ _ h => h) (Or.inl ⟨by kernel_rfl, fun u hSu => ?_⟩) S9 ?_
      · obtain ⟨z0, z1, z2, z3, z4⟩ := hSu; go_simp
      simp only [Act.put, List.getElem_toArray, List.getElem_cons_succ, List.getElem_cons_zero, List.setIfInBounds_toArray, List.set_cons_zero, List.set_cons_succ]
      refine wpAnyH_take (i := 44) (v := .bool false) rfl (by kernel_rfl) (by kernel_rfl) (by kernel_rfl) (fun _ _ _ h => h) (Or.inl ⟨by kernel_rfl, fun u hSu => ?_⟩) S9 ?_
      · obtain ⟨z0, z1, z2, z3, z4⟩ := hSu; go_simp
      simp only [Act.put, List.getElem_toArray, List.getElem_cons_succ, List.getElem_cons_zero, List.setIfInBounds_toArray, List.set_cons_zero, List.set_cons_succ]
      refine wpAnyH_done (by kernel_rfl) ?_ _
      go_wp2
      go_roundw
      case rel => exact ⟨j + 1, by go_num, by omega, hid ((bdrew (HB.out.trans (HB9.out.mono HB.out.size))))⟩
      case measure => simp [intOf]; omega
    · obtain rfl : j = R.length := by omega
      have e5 : decide ((R.length : Int) < (R.length : Int)) = false := by simp
      have HX0 := hid X0
      have HBW := hid hbw
      clear X0 hbw hb1r

      go_wp2_with (go_at_call 18; have hq := KR.out; refine (read_any _ [110, 111, 110, 101] _ _ _ hq (nl (by simp))).mono ?_; rintro e w9 ⟨ra, rc, x9, rfl, hx9, hr9, hb9⟩; have hx10 : x9 = 71 := hx9.trans rfl; subst hx10; have HB9 := hid hb9; have X9 := (hb9.block w.heap.size (Array.getElem?_eq_some_iff.1 HX0.out).1).trans HX0.out; have z0 := cell_blk (i := 0) X9 rfl; have z1 := cell_blk (i := 1) X9 rfl; have z2 := cell_blk (i := 2) X9 rfl; have z3 := cell_blk (i := 3) X9 rfl; have z4 := cell_blk (i := 4) X9 rfl; have z5 := cell_blk (i := 5) X9 rfl; have z6 := cell_blk (i := 6) X9 rfl; have HX9 := hid X9; clear X9; clear hq hr9 hb9 hx9)
      go_ret
      exact ⟨rfl, HBW.out.trans (HB9.out.mono HBW.out.size)⟩
set_option maxRecDepth 100000 in
set_option maxHeartbeats 8000000 in
theorem is_on (d : Nat) (vl : Value) (R : List (Nm × RFi)) (room : Nat) (dueD : Option (Nat × Nat × Nat)) (due : Bool) (o p k : Int) (P : Nat → Prop) (w : World) (h : DK w d ⟨room, false, dueD, mp RFi.fl R⟩ P) (hf : FR sp w vl R) :
    Calls Try.prog 11 #[.pointer (some ⟨d, 0, none⟩), .agg #[vl, .int .i64 (room : Int), .bool false, .bool due, .int .i64 o, .int .i64 p, .int .i64 k]] w fun e w' => e = .returned (.bool true) ∧ Below w.heap.size w w' := by
  have hgd := h.good
  have hR100 : R.length ≤ 100 := by rw [← fl_len]; exact hgd.few
  have hasc : Asc (mp RFi.fl R) := hgd.asc
  have hfit : sm (fun f => f.b.length) R ≤ room := by rw [← sm_RF]; exact hgd.fits
  have hsm : room ≤ 1000000 := hgd.small
  have hnice := hgd.nice
  simp only at hnice
  obtain ⟨a, c, rfl, hrow⟩ := hf.row
  have hb1 := new_below w (.cells #[.slice a R.length c, .int .i64 (room : Int), .bool false, .bool due, .int .i64 o, .int .i64 p, .int .i64 k] 28)
  have hn1 := heap_new w (.cells #[.slice a R.length c, .int .i64 (room : Int), .bool false, .bool due, .int .i64 o, .int .i64 p, .int .i64 k] 28)
  obtain ⟨w1, hw1⟩ : ∃ w1, w1 = w.alloc (.cells #[.slice a R.length c, .int .i64 (room : Int), .bool false, .bool due, .int .i64 o, .int .i64 p, .int .i64 k] 28) := ⟨_, rfl⟩
  rw [← hw1] at hb1 hn1
  obtain ⟨t, ht⟩ : ∃ t, t = room - sm (fun f : RFi => f.b.length) R := ⟨_, rfl⟩
  have HT := hid ht
  have K1 : Hid (DK w1 d ⟨room, false, dueD, mp RFi.fl R⟩ P) := hid (h.below hb1)
  have HF := hid hf
  have HR := hid hrow
  have HB1 := hid hb1
  have HW := hid hw1
  have HN1 := hid hn1
  have HA := hid hasc
  have HNI := hid hnice
  have HFIT := hid hfit
  clear h hf hrow hb1 hn1 hw1 hasc hnice hgd ht hfit
  have hmxo : Try.prog.follows .mixedOrders = true := by kernel_rfl
  go_enter Try.func11, Try.ntmps11
  go_wp2_with (go_at_call 22; have hq := K1.out; simp only [← HW.out]; refine (names_any _ _ _ _ hq).mono ?_; rintro e w5 ⟨v5, rfl, hr5, hb5⟩; have hr6 : w5.ownsRow w1.heap.size 9 1 v5 (nms (mp RFi.fl R)).length ((nms (mp RFi.fl R)).map encStr) := hr5; obtain ⟨an, cn, rfl, hN⟩ := names_row hr6; have HN := hid hN; have K5 := hid (And.intro (hq.below hb5) hb5); rw [nms_len, fl_len]; clear hq hr5 hr6 hN hb5)
  have S5 : w5.drew.heap[w.heap.size]? = some (.cells #[.slice a R.length c, .int .i64 (room : Int), .bool false, .bool due, .int .i64 o, .int .i64 p, .int .i64 k] 28 (0, 0)) := (K5.out.2.block w.heap.size (Array.getElem?_eq_some_iff.1 HN1.out).1).trans HN1.out
  refine wp_region_held_drew (S := fun u => u.heap[w.heap.size]? = some (.cells #[.slice a R.length c, .int .i64 (room : Int), .bool false, .bool due, .int .i64 o, .int .i64 p, .int .i64 k] 28 (0, 0))) hmxo S5 ?_
  intro _
  refine wpAnyH_take (i := 0) (v := .slice an R.length cn) rfl (by kernel_rfl) (by kernel_rfl) (by kernel_rfl) (fun _ _ _ h => h) (Or.inl ⟨by kernel_rfl, fun u hSu => ?_⟩) S5 ?_
  · have q0 := cell_blk (w := u) (i := 0) hSu rfl; have q1 := cell_blk (w := u) (i := 1) hSu rfl; have q2 := cell_blk (w := u) (i := 2) hSu rfl; have q3 := cell_blk (w := u) (i := 3) hSu rfl; have q4 := cell_blk (w := u) (i := 4) hSu rfl; have q5 := cell_blk (w := u) (i := 5) hSu rfl; have q6 := cell_blk (w := u) (i := 6) hSu rfl; clear hSu; go_simp
  simp only [Act.put, List.getElem_toArray, List.getElem_cons_succ, List.getElem_cons_zero, List.setIfInBounds_toArray, List.set_cons_zero, List.set_cons_succ]
  refine wpAnyH_take (i := 1) (v := .int .i64 (R.length : Int)) rfl (by kernel_rfl) (by kernel_rfl) (by kernel_rfl) (fun _ _ _ h => h) (Or.inl ⟨by kernel_rfl, fun u hSu => ?_⟩) S5 ?_
  · have q0 := cell_blk (w := u) (i := 0) hSu rfl; have q1 := cell_blk (w := u) (i := 1) hSu rfl; have q2 := cell_blk (w := u) (i := 2) hSu rfl; have q3 := cell_blk (w := u) (i := 3) hSu rfl; have q4 := cell_blk (w := u) (i := 4) hSu rfl; have q5 := cell_blk (w := u) (i := 5) hSu rfl; have q6 := cell_blk (w := u) (i := 6) hSu rfl; clear hSu; go_simp
  simp only [Act.put, List.getElem_toArray, List.getElem_cons_succ, List.getElem_cons_zero, List.setIfInBounds_toArray, List.set_cons_zero, List.set_cons_succ]
  refine wpAnyH_take (i := 2) (v := .pointer (some ⟨w.heap.size, 0, none⟩)) rfl (by kernel_rfl) (by kernel_rfl) (by kernel_rfl) (fun _ _ _ h => h) (Or.inl ⟨by kernel_rfl, fun u hSu => ?_⟩) S5 ?_
  · have q0 := cell_blk (w := u) (i := 0) hSu rfl; have q1 := cell_blk (w := u) (i := 1) hSu rfl; have q2 := cell_blk (w := u) (i := 2) hSu rfl; have q3 := cell_blk (w := u) (i := 3) hSu rfl; have q4 := cell_blk (w := u) (i := 4) hSu rfl; have q5 := cell_blk (w := u) (i := 5) hSu rfl; have q6 := cell_blk (w := u) (i := 6) hSu rfl; clear hSu; go_simp
  simp only [Act.put, List.getElem_toArray, List.getElem_cons_succ, List.getElem_cons_zero, List.setIfInBounds_toArray, List.set_cons_zero, List.set_cons_succ]
  refine wpAnyH_take (i := 3) (v := .slice a R.length c) rfl (by kernel_rfl) (by kernel_rfl) (by kernel_rfl) (fun _ _ _ h => h) (Or.inl ⟨by kernel_rfl, fun u hSu => ?_⟩) S5 ?_
  · have q0 := cell_blk (w := u) (i := 0) hSu rfl; have q1 := cell_blk (w := u) (i := 1) hSu rfl; have q2 := cell_blk (w := u) (i := 2) hSu rfl; have q3 := cell_blk (w := u) (i := 3) hSu rfl; have q4 := cell_blk (w := u) (i := 4) hSu rfl; have q5 := cell_blk (w := u) (i := 5) hSu rfl; have q6 := cell_blk (w := u) (i := 6) hSu rfl; clear hSu; go_simp
  simp only [Act.put, List.getElem_toArray, List.getElem_cons_succ, List.getElem_cons_zero, List.setIfInBounds_toArray, List.set_cons_zero, List.set_cons_succ]
  refine wpAnyH_take (i := 4) (v := .int .i64 (R.length : Int)) rfl (by kernel_rfl) (by kernel_rfl) (by kernel_rfl) (fun _ _ _ h => h) (Or.inl ⟨by kernel_rfl, fun u hSu => ?_⟩) S5 ?_
  · have q0 := cell_blk (w := u) (i := 0) hSu rfl; have q1 := cell_blk (w := u) (i := 1) hSu rfl; have q2 := cell_blk (w := u) (i := 2) hSu rfl; have q3 := cell_blk (w := u) (i := 3) hSu rfl; have q4 := cell_blk (w := u) (i := 4) hSu rfl; have q5 := cell_blk (w := u) (i := 5) hSu rfl; have q6 := cell_blk (w := u) (i := 6) hSu rfl; clear hSu; go_simp
  simp only [Act.put, List.getElem_toArray, List.getElem_cons_succ, List.getElem_cons_zero, List.setIfInBounds_toArray, List.set_cons_zero, List.set_cons_succ]
  refine wpAnyH_take (i := 5) (v := .bool false) rfl (by kernel_rfl) (by kernel_rfl) (by kernel_rfl) (fun _ _ _ h => h) (Or.inl ⟨by kernel_rfl, fun u hSu => ?_⟩) S5 ?_
  · have q0 := cell_blk (w := u) (i := 0) hSu rfl; have q1 := cell_blk (w := u) (i := 1) hSu rfl; have q2 := cell_blk (w := u) (i := 2) hSu rfl; have q3 := cell_blk (w := u) (i := 3) hSu rfl; have q4 := cell_blk (w := u) (i := 4) hSu rfl; have q5 := cell_blk (w := u) (i := 5) hSu rfl; have q6 := cell_blk (w := u) (i := 6) hSu rfl; clear hSu; go_simp
  simp only [Act.put, List.getElem_toArray, List.getElem_cons_succ, List.getElem_cons_zero, List.setIfInBounds_toArray, List.set_cons_zero, List.set_cons_succ]
  refine wpAnyH_take (i := 6) (v := .bool false) rfl (by kernel_rfl) (by kernel_rfl) (by kernel_rfl) (fun _ _ _ h => h) (Or.inl ⟨by kernel_rfl, fun u hSu => ?_⟩) S5 ?_
  · have q0 := cell_blk (w := u) (i := 0) hSu rfl; have q1 := cell_blk (w := u) (i := 1) hSu rfl; have q2 := cell_blk (w := u) (i := 2) hSu rfl; have q3 := cell_blk (w := u) (i := 3) hSu rfl; have q4 := cell_blk (w := u) (i := 4) hSu rfl; have q5 := cell_blk (w := u) (i := 5) hSu rfl; have q6 := cell_blk (w := u) (i := 6) hSu rfl; clear hSu; go_simp
  simp only [Act.put, List.getElem_toArray, List.getElem_cons_succ, List.getElem_cons_zero, List.setIfInBounds_toArray, List.set_cons_zero, List.set_cons_succ]
  refine wpAnyH_take (i := 7) (v := .pointer (some ⟨d, 0, none⟩)) rfl (by kernel_rfl) (by kernel_rfl) (by kernel_rfl) (fun _ _ _ h => h) (Or.inl ⟨by kernel_rfl, fun u hSu => ?_⟩) S5 ?_
  · have q0 := cell_blk (w := u) (i := 0) hSu rfl; have q1 := cell_blk (w := u) (i := 1) hSu rfl; have q2 := cell_blk (w := u) (i := 2) hSu rfl; have q3 := cell_blk (w := u) (i := 3) hSu rfl; have q4 := cell_blk (w := u) (i := 4) hSu rfl; have q5 := cell_blk (w := u) (i := 5) hSu rfl; have q6 := cell_blk (w := u) (i := 6) hSu rfl; clear hSu; go_simp
  simp only [Act.put, List.getElem_toArray, List.getElem_cons_succ, List.getElem_cons_zero, List.setIfInBounds_toArray, List.set_cons_zero, List.set_cons_succ]
  refine wpAnyH_take (i := 9) (v := .agg #[.slice a R.length c, .int .i64 (room : Int), .bool false, .bool due, .int .i64 o, .int .i64 p, .int .i64 k]) rfl (by kernel_rfl) (by kernel_rfl) (by kernel_rfl) (fun _ _ _ h => h) (Or.inl ⟨by kernel_rfl, fun u hSu => ?_⟩) S5 ?_
  · have q0 := cell_blk (w := u) (i := 0) hSu rfl; have q1 := cell_blk (w := u) (i := 1) hSu rfl; have q2 := cell_blk (w := u) (i := 2) hSu rfl; have q3 := cell_blk (w := u) (i := 3) hSu rfl; have q4 := cell_blk (w := u) (i := 4) hSu rfl; have q5 := cell_blk (w := u) (i := 5) hSu rfl; have q6 := cell_blk (w := u) (i := 6) hSu rfl; clear hSu; go_simp
  simp only [Act.put, List.getElem_toArray, List.getElem_cons_succ, List.getElem_cons_zero, List.setIfInBounds_toArray, List.set_cons_zero, List.set_cons_succ]
  refine wpAnyH_ready (rs := [8]) (by kernel_rfl) (by simp) ?_
  refine AllReadyH.cons rfl (fun K hK => ?_) AllReadyH.nil
  go_simp
  have hq5 : DK w5.drew d ⟨room, false, dueD, mp RFi.fl R⟩ P := K5.out.1.below (bdrew (Below.refl _ _))
  refine (room_dk _ _ _ _ hq5).mono ?_
  rintro e w6 ⟨rfl, hb6⟩
  simp only
  rw [sm_RF, ← HT.out]
  have S6 : w6.heap[w.heap.size]? = some (.cells #[.slice a R.length c, .int .i64 (room : Int), .bool false, .bool due, .int .i64 o, .int .i64 p, .int .i64 k] 28 (0, 0)) := (hb6.block w.heap.size (Array.getElem?_eq_some_iff.1 S5).1).trans S5
  have K6 := hid (And.intro (hq5.below hb6) (And.intro ((bdrew K5.out.2).trans (hb6.mono K5.out.2.size)) ((bdrew (Below.refl w5.heap.size w5)).trans hb6)))
  clear hq5 hb6
  refine hK.out _ _ S6 (fun _ => ?_)
  clear hK K
  try simp only [Act.put, List.getElem_toArray, List.getElem_cons_succ, List.getElem_cons_zero, List.setIfInBounds_toArray, List.set_cons_zero, List.set_cons_succ]
  refine wpAnyH_ready (rs := [10]) (by kernel_rfl) (by simp) ?_
  refine AllReadyH.cons rfl (fun K hK => ?_) AllReadyH.nil
  go_simp
  have hf6 : FR sp w6 (.slice a R.length c) R := HF.out.below (HB1.out.trans (K6.out.2.1.mono HB1.out.size))
  refine (rroom_any _ R room false due o p k w6 hf6 HFIT.out hsm (by omega)).mono ?_
  rintro e w7 ⟨rfl, hb7⟩
  rw [← HT.out]
  have S7 : w7.heap[w.heap.size]? = some (.cells #[.slice a R.length c, .int .i64 (room : Int), .bool false, .bool due, .int .i64 o, .int .i64 p, .int .i64 k] 28 (0, 0)) := (hb7.block w.heap.size (Array.getElem?_eq_some_iff.1 S6).1).trans S6
  have K7 := hid (And.intro (K6.out.1.below hb7) (And.intro (K6.out.2.1.trans (hb7.mono K6.out.2.1.size)) (K6.out.2.2.trans (hb7.mono K6.out.2.2.size))))
  clear hf6 hb7
  refine hK.out _ _ S7 (fun _ => ?_)
  clear hK K
  try simp only [Act.put, List.getElem_toArray, List.getElem_cons_succ, List.getElem_cons_zero, List.setIfInBounds_toArray, List.set_cons_zero, List.set_cons_succ]
  refine wpAnyH_take (i := 11) (v := .bool false) rfl (by kernel_rfl) (by kernel_rfl) (by kernel_rfl) (fun _ _ _ h => h) (Or.inl ⟨by kernel_rfl, fun u hSu => ?_⟩) S7 ?_
  · have q0 := cell_blk (w := u) (i := 0) hSu rfl; have q1 := cell_blk (w := u) (i := 1) hSu rfl; have q2 := cell_blk (w := u) (i := 2) hSu rfl; have q3 := cell_blk (w := u) (i := 3) hSu rfl; have q4 := cell_blk (w := u) (i := 4) hSu rfl; have q5 := cell_blk (w := u) (i := 5) hSu rfl; have q6 := cell_blk (w := u) (i := 6) hSu rfl; clear hSu; go_simp
  simp only [Act.put, List.getElem_toArray, List.getElem_cons_succ, List.getElem_cons_zero, List.setIfInBounds_toArray, List.set_cons_zero, List.set_cons_succ]
  refine wpAnyH_take (i := 12) (v := .bool false) rfl (by kernel_rfl) (by kernel_rfl) (by kernel_rfl) (fun _ _ _ h => h) (Or.inl ⟨by kernel_rfl, fun u hSu => ?_⟩) S7 ?_
  · have q0 := cell_blk (w := u) (i := 0) hSu rfl; have q1 := cell_blk (w := u) (i := 1) hSu rfl; have q2 := cell_blk (w := u) (i := 2) hSu rfl; have q3 := cell_blk (w := u) (i := 3) hSu rfl; have q4 := cell_blk (w := u) (i := 4) hSu rfl; have q5 := cell_blk (w := u) (i := 5) hSu rfl; have q6 := cell_blk (w := u) (i := 6) hSu rfl; clear hSu; go_simp
  simp only [Act.put, List.getElem_toArray, List.getElem_cons_succ, List.getElem_cons_zero, List.setIfInBounds_toArray, List.set_cons_zero, List.set_cons_succ]
  refine wpAnyH_take (i := 13) (v := .bool false) rfl (by kernel_rfl) (by kernel_rfl) (by kernel_rfl) (fun _ _ _ h => h) (Or.inl ⟨by kernel_rfl, fun u hSu => ?_⟩) S7 ?_
  · have q0 := cell_blk (w := u) (i := 0) hSu rfl; have q1 := cell_blk (w := u) (i := 1) hSu rfl; have q2 := cell_blk (w := u) (i := 2) hSu rfl; have q3 := cell_blk (w := u) (i := 3) hSu rfl; have q4 := cell_blk (w := u) (i := 4) hSu rfl; have q5 := cell_blk (w := u) (i := 5) hSu rfl; have q6 := cell_blk (w := u) (i := 6) hSu rfl; clear hSu; go_simp
  simp only [Act.put, List.getElem_toArray, List.getElem_cons_succ, List.getElem_cons_zero, List.setIfInBounds_toArray, List.set_cons_zero, List.set_cons_succ]
  refine wpAnyH_take (i := 14) (v := .pointer (some ⟨d, 0, none⟩)) rfl (by kernel_rfl) (by kernel_rfl) (by kernel_rfl) (fun _ _ _ h => h) (Or.inl ⟨by kernel_rfl, fun u hSu => ?_⟩) S7 ?_
  · have q0 := cell_blk (w := u) (i := 0) hSu rfl; have q1 := cell_blk (w := u) (i := 1) hSu rfl; have q2 := cell_blk (w := u) (i := 2) hSu rfl; have q3 := cell_blk (w := u) (i := 3) hSu rfl; have q4 := cell_blk (w := u) (i := 4) hSu rfl; have q5 := cell_blk (w := u) (i := 5) hSu rfl; have q6 := cell_blk (w := u) (i := 6) hSu rfl; clear hSu; go_simp
  simp only [Act.put, List.getElem_toArray, List.getElem_cons_succ, List.getElem_cons_zero, List.setIfInBounds_toArray, List.set_cons_zero, List.set_cons_succ]
  refine wpAnyH_take (i := 16) (v := .pointer (some ⟨w.heap.size, 2, none⟩)) rfl (by kernel_rfl) (by kernel_rfl) (by kernel_rfl) (fun _ _ _ h => h) (Or.inl ⟨by kernel_rfl, fun u hSu => ?_⟩) S7 ?_
  · have q0 := cell_blk (w := u) (i := 0) hSu rfl; have q1 := cell_blk (w := u) (i := 1) hSu rfl; have q2 := cell_blk (w := u) (i := 2) hSu rfl; have q3 := cell_blk (w := u) (i := 3) hSu rfl; have q4 := cell_blk (w := u) (i := 4) hSu rfl; have q5 := cell_blk (w := u) (i := 5) hSu rfl; have q6 := cell_blk (w := u) (i := 6) hSu rfl; clear hSu; go_simp
  simp only [Act.put, List.getElem_toArray, List.getElem_cons_succ, List.getElem_cons_zero, List.setIfInBounds_toArray, List.set_cons_zero, List.set_cons_succ]
  refine wpAnyH_take (i := 17) (v := .bool false) rfl (by kernel_rfl) (by kernel_rfl) (by kernel_rfl) (fun _ _ _ h => h) (Or.inl ⟨by kernel_rfl, fun u hSu => ?_⟩) S7 ?_
  · have q0 := cell_blk (w := u) (i := 0) hSu rfl; have q1 := cell_blk (w := u) (i := 1) hSu rfl; have q2 := cell_blk (w := u) (i := 2) hSu rfl; have q3 := cell_blk (w := u) (i := 3) hSu rfl; have q4 := cell_blk (w := u) (i := 4) hSu rfl; have q5 := cell_blk (w := u) (i := 5) hSu rfl; have q6 := cell_blk (w := u) (i := 6) hSu rfl; clear hSu; go_simp
  simp only [Act.put, List.getElem_toArray, List.getElem_cons_succ, List.getElem_cons_zero, List.setIfInBounds_toArray, List.set_cons_zero, List.set_cons_succ]
  refine wpAnyH_ready (rs := [15]) (by kernel_rfl) (by simp) ?_
  refine AllReadyH.cons rfl (fun K hK => ?_) AllReadyH.nil
  go_simp
  refine (off_any _ _ _ _ K7.out.1).mono ?_
  rintro e w8 ⟨rfl, hw8⟩
  rw [hw8]
  clear hw8 w8
  simp only
  refine hK.out _ _ S7 (fun _ => ?_)
  clear hK K
  try simp only [Act.put, List.getElem_toArray, List.getElem_cons_succ, List.getElem_cons_zero, List.setIfInBounds_toArray, List.set_cons_zero, List.set_cons_succ]
  refine wpAnyH_take (i := 18) (v := .bool false) rfl (by kernel_rfl) (by kernel_rfl) (by kernel_rfl) (fun _ _ _ h => h) (Or.inl ⟨by kernel_rfl, fun u hSu => ?_⟩) S7 ?_
  · have q0 := cell_blk (w := u) (i := 0) hSu rfl; have q1 := cell_blk (w := u) (i := 1) hSu rfl; have q2 := cell_blk (w := u) (i := 2) hSu rfl; have q3 := cell_blk (w := u) (i := 3) hSu rfl; have q4 := cell_blk (w := u) (i := 4) hSu rfl; have q5 := cell_blk (w := u) (i := 5) hSu rfl; have q6 := cell_blk (w := u) (i := 6) hSu rfl; clear hSu; go_simp
  simp only [Act.put, List.getElem_toArray, List.getElem_cons_succ, List.getElem_cons_zero, List.setIfInBounds_toArray, List.set_cons_zero, List.set_cons_succ]
  refine wpAnyH_take (i := 19) (v := .bool false) rfl (by kernel_rfl) (by kernel_rfl) (by kernel_rfl) (fun _ _ _ h => h) (Or.inl ⟨by kernel_rfl, fun u hSu => ?_⟩) S7 ?_
  · have q0 := cell_blk (w := u) (i := 0) hSu rfl; have q1 := cell_blk (w := u) (i := 1) hSu rfl; have q2 := cell_blk (w := u) (i := 2) hSu rfl; have q3 := cell_blk (w := u) (i := 3) hSu rfl; have q4 := cell_blk (w := u) (i := 4) hSu rfl; have q5 := cell_blk (w := u) (i := 5) hSu rfl; have q6 := cell_blk (w := u) (i := 6) hSu rfl; clear hSu; go_simp
  simp only [Act.put, List.getElem_toArray, List.getElem_cons_succ, List.getElem_cons_zero, List.setIfInBounds_toArray, List.set_cons_zero, List.set_cons_succ]
  refine wpAnyH_done (by kernel_rfl) ?_ _
  go_wp2
  have HB7 := hid K7.out.2.1
  have HBN := hid K7.out.2.2
  go_loopw [6] (fun vi wr => ∃ j : Nat, vi = .int .i64 (j : Int) ∧ j ≤ R.length ∧ Hid (Below w7.heap.size w7 wr)) (fun vi _ => R.length - (intOf vi).toNat)
  case atStart => exact ⟨0, rfl, Nat.zero_le _, hid (Below.refl _ _)⟩
  case round =>
    obtain ⟨j, rfl, hj, HB⟩ := hrel
    have hb1r := HB7.out.trans (HB.out.mono HB7.out.size)
    have hbw := HB1.out.trans (hb1r.mono HB1.out.size)
    have X0 : wr.heap[w.heap.size]? = some (.cells #[.slice a R.length c, .int .i64 (room : Int), .bool false, .bool due, .int .i64 o, .int .i64 p, .int .i64 k] 28 (0, 0)) := (HB.out.block w.heap.size (Array.getElem?_eq_some_iff.1 S7).1).trans S7
    have KR := hid (K7.out.1.below HB.out)
    by_cases hlt : j < R.length
    · have e5 : decide ((j : Int) < (R.length : Int)) = true := decide_eq_true (by omega)
      obtain ⟨q, hq⟩ : ∃ q, R[j]? = some q := ⟨R[j], List.getElem?_eq_getElem hlt⟩
      obtain ⟨g, ea, x0, x1, x2⟩ := HR.out j q hq
      subst ea
      have hqm : (q.1, q.2.fl) ∈ mp RFi.fl R := List.mem_map.2 ⟨q, List.mem_of_getElem? hq, rfl⟩
      have hlk : lk (mp RFi.fl R) q.1 = some q.2.fl := mem_lk HA.out hqm
      have hn32 := (HNI.out q.1 _ hlk).1
      have hrd : readD ⟨room, false, dueD, mp RFi.fl R⟩ q.1 = (q.2.b, 0) := by
        unfold readD; simp only [hlk]; rfl
      obtain ⟨gn, ean, hgn, cn5⟩ := HN.out j q.1 (by rw [nms_mp]; simp [nms, hq])
      subst ean
      have cn6 : wr.cell? ⟨gn, j, none⟩ = some (.string (bs q.1)) := ((HBN.out.trans (HB.out.mono HBN.out.size)).cell (cell_block cn5)).trans cn5
      have y0 : wr.cell? ⟨g, j * 3, none⟩ = some (.string (bs q.1)) := (hbw.cell (cell_block x0)).trans x0
      have y1 : wr.cell? ⟨g, j * 3 + 1, none⟩ = some (.slice q.2.a q.2.b.length q.2.c) := (hbw.cell (cell_block x1)).trans x1
      have HSQ := hid ((HF.out.ok q (List.mem_of_getElem? hq)).1.below hbw)
      have HRD := hid hrd
      have HX0 := hid X0
      clear x0 x1 x2 hq hqm hlk hrd cn5 hgn X0
      go_wp2_with (go_at_call 18; have hq := KR.out; refine (read_any _ q.1 _ _ _ hq (nl (by omega))).mono ?_; rintro e w9 ⟨ra, rc, x9, rfl, hx9, hr9, hb9⟩; rw [HRD.out] at hx9 hr9 ⊢; subst hx9; have HO := hid hr9; have HB9 := hid hb9; clear hq hr9 hb9)

      have X9 := hid ((HB9.out.block w.heap.size (Array.getElem?_eq_some_iff.1 HX0.out).1).trans HX0.out)
      have S9 : (fun u : World => u.cell? ⟨gn, j, none⟩ = some (.string (bs q.1)) ∧ u.cell? ⟨w.heap.size, 0, none⟩ = some (.slice (some ⟨g, 0, none⟩) R.length c) ∧ u.cell? ⟨w.heap.size, 2, none⟩ = some (.bool false) ∧ u.cell? ⟨g, j * 3, none⟩ = some (.string (bs q.1)) ∧ u.cell? ⟨g, j * 3 + 1, none⟩ = some (.slice q.2.a q.2.b.length q.2.c) ∧ (convert 31 9 (.slice ra q.2.b.length rc)).run Try.prog u = .ok (.string (strOfNums q.2.b)) u ∧ (convert 31 9 (.slice q.2.a q.2.b.length q.2.c)).run Try.prog u = .ok (.string (strOfNums q.2.b)) u) w9.drew := ⟨(HB9.out.cell (cell_block cn6)).trans cn6, cell_blk (i := 0) X9.out rfl, cell_blk (i := 2) X9.out rfl, (HB9.out.cell (cell_block y0)).trans y0, (HB9.out.cell (cell_block y1)).trans y1, conv_src (w := w9.drew) (own_src_at HO.out rfl) rc, conv_src (w := w9.drew) (HSQ.out.below (bdrew HB9.out)) q.2.c⟩
      refine wp_region_held_drew (S := fun u => u.cell? ⟨gn, j, none⟩ = some (.string (bs q.1)) ∧ u.cell? ⟨w.heap.size, 0, none⟩ = some (.slice (some ⟨g, 0, none⟩) R.length c) ∧ u.cell? ⟨w.heap.size, 2, none⟩ = some (.bool false) ∧ u.cell? ⟨g, j * 3, none⟩ = some (.string (bs q.1)) ∧ u.cell? ⟨g, j * 3 + 1, none⟩ = some (.slice q.2.a q.2.b.length q.2.c) ∧ (convert 31 9 (.slice ra q.2.b.length rc)).run Try.prog u = .ok (.string (strOfNums q.2.b)) u ∧ (convert 31 9 (.slice q.2.a q.2.b.length q.2.c)).run Try.prog u = .ok (.string (strOfNums q.2.b)) u) hmxo S9 ?_
      intro _
      refine wpAnyH_take (i := 0) (v := .slice (some ⟨gn, 0, none⟩) R.length cn) rfl (by kernel_rfl) (by kernel_rfl) (by kernel_rfl) (fun _ _ _ h => h) (Or.inl ⟨by kernel_rfl, fun u hSu => ?_⟩) S9 ?_
      · obtain ⟨z0, z1, z2, z3, z4, z5, z6⟩ := hSu; go_simp
      simp only [Act.put, List.getElem_toArray, List.getElem_cons_succ, List.getElem_cons_zero, List.setIfInBounds_toArray, List.set_cons_zero, List.set_cons_succ]
      refine wpAnyH_take (i := 1) (v := .int .i64 (j : Int)) rfl (by kernel_rfl) (by kernel_rfl) (by kernel_rfl) (fun _ _ _ h => h) (Or.inl ⟨by kernel_rfl, fun u hSu => ?_⟩) S9 ?_
      · obtain ⟨z0, z1, z2, z3, z4, z5, z6⟩ := hSu; go_simp
      simp only [Act.put, List.getElem_toArray, List.getElem_cons_succ, List.getElem_cons_zero, List.setIfInBounds_toArray, List.set_cons_zero, List.set_cons_succ]
      refine wpAnyH_take (i := 2) (v := .pointer (some ⟨gn, j, none⟩)) rfl (by kernel_rfl) (by kernel_rfl) (by kernel_rfl) (fun _ _ _ h => h) (Or.inl ⟨by kernel_rfl, fun u hSu => ?_⟩) S9 ?_
      · obtain ⟨z0, z1, z2, z3, z4, z5, z6⟩ := hSu; go_simp
      simp only [Act.put, List.getElem_toArray, List.getElem_cons_succ, List.getElem_cons_zero, List.setIfInBounds_toArray, List.set_cons_zero, List.set_cons_succ]
      refine wpAnyH_take (i := 3) (v := .string (bs q.1)) rfl (by kernel_rfl) (by kernel_rfl) (by kernel_rfl) (fun _ _ _ h => h) (Or.inl ⟨by kernel_rfl, fun u hSu => ?_⟩) S9 ?_
      · obtain ⟨z0, z1, z2, z3, z4, z5, z6⟩ := hSu; go_simp
      simp only [Act.put, List.getElem_toArray, List.getElem_cons_succ, List.getElem_cons_zero, List.setIfInBounds_toArray, List.set_cons_zero, List.set_cons_succ]
      refine wpAnyH_take (i := 4) (v := .pointer (some ⟨w.heap.size, 0, none⟩)) rfl (by kernel_rfl) (by kernel_rfl) (by kernel_rfl) (fun _ _ _ h => h) (Or.inl ⟨by kernel_rfl, fun u hSu => ?_⟩) S9 ?_
      · obtain ⟨z0, z1, z2, z3, z4, z5, z6⟩ := hSu; go_simp
      simp only [Act.put, List.getElem_toArray, List.getElem_cons_succ, List.getElem_cons_zero, List.setIfInBounds_toArray, List.set_cons_zero, List.set_cons_succ]
      refine wpAnyH_take (i := 5) (v := .slice (some ⟨g, 0, none⟩) R.length c) rfl (by kernel_rfl) (by kernel_rfl) (by kernel_rfl) (fun _ _ _ h => h) (Or.inl ⟨by kernel_rfl, fun u hSu => ?_⟩) S9 ?_
      · obtain ⟨z0, z1, z2, z3, z4, z5, z6⟩ := hSu; go_simp
      simp only [Act.put, List.getElem_toArray, List.getElem_cons_succ, List.getElem_cons_zero, List.setIfInBounds_toArray, List.set_cons_zero, List.set_cons_succ]
      refine wpAnyH_take (i := 6) (v := .int .i64 (j : Int)) rfl (by kernel_rfl) (by kernel_rfl) (by kernel_rfl) (fun _ _ _ h => h) (Or.inl ⟨by kernel_rfl, fun u hSu => ?_⟩) S9 ?_
      · obtain ⟨z0, z1, z2, z3, z4, z5, z6⟩ := hSu; go_simp
      simp only [Act.put, List.getElem_toArray, List.getElem_cons_succ, List.getElem_cons_zero, List.setIfInBounds_toArray, List.set_cons_zero, List.set_cons_succ]
      refine wpAnyH_take (i := 7) (v := .pointer (some ⟨g, j * 3, none⟩)) rfl (by kernel_rfl) (by kernel_rfl) (by kernel_rfl) (fun _ _ _ h => h) (Or.inl ⟨by kernel_rfl, fun u hSu => ?_⟩) S9 ?_
      · obtain ⟨z0, z1, z2, z3, z4, z5, z6⟩ := hSu; go_simp
      simp only [Act.put, List.getElem_toArray, List.getElem_cons_succ, List.getElem_cons_zero, List.setIfInBounds_toArray, List.set_cons_zero, List.set_cons_succ]
      refine wpAnyH_take (i := 8) (v := .pointer (some ⟨g, j * 3, none⟩)) rfl (by kernel_rfl) (by kernel_rfl) (by kernel_rfl) (fun _ _ _ h => h) (Or.inl ⟨by kernel_rfl, fun u hSu => ?_⟩) S9 ?_
      · obtain ⟨z0, z1, z2, z3, z4, z5, z6⟩ := hSu; go_simp
      simp only [Act.put, List.getElem_toArray, List.getElem_cons_succ, List.getElem_cons_zero, List.setIfInBounds_toArray, List.set_cons_zero, List.set_cons_succ]
      refine wpAnyH_take (i := 9) (v := .string (bs q.1)) rfl (by kernel_rfl) (by kernel_rfl) (by kernel_rfl) (fun _ _ _ h => h) (Or.inl ⟨by kernel_rfl, fun u hSu => ?_⟩) S9 ?_
      · obtain ⟨z0, z1, z2, z3, z4, z5, z6⟩ := hSu; go_simp
      simp only [Act.put, List.getElem_toArray, List.getElem_cons_succ, List.getElem_cons_zero, List.setIfInBounds_toArray, List.set_cons_zero, List.set_cons_succ]
      refine wpAnyH_take (i := 10) (v := .bool false) rfl (by kernel_rfl) (by kernel_rfl) (by kernel_rfl) (fun _ _ _ h => h) (Or.inl ⟨by kernel_rfl, fun u hSu => ?_⟩) S9 ?_
      · obtain ⟨z0, z1, z2, z3, z4, z5, z6⟩ := hSu; go_simp
      simp only [Act.put, List.getElem_toArray, List.getElem_cons_succ, List.getElem_cons_zero, List.setIfInBounds_toArray, List.set_cons_zero, List.set_cons_succ]
      refine wpAnyH_take (i := 11) (v := .bool false) rfl (by kernel_rfl) (by kernel_rfl) (by kernel_rfl) (fun _ _ _ h => h) (Or.inl ⟨by kernel_rfl, fun u hSu => ?_⟩) S9 ?_
      · obtain ⟨z0, z1, z2, z3, z4, z5, z6⟩ := hSu; go_simp
      simp only [Act.put, List.getElem_toArray, List.getElem_cons_succ, List.getElem_cons_zero, List.setIfInBounds_toArray, List.set_cons_zero, List.set_cons_succ]
      refine wpAnyH_take (i := 12) (v := .pointer (some ⟨w.heap.size, 2, none⟩)) rfl (by kernel_rfl) (by kernel_rfl) (by kernel_rfl) (fun _ _ _ h => h) (Or.inl ⟨by kernel_rfl, fun u hSu => ?_⟩) S9 ?_
      · obtain ⟨z0, z1, z2, z3, z4, z5, z6⟩ := hSu; go_simp
      simp only [Act.put, List.getElem_toArray, List.getElem_cons_succ, List.getElem_cons_zero, List.setIfInBounds_toArray, List.set_cons_zero, List.set_cons_succ]
      refine wpAnyH_take (i := 13) (v := .bool false) rfl (by kernel_rfl) (by kernel_rfl) (by kernel_rfl) (fun _ _ _ h => h) (Or.inl ⟨by kernel_rfl, fun u hSu => ?_⟩) S9 ?_
      · obtain ⟨z0, z1, z2, z3, z4, z5, z6⟩ := hSu; go_simp
      simp only [Act.put, List.getElem_toArray, List.getElem_cons_succ, List.getElem_cons_zero, List.setIfInBounds_toArray, List.set_cons_zero, List.set_cons_succ]
      refine wpAnyH_take (i := 14) (v := .bool false) rfl (by kernel_rfl) (by kernel_rfl) (by kernel_rfl) (fun _ _ _ h => h) (Or.inl ⟨by kernel_rfl, fun u hSu => ?_⟩) S9 ?_
      · obtain ⟨z0, z1, z2, z3, z4, z5, z6⟩ := hSu; go_simp
      simp only [Act.put, List.getElem_toArray, List.getElem_cons_succ, List.getElem_cons_zero, List.setIfInBounds_toArray, List.set_cons_zero, List.set_cons_succ]
      refine wpAnyH_take (i := 15) (v := undef) rfl (by kernel_rfl) (by kernel_rfl) (by kernel_rfl) (fun _ _ _ h => h) (Or.inr ⟨by kernel_rfl, rfl⟩) S9 ?_
      simp only [Act.put, List.getElem_toArray, List.getElem_cons_succ, List.getElem_cons_zero, List.setIfInBounds_toArray, List.set_cons_zero, List.set_cons_succ]
      refine wpAnyH_take (i := 16) (v := undef) rfl (by kernel_rfl) (by kernel_rfl) (by kernel_rfl) (fun _ _ _ h => h) (Or.inr ⟨by kernel_rfl, rfl⟩) S9 ?_
      simp only [Act.put, List.getElem_toArray, List.getElem_cons_succ, List.getElem_cons_zero, List.setIfInBounds_toArray, List.set_cons_zero, List.set_cons_succ]
      refine wpAnyH_take (i := 17) (v := undef) rfl (by kernel_rfl) (by kernel_rfl) (by kernel_rfl) (fun _ _ _ h => h) (Or.inr ⟨by kernel_rfl, rfl⟩) S9 ?_
      simp only [Act.put, List.getElem_toArray, List.getElem_cons_succ, List.getElem_cons_zero, List.setIfInBounds_toArray, List.set_cons_zero, List.set_cons_succ]
      refine wpAnyH_take (i := 18) (v := undef) rfl (by kernel_rfl) (by kernel_rfl) (by kernel_rfl) (fun _ _ _ h => h) (Or.inr ⟨by kernel_rfl, rfl⟩) S9 ?_
      simp only [Act.put, List.getElem_toArray, List.getElem_cons_succ, List.getElem_cons_zero, List.setIfInBounds_toArray, List.set_cons_zero, List.set_cons_succ]
      refine wpAnyH_take (i := 19) (v := undef) rfl (by kernel_rfl) (by kernel_rfl) (by kernel_rfl) (fun _ _ _ h => h) (Or.inr ⟨by kernel_rfl, rfl⟩) S9 ?_
      simp only [Act.put, List.getElem_toArray, List.getElem_cons_succ, List.getElem_cons_zero, List.setIfInBounds_toArray, List.set_cons_zero, List.set_cons_succ]
      refine wpAnyH_take (i := 20) (v := undef) rfl (by kernel_rfl) (by kernel_rfl) (by kernel_rfl) (fun _ _ _ h => h) (Or.inr ⟨by kernel_rfl, rfl⟩) S9 ?_
      simp only [Act.put, List.getElem_toArray, List.getElem_cons_succ, List.getElem_cons_zero, List.setIfInBounds_toArray, List.set_cons_zero, List.set_cons_succ]
      refine wpAnyH_take (i := 21) (v := undef) rfl (by kernel_rfl) (by kernel_rfl) (by kernel_rfl) (fun _ _ _ h => h) (Or.inr ⟨by kernel_rfl, rfl⟩) S9 ?_
      simp only [Act.put, List.getElem_toArray, List.getElem_cons_succ, List.getElem_cons_zero, List.setIfInBounds_toArray, List.set_cons_zero, List.set_cons_succ]
      refine wpAnyH_take (i := 22) (v := .bool false) rfl (by kernel_rfl) (by kernel_rfl) (by kernel_rfl) (fun _ _ _ h => h) (Or.inl ⟨by kernel_rfl, fun u hSu => ?_⟩) S9 ?_
      · obtain ⟨z0, z1, z2, z3, z4, z5, z6⟩ := hSu; go_simp
      simp only [Act.put, List.getElem_toArray, List.getElem_cons_succ, List.getElem_cons_zero, List.setIfInBounds_toArray, List.set_cons_zero, List.set_cons_succ]
      refine wpAnyH_take (i := 23) (v := .bool false) rfl (by kernel_rfl) (by kernel_rfl) (by kernel_rfl) (fun _ _ _ h => h) (Or.inl ⟨by kernel_rfl, fun u hSu => ?_⟩) S9 ?_
      · obtain ⟨z0, z1, z2, z3, z4, z5, z6⟩ := hSu; go_simp
      simp only [Act.put, List.getElem_toArray, List.getElem_cons_succ, List.getElem_cons_zero, List.setIfInBounds_toArray, List.set_cons_zero, List.set_cons_succ]
      refine wpAnyH_take (i := 24) (v := .bool false) rfl (by kernel_rfl) (by kernel_rfl) (by kernel_rfl) (fun _ _ _ h => h) (Or.inl ⟨by kernel_rfl, fun u hSu => ?_⟩) S9 ?_
      · obtain ⟨z0, z1, z2, z3, z4, z5, z6⟩ := hSu; go_simp
      simp only [Act.put, List.getElem_toArray, List.getElem_cons_succ, List.getElem_cons_zero, List.setIfInBounds_toArray, List.set_cons_zero, List.set_cons_succ]
      refine wpAnyH_take (i := 25) (v := .pointer (some ⟨w.heap.size, 2, none⟩)) rfl (by kernel_rfl) (by kernel_rfl) (by kernel_rfl) (fun _ _ _ h => h) (Or.inl ⟨by kernel_rfl, fun u hSu => ?_⟩) S9 ?_
      · obtain ⟨z0, z1, z2, z3, z4, z5, z6⟩ := hSu; go_simp
      simp only [Act.put, List.getElem_toArray, List.getElem_cons_succ, List.getElem_cons_zero, List.setIfInBounds_toArray, List.set_cons_zero, List.set_cons_succ]
      refine wpAnyH_take (i := 26) (v := .bool false) rfl (by kernel_rfl) (by kernel_rfl) (by kernel_rfl) (fun _ _ _ h => h) (Or.inl ⟨by kernel_rfl, fun u hSu => ?_⟩) S9 ?_
      · obtain ⟨z0, z1, z2, z3, z4, z5, z6⟩ := hSu; go_simp
      simp only [Act.put, List.getElem_toArray, List.getElem_cons_succ, List.getElem_cons_zero, List.setIfInBounds_toArray, List.set_cons_zero, List.set_cons_succ]
      refine wpAnyH_take (i := 27) (v := .bool true) rfl (by kernel_rfl) (by kernel_rfl) (by kernel_rfl) (fun _ _ _ h => h) (Or.inl ⟨by kernel_rfl, fun u hSu => ?_⟩) S9 ?_
      · obtain ⟨z0, z1, z2, z3, z4, z5, z6⟩ := hSu; go_simp
      simp only [Act.put, List.getElem_toArray, List.getElem_cons_succ, List.getElem_cons_zero, List.setIfInBounds_toArray, List.set_cons_zero, List.set_cons_succ]
      refine wpAnyH_take (i := 28) (v := .bool true) rfl (by kernel_rfl) (by kernel_rfl) (by kernel_rfl) (fun _ _ _ h => h) (Or.inl ⟨by kernel_rfl, fun u hSu => ?_⟩) S9 ?_
      · obtain ⟨z0, z1, z2, z3, z4, z5, z6⟩ := hSu; go_simp
      simp only [Act.put, List.getElem_toArray, List.getElem_cons_succ, List.getElem_cons_zero, List.setIfInBounds_toArray, List.set_cons_zero, List.set_cons_succ]
      refine wpAnyH_take (i := 29) (v := .int .i64 0) rfl (by kernel_rfl) (by kernel_rfl) (by kernel_rfl) (fun _ _ _ h => h) (Or.inl ⟨by kernel_rfl, fun u hSu => ?_⟩) S9 ?_
      · obtain ⟨z0, z1, z2, z3, z4, z5, z6⟩ := hSu; go_simp
      simp only [Act.put, List.getElem_toArray, List.getElem_cons_succ, List.getElem_cons_zero, List.setIfInBounds_toArray, List.set_cons_zero, List.set_cons_succ]
      refine wpAnyH_take (i := 30) (v := .bool false) rfl (by kernel_rfl) (by kernel_rfl) (by kernel_rfl) (fun _ _ _ h => h) (Or.inl ⟨by kernel_rfl, fun u hSu => ?_⟩) S9 ?_
      · obtain ⟨z0, z1, z2, z3, z4, z5, z6⟩ := hSu; go_simp
      simp only [Act.put, List.getElem_toArray, List.getElem_cons_succ, List.getElem_cons_zero, List.setIfInBounds_toArray, List.set_cons_zero, List.set_cons_succ]
      refine wpAnyH_take (i := 31) (v := .bool false) rfl (by kernel_rfl) (by kernel_rfl) (by kernel_rfl) (fun _ _ _ h => h) (Or.inl ⟨by kernel_rfl, fun u hSu => ?_⟩) S9 ?_
      · obtain ⟨z0, z1, z2, z3, z4, z5, z6⟩ := hSu; go_simp
      simp only [Act.put, List.getElem_toArray, List.getElem_cons_succ, List.getElem_cons_zero, List.setIfInBounds_toArray, List.set_cons_zero, List.set_cons_succ]
      refine wpAnyH_take (i := 32) (v := .slice ra q.2.b.length rc) rfl (by kernel_rfl) (by kernel_rfl) (by kernel_rfl) (fun _ _ _ h => h) (Or.inl ⟨by kernel_rfl, fun u hSu => ?_⟩) S9 ?_
      · obtain ⟨z0, z1, z2, z3, z4, z5, z6⟩ := hSu; go_simp
      simp only [Act.put, List.getElem_toArray, List.getElem_cons_succ, List.getElem_cons_zero, List.setIfInBounds_toArray, List.set_cons_zero, List.set_cons_succ]
      refine wpAnyH_take (i := 33) (v := .string (strOfNums q.2.b)) rfl (by kernel_rfl) (by kernel_rfl) (by kernel_rfl) (fun _ _ _ h => h) (Or.inl ⟨by kernel_rfl, fun u hSu => ?_⟩) S9 ?_
      · obtain ⟨z0, z1, z2, z3, z4, z5, z6⟩ := hSu; go_simp
      simp only [Act.put, List.getElem_toArray, List.getElem_cons_succ, List.getElem_cons_zero, List.setIfInBounds_toArray, List.set_cons_zero, List.set_cons_succ]
      refine wpAnyH_take (i := 34) (v := .pointer (some ⟨w.heap.size, 0, none⟩)) rfl (by kernel_rfl) (by kernel_rfl) (by kernel_rfl) (fun _ _ _ h => h) (Or.inl ⟨by kernel_rfl, fun u hSu => ?_⟩) S9 ?_
      · obtain ⟨z0, z1, z2, z3, z4, z5, z6⟩ := hSu; go_simp
      simp only [Act.put, List.getElem_toArray, List.getElem_cons_succ, List.getElem_cons_zero, List.setIfInBounds_toArray, List.set_cons_zero, List.set_cons_succ]
      refine wpAnyH_take (i := 35) (v := .slice (some ⟨g, 0, none⟩) R.length c) rfl (by kernel_rfl) (by kernel_rfl) (by kernel_rfl) (fun _ _ _ h => h) (Or.inl ⟨by kernel_rfl, fun u hSu => ?_⟩) S9 ?_
      · obtain ⟨z0, z1, z2, z3, z4, z5, z6⟩ := hSu; go_simp
      simp only [Act.put, List.getElem_toArray, List.getElem_cons_succ, List.getElem_cons_zero, List.setIfInBounds_toArray, List.set_cons_zero, List.set_cons_succ]
      refine wpAnyH_take (i := 36) (v := .int .i64 (j : Int)) rfl (by kernel_rfl) (by kernel_rfl) (by kernel_rfl) (fun _ _ _ h => h) (Or.inl ⟨by kernel_rfl, fun u hSu => ?_⟩) S9 ?_
      · obtain ⟨z0, z1, z2, z3, z4, z5, z6⟩ := hSu; go_simp
      simp only [Act.put, List.getElem_toArray, List.getElem_cons_succ, List.getElem_cons_zero, List.setIfInBounds_toArray, List.set_cons_zero, List.set_cons_succ]
      refine wpAnyH_take (i := 37) (v := .pointer (some ⟨g, j * 3, none⟩)) rfl (by kernel_rfl) (by kernel_rfl) (by kernel_rfl) (fun _ _ _ h => h) (Or.inl ⟨by kernel_rfl, fun u hSu => ?_⟩) S9 ?_
      · obtain ⟨z0, z1, z2, z3, z4, z5, z6⟩ := hSu; go_simp
      simp only [Act.put, List.getElem_toArray, List.getElem_cons_succ, List.getElem_cons_zero, List.setIfInBounds_toArray, List.set_cons_zero, List.set_cons_succ]
      refine wpAnyH_take (i := 38) (v := .pointer (some ⟨g, j * 3 + 1, none⟩)) rfl (by kernel_rfl) (by kernel_rfl) (by kernel_rfl) (fun _ _ _ h => h) (Or.inl ⟨by kernel_rfl, fun u hSu => ?_⟩) S9 ?_
      · obtain ⟨z0, z1, z2, z3, z4, z5, z6⟩ := hSu; go_simp
      simp only [Act.put, List.getElem_toArray, List.getElem_cons_succ, List.getElem_cons_zero, List.setIfInBounds_toArray, List.set_cons_zero, List.set_cons_succ]
      refine wpAnyH_take (i := 39) (v := .slice q.2.a q.2.b.length q.2.c) rfl (by kernel_rfl) (by kernel_rfl) (by kernel_rfl) (fun _ _ _ h => h) (Or.inl ⟨by kernel_rfl, fun u hSu => ?_⟩) S9 ?_
      · obtain ⟨z0, z1, z2, z3, z4, z5, z6⟩ := hSu; go_simp
      simp only [Act.put, List.getElem_toArray, List.getElem_cons_succ, List.getElem_cons_zero, List.setIfInBounds_toArray, List.set_cons_zero, List.set_cons_succ]
      refine wpAnyH_take (i := 40) (v := .string (strOfNums q.2.b)) rfl (by kernel_rfl) (by kernel_rfl) (by kernel_rfl) (fun _ _ _ h => h) (Or.inl ⟨by kernel_rfl, fun u hSu => ?_⟩) S9 ?_
      · obtain ⟨z0, z1, z2, z3, z4, z5, z6⟩ := hSu; go_simp
      simp only [Act.put, List.getElem_toArray, List.getElem_cons_succ, List.getElem_cons_zero, List.setIfInBounds_toArray, List.set_cons_zero, List.set_cons_succ]
      refine wpAnyH_take (i := 41) (v := .bool false) rfl (by kernel_rfl) (by kernel_rfl) (by kernel_rfl) (fun _ _ _ h => h) (Or.inl ⟨by kernel_rfl, fun u hSu => ?_⟩) S9 ?_
      · obtain ⟨z0, z1, z2, z3, z4, z5, z6⟩ := hSu; go_simp
      simp only [Act.put, List.getElem_toArray, List.getElem_cons_succ, List.getElem_cons_zero, List.setIfInBounds_toArray, List.set_cons_zero, List.set_cons_succ]
      refine wpAnyH_take (i := 42) (v := .bool false) rfl (by kernel_rfl) (by kernel_rfl) (by kernel_rfl) (fun _ _ _ h => h) (Or.inl ⟨by kernel_rfl, fun u hSu => ?_⟩) S9 ?_
      · obtain ⟨z0, z1, z2, z3, z4, z5, z6⟩ := hSu; go_simp
      simp only [Act.put, List.getElem_toArray, List.getElem_cons_succ, List.getElem_cons_zero, List.setIfInBounds_toArray, List.set_cons_zero, List.set_cons_succ]
      refine wpAnyH_take (i := 43) (v := .bool false) rfl (by kernel_rfl) (by kernel_rfl) (by kernel_rfl) (fun _ _ _ h => h) (Or.inl ⟨by kernel_rfl, fun u hSu => ?_⟩) S9 ?_
      · obtain ⟨z0, z1, z2, z3, z4, z5, z6⟩ := hSu; go_simp
      simp only [Act.put, List.getElem_toArray, List.getElem_cons_succ, List.getElem_cons_zero, List.setIfInBounds_toArray, List.set_cons_zero, List.set_cons_succ]
      refine wpAnyH_take (i := 44) (v := .bool false) rfl (by kernel_rfl) (by kernel_rfl) (by kernel_rfl) (fun _ _ _ h => h) (Or.inl ⟨by kernel_rfl, fun u hSu => ?_⟩) S9 ?_
      · obtain ⟨z0, z1, z2, z3, z4, z5, z6⟩ := hSu; go_simp
      simp only [Act.put, List.getElem_toArray, List.getElem_cons_succ, List.getElem_cons_zero, List.setIfInBounds_toArray, List.set_cons_zero, List.set_cons_succ]
      refine wpAnyH_done (by kernel_rfl) ?_ _
      go_wp2
      go_roundw
      case rel => exact ⟨j + 1, by go_num, by omega, hid ((bdrew (HB.out.trans (HB9.out.mono HB.out.size))))⟩
      case measure => simp [intOf]; omega
    · obtain rfl : j = R.length := by omega
      have e5 : decide ((R.length : Int) < (R.length : Int)) = false := by simp
      have HX0 := hid X0
      have HBW := hid hbw
      clear X0 hbw hb1r

      cases hs : lk (mp RFi.fl R) [110, 111, 110, 101] with
      | none =>
        have HS := hid hs
        clear hs
        go_wp2_with (go_at_call 18; have hq := KR.out; refine (read_any _ [110, 111, 110, 101] _ _ _ hq (nl (by simp))).mono ?_; rintro e w9 ⟨ra, rc, x9, rfl, hx9, hr9, hb9⟩; have hx10 : x9 = 70 := hx9.trans (congrArg Prod.snd (read_none HS.out)); subst hx10; have HB9 := hid hb9; have X9 := (hb9.block w.heap.size (Array.getElem?_eq_some_iff.1 HX0.out).1).trans HX0.out; have z0 := cell_blk (i := 0) X9 rfl; have z1 := cell_blk (i := 1) X9 rfl; have z2 := cell_blk (i := 2) X9 rfl; have z3 := cell_blk (i := 3) X9 rfl; have z4 := cell_blk (i := 4) X9 rfl; have z5 := cell_blk (i := 5) X9 rfl; have z6 := cell_blk (i := 6) X9 rfl; have HX9 := hid X9; clear X9; clear hq hr9 hb9 hx9)
        go_ret
        exact ⟨rfl, HBW.out.trans (HB9.out.mono HBW.out.size)⟩
      | some f0 =>
        have HS := hid hs
        have HSOME : Hid ((lk R [110, 111, 110, 101]).isSome = true) := hid (by
          rw [lk_mp] at hs
          cases e : lk R [110, 111, 110, 101] with
          | none => rw [e] at hs; simp at hs
          | some _ => rfl)
        clear hs
        go_wp2_with (first
          | (go_at_call 25; refine (rat_any _ R room false due o p k [110, 111, 110, 101] _ (HF.out.below (HBW.out.trans (HB9.out.mono HBW.out.size))) (by omega)).mono ?_; rintro e w10 ⟨ix, rfl, hix, hb10⟩; rw [HSOME.out] at hix; have HB10 := hid ((HBW.out.trans (HB9.out.mono HBW.out.size)).trans (hb10.mono (Nat.le_trans HBW.out.size HB9.out.size))); clear hb10)
          | (go_at_call 18; have hq := KR.out; refine (read_any _ [110, 111, 110, 101] _ _ _ hq (nl (by simp))).mono ?_; rintro e w9 ⟨ra, rc, x9, rfl, hx9, hr9, hb9⟩; have hx10 : x9 = 0 := hx9.trans (congrArg Prod.snd (read_some HS.out)); subst hx10; have HB9 := hid hb9; have X9 := (hb9.block w.heap.size (Array.getElem?_eq_some_iff.1 HX0.out).1).trans HX0.out; have z0 := cell_blk (i := 0) X9 rfl; have z1 := cell_blk (i := 1) X9 rfl; have z2 := cell_blk (i := 2) X9 rfl; have z3 := cell_blk (i := 3) X9 rfl; have z4 := cell_blk (i := 4) X9 rfl; have z5 := cell_blk (i := 5) X9 rfl; have z6 := cell_blk (i := 6) X9 rfl; have HX9 := hid X9; clear X9; clear hq hr9 hb9 hx9))
        go_ret
        exact ⟨rfl, HB10.out⟩

theorem is_any (d : Nat) (v : Value) (D : Dk) (P : Nat → Prop) (w : World) (h : DK w d D P) (hr : RDk sp w v D) : Calls Try.prog 11 #[.pointer (some ⟨d, 0, none⟩), v] w fun e w' => e = .returned (.bool true) ∧ Below w.heap.size w w' := by
  obtain ⟨a, c, R, due, o, p, k, rfl, hf, hm, hu⟩ := hr
  obtain ⟨room, off, dueD, F⟩ := D
  simp only at hm h ⊢
  subst hm
  cases off with
  | true => exact is_off d _ R room dueD due o p k P w h hf
  | false => exact is_on d _ R room dueD due o p k P w h hf
end Go.Proofs.Ytocglenkdjiknaa
