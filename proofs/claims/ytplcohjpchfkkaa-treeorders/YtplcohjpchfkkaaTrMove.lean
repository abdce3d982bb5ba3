/- Move. -/
import Derived.Test.YtplcohjpchfkkaaTrTT
set_option linter.unusedVariables false
set_option linter.unusedSimpArgs false
namespace Go.Proofs.Ytplcohjpchfkkaa
open Go.RowKit

set_option maxRecDepth 100000 in
set_option maxHeartbeats 4000000 in
/-- The identity may not be. -/
theorem move_no1 (w : World) (l : List Mv) (k : Nat) (gs : List Nat) (S : List Sp) (lg fd pl kd : Value) (fl : List (Mv × Nat)) (B A : Nat → Prop) (t : Nat) (i1 i2 tm b1 b2 p1 p2 : Int) (ky : ByteArray) (h : TR w t l k gs S lg fd pl kd fl B A) (h1 : mayT (i1, i2) = false) :
    Calls Try.prog 12 #[.pointer (some ⟨t, 0, none⟩), .agg #[.int .i64 i1, .int .i64 i2], .int .i64 tm, .agg #[.int .i64 b1, .int .i64 b2], .agg #[.int .i64 p1, .int .i64 p2], .string ky] w fun e w' => e = .returned (.int .i64 1) ∧ Below w.heap.size w w' := by
  have hmxo : Try.prog.follows .mixedOrders = true := by kernel_rfl
  obtain ⟨W0, hW0⟩ : ∃ W0, W0 = ((w.alloc (.cells #[.int .i64 i1, .int .i64 i2] 24)).alloc (.cells #[.int .i64 b1, .int .i64 b2] 24)).alloc (.cells #[.int .i64 p1, .int .i64 p2] 24) := ⟨_, rfl⟩
  have hB0 : Below w.heap.size w W0 := by rw [hW0]; exact ((((Below.refl _ w).alloc (Nat.le_refl _) _).alloc (by simp) _).alloc (by simp; omega) _)
  have hsz : W0.heap.size = w.heap.size + 3 := by rw [hW0]; simp
  have q0 : W0.heap[w.heap.size]? = some (.cells #[.int .i64 i1, .int .i64 i2] 24 (0, 0)) := by
    rw [hW0]
    exact (Below.heap_alloc _ _ _ (by simp; omega)).trans ((Below.heap_alloc _ _ _ (by simp)).trans (World.alloc_heap_new w _))
  have q1 : W0.heap[w.heap.size + 1]? = some (.cells #[.int .i64 b1, .int .i64 b2] 24 (0, 0)) := by
    rw [hW0]
    have := World.alloc_heap_new (w.alloc (.cells #[.int .i64 i1, .int .i64 i2] 24)) (.cells #[.int .i64 b1, .int .i64 b2] 24)
    rw [World.size_alloc] at this
    exact (Below.heap_alloc _ _ _ (by simp)).trans this
  have q2 : W0.heap[w.heap.size + 2]? = some (.cells #[.int .i64 p1, .int .i64 p2] 24 (0, 0)) := by
    rw [hW0]
    have := World.alloc_heap_new ((w.alloc (.cells #[.int .i64 i1, .int .i64 i2] 24)).alloc (.cells #[.int .i64 b1, .int .i64 b2] 24)) (.cells #[.int .i64 p1, .int .i64 p2] 24)
    rw [World.size_alloc, World.size_alloc] at this
    exact this
  have htb := h.tb
  unfold TB at htb
  have htw := (Array.getElem?_eq_some_iff.1 htb).1
  have HC : Hid (∀ V, Below W0.heap.size W0 V → V.cell? ⟨t, 1, none⟩ = some fd ∧ V.cell? ⟨w.heap.size, 0, none⟩ = some (.int .i64 i1) ∧ V.cell? ⟨w.heap.size, 1, none⟩ = some (.int .i64 i2) ∧ V.cell? ⟨w.heap.size + 1, 0, none⟩ = some (.int .i64 b1) ∧ V.cell? ⟨w.heap.size + 1, 1, none⟩ = some (.int .i64 b2) ∧ V.cell? ⟨w.heap.size + 2, 0, none⟩ = some (.int .i64 p1) ∧ V.cell? ⟨w.heap.size + 2, 1, none⟩ = some (.int .i64 p2)) := hid (fun V hV => by
    have e0 := (hV.block _ (by omega)).trans q0
    have e1 := (hV.block _ (by omega)).trans q1
    have e2 := (hV.block _ (by omega)).trans q2
    have e3 := (hV.block t (by omega)).trans ((hB0.block t htw).trans htb)
    exact ⟨by simp [World.cell?, e3], by simp [World.cell?, e0], by simp [World.cell?, e0], by simp [World.cell?, e1], by simp [World.cell?, e1], by simp [World.cell?, e2], by simp [World.cell?, e2]⟩)
  have HM1 : Calls Try.prog 30 #[.agg #[.int .i64 i1, .int .i64 i2]] W0 fun e w' => e = .returned (.bool false) ∧ Hid (Below W0.heap.size W0 w') := by
    have := may10_any (i1, i2) W0
    rw [h1] at this
    exact this.mono (fun e w' h => ⟨h.1, hid h.2⟩)
  have HW := hid hW0
  have HB0 := hid hB0
  have hsz' := hid hsz
  clear hW0 hB0 hsz q0 q1 q2 htb htw h h1
  go_enter Try.func12, Try.ntmps12
  go_wp2_with (go_at_call 30; rw [← HW.out]; refine HM1.mono ?_; rintro e W1 ⟨rfl, HB1⟩; obtain ⟨j0, j1, j2, j3, j4, j5, j6⟩ := HC.out _ HB1.out)
  go_ret
  exact ⟨rfl, HB0.out.trans (HB1.out.mono HB0.out.size)⟩

set_option maxRecDepth 100000 in
set_option maxHeartbeats 4000000 in
/-- The block may not be. -/
theorem move_no2 (w : World) (l : List Mv) (k : Nat) (gs : List Nat) (S : List Sp) (lg fd pl kd : Value) (fl : List (Mv × Nat)) (B A : Nat → Prop) (t : Nat) (i1 i2 tm b1 b2 p1 p2 : Int) (ky : ByteArray) (h : TR w t l k gs S lg fd pl kd fl B A) (h1 : mayT (i1, i2) = true) (h2 : mayT (b1, b2) = false) :
    Calls Try.prog 12 #[.pointer (some ⟨t, 0, none⟩), .agg #[.int .i64 i1, .int .i64 i2], .int .i64 tm, .agg #[.int .i64 b1, .int .i64 b2], .agg #[.int .i64 p1, .int .i64 p2], .string ky] w fun e w' => e = .returned (.int .i64 1) ∧ Below w.heap.size w w' := by
  have hmxo : Try.prog.follows .mixedOrders = true := by kernel_rfl
  obtain ⟨W0, hW0⟩ : ∃ W0, W0 = ((w.alloc (.cells #[.int .i64 i1, .int .i64 i2] 24)).alloc (.cells #[.int .i64 b1, .int .i64 b2] 24)).alloc (.cells #[.int .i64 p1, .int .i64 p2] 24) := ⟨_, rfl⟩
  have hB0 : Below w.heap.size w W0 := by rw [hW0]; exact ((((Below.refl _ w).alloc (Nat.le_refl _) _).alloc (by simp) _).alloc (by simp; omega) _)
  have hsz : W0.heap.size = w.heap.size + 3 := by rw [hW0]; simp
  have q0 : W0.heap[w.heap.size]? = some (.cells #[.int .i64 i1, .int .i64 i2] 24 (0, 0)) := by
    rw [hW0]
    exact (Below.heap_alloc _ _ _ (by simp; omega)).trans ((Below.heap_alloc _ _ _ (by simp)).trans (World.alloc_heap_new w _))
  have q1 : W0.heap[w.heap.size + 1]? = some (.cells #[.int .i64 b1, .int .i64 b2] 24 (0, 0)) := by
    rw [hW0]
    have := World.alloc_heap_new (w.alloc (.cells #[.int .i64 i1, .int .i64 i2] 24)) (.cells #[.int .i64 b1, .int .i64 b2] 24)
    rw [World.size_alloc] at this
    exact (Below.heap_alloc _ _ _ (by simp)).trans this
  have q2 : W0.heap[w.heap.size + 2]? = some (.cells #[.int .i64 p1, .int .i64 p2] 24 (0, 0)) := by
    rw [hW0]
    have := World.alloc_heap_new ((w.alloc (.cells #[.int .i64 i1, .int .i64 i2] 24)).alloc (.cells #[.int .i64 b1, .int .i64 b2] 24)) (.cells #[.int .i64 p1, .int .i64 p2] 24)
    rw [World.size_alloc, World.size_alloc] at this
    exact this
  have htb := h.tb
  unfold TB at htb
  have htw := (Array.getElem?_eq_some_iff.1 htb).1
  have HC : Hid (∀ V, Below W0.heap.size W0 V → V.cell? ⟨t, 1, none⟩ = some fd ∧ V.cell? ⟨w.heap.size, 0, none⟩ = some (.int .i64 i1) ∧ V.cell? ⟨w.heap.size, 1, none⟩ = some (.int .i64 i2) ∧ V.cell? ⟨w.heap.size + 1, 0, none⟩ = some (.int .i64 b1) ∧ V.cell? ⟨w.heap.size + 1, 1, none⟩ = some (.int .i64 b2) ∧ V.cell? ⟨w.heap.size + 2, 0, none⟩ = some (.int .i64 p1) ∧ V.cell? ⟨w.heap.size + 2, 1, none⟩ = some (.int .i64 p2)) := hid (fun V hV => by
    have e0 := (hV.block _ (by omega)).trans q0
    have e1 := (hV.block _ (by omega)).trans q1
    have e2 := (hV.block _ (by omega)).trans q2
    have e3 := (hV.block t (by omega)).trans ((hB0.block t htw).trans htb)
    exact ⟨by simp [World.cell?, e3], by simp [World.cell?, e0], by simp [World.cell?, e0], by simp [World.cell?, e1], by simp [World.cell?, e1], by simp [World.cell?, e2], by simp [World.cell?, e2]⟩)
  have HM1 : Calls Try.prog 30 #[.agg #[.int .i64 i1, .int .i64 i2]] W0 fun e w' => e = .returned (.bool true) ∧ Hid (Below W0.heap.size W0 w') := by
    have := may10_any (i1, i2) W0
    rw [h1] at this
    exact this.mono (fun e w' h => ⟨h.1, hid h.2⟩)
  have HM2 : Hid (∀ V, Below W0.heap.size W0 V → Calls Try.prog 30 #[.agg #[.int .i64 b1, .int .i64 b2]] V fun e w' => e = .returned (.bool false) ∧ Hid (Below W0.heap.size W0 w')) := hid (fun V hV => by
    have := may10_any (b1, b2) V
    rw [h2] at this
    exact this.mono (fun e w' h => ⟨h.1, hid (hV.trans (h.2.mono hV.size))⟩))
  have HW := hid hW0
  have HB0 := hid hB0
  have hsz' := hid hsz
  clear hW0 hB0 hsz q0 q1 q2 htb htw h h1 h2
  go_enter Try.func12, Try.ntmps12
  go_wp2_with (first | (have hq := HB1; go_at_call 30; refine (HM2.out _ HB1.out).mono ?_; rintro e W2 ⟨rfl, HB2⟩; obtain ⟨k0, k1, k2, k3, k4, k5, k6⟩ := HC.out _ HB2.out) | (go_at_call 30; rw [← HW.out]; refine HM1.mono ?_; rintro e W1 ⟨rfl, HB1⟩; obtain ⟨j0, j1, j2, j3, j4, j5, j6⟩ := HC.out _ HB1.out))
  go_ret
  exact ⟨rfl, HB0.out.trans (HB2.out.mono HB0.out.size)⟩

set_option maxRecDepth 100000 in
set_option maxHeartbeats 4000000 in
/-- The identity was there. -/
theorem move_twice (w : World) (l : List Mv) (k : Nat) (gs : List Nat) (S : List Sp) (lg fd pl kd : Value) (fl : List (Mv × Nat)) (B A : Nat → Prop) (t : Nat) (i1 i2 tm b1 b2 p1 p2 : Int) (ky : ByteArray) (h : TR w t l k gs S lg fd pl kd fl B A) (h1 : mayT (i1, i2) = true) (h2 : mayT (b1, b2) = true) (g : Nat) (hlk : ∀ V : World, (∀ j, A j → V.heap[j]? = w.heap[j]?) → (Instr.lookup 62 fd (dv (i1, i2)) false).run Try.prog V = .ok (.pointer (some ⟨g, 0, none⟩)) V) :
    Calls Try.prog 12 #[.pointer (some ⟨t, 0, none⟩), .agg #[.int .i64 i1, .int .i64 i2], .int .i64 tm, .agg #[.int .i64 b1, .int .i64 b2], .agg #[.int .i64 p1, .int .i64 p2], .string ky] w fun e w' => e = .returned (.int .i64 32) ∧ Below w.heap.size w w' := by
  have hmxo : Try.prog.follows .mixedOrders = true := by kernel_rfl
  obtain ⟨W0, hW0⟩ : ∃ W0, W0 = ((w.alloc (.cells #[.int .i64 i1, .int .i64 i2] 24)).alloc (.cells #[.int .i64 b1, .int .i64 b2] 24)).alloc (.cells #[.int .i64 p1, .int .i64 p2] 24) := ⟨_, rfl⟩
  have hB0 : Below w.heap.size w W0 := by rw [hW0]; exact ((((Below.refl _ w).alloc (Nat.le_refl _) _).alloc (by simp) _).alloc (by simp; omega) _)
  have hsz : W0.heap.size = w.heap.size + 3 := by rw [hW0]; simp
  have q0 : W0.heap[w.heap.size]? = some (.cells #[.int .i64 i1, .int .i64 i2] 24 (0, 0)) := by
    rw [hW0]
    exact (Below.heap_alloc _ _ _ (by simp; omega)).trans ((Below.heap_alloc _ _ _ (by simp)).trans (World.alloc_heap_new w _))
  have q1 : W0.heap[w.heap.size + 1]? = some (.cells #[.int .i64 b1, .int .i64 b2] 24 (0, 0)) := by
    rw [hW0]
    have := World.alloc_heap_new (w.alloc (.cells #[.int .i64 i1, .int .i64 i2] 24)) (.cells #[.int .i64 b1, .int .i64 b2] 24)
    rw [World.size_alloc] at this
    exact (Below.heap_alloc _ _ _ (by simp)).trans this
  have q2 : W0.heap[w.heap.size + 2]? = some (.cells #[.int .i64 p1, .int .i64 p2] 24 (0, 0)) := by
    rw [hW0]
    have := World.alloc_heap_new ((w.alloc (.cells #[.int .i64 i1, .int .i64 i2] 24)).alloc (.cells #[.int .i64 b1, .int .i64 b2] 24)) (.cells #[.int .i64 p1, .int .i64 p2] 24)
    rw [World.size_alloc, World.size_alloc] at this
    exact this
  have htb := h.tb
  unfold TB at htb
  have htw := (Array.getElem?_eq_some_iff.1 htb).1
  have HC : Hid (∀ V, Below W0.heap.size W0 V → V.cell? ⟨t, 1, none⟩ = some fd ∧ V.cell? ⟨w.heap.size, 0, none⟩ = some (.int .i64 i1) ∧ V.cell? ⟨w.heap.size, 1, none⟩ = some (.int .i64 i2) ∧ V.cell? ⟨w.heap.size + 1, 0, none⟩ = some (.int .i64 b1) ∧ V.cell? ⟨w.heap.size + 1, 1, none⟩ = some (.int .i64 b2) ∧ V.cell? ⟨w.heap.size + 2, 0, none⟩ = some (.int .i64 p1) ∧ V.cell? ⟨w.heap.size + 2, 1, none⟩ = some (.int .i64 p2)) := hid (fun V hV => by
    have e0 := (hV.block _ (by omega)).trans q0
    have e1 := (hV.block _ (by omega)).trans q1
    have e2 := (hV.block _ (by omega)).trans q2
    have e3 := (hV.block t (by omega)).trans ((hB0.block t htw).trans htb)
    exact ⟨by simp [World.cell?, e3], by simp [World.cell?, e0], by simp [World.cell?, e0], by simp [World.cell?, e1], by simp [World.cell?, e1], by simp [World.cell?, e2], by simp [World.cell?, e2]⟩)
  have HM1 : Calls Try.prog 30 #[.agg #[.int .i64 i1, .int .i64 i2]] W0 fun e w' => e = .returned (.bool true) ∧ Hid (Below W0.heap.size W0 w') := by
    have := may10_any (i1, i2) W0
    rw [h1] at this
    exact this.mono (fun e w' h => ⟨h.1, hid h.2⟩)
  have HM2 : Hid (∀ V, Below W0.heap.size W0 V → Calls Try.prog 30 #[.agg #[.int .i64 b1, .int .i64 b2]] V fun e w' => e = .returned (.bool true) ∧ Hid (Below W0.heap.size W0 w')) := hid (fun V hV => by
    have := may10_any (b1, b2) V
    rw [h2] at this
    exact this.mono (fun e w' h => ⟨h.1, hid (hV.trans (h.2.mono hV.size))⟩))
  have HL : Hid (∀ V, Below W0.heap.size W0 V → (Instr.lookup 62 fd (.agg #[.int .i64 i1, .int .i64 i2]) false).run Try.prog V.drew = .ok (.pointer (some ⟨g, 0, none⟩)) V.drew) := hid (fun V hV => hlk V.drew (fun j hj => (hV.block j (by have := h.as_ j hj; omega)).trans (hB0.block j (h.as_ j hj))))
  have HW := hid hW0
  have HB0 := hid hB0
  have hsz' := hid hsz
  clear hW0 hB0 hsz q0 q1 q2 htb htw h h1 h2 hlk
  go_enter Try.func12, Try.ntmps12
  go_wp2_with (first | (have hq := HB1; go_at_call 30; refine (HM2.out _ HB1.out).mono ?_; rintro e W2 ⟨rfl, HB2⟩; obtain ⟨k0, k1, k2, k3, k4, k5, k6⟩ := HC.out _ HB2.out) | (go_at_call 30; rw [← HW.out]; refine HM1.mono ?_; rintro e W1 ⟨rfl, HB1⟩; obtain ⟨j0, j1, j2, j3, j4, j5, j6⟩ := HC.out _ HB1.out))
  have hS3 : W2.drew.cell? ⟨t, 1, none⟩ = some fd ∧ W2.drew.cell? ⟨w.heap.size, 0, none⟩ = some (.int .i64 i1) ∧ W2.drew.cell? ⟨w.heap.size, 1, none⟩ = some (.int .i64 i2) ∧ (Instr.lookup 62 fd (.agg #[.int .i64 i1, .int .i64 i2]) false).run Try.prog W2.drew = .ok (.pointer (some ⟨g, 0, none⟩)) W2.drew := ⟨k0, k1, k2, HL.out _ HB2.out⟩
  refine wp_region_held_drew (S := fun w' => w'.cell? ⟨t, 1, none⟩ = some fd ∧ w'.cell? ⟨w.heap.size, 0, none⟩ = some (.int .i64 i1) ∧ w'.cell? ⟨w.heap.size, 1, none⟩ = some (.int .i64 i2) ∧ (Instr.lookup 62 fd (.agg #[.int .i64 i1, .int .i64 i2]) false).run Try.prog w' = .ok (.pointer (some ⟨g, 0, none⟩)) w') hmxo hS3 ?_
  intro _
  refine wpAnyH_take (i := 0) (v := .pointer (some ⟨t, 0, none⟩)) rfl (by kernel_rfl) (by kernel_rfl) (by kernel_rfl) (fun _ _ _ h => h) (Or.inl ⟨by kernel_rfl, fun w hSw => ?_⟩) hS3 ?_
  · obtain ⟨e1, e2, e3, e4⟩ := hSw; go_simp
  simp only [Act.put, List.getElem_toArray, List.getElem_cons_succ, List.getElem_cons_zero, List.setIfInBounds_toArray, List.set_cons_zero, List.set_cons_succ]
  refine wpAnyH_take (i := 1) (v := .pointer (some ⟨t, 0, none⟩)) rfl (by kernel_rfl) (by kernel_rfl) (by kernel_rfl) (fun _ _ _ h => h) (Or.inl ⟨by kernel_rfl, fun w hSw => ?_⟩) hS3 ?_
  · obtain ⟨e1, e2, e3, e4⟩ := hSw; go_simp
  simp only [Act.put, List.getElem_toArray, List.getElem_cons_succ, List.getElem_cons_zero, List.setIfInBounds_toArray, List.set_cons_zero, List.set_cons_succ]
  refine wpAnyH_take (i := 2) (v := .pointer (some ⟨t, 1, none⟩)) rfl (by kernel_rfl) (by kernel_rfl) (by kernel_rfl) (fun _ _ _ h => h) (Or.inl ⟨by kernel_rfl, fun w hSw => ?_⟩) hS3 ?_
  · obtain ⟨e1, e2, e3, e4⟩ := hSw; go_simp
  simp only [Act.put, List.getElem_toArray, List.getElem_cons_succ, List.getElem_cons_zero, List.setIfInBounds_toArray, List.set_cons_zero, List.set_cons_succ]
  refine wpAnyH_take (i := 3) (v := fd) rfl (by kernel_rfl) (by kernel_rfl) (by kernel_rfl) (fun _ _ _ h => h) (Or.inl ⟨by kernel_rfl, fun w hSw => ?_⟩) hS3 ?_
  · obtain ⟨e1, e2, e3, e4⟩ := hSw; go_simp
  simp only [Act.put, List.getElem_toArray, List.getElem_cons_succ, List.getElem_cons_zero, List.setIfInBounds_toArray, List.set_cons_zero, List.set_cons_succ]
  refine wpAnyH_take (i := 4) (v := .agg #[.int .i64 i1, .int .i64 i2]) rfl (by kernel_rfl) (by kernel_rfl) (by kernel_rfl) (fun _ _ _ h => h) (Or.inl ⟨by kernel_rfl, fun w hSw => ?_⟩) hS3 ?_
  · obtain ⟨e1, e2, e3, e4⟩ := hSw; go_simp
  simp only [Act.put, List.getElem_toArray, List.getElem_cons_succ, List.getElem_cons_zero, List.setIfInBounds_toArray, List.set_cons_zero, List.set_cons_succ]
  refine wpAnyH_take (i := 5) (v := .pointer (some ⟨g, 0, none⟩)) rfl (by kernel_rfl) (by kernel_rfl) (by kernel_rfl) (fun _ _ _ h => h) (Or.inl ⟨by kernel_rfl, fun w hSw => ?_⟩) hS3 ?_
  · obtain ⟨e1, e2, e3, e4⟩ := hSw; go_simp
  simp only [Act.put, List.getElem_toArray, List.getElem_cons_succ, List.getElem_cons_zero, List.setIfInBounds_toArray, List.set_cons_zero, List.set_cons_succ]
  refine wpAnyH_take (i := 6) (v := .bool true) rfl (by kernel_rfl) (by kernel_rfl) (by kernel_rfl) (fun _ _ _ h => h) (Or.inl ⟨by kernel_rfl, fun w hSw => ?_⟩) hS3 ?_
  · obtain ⟨e1, e2, e3, e4⟩ := hSw; go_simp
  simp only [Act.put, List.getElem_toArray, List.getElem_cons_succ, List.getElem_cons_zero, List.setIfInBounds_toArray, List.set_cons_zero, List.set_cons_succ]
  refine wpAnyH_done (by kernel_rfl) ?_ _
  clear hS3
  go_wp2
  go_ret
  exact ⟨rfl, HB0.out.trans ((HB2.out.mono HB0.out.size).drew)⟩

set_option maxRecDepth 100000 in
set_option maxHeartbeats 4000000 in
/-- It is put into the log. -/
theorem move_ok (w : World) (l : List Mv) (k : Nat) (gs : List Nat) (S : List Sp) (lg fd pl kd : Value) (fl : List (Mv × Nat)) (B A : Nat → Prop) (t : Nat) (i1 i2 tm b1 b2 p1 p2 : Int) (ky : ByteArray) (h : TR w t l k gs S lg fd pl kd fl B A) (h1 : mayT (i1, i2) = true) (h2 : mayT (b1, b2) = true) (hlk : ∀ V : World, (∀ j, A j → V.heap[j]? = w.heap[j]?) → (Instr.lookup 62 fd (dv (i1, i2)) false).run Try.prog V = .ok (.pointer none) V) (hf : ∀ x ∈ l, x.id ≠ (i1, i2)) (hfl : ∀ x ∈ fl, x.1.id ≠ (i1, i2)) (hd : Dw (i1, i2) ∧ Dw (b1, b2) ∧ Dw (p1, p2)) (hs : l.length + 1 ≤ 1000) (hs' : fl.length ≤ 1000) :
    Calls Try.prog 12 #[.pointer (some ⟨t, 0, none⟩), .agg #[.int .i64 i1, .int .i64 i2], .int .i64 tm, .agg #[.int .i64 b1, .int .i64 b2], .agg #[.int .i64 p1, .int .i64 p2], .string ky] w fun e w' => e = .returned (.int .i64 0) ∧ ∃ ge k S lg fd pl kd B A', TR w' t (insL mvl l (⟨(i1, i2), tm, (b1, b2), (p1, p2), ky⟩ : Mv)) k (insG l gs (⟨(i1, i2), tm, (b1, b2), (p1, p2), ky⟩ : Mv) ge) S lg fd pl kd (fl ++ [((⟨(i1, i2), tm, (b1, b2), (p1, p2), ky⟩ : Mv), ge)]) B A' ∧ KA w w' A A' := by
  have hmxo : Try.prog.follows .mixedOrders = true := by kernel_rfl
  obtain ⟨W0, hW0⟩ : ∃ W0, W0 = ((w.alloc (.cells #[.int .i64 i1, .int .i64 i2] 24)).alloc (.cells #[.int .i64 b1, .int .i64 b2] 24)).alloc (.cells #[.int .i64 p1, .int .i64 p2] 24) := ⟨_, rfl⟩
  have hB0 : Below w.heap.size w W0 := by rw [hW0]; exact ((((Below.refl _ w).alloc (Nat.le_refl _) _).alloc (by simp) _).alloc (by simp; omega) _)
  have hsz : W0.heap.size = w.heap.size + 3 := by rw [hW0]; simp
  have q0 : W0.heap[w.heap.size]? = some (.cells #[.int .i64 i1, .int .i64 i2] 24 (0, 0)) := by
    rw [hW0]
    exact (Below.heap_alloc _ _ _ (by simp; omega)).trans ((Below.heap_alloc _ _ _ (by simp)).trans (World.alloc_heap_new w _))
  have q1 : W0.heap[w.heap.size + 1]? = some (.cells #[.int .i64 b1, .int .i64 b2] 24 (0, 0)) := by
    rw [hW0]
    have := World.alloc_heap_new (w.alloc (.cells #[.int .i64 i1, .int .i64 i2] 24)) (.cells #[.int .i64 b1, .int .i64 b2] 24)
    rw [World.size_alloc] at this
    exact (Below.heap_alloc _ _ _ (by simp)).trans this
  have q2 : W0.heap[w.heap.size + 2]? = some (.cells #[.int .i64 p1, .int .i64 p2] 24 (0, 0)) := by
    rw [hW0]
    have := World.alloc_heap_new ((w.alloc (.cells #[.int .i64 i1, .int .i64 i2] 24)).alloc (.cells #[.int .i64 b1, .int .i64 b2] 24)) (.cells #[.int .i64 p1, .int .i64 p2] 24)
    rw [World.size_alloc, World.size_alloc] at this
    exact this
  have htb := h.tb
  unfold TB at htb
  have htw := (Array.getElem?_eq_some_iff.1 htb).1
  have HC : Hid (∀ V, Below W0.heap.size W0 V → V.cell? ⟨t, 1, none⟩ = some fd ∧ V.cell? ⟨w.heap.size, 0, none⟩ = some (.int .i64 i1) ∧ V.cell? ⟨w.heap.size, 1, none⟩ = some (.int .i64 i2) ∧ V.cell? ⟨w.heap.size + 1, 0, none⟩ = some (.int .i64 b1) ∧ V.cell? ⟨w.heap.size + 1, 1, none⟩ = some (.int .i64 b2) ∧ V.cell? ⟨w.heap.size + 2, 0, none⟩ = some (.int .i64 p1) ∧ V.cell? ⟨w.heap.size + 2, 1, none⟩ = some (.int .i64 p2)) := hid (fun V hV => by
    have e0 := (hV.block _ (by omega)).trans q0
    have e1 := (hV.block _ (by omega)).trans q1
    have e2 := (hV.block _ (by omega)).trans q2
    have e3 := (hV.block t (by omega)).trans ((hB0.block t htw).trans htb)
    exact ⟨by simp [World.cell?, e3], by simp [World.cell?, e0], by simp [World.cell?, e0], by simp [World.cell?, e1], by simp [World.cell?, e1], by simp [World.cell?, e2], by simp [World.cell?, e2]⟩)
  have HM1 : Calls Try.prog 30 #[.agg #[.int .i64 i1, .int .i64 i2]] W0 fun e w' => e = .returned (.bool true) ∧ Hid (Below W0.heap.size W0 w') := by
    have := may10_any (i1, i2) W0
    rw [h1] at this
    exact this.mono (fun e w' h => ⟨h.1, hid h.2⟩)
  have HM2 : Hid (∀ V, Below W0.heap.size W0 V → Calls Try.prog 30 #[.agg #[.int .i64 b1, .int .i64 b2]] V fun e w' => e = .returned (.bool true) ∧ Hid (Below W0.heap.size W0 w')) := hid (fun V hV => by
    have := may10_any (b1, b2) V
    rw [h2] at this
    exact this.mono (fun e w' h => ⟨h.1, hid (hV.trans (h.2.mono hV.size))⟩))
  have HL : Hid (∀ V, Below W0.heap.size W0 V → (Instr.lookup 62 fd (.agg #[.int .i64 i1, .int .i64 i2]) false).run Try.prog V.drew = .ok (.pointer none) V.drew) := hid (fun V hV => hlk V.drew (fun j hj => (hV.block j (by have := h.as_ j hj; omega)).trans (hB0.block j (h.as_ j hj))))
  have HP : Hid (∀ V, Below W0.heap.size W0 V → Calls Try.prog 31 #[.pointer (some ⟨t, 0, none⟩), .pointer (some ⟨V.heap.size, 0, none⟩)] (V.alloc (.cells #[.int .i64 i1, .int .i64 i2, .int .i64 tm, .int .i64 b1, .int .i64 b2, .int .i64 p1, .int .i64 p2, .string ky, .bool false, .int .i64 0, .int .i64 0, .string ⟨#[]⟩] 78)).drew fun e w' => e = .returned (.tuple #[]) ∧ Hid (∃ ge k S lg fd pl kd B A', TR w' t (insL mvl l (⟨(i1, i2), tm, (b1, b2), (p1, p2), ky⟩ : Mv)) k (insG l gs (⟨(i1, i2), tm, (b1, b2), (p1, p2), ky⟩ : Mv) ge) S lg fd pl kd (fl ++ [((⟨(i1, i2), tm, (b1, b2), (p1, p2), ky⟩ : Mv), ge)]) B A' ∧ KA w w' A A')) := hid (fun V hV => by
    obtain ⟨W3, hW3⟩ : ∃ W3, W3 = (V.alloc (.cells #[.int .i64 i1, .int .i64 i2, .int .i64 tm, .int .i64 b1, .int .i64 b2, .int .i64 p1, .int .i64 p2, .string ky, .bool false, .int .i64 0, .int .i64 0, .string ⟨#[]⟩] 78)).drew := ⟨_, rfl⟩
    have hk3 : ∀ j, j < w.heap.size → W3.heap[j]? = w.heap[j]? := fun j hj => by
      rw [hW3]
      exact (Below.heap_alloc V _ j (by have := hV.size; omega)).trans ((hV.block j (by omega)).trans (hB0.block j hj))
    have hz3 : w.heap.size ≤ W3.heap.size := by rw [hW3]; show _ ≤ (V.alloc _).heap.size; rw [World.size_alloc]; have := hV.size; omega
    have hE3 : EN W3 V.heap.size (⟨(i1, i2), tm, (b1, b2), (p1, p2), ky⟩ : Mv) false pl0 := by rw [hW3]; exact World.alloc_heap_new V _
    have hT3 := h.same (w' := W3) hz3 (fun j hj => hk3 j (h.as_ j hj))
    have hn3 : ¬ A V.heap.size := fun e => by have := h.as_ _ e; have := hV.size; omega
    rw [← hW3]
    refine (put_any t l k gs S lg fd pl kd fl B A V.heap.size (⟨(i1, i2), tm, (b1, b2), (p1, p2), ky⟩ : Mv) W3 hT3 hE3 hn3 hf hfl (mayT_yes h2) (mayT_yes h1) hd hs hs').mono ?_
    rintro e w' ⟨e1, k', S', lg', fd', pl', kd', B', A', h5, h6⟩
    refine ⟨e1, hid ⟨V.heap.size, k', S', lg', fd', pl', kd', B', A', h5, Nat.le_trans hz3 h6.size, fun j hj hA => (h6.keep j (by omega) (fun e => ?_)).trans (hk3 j hj), fun j hj => ?_, (Sm.b hB0).trans ((Sm.b hV).trans (Sm.trans (by rw [hW3]; exact ⟨rfl, rfl, rfl⟩) h6.sm))⟩⟩
    · rcases e with e | e
      · exact hA e
      · have := hV.size; omega
    · rcases h6.new j hj with (e | e) | e
      · exact Or.inl e
      · exact Or.inr (by have := hV.size; omega)
      · exact Or.inr (by omega))
  have HW := hid hW0
  have hsz' := hid hsz
  clear hW0 hB0 hsz q0 q1 q2 htb htw h h1 h2 hlk hf hfl hd hs hs'
  go_enter Try.func12, Try.ntmps12
  go_wp2_with (first | (have hq := HB1; go_at_call 30; refine (HM2.out _ HB1.out).mono ?_; rintro e W2 ⟨rfl, HB2⟩; obtain ⟨k0, k1, k2, k3, k4, k5, k6⟩ := HC.out _ HB2.out) | (go_at_call 30; rw [← HW.out]; refine HM1.mono ?_; rintro e W1 ⟨rfl, HB1⟩; obtain ⟨j0, j1, j2, j3, j4, j5, j6⟩ := HC.out _ HB1.out))
  have hS3 : W2.drew.cell? ⟨t, 1, none⟩ = some fd ∧ W2.drew.cell? ⟨w.heap.size, 0, none⟩ = some (.int .i64 i1) ∧ W2.drew.cell? ⟨w.heap.size, 1, none⟩ = some (.int .i64 i2) ∧ (Instr.lookup 62 fd (.agg #[.int .i64 i1, .int .i64 i2]) false).run Try.prog W2.drew = .ok (.pointer none) W2.drew := ⟨k0, k1, k2, HL.out _ HB2.out⟩
  refine wp_region_held_drew (S := fun w' => w'.cell? ⟨t, 1, none⟩ = some fd ∧ w'.cell? ⟨w.heap.size, 0, none⟩ = some (.int .i64 i1) ∧ w'.cell? ⟨w.heap.size, 1, none⟩ = some (.int .i64 i2) ∧ (Instr.lookup 62 fd (.agg #[.int .i64 i1, .int .i64 i2]) false).run Try.prog w' = .ok (.pointer none) w') hmxo hS3 ?_
  intro _
  refine wpAnyH_take (i := 0) (v := .pointer (some ⟨t, 0, none⟩)) rfl (by kernel_rfl) (by kernel_rfl) (by kernel_rfl) (fun _ _ _ h => h) (Or.inl ⟨by kernel_rfl, fun w hSw => ?_⟩) hS3 ?_
  · obtain ⟨e1, e2, e3, e4⟩ := hSw; go_simp
  simp only [Act.put, List.getElem_toArray, List.getElem_cons_succ, List.getElem_cons_zero, List.setIfInBounds_toArray, List.set_cons_zero, List.set_cons_succ]
  refine wpAnyH_take (i := 1) (v := .pointer (some ⟨t, 0, none⟩)) rfl (by kernel_rfl) (by kernel_rfl) (by kernel_rfl) (fun _ _ _ h => h) (Or.inl ⟨by kernel_rfl, fun w hSw => ?_⟩) hS3 ?_
  · obtain ⟨e1, e2, e3, e4⟩ := hSw; go_simp
  simp only [Act.put, List.getElem_toArray, List.getElem_cons_succ, List.getElem_cons_zero, List.setIfInBounds_toArray, List.set_cons_zero, List.set_cons_succ]
  refine wpAnyH_take (i := 2) (v := .pointer (some ⟨t, 1, none⟩)) rfl (by kernel_rfl) (by kernel_rfl) (by kernel_rfl) (fun _ _ _ h => h) (Or.inl ⟨by kernel_rfl, fun w hSw => ?_⟩) hS3 ?_
  · obtain ⟨e1, e2, e3, e4⟩ := hSw; go_simp
  simp only [Act.put, List.getElem_toArray, List.getElem_cons_succ, List.getElem_cons_zero, List.setIfInBounds_toArray, List.set_cons_zero, List.set_cons_succ]
  refine wpAnyH_take (i := 3) (v := fd) rfl (by kernel_rfl) (by kernel_rfl) (by kernel_rfl) (fun _ _ _ h => h) (Or.inl ⟨by kernel_rfl, fun w hSw => ?_⟩) hS3 ?_
  · obtain ⟨e1, e2, e3, e4⟩ := hSw; go_simp
  simp only [Act.put, List.getElem_toArray, List.getElem_cons_succ, List.getElem_cons_zero, List.setIfInBounds_toArray, List.set_cons_zero, List.set_cons_succ]
  refine wpAnyH_take (i := 4) (v := .agg #[.int .i64 i1, .int .i64 i2]) rfl (by kernel_rfl) (by kernel_rfl) (by kernel_rfl) (fun _ _ _ h => h) (Or.inl ⟨by kernel_rfl, fun w hSw => ?_⟩) hS3 ?_
  · obtain ⟨e1, e2, e3, e4⟩ := hSw; go_simp
  simp only [Act.put, List.getElem_toArray, List.getElem_cons_succ, List.getElem_cons_zero, List.setIfInBounds_toArray, List.set_cons_zero, List.set_cons_succ]
  refine wpAnyH_take (i := 5) (v := .pointer none) rfl (by kernel_rfl) (by kernel_rfl) (by kernel_rfl) (fun _ _ _ h => h) (Or.inl ⟨by kernel_rfl, fun w hSw => ?_⟩) hS3 ?_
  · obtain ⟨e1, e2, e3, e4⟩ := hSw; go_simp
  simp only [Act.put, List.getElem_toArray, List.getElem_cons_succ, List.getElem_cons_zero, List.setIfInBounds_toArray, List.set_cons_zero, List.set_cons_succ]
  refine wpAnyH_take (i := 6) (v := .bool false) rfl (by kernel_rfl) (by kernel_rfl) (by kernel_rfl) (fun _ _ _ h => h) (Or.inl ⟨by kernel_rfl, fun w hSw => ?_⟩) hS3 ?_
  · obtain ⟨e1, e2, e3, e4⟩ := hSw; go_simp
  simp only [Act.put, List.getElem_toArray, List.getElem_cons_succ, List.getElem_cons_zero, List.setIfInBounds_toArray, List.set_cons_zero, List.set_cons_succ]
  refine wpAnyH_done (by kernel_rfl) ?_ _
  clear hS3
  go_wp2_with (go_at_call 31; refine (HP.out _ HB2.out).mono ?_; rintro e W3 ⟨rfl, HF⟩)
  go_ret
  exact ⟨rfl, HF.out⟩

/-- Move, in one form. -/
theorem move_any (t : Nat) (l : List Mv) (A : Nat → Prop) (m : Mv) (w : World) (h : TT w t l A) (hd : Dw m.id ∧ Dw m.block ∧ Dw m.parent) (hs : l.length + 1 ≤ 1000) :
    Calls Try.prog 12 #[.pointer (some ⟨t, 0, none⟩), dv m.id, .int .i64 m.time, dv m.block, dv m.parent, .string m.key] w fun e w' => e = .returned (.int .i64 (mvE l m)) ∧ ∃ A', TT w' t (mvL l m) A' ∧ KA w w' A A' := by
  obtain ⟨⟨i1, i2⟩, tm, ⟨b1, b2⟩, ⟨p1, p2⟩, ky⟩ := m
  have hTT := h
  obtain ⟨k, gs, S, lg, fd, pl, kd, fl, B, h1, h2, h3, h4⟩ := h
  have no : ∀ w', mvE l (⟨(i1, i2), tm, (b1, b2), (p1, p2), ky⟩ : Mv) ≠ 0 → Below w.heap.size w w' → ∃ A', TT w' t (mvL l (⟨(i1, i2), tm, (b1, b2), (p1, p2), ky⟩ : Mv)) A' ∧ KA w w' A A' := fun w' hne hb => by
    unfold mvL
    rw [if_neg hne]
    exact ⟨A, hTT.below hb, KA.below hb⟩
  by_cases hi : mayT (i1, i2) = true
  · by_cases hb : mayT (b1, b2) = true
    · rcases TT.look h1 h3 h4 hd.1 with ⟨hn, hlk⟩ | ⟨i, g, x, e1, e2, e3, hlk⟩
      · have hE : mvE l (⟨(i1, i2), tm, (b1, b2), (p1, p2), ky⟩ : Mv) = 0 := mvE_ok hi hb hn
        have hL : mvL l (⟨(i1, i2), tm, (b1, b2), (p1, p2), ky⟩ : Mv) = insL mvl l (⟨(i1, i2), tm, (b1, b2), (p1, p2), ky⟩ : Mv) := by unfold mvL; rw [if_pos hE]
        rw [hE, hL]
        refine (move_ok w l k gs S lg fd pl kd fl B A t i1 i2 tm b1 b2 p1 p2 ky h1 hi hb hlk hn (fun x hx => ?_) hd hs (by omega)).mono ?_
        · obtain ⟨i, _, e2⟩ := h4 x hx
          exact hn _ (List.mem_of_getElem? e2)
        · rintro e w' ⟨e1, ge, k', S', lg', fd', pl', kd', B', A', h5, h6⟩
          obtain ⟨h7, h8⟩ := fl_ins (m := (⟨(i1, i2), tm, (b1, b2), (p1, p2), ky⟩ : Mv)) (ge := ge) h1.len h3 h4
          exact ⟨e1, A', ⟨k', _, S', lg', fd', pl', kd', _, B', h5, by rw [List.length_append, ins_len, h2]; rfl, h7, h8⟩, h6⟩
      · have hE : mvE l (⟨(i1, i2), tm, (b1, b2), (p1, p2), ky⟩ : Mv) = 32 := mvE_twice hi hb (List.mem_of_getElem? e2) e3
        refine (move_twice w l k gs S lg fd pl kd fl B A t i1 i2 tm b1 b2 p1 p2 ky h1 hi hb g hlk).mono ?_
        rintro e w' ⟨e1, e2⟩
        exact ⟨by rw [hE]; exact e1, no w' (by omega) e2⟩
    · have hb' : mayT (b1, b2) = false := by simpa using hb
      have hE : mvE l (⟨(i1, i2), tm, (b1, b2), (p1, p2), ky⟩ : Mv) = 1 := mvE_no (Or.inr hb')
      refine (move_no2 w l k gs S lg fd pl kd fl B A t i1 i2 tm b1 b2 p1 p2 ky h1 hi hb').mono ?_
      rintro e w' ⟨e1, e2⟩
      exact ⟨by rw [hE]; exact e1, no w' (by omega) e2⟩
  · have hi' : mayT (i1, i2) = false := by simpa using hi
    have hE : mvE l (⟨(i1, i2), tm, (b1, b2), (p1, p2), ky⟩ : Mv) = 1 := mvE_no (Or.inl hi')
    refine (move_no1 w l k gs S lg fd pl kd fl B A t i1 i2 tm b1 b2 p1 p2 ky h1 hi').mono ?_
    rintro e w' ⟨e1, e2⟩
    exact ⟨by rw [hE]; exact e1, no w' (by omega) e2⟩
end Go.Proofs.Ytplcohjpchfkkaa
