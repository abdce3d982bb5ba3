/- Parent of a tree that is nil. -/
import Derived.Test.YtplcohjpchfkkaaTrNone
set_option linter.unusedVariables false
set_option linter.unusedSimpArgs false
namespace Go.Proofs.Ytplcohjpchfkkaa
open Go.RowKit

/-- What is known when the place lies in its box. -/
structure ParQN (w ZZ : World) (rs : Nat) (p1 p2 : Int) (ky : ByteArray) : Prop where
  rb : ZZ.heap[rs]? = some (.cells #[.int .i64 p1, .int .i64 p2, .string ky] 74 (0, 0))
  hb : ZZ.heap[w.heap.size + 1]? = some (.cells #[.int .i64 0, .int .i64 0] 24 (0, 0))
  ne : rs ≠ w.heap.size + 1
  bel : Below w.heap.size w ZZ

theorem ParQN.fin {w ZZ : World} {rs : Nat} {p1 p2 : Int} {ky : ByteArray} (h : ParQN w ZZ rs p1 p2 ky) :
    (ZZ.drew.cell? ⟨rs, 0, none⟩ = some (.int .i64 p1) ∧ ZZ.drew.cell? ⟨rs, 1, none⟩ = some (.int .i64 p2) ∧ ZZ.drew.cell? ⟨rs, 2, none⟩ = some (.string ky)) ∧ (((ZZ.setCell ⟨w.heap.size + 1, 0, none⟩ (.int .i64 p1)).setCell ⟨w.heap.size + 1, 1, none⟩ (.int .i64 p2)).drew.cell? ⟨rs, 0, none⟩ = some (.int .i64 p1) ∧ ((ZZ.setCell ⟨w.heap.size + 1, 0, none⟩ (.int .i64 p1)).setCell ⟨w.heap.size + 1, 1, none⟩ (.int .i64 p2)).drew.cell? ⟨rs, 1, none⟩ = some (.int .i64 p2) ∧ ((ZZ.setCell ⟨w.heap.size + 1, 0, none⟩ (.int .i64 p1)).setCell ⟨w.heap.size + 1, 1, none⟩ (.int .i64 p2)).drew.cell? ⟨rs, 2, none⟩ = some (.string ky)) ∧ ZZ.cell? ⟨w.heap.size + 1, 0, none⟩ = some (.int .i64 0) ∧ ZZ.cell? ⟨w.heap.size + 1, 1, none⟩ = some (.int .i64 0) ∧ ZZ.frozen? ⟨w.heap.size + 1, 0, none⟩ = false ∧ ZZ.frozen? ⟨w.heap.size + 1, 1, none⟩ = false ∧ ((ZZ.setCell ⟨w.heap.size + 1, 0, none⟩ (.int .i64 p1)).setCell ⟨w.heap.size + 1, 1, none⟩ (.int .i64 p2)).drew.cell? ⟨w.heap.size + 1, 0, none⟩ = some (.int .i64 p1) ∧ ((ZZ.setCell ⟨w.heap.size + 1, 0, none⟩ (.int .i64 p1)).setCell ⟨w.heap.size + 1, 1, none⟩ (.int .i64 p2)).drew.cell? ⟨w.heap.size + 1, 1, none⟩ = some (.int .i64 p2) ∧ Hid (Below w.heap.size w (((ZZ.setCell ⟨w.heap.size + 1, 0, none⟩ (.int .i64 p1)).setCell ⟨w.heap.size + 1, 1, none⟩ (.int .i64 p2)).drew)) := by
  obtain ⟨hr, hb, hne, hB⟩ := h
  have k : ∀ j, j ≠ w.heap.size + 1 → ((ZZ.setCell ⟨w.heap.size + 1, 0, none⟩ (.int .i64 p1)).setCell ⟨w.heap.size + 1, 1, none⟩ (.int .i64 p2)).drew.heap[j]? = ZZ.heap[j]? := fun j hj => (Below.heap_setCell _ _ _ j (by simpa using hj)).trans (Below.heap_setCell _ _ _ j (by simpa using hj))
  have v1 := set_blk (j := 0) hb (.int .i64 p1)
  have v2 := set_blk (j := 1) v1 (.int .i64 p2)
  have v3 : ((ZZ.setCell ⟨w.heap.size + 1, 0, none⟩ (.int .i64 p1)).setCell ⟨w.heap.size + 1, 1, none⟩ (.int .i64 p2)).drew.heap[w.heap.size + 1]? = _ := v2
  have hd : ZZ.drew.heap[rs]? = _ := hr
  have hz : ZZ.heap.size ≤ ((ZZ.setCell ⟨w.heap.size + 1, 0, none⟩ (.int .i64 p1)).setCell ⟨w.heap.size + 1, 1, none⟩ (.int .i64 p2)).drew.heap.size := by
    show _ ≤ ((ZZ.setCell ⟨w.heap.size + 1, 0, none⟩ (.int .i64 p1)).setCell ⟨w.heap.size + 1, 1, none⟩ (.int .i64 p2)).heap.size
    have a1 := (grownBy_setCell ZZ (w.heap.size + 1) 0 (.int .i64 p1)).size
    have a2 := (grownBy_setCell (ZZ.setCell ⟨w.heap.size + 1, 0, none⟩ (.int .i64 p1)) (w.heap.size + 1) 1 (.int .i64 p2)).size
    omega
  have hr' := (k rs hne).trans hr
  refine ⟨⟨by simp only [World.cell?, hd]; rfl, by simp only [World.cell?, hd]; rfl, by simp only [World.cell?, hd]; rfl⟩, ⟨by simp only [World.cell?, hr']; rfl, by simp only [World.cell?, hr']; rfl, by simp only [World.cell?, hr']; rfl⟩, by simp only [World.cell?, hb]; rfl, by simp only [World.cell?, hb]; rfl, by simp only [World.frozen?, hb]; rfl, by simp only [World.frozen?, hb]; rfl, by simp only [World.cell?, v3]; rfl, by simp only [World.cell?, v3]; rfl, hid ⟨hB.os, hB.tape, hB.output, Nat.le_trans hB.size hz, fun j hj => (k j (by omega)).trans (hB.block j hj)⟩⟩

/-- Behind now. -/
def ParIN (w V W1 : World) (t : Nat) (d1 d2 p1 p2 : Int) (ky : ByteArray) (Bv : Bool) : Prop :=
  ∃ pl, W1.cell? ⟨t, 0, none⟩ = some pl ∧ (Instr.lookup 63 pl (.agg #[.int .i64 d1, .int .i64 d2]) true).run Try.prog W1 = .ok (.tuple #[.agg #[.int .i64 p1, .int .i64 p2, .string ky], .bool Bv]) W1 ∧
    ((W1.alloc (.cells #[.int .i64 0, .int .i64 0, .string ⟨#[]⟩] 74)).cell? ⟨t, 0, none⟩ = some pl ∧ (Instr.lookup 63 pl (.agg #[.int .i64 d1, .int .i64 d2]) true).run Try.prog (W1.alloc (.cells #[.int .i64 0, .int .i64 0, .string ⟨#[]⟩] 74)) = .ok (.tuple #[.agg #[.int .i64 p1, .int .i64 p2, .string ky], .bool Bv]) (W1.alloc (.cells #[.int .i64 0, .int .i64 0, .string ⟨#[]⟩] 74)) ∧ ((W1.alloc (.cells #[.int .i64 0, .int .i64 0, .string ⟨#[]⟩] 74)).cell? ⟨w.heap.size, 0, none⟩ = some (.int .i64 d1) ∧ (W1.alloc (.cells #[.int .i64 0, .int .i64 0, .string ⟨#[]⟩] 74)).cell? ⟨w.heap.size, 1, none⟩ = some (.int .i64 d2)) ∧ ((W1.alloc (.cells #[.int .i64 p1, .int .i64 p2, .string ky] 74)).cell? ⟨w.heap.size, 0, none⟩ = some (.int .i64 d1) ∧ (W1.alloc (.cells #[.int .i64 p1, .int .i64 p2, .string ky] 74)).cell? ⟨w.heap.size, 1, none⟩ = some (.int .i64 d2)) ∧ Hid (ParQN w (W1.alloc (.cells #[.int .i64 p1, .int .i64 p2, .string ky] 74)) W1.heap.size p1 p2 ky)) ∧
    (∀ rs, V.heap[rs]? = some (.cells #[.int .i64 0, .int .i64 0, .string ⟨#[]⟩] 74 (0, 0)) → w.heap.size + 2 ≤ rs → W1.cell? ⟨rs, 0, none⟩ = some (.int .i64 0) ∧ W1.cell? ⟨rs, 1, none⟩ = some (.int .i64 0) ∧ W1.cell? ⟨rs, 2, none⟩ = some (.string ⟨#[]⟩) ∧ W1.frozen? ⟨rs, 0, none⟩ = false ∧ W1.frozen? ⟨rs, 1, none⟩ = false ∧ W1.frozen? ⟨rs, 2, none⟩ = false ∧ ((((W1.setCell ⟨rs, 0, none⟩ (.int .i64 p1)).setCell ⟨rs, 1, none⟩ (.int .i64 p2)).setCell ⟨rs, 2, none⟩ (.string ky)).cell? ⟨w.heap.size, 0, none⟩ = some (.int .i64 d1) ∧ (((W1.setCell ⟨rs, 0, none⟩ (.int .i64 p1)).setCell ⟨rs, 1, none⟩ (.int .i64 p2)).setCell ⟨rs, 2, none⟩ (.string ky)).cell? ⟨w.heap.size, 1, none⟩ = some (.int .i64 d2)) ∧ Hid (ParQN w (((W1.setCell ⟨rs, 0, none⟩ (.int .i64 p1)).setCell ⟨rs, 1, none⟩ (.int .i64 p2)).setCell ⟨rs, 2, none⟩ (.string ky)) rs p1 p2 ky))

theorem par_nowN (t : Nat) (d1 d2 p1 p2 : Int) (ky : ByteArray) (Bv : Bool) (w V : World) (ht : t = V.heap.size) (hd : Dw (d1, d2)) (hq : pl0 = ((p1, p2), ky)) (hBv : Bv = false) (hB : Below w.heap.size w V) (hb0 : V.heap[w.heap.size]? = some (.cells #[.int .i64 d1, .int .i64 d2] 24 (0, 0))) (hb1 : V.heap[w.heap.size + 1]? = some (.cells #[.int .i64 0, .int .i64 0] 24 (0, 0))) :
    Calls Try.prog 39 #[.pointer none] V fun e W1 => e = .returned (.pointer (some ⟨t, 0, none⟩)) ∧ (W1.cell? ⟨w.heap.size, 0, none⟩ = some (.int .i64 d1) ∧ W1.cell? ⟨w.heap.size, 1, none⟩ = some (.int .i64 d2)) ∧ Hid (ParIN w V W1 t d1 d2 p1 p2 ky Bv) := by
  have hl0 := (Array.getElem?_eq_some_iff.1 hb0).1
  have hl1 := (Array.getElem?_eq_some_iff.1 hb1).1
  refine (now_none V).mono (fun e W1 hh => ?_)
  obtain ⟨e1, e2⟩ := hh
  have h5 : Below V.heap.size V W1 := by rw [e2]; exact (Below.refl _ V).alloc (Nat.le_refl _) _
  have hst : W1.heap[t]? = some (.cells #[.map none, .map none] 66 (0, 0)) := by rw [e2, ht]; exact World.alloc_heap_new V _
  have htw := (Array.getElem?_eq_some_iff.1 hst).1
  have hz := h5.size
  have c0 : W1.heap[w.heap.size]? = some (.cells #[.int .i64 d1, .int .i64 d2] 24 (0, 0)) := (h5.block w.heap.size hl0).trans hb0
  have c1 : W1.heap[w.heap.size + 1]? = some (.cells #[.int .i64 0, .int .i64 0] 24 (0, 0)) := (h5.block (w.heap.size + 1) hl1).trans hb1
  have hlook : ∀ W : World, (Instr.lookup 63 (.map none) (.agg #[.int .i64 d1, .int .i64 d2]) true).run Try.prog W = .ok (.tuple #[.agg #[.int .i64 p1, .int .i64 p2, .string ky], .bool Bv]) W := fun W => by
    have := (show PlV W (.map none) [] from Or.inl ⟨rfl, rfl⟩).lookOk (d := (d1, d2)) hd
    have e0 : lk ([] : List Sp) (d1, d2) = none := rfl
    rw [e0, Option.getD_none, Option.isSome_none, hq, ← hBv] at this
    exact this
  have hBw : Below w.heap.size w W1 := hB.trans (h5.mono hB.size)
  have k0 : ∀ (o : Obj) (j : Nat), j < W1.heap.size → (W1.alloc o).heap[j]? = W1.heap[j]? := fun o j hj => Below.heap_alloc W1 o _ hj
  refine ⟨by rw [e1, ht], ⟨by simp [World.cell?, c0], by simp [World.cell?, c0]⟩, hid ⟨.map none, by simp [World.cell?, hst], hlook W1, ⟨by simp only [World.cell?, k0 _ t htw, hst]; rfl, hlook _, ⟨by simp only [World.cell?, k0 _ w.heap.size (by omega), c0]; rfl, by simp only [World.cell?, k0 _ w.heap.size (by omega), c0]; rfl⟩, ⟨by simp only [World.cell?, k0 _ w.heap.size (by omega), c0]; rfl, by simp only [World.cell?, k0 _ w.heap.size (by omega), c0]; rfl⟩, hid ⟨World.alloc_heap_new W1 _, (k0 _ _ (by omega)).trans c1, by omega, hBw.alloc hBw.size _⟩⟩, fun rs hrs hge => ?_⟩⟩
  have hrl := (Array.getElem?_eq_some_iff.1 hrs).1
  have cr : W1.heap[rs]? = _ := (h5.block rs hrl).trans hrs
  have keep : ∀ j, j ≠ rs → (((W1.setCell ⟨rs, 0, none⟩ (.int .i64 p1)).setCell ⟨rs, 1, none⟩ (.int .i64 p2)).setCell ⟨rs, 2, none⟩ (.string ky)).heap[j]? = W1.heap[j]? := fun j hj => (Below.heap_setCell _ _ _ j (by simpa using hj)).trans ((Below.heap_setCell _ _ _ j (by simpa using hj)).trans (Below.heap_setCell _ _ _ j (by simpa using hj)))
  have hz3 : W1.heap.size ≤ (((W1.setCell ⟨rs, 0, none⟩ (.int .i64 p1)).setCell ⟨rs, 1, none⟩ (.int .i64 p2)).setCell ⟨rs, 2, none⟩ (.string ky)).heap.size := (put3_grown W1 rs p1 p2 ky).size
  have hrb : (((W1.setCell ⟨rs, 0, none⟩ (.int .i64 p1)).setCell ⟨rs, 1, none⟩ (.int .i64 p2)).setCell ⟨rs, 2, none⟩ (.string ky)).heap[rs]? = some (.cells #[.int .i64 p1, .int .i64 p2, .string ky] 74 (0, 0)) := put3_block cr
  have c0' := (keep w.heap.size (by omega)).trans c0
  refine ⟨by simp [World.cell?, cr], by simp [World.cell?, cr], by simp [World.cell?, cr], by simp [World.frozen?, cr], by simp [World.frozen?, cr], by simp [World.frozen?, cr], ⟨by simp only [World.cell?, c0']; rfl, by simp only [World.cell?, c0']; rfl⟩, hid ⟨hrb, (keep _ (by omega)).trans c1, by omega, ⟨hBw.os, hBw.tape, hBw.output, Nat.le_trans hBw.size hz3, fun j hj => (keep j (by omega)).trans (hBw.block j hj)⟩⟩⟩

set_option maxRecDepth 100000 in
set_option maxHeartbeats 4000000 in
theorem parent_none (d : Dt) (w : World) (hd : Dw d) :
    Calls Try.prog 16 #[.pointer none, dv d] w fun e w' => e = .returned (.tuple #[dv pl0.1, .string pl0.2, .bool false]) ∧ Below w.heap.size w w' := by
  obtain ⟨d1, d2⟩ := d
  have hmxo : Try.prog.follows .mixedOrders = true := by kernel_rfl
  obtain ⟨W0, hW0⟩ : ∃ W0, W0 = (w.alloc (.cells #[.int .i64 d1, .int .i64 d2] 24)).alloc (.cells #[.int .i64 0, .int .i64 0] 24) := ⟨_, rfl⟩
  have hB0 : Below w.heap.size w W0 := by rw [hW0]; exact ((Below.refl _ w).alloc (Nat.le_refl _) _).alloc (by simp) _
  have hsz : W0.heap.size = w.heap.size + 2 := by rw [hW0]; simp
  have hb0 : W0.heap[w.heap.size]? = some (.cells #[.int .i64 d1, .int .i64 d2] 24 (0, 0)) := by rw [hW0]; exact (Below.heap_alloc _ _ _ (by simp)).trans (World.alloc_heap_new w _)
  have hb1 : W0.heap[w.heap.size + 1]? = some (.cells #[.int .i64 0, .int .i64 0] 24 (0, 0)) := by
    rw [hW0]
    have := World.alloc_heap_new (w.alloc (.cells #[.int .i64 d1, .int .i64 d2] 24)) (.cells #[.int .i64 0, .int .i64 0] 24)
    rw [World.size_alloc] at this
    exact this
  obtain ⟨p1, p2, ky, hq⟩ : ∃ p1 p2 ky, pl0 = ((p1, p2), ky) := ⟨_, _, _, rfl⟩
  obtain ⟨Bv, hBv⟩ : ∃ Bv, Bv = false := ⟨_, rfl⟩
  obtain ⟨t, ht⟩ : ∃ t, t = W0.drew.heap.size := ⟨_, rfl⟩
  have HN := par_nowN t d1 d2 p1 p2 ky Bv w W0.drew ht hd hq hBv (hB0.trans ((((Far.refl W0).drewN 1).below).mono hB0.size)) hb0 hb1
  obtain ⟨WA, hWA⟩ : ∃ WA, WA = (W0.alloc (.cells #[.int .i64 0, .int .i64 0, .string ⟨#[]⟩] 74)).drew := ⟨_, rfl⟩
  have hBA : Below W0.heap.size W0 WA := by rw [hWA]; exact ((Below.refl _ W0).alloc (Nat.le_refl _) _).drew
  have a0 := (hBA.block w.heap.size (by omega)).trans hb0
  obtain ⟨u, hu⟩ : ∃ u, u = WA.heap.size := ⟨_, rfl⟩
  have HNA := par_nowN u d1 d2 p1 p2 ky Bv w WA hu hd hq hBv (hB0.trans (hBA.mono hB0.size)) a0 ((hBA.block (w.heap.size + 1) (by omega)).trans hb1)
  have hra : WA.heap[W0.heap.size]? = some (.cells #[.int .i64 0, .int .i64 0, .string ⟨#[]⟩] 74 (0, 0)) := by rw [hWA]; exact World.alloc_heap_new W0 _
  have HRA : Hid (WA.heap[W0.heap.size]? = some (.cells #[.int .i64 0, .int .i64 0, .string ⟨#[]⟩] 74 (0, 0)) ∧ w.heap.size + 2 ≤ W0.heap.size) := hid ⟨hra, by omega⟩
  have hSA : WA.cell? ⟨w.heap.size, 0, none⟩ = some (.int .i64 d1) ∧ WA.cell? ⟨w.heap.size, 1, none⟩ = some (.int .i64 d2) := ⟨by simp [World.cell?, a0], by simp [World.cell?, a0]⟩
  have hS0 : W0.drew.cell? ⟨w.heap.size, 0, none⟩ = some (.int .i64 d1) ∧ W0.drew.cell? ⟨w.heap.size, 1, none⟩ = some (.int .i64 d2) := ⟨by show W0.cell? _ = _; simp [World.cell?, hb0], by show W0.cell? _ = _; simp [World.cell?, hb0]⟩
  rw [hq, ← hBv]
  have HW := hid hW0
  have HWA := hid hWA
  clear hW0 hWA hBA a0 hra hB0 hb0 hb1 hBv hq hsz ht hu
  go_enter Try.func16, Try.ntmps16
  go_wp2_with fail
  rw [← HW.out]
  refine wp_region_held_drew (S := fun w' => w'.cell? ⟨w.heap.size, 0, none⟩ = some (.int .i64 d1) ∧ w'.cell? ⟨w.heap.size, 1, none⟩ = some (.int .i64 d2)) hmxo hS0 ?_
  intro _
  refine wpAnyH_take (i := 0) (v := .pointer none) rfl (by kernel_rfl) (by kernel_rfl) (by kernel_rfl) (fun _ _ _ h => h) (Or.inl ⟨by kernel_rfl, fun w hSw => ?_⟩) hS0 ?_
  · obtain ⟨e1, e2⟩ := hSw; go_simp
  simp only [Act.put, List.getElem_toArray, List.getElem_cons_succ, List.getElem_cons_zero, List.setIfInBounds_toArray, List.set_cons_zero, List.set_cons_succ]
  refine wpAnyH_take (i := 5) (v := .agg #[.int .i64 d1, .int .i64 d2]) rfl (by kernel_rfl) (by kernel_rfl) (by kernel_rfl) (fun _ _ _ h => h) (Or.inl ⟨by kernel_rfl, fun w hSw => ?_⟩) hS0 ?_
  · obtain ⟨e1, e2⟩ := hSw; go_simp
  simp only [Act.put, List.getElem_toArray, List.getElem_cons_succ, List.getElem_cons_zero, List.setIfInBounds_toArray, List.set_cons_zero, List.set_cons_succ]
  refine wpAnyH_ready (rs := [1, 10]) (by kernel_rfl) (by simp) ?_
  refine AllReadyH.cons rfl (fun K hK => ?_) (AllReadyH.cons rfl (fun K hK => ?_) AllReadyH.nil)
  · go_simp
    refine HN.mono ?_
    rintro e W1 ⟨rfl, S1, HP⟩
    refine hK.out _ _ S1 (fun _ => ?_)
    clear hK K
    obtain ⟨pl, c3, hlk, ⟨c3z, hlkz, Sz0, Sz, HQ⟩, _⟩ := HP.out
    clear HP HNA hSA
    refine wpAnyH_take (i := 2) (v := .pointer (some ⟨t, 0, none⟩)) rfl (by kernel_rfl) (by kernel_rfl) (by kernel_rfl) (fun _ _ _ h => h) (Or.inl ⟨by kernel_rfl, fun w hSw => ?_⟩) S1 ?_
    · obtain ⟨e1, e2⟩ := hSw; go_simp
    simp only [Act.put, List.getElem_toArray, List.getElem_cons_succ, List.getElem_cons_zero, List.setIfInBounds_toArray, List.set_cons_zero, List.set_cons_succ]
    refine wpAnyH_take (i := 3) (v := .pointer (some ⟨t, 0, none⟩)) rfl (by kernel_rfl) (by kernel_rfl) (by kernel_rfl) (fun _ _ _ h => h) (Or.inl ⟨by kernel_rfl, fun w hSw => ?_⟩) S1 ?_
    · obtain ⟨e1, e2⟩ := hSw; go_simp
    simp only [Act.put, List.getElem_toArray, List.getElem_cons_succ, List.getElem_cons_zero, List.setIfInBounds_toArray, List.set_cons_zero, List.set_cons_succ]
    refine wpAnyH_ready (rs := [4, 10]) (by kernel_rfl) (by simp) ?_
    refine AllReadyH.cons rfl (fun K hK => ?_) (AllReadyH.cons rfl (fun K hK => ?_) AllReadyH.nil)
    · go_simp
      refine hK.out _ _ S1 (fun _ => ?_)
      clear hK K
      refine wpAnyH_ready (rs := [6, 10]) (by kernel_rfl) (by simp) ?_
      refine AllReadyH.cons rfl (fun K hK => ?_) (AllReadyH.cons rfl (fun K hK => ?_) AllReadyH.nil)
      · go_simp
        refine hK.out _ _ S1 (fun _ => ?_)
        clear hK K
        refine wpAnyH_take (i := 7) (v := .tuple #[.agg #[.int .i64 p1, .int .i64 p2, .string ky], .bool Bv]) rfl (by kernel_rfl) (by kernel_rfl) (by kernel_rfl) (fun _ _ _ h => h) (Or.inl ⟨by kernel_rfl, fun w hSw => ?_⟩) S1 ?_
        · obtain ⟨e1, e2⟩ := hSw; go_simp
        simp only [Act.put, List.getElem_toArray, List.getElem_cons_succ, List.getElem_cons_zero, List.setIfInBounds_toArray, List.set_cons_zero, List.set_cons_succ]
        refine wpAnyH_take (i := 8) (v := .agg #[.int .i64 p1, .int .i64 p2, .string ky]) rfl (by kernel_rfl) (by kernel_rfl) (by kernel_rfl) (fun _ _ _ h => h) (Or.inl ⟨by kernel_rfl, fun w hSw => ?_⟩) S1 ?_
        · obtain ⟨e1, e2⟩ := hSw; go_simp
        simp only [Act.put, List.getElem_toArray, List.getElem_cons_succ, List.getElem_cons_zero, List.setIfInBounds_toArray, List.set_cons_zero, List.set_cons_succ]
        refine wpAnyH_take (i := 9) (v := .bool Bv) rfl (by kernel_rfl) (by kernel_rfl) (by kernel_rfl) (fun _ _ _ h => h) (Or.inl ⟨by kernel_rfl, fun w hSw => ?_⟩) S1 ?_
        · obtain ⟨e1, e2⟩ := hSw; go_simp
        simp only [Act.put, List.getElem_toArray, List.getElem_cons_succ, List.getElem_cons_zero, List.setIfInBounds_toArray, List.set_cons_zero, List.set_cons_succ]
        refine wpAnyH_ready (rs := [10]) (by kernel_rfl) (by simp) ?_
        refine AllReadyH.cons rfl (fun K hK => ?_) AllReadyH.nil
        go_simp
        refine hK.out _ _ Sz0 (fun _ => ?_)
        clear hK K
        skip
        refine wpAnyH_ready (rs := [11]) (by kernel_rfl) (by simp) ?_
        refine AllReadyH.cons rfl (fun K hK => ?_) AllReadyH.nil
        go_simp
        refine hK.out _ _ Sz (fun _ => ?_)
        clear hK K
        refine wpAnyH_take (i := 12) (v := .bool Bv) rfl (by kernel_rfl) (by kernel_rfl) (by kernel_rfl) (fun _ _ _ h => h) (Or.inl ⟨by kernel_rfl, fun w hSw => ?_⟩) Sz ?_
        · obtain ⟨e1, e2⟩ := hSw; go_simp
        simp only [Act.put, List.getElem_toArray, List.getElem_cons_succ, List.getElem_cons_zero, List.setIfInBounds_toArray, List.set_cons_zero, List.set_cons_succ]
        obtain ⟨ZZ, hZZ⟩ : ∃ ZZ, ZZ = W1.alloc (.cells #[.int .i64 p1, .int .i64 p2, .string ky] 74) := ⟨_, rfl⟩
        obtain ⟨rs, hrs⟩ : ∃ rs, rs = W1.heap.size := ⟨_, rfl⟩
        rw [← hZZ, ← hrs] at HQ
        clear HN hS0 hlk hlkz c3 c3z Sz0 Sz S1
        refine wpAnyH_done (by kernel_rfl) ?_ _
        obtain ⟨hS2, hS3, x0, x1, f0, f1, r0, r1, HF⟩ := HQ.out.fin
        clear HQ
        go_wp2_with fail
        rw [← hZZ, ← hrs]
        clear hZZ hrs
        refine wp_region_held_drew (S := fun w' => w'.cell? ⟨rs, 0, none⟩ = some (.int .i64 p1) ∧ w'.cell? ⟨rs, 1, none⟩ = some (.int .i64 p2) ∧ w'.cell? ⟨rs, 2, none⟩ = some (.string ky)) hmxo hS2 ?_
        intro _
        refine wpAnyH_take (i := 0) (v := .pointer (some ⟨rs, 0, none⟩)) rfl (by kernel_rfl) (by kernel_rfl) (by kernel_rfl) (fun _ _ _ h => h) (Or.inl ⟨by kernel_rfl, fun w hSw => ?_⟩) hS2 ?_
        · obtain ⟨e1, e2, e3⟩ := hSw; go_simp
        simp only [Act.put, List.getElem_toArray, List.getElem_cons_succ, List.getElem_cons_zero, List.setIfInBounds_toArray, List.set_cons_zero, List.set_cons_succ]
        refine wpAnyH_take (i := 1) (v := .agg #[.int .i64 p1, .int .i64 p2]) rfl (by kernel_rfl) (by kernel_rfl) (by kernel_rfl) (fun _ _ _ h => h) (Or.inl ⟨by kernel_rfl, fun w hSw => ?_⟩) hS2 ?_
        · obtain ⟨e1, e2, e3⟩ := hSw; go_simp
        simp only [Act.put, List.getElem_toArray, List.getElem_cons_succ, List.getElem_cons_zero, List.setIfInBounds_toArray, List.set_cons_zero, List.set_cons_succ]
        refine wpAnyH_take (i := 2) (v := .pointer (some ⟨rs, 2, none⟩)) rfl (by kernel_rfl) (by kernel_rfl) (by kernel_rfl) (fun _ _ _ h => h) (Or.inl ⟨by kernel_rfl, fun w hSw => ?_⟩) hS2 ?_
        · obtain ⟨e1, e2, e3⟩ := hSw; go_simp
        simp only [Act.put, List.getElem_toArray, List.getElem_cons_succ, List.getElem_cons_zero, List.setIfInBounds_toArray, List.set_cons_zero, List.set_cons_succ]
        refine wpAnyH_take (i := 3) (v := .string ky) rfl (by kernel_rfl) (by kernel_rfl) (by kernel_rfl) (fun _ _ _ h => h) (Or.inl ⟨by kernel_rfl, fun w hSw => ?_⟩) hS2 ?_
        · obtain ⟨e1, e2, e3⟩ := hSw; go_simp
        simp only [Act.put, List.getElem_toArray, List.getElem_cons_succ, List.getElem_cons_zero, List.setIfInBounds_toArray, List.set_cons_zero, List.set_cons_succ]
        refine wpAnyH_take (i := 4) (v := .bool Bv) rfl (by kernel_rfl) (by kernel_rfl) (by kernel_rfl) (fun _ _ _ h => h) (Or.inl ⟨by kernel_rfl, fun w hSw => ?_⟩) hS2 ?_
        · obtain ⟨e1, e2, e3⟩ := hSw; go_simp
        simp only [Act.put, List.getElem_toArray, List.getElem_cons_succ, List.getElem_cons_zero, List.setIfInBounds_toArray, List.set_cons_zero, List.set_cons_succ]
        refine wpAnyH_ready (rs := [5]) (by kernel_rfl) (by simp) ?_
        refine AllReadyH.cons rfl (fun K hK => ?_) AllReadyH.nil
        go_simp
        refine hK.out _ _ hS3 (fun _ => ?_)
        clear hK K
        refine wpAnyH_take (i := 6) (v := .string ky) rfl (by kernel_rfl) (by kernel_rfl) (by kernel_rfl) (fun _ _ _ h => h) (Or.inl ⟨by kernel_rfl, fun w hSw => ?_⟩) hS3 ?_
        · obtain ⟨e1, e2, e3⟩ := hSw; go_simp
        simp only [Act.put, List.getElem_toArray, List.getElem_cons_succ, List.getElem_cons_zero, List.setIfInBounds_toArray, List.set_cons_zero, List.set_cons_succ]
        refine wpAnyH_take (i := 7) (v := .bool Bv) rfl (by kernel_rfl) (by kernel_rfl) (by kernel_rfl) (fun _ _ _ h => h) (Or.inl ⟨by kernel_rfl, fun w hSw => ?_⟩) hS3 ?_
        · obtain ⟨e1, e2, e3⟩ := hSw; go_simp
        simp only [Act.put, List.getElem_toArray, List.getElem_cons_succ, List.getElem_cons_zero, List.setIfInBounds_toArray, List.set_cons_zero, List.set_cons_succ]
        refine wpAnyH_done (by kernel_rfl) ?_ _
        go_wp2
        refine bodyPost_ret (v := .tuple #[dv (p1, p2), .string ky, .bool Bv]) (by simp [results, Try.results16, go_sem, r0, r1, dv]) rfl ?_
        exact ⟨rfl, HF.out⟩
      · go_simp
        refine hK.out _ _ Sz0 (fun _ => ?_)
        clear hK K
        refine wpAnyH_ready (rs := [6]) (by kernel_rfl) (by simp) ?_
        refine AllReadyH.cons rfl (fun K hK => ?_) AllReadyH.nil
        go_simp
        refine hK.out _ _ Sz0 (fun _ => ?_)
        clear hK K
        refine wpAnyH_take (i := 7) (v := .tuple #[.agg #[.int .i64 p1, .int .i64 p2, .string ky], .bool Bv]) rfl (by kernel_rfl) (by kernel_rfl) (by kernel_rfl) (fun _ _ _ h => h) (Or.inl ⟨by kernel_rfl, fun w hSw => ?_⟩) Sz0 ?_
        · obtain ⟨e1, e2⟩ := hSw; go_simp
        simp only [Act.put, List.getElem_toArray, List.getElem_cons_succ, List.getElem_cons_zero, List.setIfInBounds_toArray, List.set_cons_zero, List.set_cons_succ]
        refine wpAnyH_take (i := 8) (v := .agg #[.int .i64 p1, .int .i64 p2, .string ky]) rfl (by kernel_rfl) (by kernel_rfl) (by kernel_rfl) (fun _ _ _ h => h) (Or.inl ⟨by kernel_rfl, fun w hSw => ?_⟩) Sz0 ?_
        · obtain ⟨e1, e2⟩ := hSw; go_simp
        simp only [Act.put, List.getElem_toArray, List.getElem_cons_succ, List.getElem_cons_zero, List.setIfInBounds_toArray, List.set_cons_zero, List.set_cons_succ]
        refine wpAnyH_take (i := 9) (v := .bool Bv) rfl (by kernel_rfl) (by kernel_rfl) (by kernel_rfl) (fun _ _ _ h => h) (Or.inl ⟨by kernel_rfl, fun w hSw => ?_⟩) Sz0 ?_
        · obtain ⟨e1, e2⟩ := hSw; go_simp
        simp only [Act.put, List.getElem_toArray, List.getElem_cons_succ, List.getElem_cons_zero, List.setIfInBounds_toArray, List.set_cons_zero, List.set_cons_succ]
        refine wpAnyH_ready (rs := [11]) (by kernel_rfl) (by simp) ?_
        refine AllReadyH.cons rfl (fun K hK => ?_) AllReadyH.nil
        go_simp
        refine hK.out _ _ Sz (fun _ => ?_)
        clear hK K
        refine wpAnyH_take (i := 12) (v := .bool Bv) rfl (by kernel_rfl) (by kernel_rfl) (by kernel_rfl) (fun _ _ _ h => h) (Or.inl ⟨by kernel_rfl, fun w hSw => ?_⟩) Sz ?_
        · obtain ⟨e1, e2⟩ := hSw; go_simp
        simp only [Act.put, List.getElem_toArray, List.getElem_cons_succ, List.getElem_cons_zero, List.setIfInBounds_toArray, List.set_cons_zero, List.set_cons_succ]
        obtain ⟨ZZ, hZZ⟩ : ∃ ZZ, ZZ = W1.alloc (.cells #[.int .i64 p1, .int .i64 p2, .string ky] 74) := ⟨_, rfl⟩
        obtain ⟨rs, hrs⟩ : ∃ rs, rs = W1.heap.size := ⟨_, rfl⟩
        rw [← hZZ, ← hrs] at HQ
        clear HN hS0 hlk hlkz c3 c3z Sz0 Sz S1
        refine wpAnyH_done (by kernel_rfl) ?_ _
        obtain ⟨hS2, hS3, x0, x1, f0, f1, r0, r1, HF⟩ := HQ.out.fin
        clear HQ
        go_wp2_with fail
        rw [← hZZ, ← hrs]
        clear hZZ hrs
        refine wp_region_held_drew (S := fun w' => w'.cell? ⟨rs, 0, none⟩ = some (.int .i64 p1) ∧ w'.cell? ⟨rs, 1, none⟩ = some (.int .i64 p2) ∧ w'.cell? ⟨rs, 2, none⟩ = some (.string ky)) hmxo hS2 ?_
        intro _
        refine wpAnyH_take (i := 0) (v := .pointer (some ⟨rs, 0, none⟩)) rfl (by kernel_rfl) (by kernel_rfl) (by kernel_rfl) (fun _ _ _ h => h) (Or.inl ⟨by kernel_rfl, fun w hSw => ?_⟩) hS2 ?_
        · obtain ⟨e1, e2, e3⟩ := hSw; go_simp
        simp only [Act.put, List.getElem_toArray, List.getElem_cons_succ, List.getElem_cons_zero, List.setIfInBounds_toArray, List.set_cons_zero, List.set_cons_succ]
        refine wpAnyH_take (i := 1) (v := .agg #[.int .i64 p1, .int .i64 p2]) rfl (by kernel_rfl) (by kernel_rfl) (by kernel_rfl) (fun _ _ _ h => h) (Or.inl ⟨by kernel_rfl, fun w hSw => ?_⟩) hS2 ?_
        · obtain ⟨e1, e2, e3⟩ := hSw; go_simp
        simp only [Act.put, List.getElem_toArray, List.getElem_cons_succ, List.getElem_cons_zero, List.setIfInBounds_toArray, List.set_cons_zero, List.set_cons_succ]
        refine wpAnyH_take (i := 2) (v := .pointer (some ⟨rs, 2, none⟩)) rfl (by kernel_rfl) (by kernel_rfl) (by kernel_rfl) (fun _ _ _ h => h) (Or.inl ⟨by kernel_rfl, fun w hSw => ?_⟩) hS2 ?_
        · obtain ⟨e1, e2, e3⟩ := hSw; go_simp
        simp only [Act.put, List.getElem_toArray, List.getElem_cons_succ, List.getElem_cons_zero, List.setIfInBounds_toArray, List.set_cons_zero, List.set_cons_succ]
        refine wpAnyH_take (i := 3) (v := .string ky) rfl (by kernel_rfl) (by kernel_rfl) (by kernel_rfl) (fun _ _ _ h => h) (Or.inl ⟨by kernel_rfl, fun w hSw => ?_⟩) hS2 ?_
        · obtain ⟨e1, e2, e3⟩ := hSw; go_simp
        simp only [Act.put, List.getElem_toArray, List.getElem_cons_succ, List.getElem_cons_zero, List.setIfInBounds_toArray, List.set_cons_zero, List.set_cons_succ]
        refine wpAnyH_take (i := 4) (v := .bool Bv) rfl (by kernel_rfl) (by kernel_rfl) (by kernel_rfl) (fun _ _ _ h => h) (Or.inl ⟨by kernel_rfl, fun w hSw => ?_⟩) hS2 ?_
        · obtain ⟨e1, e2, e3⟩ := hSw; go_simp
        simp only [Act.put, List.getElem_toArray, List.getElem_cons_succ, List.getElem_cons_zero, List.setIfInBounds_toArray, List.set_cons_zero, List.set_cons_succ]
        refine wpAnyH_ready (rs := [5]) (by kernel_rfl) (by simp) ?_
        refine AllReadyH.cons rfl (fun K hK => ?_) AllReadyH.nil
        go_simp
        refine hK.out _ _ hS3 (fun _ => ?_)
        clear hK K
        refine wpAnyH_take (i := 6) (v := .string ky) rfl (by kernel_rfl) (by kernel_rfl) (by kernel_rfl) (fun _ _ _ h => h) (Or.inl ⟨by kernel_rfl, fun w hSw => ?_⟩) hS3 ?_
        · obtain ⟨e1, e2, e3⟩ := hSw; go_simp
        simp only [Act.put, List.getElem_toArray, List.getElem_cons_succ, List.getElem_cons_zero, List.setIfInBounds_toArray, List.set_cons_zero, List.set_cons_succ]
        refine wpAnyH_take (i := 7) (v := .bool Bv) rfl (by kernel_rfl) (by kernel_rfl) (by kernel_rfl) (fun _ _ _ h => h) (Or.inl ⟨by kernel_rfl, fun w hSw => ?_⟩) hS3 ?_
        · obtain ⟨e1, e2, e3⟩ := hSw; go_simp
        simp only [Act.put, List.getElem_toArray, List.getElem_cons_succ, List.getElem_cons_zero, List.setIfInBounds_toArray, List.set_cons_zero, List.set_cons_succ]
        refine wpAnyH_done (by kernel_rfl) ?_ _
        go_wp2
        refine bodyPost_ret (v := .tuple #[dv (p1, p2), .string ky, .bool Bv]) (by simp [results, Try.results16, go_sem, r0, r1, dv]) rfl ?_
        exact ⟨rfl, HF.out⟩
    · go_simp
      refine hK.out _ _ Sz0 (fun _ => ?_)
      clear hK K
      refine wpAnyH_ready (rs := [4]) (by kernel_rfl) (by simp) ?_
      refine AllReadyH.cons rfl (fun K hK => ?_) AllReadyH.nil
      go_simp
      refine hK.out _ _ Sz0 (fun _ => ?_)
      clear hK K
      refine wpAnyH_ready (rs := [6]) (by kernel_rfl) (by simp) ?_
      refine AllReadyH.cons rfl (fun K hK => ?_) AllReadyH.nil
      go_simp
      refine hK.out _ _ Sz0 (fun _ => ?_)
      clear hK K
      refine wpAnyH_take (i := 7) (v := .tuple #[.agg #[.int .i64 p1, .int .i64 p2, .string ky], .bool Bv]) rfl (by kernel_rfl) (by kernel_rfl) (by kernel_rfl) (fun _ _ _ h => h) (Or.inl ⟨by kernel_rfl, fun w hSw => ?_⟩) Sz0 ?_
      · obtain ⟨e1, e2⟩ := hSw; go_simp
      simp only [Act.put, List.getElem_toArray, List.getElem_cons_succ, List.getElem_cons_zero, List.setIfInBounds_toArray, List.set_cons_zero, List.set_cons_succ]
      refine wpAnyH_take (i := 8) (v := .agg #[.int .i64 p1, .int .i64 p2, .string ky]) rfl (by kernel_rfl) (by kernel_rfl) (by kernel_rfl) (fun _ _ _ h => h) (Or.inl ⟨by kernel_rfl, fun w hSw => ?_⟩) Sz0 ?_
      · obtain ⟨e1, e2⟩ := hSw; go_simp
      simp only [Act.put, List.getElem_toArray, List.getElem_cons_succ, List.getElem_cons_zero, List.setIfInBounds_toArray, List.set_cons_zero, List.set_cons_succ]
      refine wpAnyH_take (i := 9) (v := .bool Bv) rfl (by kernel_rfl) (by kernel_rfl) (by kernel_rfl) (fun _ _ _ h => h) (Or.inl ⟨by kernel_rfl, fun w hSw => ?_⟩) Sz0 ?_
      · obtain ⟨e1, e2⟩ := hSw; go_simp
      simp only [Act.put, List.getElem_toArray, List.getElem_cons_succ, List.getElem_cons_zero, List.setIfInBounds_toArray, List.set_cons_zero, List.set_cons_succ]
      refine wpAnyH_ready (rs := [11]) (by kernel_rfl) (by simp) ?_
      refine AllReadyH.cons rfl (fun K hK => ?_) AllReadyH.nil
      go_simp
      refine hK.out _ _ Sz (fun _ => ?_)
      clear hK K
      refine wpAnyH_take (i := 12) (v := .bool Bv) rfl (by kernel_rfl) (by kernel_rfl) (by kernel_rfl) (fun _ _ _ h => h) (Or.inl ⟨by kernel_rfl, fun w hSw => ?_⟩) Sz ?_
      · obtain ⟨e1, e2⟩ := hSw; go_simp
      simp only [Act.put, List.getElem_toArray, List.getElem_cons_succ, List.getElem_cons_zero, List.setIfInBounds_toArray, List.set_cons_zero, List.set_cons_succ]
      obtain ⟨ZZ, hZZ⟩ : ∃ ZZ, ZZ = W1.alloc (.cells #[.int .i64 p1, .int .i64 p2, .string ky] 74) := ⟨_, rfl⟩
      obtain ⟨rs, hrs⟩ : ∃ rs, rs = W1.heap.size := ⟨_, rfl⟩
      rw [← hZZ, ← hrs] at HQ
      clear HN hS0 hlk hlkz c3 c3z Sz0 Sz S1
      refine wpAnyH_done (by kernel_rfl) ?_ _
      obtain ⟨hS2, hS3, x0, x1, f0, f1, r0, r1, HF⟩ := HQ.out.fin
      clear HQ
      go_wp2_with fail
      rw [← hZZ, ← hrs]
      clear hZZ hrs
      refine wp_region_held_drew (S := fun w' => w'.cell? ⟨rs, 0, none⟩ = some (.int .i64 p1) ∧ w'.cell? ⟨rs, 1, none⟩ = some (.int .i64 p2) ∧ w'.cell? ⟨rs, 2, none⟩ = some (.string ky)) hmxo hS2 ?_
      intro _
      refine wpAnyH_take (i := 0) (v := .pointer (some ⟨rs, 0, none⟩)) rfl (by kernel_rfl) (by kernel_rfl) (by kernel_rfl) (fun _ _ _ h => h) (Or.inl ⟨by kernel_rfl, fun w hSw => ?_⟩) hS2 ?_
      · obtain ⟨e1, e2, e3⟩ := hSw; go_simp
      simp only [Act.put, List.getElem_toArray, List.getElem_cons_succ, List.getElem_cons_zero, List.setIfInBounds_toArray, List.set_cons_zero, List.set_cons_succ]
      refine wpAnyH_take (i := 1) (v := .agg #[.int .i64 p1, .int .i64 p2]) rfl (by kernel_rfl) (by kernel_rfl) (by kernel_rfl) (fun _ _ _ h => h) (Or.inl ⟨by kernel_rfl, fun w hSw => ?_⟩) hS2 ?_
      · obtain ⟨e1, e2, e3⟩ := hSw; go_simp
      simp only [Act.put, List.getElem_toArray, List.getElem_cons_succ, List.getElem_cons_zero, List.setIfInBounds_toArray, List.set_cons_zero, List.set_cons_succ]
      refine wpAnyH_take (i := 2) (v := .pointer (some ⟨rs, 2, none⟩)) rfl (by kernel_rfl) (by kernel_rfl) (by kernel_rfl) (fun _ _ _ h => h) (Or.inl ⟨by kernel_rfl, fun w hSw => ?_⟩) hS2 ?_
      · obtain ⟨e1, e2, e3⟩ := hSw; go_simp
      simp only [Act.put, List.getElem_toArray, List.getElem_cons_succ, List.getElem_cons_zero, List.setIfInBounds_toArray, List.set_cons_zero, List.set_cons_succ]
      refine wpAnyH_take (i := 3) (v := .string ky) rfl (by kernel_rfl) (by kernel_rfl) (by kernel_rfl) (fun _ _ _ h => h) (Or.inl ⟨by kernel_rfl, fun w hSw => ?_⟩) hS2 ?_
      · obtain ⟨e1, e2, e3⟩ := hSw; go_simp
      simp only [Act.put, List.getElem_toArray, List.getElem_cons_succ, List.getElem_cons_zero, List.setIfInBounds_toArray, List.set_cons_zero, List.set_cons_succ]
      refine wpAnyH_take (i := 4) (v := .bool Bv) rfl (by kernel_rfl) (by kernel_rfl) (by kernel_rfl) (fun _ _ _ h => h) (Or.inl ⟨by kernel_rfl, fun w hSw => ?_⟩) hS2 ?_
      · obtain ⟨e1, e2, e3⟩ := hSw; go_simp
      simp only [Act.put, List.getElem_toArray, List.getElem_cons_succ, List.getElem_cons_zero, List.setIfInBounds_toArray, List.set_cons_zero, List.set_cons_succ]
      refine wpAnyH_ready (rs := [5]) (by kernel_rfl) (by simp) ?_
      refine AllReadyH.cons rfl (fun K hK => ?_) AllReadyH.nil
      go_simp
      refine hK.out _ _ hS3 (fun _ => ?_)
      clear hK K
      refine wpAnyH_take (i := 6) (v := .string ky) rfl (by kernel_rfl) (by kernel_rfl) (by kernel_rfl) (fun _ _ _ h => h) (Or.inl ⟨by kernel_rfl, fun w hSw => ?_⟩) hS3 ?_
      · obtain ⟨e1, e2, e3⟩ := hSw; go_simp
      simp only [Act.put, List.getElem_toArray, List.getElem_cons_succ, List.getElem_cons_zero, List.setIfInBounds_toArray, List.set_cons_zero, List.set_cons_succ]
      refine wpAnyH_take (i := 7) (v := .bool Bv) rfl (by kernel_rfl) (by kernel_rfl) (by kernel_rfl) (fun _ _ _ h => h) (Or.inl ⟨by kernel_rfl, fun w hSw => ?_⟩) hS3 ?_
      · obtain ⟨e1, e2, e3⟩ := hSw; go_simp
      simp only [Act.put, List.getElem_toArray, List.getElem_cons_succ, List.getElem_cons_zero, List.setIfInBounds_toArray, List.set_cons_zero, List.set_cons_succ]
      refine wpAnyH_done (by kernel_rfl) ?_ _
      go_wp2
      refine bodyPost_ret (v := .tuple #[dv (p1, p2), .string ky, .bool Bv]) (by simp [results, Try.results16, go_sem, r0, r1, dv]) rfl ?_
      exact ⟨rfl, HF.out⟩
  · go_simp
    rw [← HWA.out]
    refine hK.out _ _ hSA (fun _ => ?_)
    clear hK K HN
    refine wpAnyH_ready (rs := [1]) (by kernel_rfl) (by simp) ?_
    refine AllReadyH.cons rfl (fun K hK => ?_) AllReadyH.nil
    go_simp
    refine HNA.mono ?_
    rintro e W1 ⟨rfl, S1, HP⟩
    refine hK.out _ _ S1 (fun _ => ?_)
    clear hK K
    obtain ⟨pl, c3, hlk, _, hR⟩ := HP.out
    obtain ⟨rs, hrs⟩ : ∃ rs, rs = W0.heap.size := ⟨_, rfl⟩
    obtain ⟨y0, y1, y2, z0, z1, z2, SN, HQ⟩ := hR _ HRA.out.1 HRA.out.2
    rw [← hrs] at y0 y1 y2 z0 z1 z2 SN HQ
    rw [← hrs]
    clear HP hR hrs HRA
    refine wpAnyH_take (i := 2) (v := .pointer (some ⟨u, 0, none⟩)) rfl (by kernel_rfl) (by kernel_rfl) (by kernel_rfl) (fun _ _ _ h => h) (Or.inl ⟨by kernel_rfl, fun w hSw => ?_⟩) S1 ?_
    · obtain ⟨e1, e2⟩ := hSw; go_simp
    simp only [Act.put, List.getElem_toArray, List.getElem_cons_succ, List.getElem_cons_zero, List.setIfInBounds_toArray, List.set_cons_zero, List.set_cons_succ]
    refine wpAnyH_take (i := 3) (v := .pointer (some ⟨u, 0, none⟩)) rfl (by kernel_rfl) (by kernel_rfl) (by kernel_rfl) (fun _ _ _ h => h) (Or.inl ⟨by kernel_rfl, fun w hSw => ?_⟩) S1 ?_
    · obtain ⟨e1, e2⟩ := hSw; go_simp
    simp only [Act.put, List.getElem_toArray, List.getElem_cons_succ, List.getElem_cons_zero, List.setIfInBounds_toArray, List.set_cons_zero, List.set_cons_succ]
    refine wpAnyH_ready (rs := [4]) (by kernel_rfl) (by simp) ?_
    refine AllReadyH.cons rfl (fun K hK => ?_) AllReadyH.nil
    go_simp
    refine hK.out _ _ S1 (fun _ => ?_)
    clear hK K
    refine wpAnyH_ready (rs := [6]) (by kernel_rfl) (by simp) ?_
    refine AllReadyH.cons rfl (fun K hK => ?_) AllReadyH.nil
    go_simp
    refine hK.out _ _ S1 (fun _ => ?_)
    clear hK K
    refine wpAnyH_take (i := 7) (v := .tuple #[.agg #[.int .i64 p1, .int .i64 p2, .string ky], .bool Bv]) rfl (by kernel_rfl) (by kernel_rfl) (by kernel_rfl) (fun _ _ _ h => h) (Or.inl ⟨by kernel_rfl, fun w hSw => ?_⟩) S1 ?_
    · obtain ⟨e1, e2⟩ := hSw; go_simp
    simp only [Act.put, List.getElem_toArray, List.getElem_cons_succ, List.getElem_cons_zero, List.setIfInBounds_toArray, List.set_cons_zero, List.set_cons_succ]
    refine wpAnyH_take (i := 8) (v := .agg #[.int .i64 p1, .int .i64 p2, .string ky]) rfl (by kernel_rfl) (by kernel_rfl) (by kernel_rfl) (fun _ _ _ h => h) (Or.inl ⟨by kernel_rfl, fun w hSw => ?_⟩) S1 ?_
    · obtain ⟨e1, e2⟩ := hSw; go_simp
    simp only [Act.put, List.getElem_toArray, List.getElem_cons_succ, List.getElem_cons_zero, List.setIfInBounds_toArray, List.set_cons_zero, List.set_cons_succ]
    refine wpAnyH_take (i := 9) (v := .bool Bv) rfl (by kernel_rfl) (by kernel_rfl) (by kernel_rfl) (fun _ _ _ h => h) (Or.inl ⟨by kernel_rfl, fun w hSw => ?_⟩) S1 ?_
    · obtain ⟨e1, e2⟩ := hSw; go_simp
    simp only [Act.put, List.getElem_toArray, List.getElem_cons_succ, List.getElem_cons_zero, List.setIfInBounds_toArray, List.set_cons_zero, List.set_cons_succ]
    refine wpAnyH_ready (rs := [11]) (by kernel_rfl) (by simp) ?_
    refine AllReadyH.cons rfl (fun K hK => ?_) AllReadyH.nil
    go_simp
    refine hK.out _ _ SN (fun _ => ?_)
    clear hK K
    refine wpAnyH_take (i := 12) (v := .bool Bv) rfl (by kernel_rfl) (by kernel_rfl) (by kernel_rfl) (fun _ _ _ h => h) (Or.inl ⟨by kernel_rfl, fun w hSw => ?_⟩) SN ?_
    · obtain ⟨e1, e2⟩ := hSw; go_simp
    simp only [Act.put, List.getElem_toArray, List.getElem_cons_succ, List.getElem_cons_zero, List.setIfInBounds_toArray, List.set_cons_zero, List.set_cons_succ]
    obtain ⟨ZZ, hZZ⟩ : ∃ ZZ, ZZ = (((W1.setCell ⟨rs, 0, none⟩ (.int .i64 p1)).setCell ⟨rs, 1, none⟩ (.int .i64 p2)).setCell ⟨rs, 2, none⟩ (.string ky)) := ⟨_, rfl⟩
    rw [← hZZ] at HQ
    clear HNA hS0 hSA hlk c3 SN S1
    refine wpAnyH_done (by kernel_rfl) ?_ _
    obtain ⟨hS2, hS3, x0, x1, f0, f1, r0, r1, HF⟩ := HQ.out.fin
    clear HQ
    go_wp2_with fail
    rw [← hZZ]
    clear hZZ
    refine wp_region_held_drew (S := fun w' => w'.cell? ⟨rs, 0, none⟩ = some (.int .i64 p1) ∧ w'.cell? ⟨rs, 1, none⟩ = some (.int .i64 p2) ∧ w'.cell? ⟨rs, 2, none⟩ = some (.string ky)) hmxo hS2 ?_
    intro _
    refine wpAnyH_take (i := 0) (v := .pointer (some ⟨rs, 0, none⟩)) rfl (by kernel_rfl) (by kernel_rfl) (by kernel_rfl) (fun _ _ _ h => h) (Or.inl ⟨by kernel_rfl, fun w hSw => ?_⟩) hS2 ?_
    · obtain ⟨e1, e2, e3⟩ := hSw; go_simp
    simp only [Act.put, List.getElem_toArray, List.getElem_cons_succ, List.getElem_cons_zero, List.setIfInBounds_toArray, List.set_cons_zero, List.set_cons_succ]
    refine wpAnyH_take (i := 1) (v := .agg #[.int .i64 p1, .int .i64 p2]) rfl (by kernel_rfl) (by kernel_rfl) (by kernel_rfl) (fun _ _ _ h => h) (Or.inl ⟨by kernel_rfl, fun w hSw => ?_⟩) hS2 ?_
    · obtain ⟨e1, e2, e3⟩ := hSw; go_simp
    simp only [Act.put, List.getElem_toArray, List.getElem_cons_succ, List.getElem_cons_zero, List.setIfInBounds_toArray, List.set_cons_zero, List.set_cons_succ]
    refine wpAnyH_take (i := 2) (v := .pointer (some ⟨rs, 2, none⟩)) rfl (by kernel_rfl) (by kernel_rfl) (by kernel_rfl) (fun _ _ _ h => h) (Or.inl ⟨by kernel_rfl, fun w hSw => ?_⟩) hS2 ?_
    · obtain ⟨e1, e2, e3⟩ := hSw; go_simp
    simp only [Act.put, List.getElem_toArray, List.getElem_cons_succ, List.getElem_cons_zero, List.setIfInBounds_toArray, List.set_cons_zero, List.set_cons_succ]
    refine wpAnyH_take (i := 3) (v := .string ky) rfl (by kernel_rfl) (by kernel_rfl) (by kernel_rfl) (fun _ _ _ h => h) (Or.inl ⟨by kernel_rfl, fun w hSw => ?_⟩) hS2 ?_
    · obtain ⟨e1, e2, e3⟩ := hSw; go_simp
    simp only [Act.put, List.getElem_toArray, List.getElem_cons_succ, List.getElem_cons_zero, List.setIfInBounds_toArray, List.set_cons_zero, List.set_cons_succ]
    refine wpAnyH_take (i := 4) (v := .bool Bv) rfl (by kernel_rfl) (by kernel_rfl) (by kernel_rfl) (fun _ _ _ h => h) (Or.inl ⟨by kernel_rfl, fun w hSw => ?_⟩) hS2 ?_
    · obtain ⟨e1, e2, e3⟩ := hSw; go_simp
    simp only [Act.put, List.getElem_toArray, List.getElem_cons_succ, List.getElem_cons_zero, List.setIfInBounds_toArray, List.set_cons_zero, List.set_cons_succ]
    refine wpAnyH_ready (rs := [5]) (by kernel_rfl) (by simp) ?_
    refine AllReadyH.cons rfl (fun K hK => ?_) AllReadyH.nil
    go_simp
    refine hK.out _ _ hS3 (fun _ => ?_)
    clear hK K
    refine wpAnyH_take (i := 6) (v := .string ky) rfl (by kernel_rfl) (by kernel_rfl) (by kernel_rfl) (fun _ _ _ h => h) (Or.inl ⟨by kernel_rfl, fun w hSw => ?_⟩) hS3 ?_
    · obtain ⟨e1, e2, e3⟩ := hSw; go_simp
    simp only [Act.put, List.getElem_toArray, List.getElem_cons_succ, List.getElem_cons_zero, List.setIfInBounds_toArray, List.set_cons_zero, List.set_cons_succ]
    refine wpAnyH_take (i := 7) (v := .bool Bv) rfl (by kernel_rfl) (by kernel_rfl) (by kernel_rfl) (fun _ _ _ h => h) (Or.inl ⟨by kernel_rfl, fun w hSw => ?_⟩) hS3 ?_
    · obtain ⟨e1, e2, e3⟩ := hSw; go_simp
    simp only [Act.put, List.getElem_toArray, List.getElem_cons_succ, List.getElem_cons_zero, List.setIfInBounds_toArray, List.set_cons_zero, List.set_cons_succ]
    refine wpAnyH_done (by kernel_rfl) ?_ _
    go_wp2
    refine bodyPost_ret (v := .tuple #[dv (p1, p2), .string ky, .bool Bv]) (by simp [results, Try.results16, go_sem, r0, r1, dv]) rfl ?_
    exact ⟨rfl, HF.out⟩
end Go.Proofs.Ytplcohjpchfkkaa
