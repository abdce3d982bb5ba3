/- Parent. -/
import Derived.Test.YtplcohjpchfkkaaTrTell
set_option linter.unusedVariables false
set_option linter.unusedSimpArgs false
namespace Go.Proofs.Ytplcohjpchfkkaa
open Go.RowKit

/-- What is known when the place lies in its box. -/
structure ParQ (w ZZ : World) (t rs : Nat) (l : List Mv) (A : Nat → Prop) (p1 p2 : Int) (ky : ByteArray) : Prop where
  rb : ZZ.heap[rs]? = some (.cells #[.int .i64 p1, .int .i64 p2, .string ky] 74 (0, 0))
  hb : ZZ.heap[w.heap.size + 1]? = some (.cells #[.int .i64 0, .int .i64 0] 24 (0, 0))
  ne : rs ≠ w.heap.size + 1
  tt : ∃ A', TT ZZ t l A' ∧ ¬ A' (w.heap.size + 1) ∧ KA w ZZ A A'

theorem ParQ.fin {w ZZ : World} {t rs : Nat} {l : List Mv} {A : Nat → Prop} {p1 p2 : Int} {ky : ByteArray} (h : ParQ w ZZ t rs l A p1 p2 ky) :
    (ZZ.drew.cell? ⟨rs, 0, none⟩ = some (.int .i64 p1) ∧ ZZ.drew.cell? ⟨rs, 1, none⟩ = some (.int .i64 p2) ∧ ZZ.drew.cell? ⟨rs, 2, none⟩ = some (.string ky)) ∧ (((ZZ.setCell ⟨w.heap.size + 1, 0, none⟩ (.int .i64 p1)).setCell ⟨w.heap.size + 1, 1, none⟩ (.int .i64 p2)).drew.cell? ⟨rs, 0, none⟩ = some (.int .i64 p1) ∧ ((ZZ.setCell ⟨w.heap.size + 1, 0, none⟩ (.int .i64 p1)).setCell ⟨w.heap.size + 1, 1, none⟩ (.int .i64 p2)).drew.cell? ⟨rs, 1, none⟩ = some (.int .i64 p2) ∧ ((ZZ.setCell ⟨w.heap.size + 1, 0, none⟩ (.int .i64 p1)).setCell ⟨w.heap.size + 1, 1, none⟩ (.int .i64 p2)).drew.cell? ⟨rs, 2, none⟩ = some (.string ky)) ∧ ZZ.cell? ⟨w.heap.size + 1, 0, none⟩ = some (.int .i64 0) ∧ ZZ.cell? ⟨w.heap.size + 1, 1, none⟩ = some (.int .i64 0) ∧ ZZ.frozen? ⟨w.heap.size + 1, 0, none⟩ = false ∧ ZZ.frozen? ⟨w.heap.size + 1, 1, none⟩ = false ∧ ((ZZ.setCell ⟨w.heap.size + 1, 0, none⟩ (.int .i64 p1)).setCell ⟨w.heap.size + 1, 1, none⟩ (.int .i64 p2)).drew.cell? ⟨w.heap.size + 1, 0, none⟩ = some (.int .i64 p1) ∧ ((ZZ.setCell ⟨w.heap.size + 1, 0, none⟩ (.int .i64 p1)).setCell ⟨w.heap.size + 1, 1, none⟩ (.int .i64 p2)).drew.cell? ⟨w.heap.size + 1, 1, none⟩ = some (.int .i64 p2) ∧ Hid (∃ A', TT (((ZZ.setCell ⟨w.heap.size + 1, 0, none⟩ (.int .i64 p1)).setCell ⟨w.heap.size + 1, 1, none⟩ (.int .i64 p2)).drew) t l A' ∧ KA w (((ZZ.setCell ⟨w.heap.size + 1, 0, none⟩ (.int .i64 p1)).setCell ⟨w.heap.size + 1, 1, none⟩ (.int .i64 p2)).drew) A A') := by
  obtain ⟨hr, hb, hne, A', hT, hA', hK⟩ := h
  have k : ∀ j, j ≠ w.heap.size + 1 → ((ZZ.setCell ⟨w.heap.size + 1, 0, none⟩ (.int .i64 p1)).setCell ⟨w.heap.size + 1, 1, none⟩ (.int .i64 p2)).drew.heap[j]? = ZZ.heap[j]? := fun j hj => (Below.heap_setCell _ _ _ j (by simpa using hj)).trans (Below.heap_setCell _ _ _ j (by simpa using hj))
  have v1 := set_blk (j := 0) hb (.int .i64 p1)
  have v2 := set_blk (j := 1) v1 (.int .i64 p2)
  have v3 : ((ZZ.setCell ⟨w.heap.size + 1, 0, none⟩ (.int .i64 p1)).setCell ⟨w.heap.size + 1, 1, none⟩ (.int .i64 p2)).drew.heap[w.heap.size + 1]? = _ := v2
  have hd : ZZ.drew.heap[rs]? = _ := hr
  have hz : ZZ.heap.size ≤ ((ZZ.setCell ⟨w.heap.size + 1, 0, none⟩ (.int .i64 p1)).setCell ⟨w.heap.size + 1, 1, none⟩ (.int .i64 p2)).drew.heap.size := by
    show _ ≤ ((ZZ.setCell ⟨w.heap.size + 1, 0, none⟩ (.int .i64 p1)).setCell ⟨w.heap.size + 1, 1, none⟩ (.int .i64 p2)).heap.size
    have a1 := (grownBy_setCell ZZ (w.heap.size + 1) 0 (.int .i64 p1)).size
    have a2 := (grownBy_setCell (ZZ.setCell ⟨w.heap.size + 1, 0, none⟩ (.int .i64 p1)) (w.heap.size + 1) 1 (.int .i64 p2)).size
    omega
  have hr' := (k rs hne).trans hr
  refine ⟨⟨by simp only [World.cell?, hd]; rfl, by simp only [World.cell?, hd]; rfl, by simp only [World.cell?, hd]; rfl⟩, ⟨by simp only [World.cell?, hr']; rfl, by simp only [World.cell?, hr']; rfl, by simp only [World.cell?, hr']; rfl⟩, by simp only [World.cell?, hb]; rfl, by simp only [World.cell?, hb]; rfl, by simp only [World.frozen?, hb]; rfl, by simp only [World.frozen?, hb]; rfl, by simp only [World.cell?, v3]; rfl, by simp only [World.cell?, v3]; rfl, hid ⟨A', hT.same hz (fun j hj => k j (fun e => hA' (e ▸ hj))), Nat.le_trans hK.size hz, fun j hj hA => (k j (by omega)).trans (hK.keep j hj hA), hK.new, hK.sm⟩⟩

/-- Behind now. -/
def ParI (w V W1 : World) (t : Nat) (l : List Mv) (A : Nat → Prop) (d1 d2 p1 p2 : Int) (ky : ByteArray) (Bv : Bool) : Prop :=
  ∃ pl, W1.cell? ⟨t, 3, none⟩ = some pl ∧ (Instr.lookup 63 pl (.agg #[.int .i64 d1, .int .i64 d2]) true).run Try.prog W1 = .ok (.tuple #[.agg #[.int .i64 p1, .int .i64 p2, .string ky], .bool Bv]) W1 ∧
    ((W1.alloc (.cells #[.int .i64 0, .int .i64 0, .string ⟨#[]⟩] 74)).cell? ⟨t, 3, none⟩ = some pl ∧ (Instr.lookup 63 pl (.agg #[.int .i64 d1, .int .i64 d2]) true).run Try.prog (W1.alloc (.cells #[.int .i64 0, .int .i64 0, .string ⟨#[]⟩] 74)) = .ok (.tuple #[.agg #[.int .i64 p1, .int .i64 p2, .string ky], .bool Bv]) (W1.alloc (.cells #[.int .i64 0, .int .i64 0, .string ⟨#[]⟩] 74)) ∧ ((W1.alloc (.cells #[.int .i64 0, .int .i64 0, .string ⟨#[]⟩] 74)).cell? ⟨w.heap.size, 0, none⟩ = some (.int .i64 d1) ∧ (W1.alloc (.cells #[.int .i64 0, .int .i64 0, .string ⟨#[]⟩] 74)).cell? ⟨w.heap.size, 1, none⟩ = some (.int .i64 d2)) ∧ ((W1.alloc (.cells #[.int .i64 p1, .int .i64 p2, .string ky] 74)).cell? ⟨w.heap.size, 0, none⟩ = some (.int .i64 d1) ∧ (W1.alloc (.cells #[.int .i64 p1, .int .i64 p2, .string ky] 74)).cell? ⟨w.heap.size, 1, none⟩ = some (.int .i64 d2)) ∧ Hid (ParQ w (W1.alloc (.cells #[.int .i64 p1, .int .i64 p2, .string ky] 74)) t W1.heap.size l A p1 p2 ky)) ∧
    (∀ rs, V.heap[rs]? = some (.cells #[.int .i64 0, .int .i64 0, .string ⟨#[]⟩] 74 (0, 0)) → w.heap.size + 2 ≤ rs → W1.cell? ⟨rs, 0, none⟩ = some (.int .i64 0) ∧ W1.cell? ⟨rs, 1, none⟩ = some (.int .i64 0) ∧ W1.cell? ⟨rs, 2, none⟩ = some (.string ⟨#[]⟩) ∧ W1.frozen? ⟨rs, 0, none⟩ = false ∧ W1.frozen? ⟨rs, 1, none⟩ = false ∧ W1.frozen? ⟨rs, 2, none⟩ = false ∧ ((((W1.setCell ⟨rs, 0, none⟩ (.int .i64 p1)).setCell ⟨rs, 1, none⟩ (.int .i64 p2)).setCell ⟨rs, 2, none⟩ (.string ky)).cell? ⟨w.heap.size, 0, none⟩ = some (.int .i64 d1) ∧ (((W1.setCell ⟨rs, 0, none⟩ (.int .i64 p1)).setCell ⟨rs, 1, none⟩ (.int .i64 p2)).setCell ⟨rs, 2, none⟩ (.string ky)).cell? ⟨w.heap.size, 1, none⟩ = some (.int .i64 d2)) ∧ Hid (ParQ w (((W1.setCell ⟨rs, 0, none⟩ (.int .i64 p1)).setCell ⟨rs, 1, none⟩ (.int .i64 p2)).setCell ⟨rs, 2, none⟩ (.string ky)) t rs l A p1 p2 ky))

theorem par_now (t : Nat) (l : List Mv) (A : Nat → Prop) (d1 d2 p1 p2 : Int) (ky : ByteArray) (Bv : Bool) (w V : World) (h : TT w t l A) (hd : Dw (d1, d2)) (hq : (lk (run l) (d1, d2)).getD pl0 = ((p1, p2), ky)) (hBv : Bv = (lk (run l) (d1, d2)).isSome) (hB : Below w.heap.size w V) (hb0 : V.heap[w.heap.size]? = some (.cells #[.int .i64 d1, .int .i64 d2] 24 (0, 0))) (hb1 : V.heap[w.heap.size + 1]? = some (.cells #[.int .i64 0, .int .i64 0] 24 (0, 0))) :
    Calls Try.prog 39 #[.pointer (some ⟨t, 0, none⟩)] V fun e W1 => e = .returned (.pointer (some ⟨t, 3, none⟩)) ∧ (W1.cell? ⟨w.heap.size, 0, none⟩ = some (.int .i64 d1) ∧ W1.cell? ⟨w.heap.size, 1, none⟩ = some (.int .i64 d2)) ∧ Hid (ParI w V W1 t l A d1 d2 p1 p2 ky Bv) := by
  have hl0 := (Array.getElem?_eq_some_iff.1 hb0).1
  have hl1 := (Array.getElem?_eq_some_iff.1 hb1).1
  have hAH : ∀ j, w.heap.size ≤ j → ¬ A j := fun j hj e => by have := h.lt _ e; omega
  have hT0 : TT V t l A := h.below hB
  refine (now_tt hT0).mono (fun e W1 hh => ?_)
  obtain ⟨e1, gs, S, lg, fd, pl, kd, fl, B, A', h1, h2, h3, h4, h5⟩ := hh
  obtain ⟨q1, q2, q3, q4⟩ := h1.lk_run
  have hz := h5.size
  have c0 : W1.heap[w.heap.size]? = _ := (h5.keep w.heap.size hl0 (hAH _ (Nat.le_refl _))).trans hb0
  have c1 : W1.heap[w.heap.size + 1]? = some (.cells #[.int .i64 0, .int .i64 0] 24 (0, 0)) := (h5.keep (w.heap.size + 1) hl1 (hAH _ (by omega))).trans hb1
  have htb := h1.tb
  unfold TB at htb
  have htw := (Array.getElem?_eq_some_iff.1 htb).1
  have hlk := h1.sb.v.lookOk (d := (d1, d2)) hd
  rw [q2, ← hBv, hq] at hlk
  have hlkz := (h1.sb.v.below ((Below.refl W1.heap.size W1).alloc (Nat.le_refl _) (.cells #[.int .i64 0, .int .i64 0, .string ⟨#[]⟩] 74))).lookOk (d := (d1, d2)) hd
  rw [q2, ← hBv, hq] at hlkz
  have nA' : ∀ j, w.heap.size ≤ j → j < V.heap.size → ¬ A' j := fun j hj hj2 e => by
    rcases h5.new _ e with e | e
    · exact hAH _ hj e
    · omega
  have hTT := h1.tt h2 h3 h4
  have hka := KA.pre h.lt hB h5
  have k0 : ∀ (o : Obj) (j : Nat), j < W1.heap.size → (W1.alloc o).heap[j]? = W1.heap[j]? := fun o j hj => Below.heap_alloc W1 o _ hj
  refine ⟨e1, ⟨by simp [World.cell?, c0], by simp [World.cell?, c0]⟩, hid ⟨pl, by simp [World.cell?, htb], hlk, ⟨by simp only [World.cell?, k0 _ t htw, htb]; rfl, hlkz, ⟨by simp only [World.cell?, k0 _ w.heap.size (by omega), c0]; rfl, by simp only [World.cell?, k0 _ w.heap.size (by omega), c0]; rfl⟩, ⟨by simp only [World.cell?, k0 _ w.heap.size (by omega), c0]; rfl, by simp only [World.cell?, k0 _ w.heap.size (by omega), c0]; rfl⟩, hid ⟨World.alloc_heap_new W1 _, (k0 _ _ (by omega)).trans c1, by omega, A', hTT.same (by simp) (fun j hj => k0 _ j (h1.as_ j hj)), nA' _ (by omega) hl1, hka.post ((Below.refl _ W1).alloc (Nat.le_refl _) _)⟩⟩, fun rs hrs hge => ?_⟩⟩
  have hrl := (Array.getElem?_eq_some_iff.1 hrs).1
  have cr : W1.heap[rs]? = _ := (h5.keep rs hrl (hAH _ (by omega))).trans hrs
  have keep : ∀ j, j ≠ rs → (((W1.setCell ⟨rs, 0, none⟩ (.int .i64 p1)).setCell ⟨rs, 1, none⟩ (.int .i64 p2)).setCell ⟨rs, 2, none⟩ (.string ky)).heap[j]? = W1.heap[j]? := fun j hj => (Below.heap_setCell _ _ _ j (by simpa using hj)).trans ((Below.heap_setCell _ _ _ j (by simpa using hj)).trans (Below.heap_setCell _ _ _ j (by simpa using hj)))
  have hz3 : W1.heap.size ≤ (((W1.setCell ⟨rs, 0, none⟩ (.int .i64 p1)).setCell ⟨rs, 1, none⟩ (.int .i64 p2)).setCell ⟨rs, 2, none⟩ (.string ky)).heap.size := (put3_grown W1 rs p1 p2 ky).size
  have hrb : (((W1.setCell ⟨rs, 0, none⟩ (.int .i64 p1)).setCell ⟨rs, 1, none⟩ (.int .i64 p2)).setCell ⟨rs, 2, none⟩ (.string ky)).heap[rs]? = some (.cells #[.int .i64 p1, .int .i64 p2, .string ky] 74 (0, 0)) := put3_block cr
  have c0' := (keep w.heap.size (by omega)).trans c0
  refine ⟨by simp [World.cell?, cr], by simp [World.cell?, cr], by simp [World.cell?, cr], by simp [World.frozen?, cr], by simp [World.frozen?, cr], by simp [World.frozen?, cr], ⟨by simp only [World.cell?, c0']; rfl, by simp only [World.cell?, c0']; rfl⟩, hid ⟨hrb, (keep _ (by omega)).trans c1, by omega, A', hTT.same hz3 (fun j hj => keep j (fun e => nA' rs (by omega) hrl (e ▸ hj))), nA' _ (by omega) hl1, Nat.le_trans hka.size hz3, fun j hj hA => (keep j (by omega)).trans (hka.keep j hj hA), hka.new, hka.sm⟩⟩

set_option maxRecDepth 100000 in
set_option maxHeartbeats 4000000 in
theorem parent_tt (t : Nat) (l : List Mv) (A : Nat → Prop) (d : Dt) (w : World) (h : TT w t l A) (hd : Dw d) :
    Calls Try.prog 16 #[.pointer (some ⟨t, 0, none⟩), dv d] w fun e w' => e = .returned (.tuple #[dv ((lk (run l) d).getD pl0).1, .string ((lk (run l) d).getD pl0).2, .bool (lk (run l) d).isSome]) ∧ ∃ A', TT w' t l A' ∧ KA w w' A A' := by
  obtain ⟨d1, d2⟩ := d
  have hmxo : Try.prog.follows .mixedOrders = true := by kernel_rfl
  obtain ⟨W0, hW0⟩ : ∃ W0, W0 = (w.alloc (.cells #[.int .i64 d1, .int .i64 d2] 24)).alloc (.cells #[.int .i64 0, .int .i64 0] 24) := ⟨_, rfl⟩
  have hB0 : Below w.heap.size w W0 := by rw [hW0]; exact ((Below.refl _ w).alloc (Nat.le_refl _) _).alloc (by simp) _
  have hsz : W0.heap.size = w.heap.size + 2 := by rw [hW0]; simp
  have hb0 : W0.heap[w.heap.size]? = some (.cells #[.int .i64 d1, .int .i64 d2] 24 (0, 0)) := by rw [hW0]; exact (Below.heap_alloc _ _ _ (by simp)).trans (World.alloc_heap_new w _)
  have hb1 : W0.heap[w.heap.size + 1]? = some (.cells #[.int .i64 0, .int .i64 0] 24 (0, 0)) := by
    rw [hW0]
    have := World.alloc_heap_new (w.alloc (.cells #[.int .i64 d1, .int .i64 d2] 24)) (.cells #[.int .i64 0, .int .i64 0] 24)
    rw [World.size_alloc] at this
    exact this
  obtain ⟨p1, p2, ky, hq⟩ : ∃ p1 p2 ky, (lk (run l) (d1, d2)).getD pl0 = ((p1, p2), ky) := ⟨_, _, _, rfl⟩
  obtain ⟨Bv, hBv⟩ : ∃ Bv, Bv = (lk (run l) (d1, d2)).isSome := ⟨_, rfl⟩
  have HN := par_now t l A d1 d2 p1 p2 ky Bv w W0.drew h hd hq hBv (hB0.trans ((((Far.refl W0).drewN 1).below).mono hB0.size)) hb0 hb1
  obtain ⟨WA, hWA⟩ : ∃ WA, WA = (W0.alloc (.cells #[.int .i64 0, .int .i64 0, .string ⟨#[]⟩] 74)).drew := ⟨_, rfl⟩
  have hBA : Below W0.heap.size W0 WA := by rw [hWA]; exact ((Below.refl _ W0).alloc (Nat.le_refl _) _).drew
  have a0 := (hBA.block w.heap.size (by omega)).trans hb0
  have HNA := par_now t l A d1 d2 p1 p2 ky Bv w WA h hd hq hBv (hB0.trans (hBA.mono hB0.size)) a0 ((hBA.block (w.heap.size + 1) (by omega)).trans hb1)
  have hra : WA.heap[W0.heap.size]? = some (.cells #[.int .i64 0, .int .i64 0, .string ⟨#[]⟩] 74 (0, 0)) := by rw [hWA]; exact World.alloc_heap_new W0 _
  have HRA : Hid (WA.heap[W0.heap.size]? = some (.cells #[.int .i64 0, .int .i64 0, .string ⟨#[]⟩] 74 (0, 0)) ∧ w.heap.size + 2 ≤ W0.heap.size) := hid ⟨hra, by omega⟩
  have hSA : WA.cell? ⟨w.heap.size, 0, none⟩ = some (.int .i64 d1) ∧ WA.cell? ⟨w.heap.size, 1, none⟩ = some (.int .i64 d2) := ⟨by simp [World.cell?, a0], by simp [World.cell?, a0]⟩
  have hS0 : W0.drew.cell? ⟨w.heap.size, 0, none⟩ = some (.int .i64 d1) ∧ W0.drew.cell? ⟨w.heap.size, 1, none⟩ = some (.int .i64 d2) := ⟨by show W0.cell? _ = _; simp [World.cell?, hb0], by show W0.cell? _ = _; simp [World.cell?, hb0]⟩
  rw [hq, ← hBv]
  have HW := hid hW0
  have HWA := hid hWA
  clear hW0 hWA hBA a0 hra hB0 hb0 hb1 hBv hq h hsz
  go_enter Try.func16, Try.ntmps16
  go_wp2_with fail
  rw [← HW.out]
  refine wp_region_held_drew (S := fun w' => w'.cell? ⟨w.heap.size, 0, none⟩ = some (.int .i64 d1) ∧ w'.cell? ⟨w.heap.size, 1, none⟩ = some (.int .i64 d2)) hmxo hS0 ?_
  intro _
  refine wpAnyH_take (i := 0) (v := .pointer (some ⟨t, 0, none⟩)) rfl (by kernel_rfl) (by kernel_rfl) (by kernel_rfl) (fun _ _ _ h => h) (Or.inl ⟨by kernel_rfl, fun w hSw => ?_⟩) hS0 ?_
  · obtain ⟨e1, e2⟩ := hSw; go_simp
  simp only [Act.put, List.getElem_toArray, List.getElem_cons_succ, List.getElem_cons_zero, List.setIfInBounds_toArray, List.set_cons_zero, List.set_cons_succ]
  refine wpAnyH_take (i := 5) (v := .agg #[.int .i64 d1, .int .i64 d2]) rfl (by kernel_rfl) (by kernel_rfl) (by kernel_rfl) (fun _ _ _ h => h) (Or.inl ⟨by kernel_rfl, fun w hSw => ?_⟩) hS0 ?_
  · obtain ⟨e1, e2⟩ := hSw; go_simp
  simp only [Act.put, List.getElem_toArray, List.getElem_cons_succ, List.getElem_cons_zero, List.setIfInBounds_toArray, List.set_cons_zero, List.set_cons_succ]
  refine wpAnyH_ready (rs := [1, 10]) (by kernel_rfl) (by simp) ?_
  refine AllReadyH.cons rfl (fun K hK => ?_) (AllReadyH.cons rfl (fun K hK => ?_) AllReadyH.nil)
  · go_simp
    refine HN.mono ?_
    rintro e W1 ⟨rfl, S1, HP⟩
    refine hK.out _ _ S1 (fun _ => ?_)
    clear hK K
    obtain ⟨pl, c3, hlk, ⟨c3z, hlkz, Sz0, Sz, HQ⟩, _⟩ := HP.out
    clear HP HNA hSA
    refine wpAnyH_take (i := 2) (v := .pointer (some ⟨t, 3, none⟩)) rfl (by kernel_rfl) (by kernel_rfl) (by kernel_rfl) (fun _ _ _ h => h) (Or.inl ⟨by kernel_rfl, fun w hSw => ?_⟩) S1 ?_
    · obtain ⟨e1, e2⟩ := hSw; go_simp
    simp only [Act.put, List.getElem_toArray, List.getElem_cons_succ, List.getElem_cons_zero, List.setIfInBounds_toArray, List.set_cons_zero, List.set_cons_succ]
    refine wpAnyH_take (i := 3) (v := .pointer (some ⟨t, 3, none⟩)) rfl (by kernel_rfl) (by kernel_rfl) (by kernel_rfl) (fun _ _ _ h => h) (Or.inl ⟨by kernel_rfl, fun w hSw => ?_⟩) S1 ?_
    · obtain ⟨e1, e2⟩ := hSw; go_simp
    simp only [Act.put, List.getElem_toArray, List.getElem_cons_succ, List.getElem_cons_zero, List.setIfInBounds_toArray, List.set_cons_zero, List.set_cons_succ]
    refine wpAnyH_ready (rs := [4, 10]) (by kernel_rfl) (by simp) ?_
    refine AllReadyH.cons rfl (fun K hK => ?_) (AllReadyH.cons rfl (fun K hK => ?_) AllReadyH.nil)
    · go_simp
      refine hK.out _ _ S1 (fun _ => ?_)
      clear hK K
      refine wpAnyH_ready (rs := [6, 10]) (by kernel_rfl) (by simp) ?_
      refine AllReadyH.cons rfl (fun K hK => ?_) (AllReadyH.cons rfl (fun K hK => ?_) AllReadyH.nil)
      · go_simp
        refine hK.out _ _ S1 (fun _ => ?_)
        clear hK K
        refine wpAnyH_take (i := 7) (v := .tuple #[.agg #[.int .i64 p1, .int .i64 p2, .string ky], .bool Bv]) rfl (by kernel_rfl) (by kernel_rfl) (by kernel_rfl) (fun _ _ _ h => h) (Or.inl ⟨by kernel_rfl, fun w hSw => ?_⟩) S1 ?_
        · obtain ⟨e1, e2⟩ := hSw; go_simp
        simp only [Act.put, List.getElem_toArray, List.getElem_cons_succ, List.getElem_cons_zero, List.setIfInBounds_toArray, List.set_cons_zero, List.set_cons_succ]
        refine wpAnyH_take (i := 8) (v := .agg #[.int .i64 p1, .int .i64 p2, .string ky]) rfl (by kernel_rfl) (by kernel_rfl) (by kernel_rfl) (fun _ _ _ h => h) (Or.inl ⟨by kernel_rfl, fun w hSw => ?_⟩) S1 ?_
        · obtain ⟨e1, e2⟩ := hSw; go_simp
        simp only [Act.put, List.getElem_toArray, List.getElem_cons_succ, List.getElem_cons_zero, List.setIfInBounds_toArray, List.set_cons_zero, List.set_cons_succ]
        refine wpAnyH_take (i := 9) (v := .bool Bv) rfl (by kernel_rfl) (by kernel_rfl) (by kernel_rfl) (fun _ _ _ h => h) (Or.inl ⟨by kernel_rfl, fun w hSw => ?_⟩) S1 ?_
        · obtain ⟨e1, e2⟩ := hSw; go_simp
        simp only [Act.put, List.getElem_toArray, List.getElem_cons_succ, List.getElem_cons_zero, List.setIfInBounds_toArray, List.set_cons_zero, List.set_cons_succ]
        refine wpAnyH_ready (rs := [10]) (by kernel_rfl) (by simp) ?_
        refine AllReadyH.cons rfl (fun K hK => ?_) AllReadyH.nil
        go_simp
        refine hK.out _ _ Sz0 (fun _ => ?_)
        clear hK K
        skip
        refine wpAnyH_ready (rs := [11]) (by kernel_rfl) (by simp) ?_
        refine AllReadyH.cons rfl (fun K hK => ?_) AllReadyH.nil
        go_simp
        refine hK.out _ _ Sz (fun _ => ?_)
        clear hK K
        refine wpAnyH_take (i := 12) (v := .bool Bv) rfl (by kernel_rfl) (by kernel_rfl) (by kernel_rfl) (fun _ _ _ h => h) (Or.inl ⟨by kernel_rfl, fun w hSw => ?_⟩) Sz ?_
        · obtain ⟨e1, e2⟩ := hSw; go_simp
        simp only [Act.put, List.getElem_toArray, List.getElem_cons_succ, List.getElem_cons_zero, List.setIfInBounds_toArray, List.set_cons_zero, List.set_cons_succ]
        obtain ⟨ZZ, hZZ⟩ : ∃ ZZ, ZZ = W1.alloc (.cells #[.int .i64 p1, .int .i64 p2, .string ky] 74) := ⟨_, rfl⟩
        obtain ⟨rs, hrs⟩ : ∃ rs, rs = W1.heap.size := ⟨_, rfl⟩
        rw [← hZZ, ← hrs] at HQ
        clear HN hS0 hlk hlkz c3 c3z Sz0 Sz S1
        refine wpAnyH_done (by kernel_rfl) ?_ _
        obtain ⟨hS2, hS3, x0, x1, f0, f1, r0, r1, HF⟩ := HQ.out.fin
        clear HQ
        go_wp2_with fail
        rw [← hZZ, ← hrs]
        clear hZZ hrs
        refine wp_region_held_drew (S := fun w' => w'.cell? ⟨rs, 0, none⟩ = some (.int .i64 p1) ∧ w'.cell? ⟨rs, 1, none⟩ = some (.int .i64 p2) ∧ w'.cell? ⟨rs, 2, none⟩ = some (.string ky)) hmxo hS2 ?_
        intro _
        refine wpAnyH_take (i := 0) (v := .pointer (some ⟨rs, 0, none⟩)) rfl (by kernel_rfl) (by kernel_rfl) (by kernel_rfl) (fun _ _ _ h => h) (Or.inl ⟨by kernel_rfl, fun w hSw => ?_⟩) hS2 ?_
        · obtain ⟨e1, e2, e3⟩ := hSw; go_simp
        simp only [Act.put, List.getElem_toArray, List.getElem_cons_succ, List.getElem_cons_zero, List.setIfInBounds_toArray, List.set_cons_zero, List.set_cons_succ]
        refine wpAnyH_take (i := 1) (v := .agg #[.int .i64 p1, .int .i64 p2]) rfl (by kernel_rfl) (by kernel_rfl) (by kernel_rfl) (fun _ _ _ h => h) (Or.inl ⟨by kernel_rfl, fun w hSw => ?_⟩) hS2 ?_
        · obtain ⟨e1, e2, e3⟩ := hSw; go_simp
        simp only [Act.put, List.getElem_toArray, List.getElem_cons_succ, List.getElem_cons_zero, List.setIfInBounds_toArray, List.set_cons_zero, List.set_cons_succ]
        refine wpAnyH_take (i := 2) (v := .pointer (some ⟨rs, 2, none⟩)) rfl (by kernel_rfl) (by kernel_rfl) (by kernel_rfl) (fun _ _ _ h => h) (Or.inl ⟨by kernel_rfl, fun w hSw => ?_⟩) hS2 ?_
        · obtain ⟨e1, e2, e3⟩ := hSw; go_simp
        simp only [Act.put, List.getElem_toArray, List.getElem_cons_succ, List.getElem_cons_zero, List.setIfInBounds_toArray, List.set_cons_zero, List.set_cons_succ]
        refine wpAnyH_take (i := 3) (v := .string ky) rfl (by kernel_rfl) (by kernel_rfl) (by kernel_rfl) (fun _ _ _ h => h) (Or.inl ⟨by kernel_rfl, fun w hSw => ?_⟩) hS2 ?_
        · obtain ⟨e1, e2, e3⟩ := hSw; go_simp
        simp only [Act.put, List.getElem_toArray, List.getElem_cons_succ, List.getElem_cons_zero, List.setIfInBounds_toArray, List.set_cons_zero, List.set_cons_succ]
        refine wpAnyH_take (i := 4) (v := .bool Bv) rfl (by kernel_rfl) (by kernel_rfl) (by kernel_rfl) (fun _ _ _ h => h) (Or.inl ⟨by kernel_rfl, fun w hSw => ?_⟩) hS2 ?_
        · obtain ⟨e1, e2, e3⟩ := hSw; go_simp
        simp only [Act.put, List.getElem_toArray, List.getElem_cons_succ, List.getElem_cons_zero, List.setIfInBounds_toArray, List.set_cons_zero, List.set_cons_succ]
        refine wpAnyH_ready (rs := [5]) (by kernel_rfl) (by simp) ?_
        refine AllReadyH.cons rfl (fun K hK => ?_) AllReadyH.nil
        go_simp
        refine hK.out _ _ hS3 (fun _ => ?_)
        clear hK K
        refine wpAnyH_take (i := 6) (v := .string ky) rfl (by kernel_rfl) (by kernel_rfl) (by kernel_rfl) (fun _ _ _ h => h) (Or.inl ⟨by kernel_rfl, fun w hSw => ?_⟩) hS3 ?_
        · obtain ⟨e1, e2, e3⟩ := hSw; go_simp
        simp only [Act.put, List.getElem_toArray, List.getElem_cons_succ, List.getElem_cons_zero, List.setIfInBounds_toArray, List.set_cons_zero, List.set_cons_succ]
        refine wpAnyH_take (i := 7) (v := .bool Bv) rfl (by kernel_rfl) (by kernel_rfl) (by kernel_rfl) (fun _ _ _ h => h) (Or.inl ⟨by kernel_rfl, fun w hSw => ?_⟩) hS3 ?_
        · obtain ⟨e1, e2, e3⟩ := hSw; go_simp
        simp only [Act.put, List.getElem_toArray, List.getElem_cons_succ, List.getElem_cons_zero, List.setIfInBounds_toArray, List.set_cons_zero, List.set_cons_succ]
        refine wpAnyH_done (by kernel_rfl) ?_ _
        go_wp2
        refine bodyPost_ret (v := .tuple #[dv (p1, p2), .string ky, .bool Bv]) (by simp [results, Try.results16, go_sem, r0, r1, dv]) rfl ?_
        exact ⟨rfl, HF.out⟩
      · go_simp
        refine hK.out _ _ Sz0 (fun _ => ?_)
        clear hK K
        refine wpAnyH_ready (rs := [6]) (by kernel_rfl) (by simp) ?_
        refine AllReadyH.cons rfl (fun K hK => ?_) AllReadyH.nil
        go_simp
        refine hK.out _ _ Sz0 (fun _ => ?_)
        clear hK K
        refine wpAnyH_take (i := 7) (v := .tuple #[.agg #[.int .i64 p1, .int .i64 p2, .string ky], .bool Bv]) rfl (by kernel_rfl) (by kernel_rfl) (by kernel_rfl) (fun _ _ _ h => h) (Or.inl ⟨by kernel_rfl, fun w hSw => ?_⟩) Sz0 ?_
        · obtain ⟨e1, e2⟩ := hSw; go_simp
        simp only [Act.put, List.getElem_toArray, List.getElem_cons_succ, List.getElem_cons_zero, List.setIfInBounds_toArray, List.set_cons_zero, List.set_cons_succ]
        refine wpAnyH_take (i := 8) (v := .agg #[.int .i64 p1, .int .i64 p2, .string ky]) rfl (by kernel_rfl) (by kernel_rfl) (by kernel_rfl) (fun _ _ _ h => h) (Or.inl ⟨by kernel_rfl, fun w hSw => ?_⟩) Sz0 ?_
        · obtain ⟨e1, e2⟩ := hSw; go_simp
        simp only [Act.put, List.getElem_toArray, List.getElem_cons_succ, List.getElem_cons_zero, List.setIfInBounds_toArray, List.set_cons_zero, List.set_cons_succ]
        refine wpAnyH_take (i := 9) (v := .bool Bv) rfl (by kernel_rfl) (by kernel_rfl) (by kernel_rfl) (fun _ _ _ h => h) (Or.inl ⟨by kernel_rfl, fun w hSw => ?_⟩) Sz0 ?_
        · obtain ⟨e1, e2⟩ := hSw; go_simp
        simp only [Act.put, List.getElem_toArray, List.getElem_cons_succ, List.getElem_cons_zero, List.setIfInBounds_toArray, List.set_cons_zero, List.set_cons_succ]
        refine wpAnyH_ready (rs := [11]) (by kernel_rfl) (by simp) ?_
        refine AllReadyH.cons rfl (fun K hK => ?_) AllReadyH.nil
        go_simp
        refine hK.out _ _ Sz (fun _ => ?_)
        clear hK K
        refine wpAnyH_take (i := 12) (v := .bool Bv) rfl (by kernel_rfl) (by kernel_rfl) (by kernel_rfl) (fun _ _ _ h => h) (Or.inl ⟨by kernel_rfl, fun w hSw => ?_⟩) Sz ?_
        · obtain ⟨e1, e2⟩ := hSw; go_simp
        simp only [Act.put, List.getElem_toArray, List.getElem_cons_succ, List.getElem_cons_zero, List.setIfInBounds_toArray, List.set_cons_zero, List.set_cons_succ]
        obtain ⟨ZZ, hZZ⟩ : ∃ ZZ, ZZ = W1.alloc (.cells #[.int .i64 p1, .int .i64 p2, .string ky] 74) := ⟨_, rfl⟩
        obtain ⟨rs, hrs⟩ : ∃ rs, rs = W1.heap.size := ⟨_, rfl⟩
        rw [← hZZ, ← hrs] at HQ
        clear HN hS0 hlk hlkz c3 c3z Sz0 Sz S1
        refine wpAnyH_done (by kernel_rfl) ?_ _
        obtain ⟨hS2, hS3, x0, x1, f0, f1, r0, r1, HF⟩ := HQ.out.fin
        clear HQ
        go_wp2_with fail
        rw [← hZZ, ← hrs]
        clear hZZ hrs
        refine wp_region_held_drew (S := fun w' => w'.cell? ⟨rs, 0, none⟩ = some (.int .i64 p1) ∧ w'.cell? ⟨rs, 1, none⟩ = some (.int .i64 p2) ∧ w'.cell? ⟨rs, 2, none⟩ = some (.string ky)) hmxo hS2 ?_
        intro _
        refine wpAnyH_take (i := 0) (v := .pointer (some ⟨rs, 0, none⟩)) rfl (by kernel_rfl) (by kernel_rfl) (by kernel_rfl) (fun _ _ _ h => h) (Or.inl ⟨by kernel_rfl, fun w hSw => ?_⟩) hS2 ?_
        · obtain ⟨e1, e2, e3⟩ := hSw; go_simp
        simp only [Act.put, List.getElem_toArray, List.getElem_cons_succ, List.getElem_cons_zero, List.setIfInBounds_toArray, List.set_cons_zero, List.set_cons_succ]
        refine wpAnyH_take (i := 1) (v := .agg #[.int .i64 p1, .int .i64 p2]) rfl (by kernel_rfl) (by kernel_rfl) (by kernel_rfl) (fun _ _ _ h => h) (Or.inl ⟨by kernel_rfl, fun w hSw => ?_⟩) hS2 ?_
        · obtain ⟨e1, e2, e3⟩ := hSw; go_simp
        simp only [Act.put, List.getElem_toArray, List.getElem_cons_succ, List.getElem_cons_zero, List.setIfInBounds_toArray, List.set_cons_zero, List.set_cons_succ]
        refine wpAnyH_take (i := 2) (v := .pointer (some ⟨rs, 2, none⟩)) rfl (by kernel_rfl) (by kernel_rfl) (by kernel_rfl) (fun _ _ _ h => h) (Or.inl ⟨by kernel_rfl, fun w hSw => ?_⟩) hS2 ?_
        · obtain ⟨e1, e2, e3⟩ := hSw; go_simp
        simp only [Act.put, List.getElem_toArray, List.getElem_cons_succ, List.getElem_cons_zero, List.setIfInBounds_toArray, List.set_cons_zero, List.set_cons_succ]
        refine wpAnyH_take (i := 3) (v := .string ky) rfl (by kernel_rfl) (by kernel_rfl) (by kernel_rfl) (fun _ _ _ h => h) (Or.inl ⟨by kernel_rfl, fun w hSw => ?_⟩) hS2 ?_
        · obtain ⟨e1, e2, e3⟩ := hSw; go_simp
        simp only [Act.put, List.getElem_toArray, List.getElem_cons_succ, List.getElem_cons_zero, List.setIfInBounds_toArray, List.set_cons_zero, List.set_cons_succ]
        refine wpAnyH_take (i := 4) (v := .bool Bv) rfl (by kernel_rfl) (by kernel_rfl) (by kernel_rfl) (fun _ _ _ h => h) (Or.inl ⟨by kernel_rfl, fun w hSw => ?_⟩) hS2 ?_
        · obtain ⟨e1, e2, e3⟩ := hSw; go_simp
        simp only [Act.put, List.getElem_toArray, List.getElem_cons_succ, List.getElem_cons_zero, List.setIfInBounds_toArray, List.set_cons_zero, List.set_cons_succ]
        refine wpAnyH_ready (rs := [5]) (by kernel_rfl) (by simp) ?_
        refine AllReadyH.cons rfl (fun K hK => ?_) AllReadyH.nil
        go_simp
        refine hK.out _ _ hS3 (fun _ => ?_)
        clear hK K
        refine wpAnyH_take (i := 6) (v := .string ky) rfl (by kernel_rfl) (by kernel_rfl) (by kernel_rfl) (fun _ _ _ h => h) (Or.inl ⟨by kernel_rfl, fun w hSw => ?_⟩) hS3 ?_
        · obtain ⟨e1, e2, e3⟩ := hSw; go_simp
        simp only [Act.put, List.getElem_toArray, List.getElem_cons_succ, List.getElem_cons_zero, List.setIfInBounds_toArray, List.set_cons_zero, List.set_cons_succ]
        refine wpAnyH_take (i := 7) (v := .bool Bv) rfl (by kernel_rfl) (by kernel_rfl) (by kernel_rfl) (fun _ _ _ h => h) (Or.inl ⟨by kernel_rfl, fun w hSw => ?_⟩) hS3 ?_
        · obtain ⟨e1, e2, e3⟩ := hSw; go_simp
        simp only [Act.put, List.getElem_toArray, List.getElem_cons_succ, List.getElem_cons_zero, List.setIfInBounds_toArray, List.set_cons_zero, List.set_cons_succ]
        refine wpAnyH_done (by kernel_rfl) ?_ _
        go_wp2
        refine bodyPost_ret (v := .tuple #[dv (p1, p2), .string ky, .bool Bv]) (by simp [results, Try.results16, go_sem, r0, r1, dv]) rfl ?_
        exact ⟨rfl, HF.out⟩
    · go_simp
      refine hK.out _ _ Sz0 (fun _ => ?_)
      clear hK K
      refine wpAnyH_ready (rs := [4]) (by kernel_rfl) (by simp) ?_
      refine AllReadyH.cons rfl (fun K hK => ?_) AllReadyH.nil
      go_simp
      refine hK.out _ _ Sz0 (fun _ => ?_)
      clear hK K
      refine wpAnyH_ready (rs := [6]) (by kernel_rfl) (by simp) ?_
      refine AllReadyH.cons rfl (fun K hK => ?_) AllReadyH.nil
      go_simp
      refine hK.out _ _ Sz0 (fun _ => ?_)
      clear hK K
      refine wpAnyH_take (i := 7) (v := .tuple #[.agg #[.int .i64 p1, .int .i64 p2, .string ky], .bool Bv]) rfl (by kernel_rfl) (by kernel_rfl) (by kernel_rfl) (fun _ _ _ h => h) (Or.inl ⟨by kernel_rfl, fun w hSw => ?_⟩) Sz0 ?_
      · obtain ⟨e1, e2⟩ := hSw; go_simp
      simp only [Act.put, List.getElem_toArray, List.getElem_cons_succ, List.getElem_cons_zero, List.setIfInBounds_toArray, List.set_cons_zero, List.set_cons_succ]
      refine wpAnyH_take (i := 8) (v := .agg #[.int .i64 p1, .int .i64 p2, .string ky]) rfl (by kernel_rfl) (by kernel_rfl) (by kernel_rfl) (fun _ _ _ h => h) (Or.inl ⟨by kernel_rfl, fun w hSw => ?_⟩) Sz0 ?_
      · obtain ⟨e1, e2⟩ := hSw; go_simp
      simp only [Act.put, List.getElem_toArray, List.getElem_cons_succ, List.getElem_cons_zero, List.setIfInBounds_toArray, List.set_cons_zero, List.set_cons_succ]
      refine wpAnyH_take (i := 9) (v := .bool Bv) rfl (by kernel_rfl) (by kernel_rfl) (by kernel_rfl) (fun _ _ _ h => h) (Or.inl ⟨by kernel_rfl, fun w hSw => ?_⟩) Sz0 ?_
      · obtain ⟨e1, e2⟩ := hSw; go_simp
      simp only [Act.put, List.getElem_toArray, List.getElem_cons_succ, List.getElem_cons_zero, List.setIfInBounds_toArray, List.set_cons_zero, List.set_cons_succ]
      refine wpAnyH_ready (rs := [11]) (by kernel_rfl) (by simp) ?_
      refine AllReadyH.cons rfl (fun K hK => ?_) AllReadyH.nil
      go_simp
      refine hK.out _ _ Sz (fun _ => ?_)
      clear hK K
      refine wpAnyH_take (i := 12) (v := .bool Bv) rfl (by kernel_rfl) (by kernel_rfl) (by kernel_rfl) (fun _ _ _ h => h) (Or.inl ⟨by kernel_rfl, fun w hSw => ?_⟩) Sz ?_
      · obtain ⟨e1, e2⟩ := hSw; go_simp
      simp only [Act.put, List.getElem_toArray, List.getElem_cons_succ, List.getElem_cons_zero, List.setIfInBounds_toArray, List.set_cons_zero, List.set_cons_succ]
      obtain ⟨ZZ, hZZ⟩ : ∃ ZZ, ZZ = W1.alloc (.cells #[.int .i64 p1, .int .i64 p2, .string ky] 74) := ⟨_, rfl⟩
      obtain ⟨rs, hrs⟩ : ∃ rs, rs = W1.heap.size := ⟨_, rfl⟩
      rw [← hZZ, ← hrs] at HQ
      clear HN hS0 hlk hlkz c3 c3z Sz0 Sz S1
      refine wpAnyH_done (by kernel_rfl) ?_ _
      obtain ⟨hS2, hS3, x0, x1, f0, f1, r0, r1, HF⟩ := HQ.out.fin
      clear HQ
      go_wp2_with fail
      rw [← hZZ, ← hrs]
      clear hZZ hrs
      refine wp_region_held_drew (S := fun w' => w'.cell? ⟨rs, 0, none⟩ = some (.int .i64 p1) ∧ w'.cell? ⟨rs, 1, none⟩ = some (.int .i64 p2) ∧ w'.cell? ⟨rs, 2, none⟩ = some (.string ky)) hmxo hS2 ?_
      intro _
      refine wpAnyH_take (i := 0) (v := .pointer (some ⟨rs, 0, none⟩)) rfl (by kernel_rfl) (by kernel_rfl) (by kernel_rfl) (fun _ _ _ h => h) (Or.inl ⟨by kernel_rfl, fun w hSw => ?_⟩) hS2 ?_
      · obtain ⟨e1, e2, e3⟩ := hSw; go_simp
      simp only [Act.put, List.getElem_toArray, List.getElem_cons_succ, List.getElem_cons_zero, List.setIfInBounds_toArray, List.set_cons_zero, List.set_cons_succ]
      refine wpAnyH_take (i := 1) (v := .agg #[.int .i64 p1, .int .i64 p2]) rfl (by kernel_rfl) (by kernel_rfl) (by kernel_rfl) (fun _ _ _ h => h) (Or.inl ⟨by kernel_rfl, fun w hSw => ?_⟩) hS2 ?_
      · obtain ⟨e1, e2, e3⟩ := hSw; go_simp
      simp only [Act.put, List.getElem_toArray, List.getElem_cons_succ, List.getElem_cons_zero, List.setIfInBounds_toArray, List.set_cons_zero, List.set_cons_succ]
      refine wpAnyH_take (i := 2) (v := .pointer (some ⟨rs, 2, none⟩)) rfl (by kernel_rfl) (by kernel_rfl) (by kernel_rfl) (fun _ _ _ h => h) (Or.inl ⟨by kernel_rfl, fun w hSw => ?_⟩) hS2 ?_
      · obtain ⟨e1, e2, e3⟩ := hSw; go_simp
      simp only [Act.put, List.getElem_toArray, List.getElem_cons_succ, List.getElem_cons_zero, List.setIfInBounds_toArray, List.set_cons_zero, List.set_cons_succ]
      refine wpAnyH_take (i := 3) (v := .string ky) rfl (by kernel_rfl) (by kernel_rfl) (by kernel_rfl) (fun _ _ _ h => h) (Or.inl ⟨by kernel_rfl, fun w hSw => ?_⟩) hS2 ?_
      · obtain ⟨e1, e2, e3⟩ := hSw; go_simp
      simp only [Act.put, List.getElem_toArray, List.getElem_cons_succ, List.getElem_cons_zero, List.setIfInBounds_toArray, List.set_cons_zero, List.set_cons_succ]
      refine wpAnyH_take (i := 4) (v := .bool Bv) rfl (by kernel_rfl) (by kernel_rfl) (by kernel_rfl) (fun _ _ _ h => h) (Or.inl ⟨by kernel_rfl, fun w hSw => ?_⟩) hS2 ?_
      · obtain ⟨e1, e2, e3⟩ := hSw; go_simp
      simp only [Act.put, List.getElem_toArray, List.getElem_cons_succ, List.getElem_cons_zero, List.setIfInBounds_toArray, List.set_cons_zero, List.set_cons_succ]
      refine wpAnyH_ready (rs := [5]) (by kernel_rfl) (by simp) ?_
      refine AllReadyH.cons rfl (fun K hK => ?_) AllReadyH.nil
      go_simp
      refine hK.out _ _ hS3 (fun _ => ?_)
      clear hK K
      refine wpAnyH_take (i := 6) (v := .string ky) rfl (by kernel_rfl) (by kernel_rfl) (by kernel_rfl) (fun _ _ _ h => h) (Or.inl ⟨by kernel_rfl, fun w hSw => ?_⟩) hS3 ?_
      · obtain ⟨e1, e2, e3⟩ := hSw; go_simp
      simp only [Act.put, List.getElem_toArray, List.getElem_cons_succ, List.getElem_cons_zero, List.setIfInBounds_toArray, List.set_cons_zero, List.set_cons_succ]
      refine wpAnyH_take (i := 7) (v := .bool Bv) rfl (by kernel_rfl) (by kernel_rfl) (by kernel_rfl) (fun _ _ _ h => h) (Or.inl ⟨by kernel_rfl, fun w hSw => ?_⟩) hS3 ?_
      · obtain ⟨e1, e2, e3⟩ := hSw; go_simp
      simp only [Act.put, List.getElem_toArray, List.getElem_cons_succ, List.getElem_cons_zero, List.setIfInBounds_toArray, List.set_cons_zero, List.set_cons_succ]
      refine wpAnyH_done (by kernel_rfl) ?_ _
      go_wp2
      refine bodyPost_ret (v := .tuple #[dv (p1, p2), .string ky, .bool Bv]) (by simp [results, Try.results16, go_sem, r0, r1, dv]) rfl ?_
      exact ⟨rfl, HF.out⟩
  · go_simp
    rw [← HWA.out]
    refine hK.out _ _ hSA (fun _ => ?_)
    clear hK K HN
    refine wpAnyH_ready (rs := [1]) (by kernel_rfl) (by simp) ?_
    refine AllReadyH.cons rfl (fun K hK => ?_) AllReadyH.nil
    go_simp
    refine HNA.mono ?_
    rintro e W1 ⟨rfl, S1, HP⟩
    refine hK.out _ _ S1 (fun _ => ?_)
    clear hK K
    obtain ⟨pl, c3, hlk, _, hR⟩ := HP.out
    obtain ⟨rs, hrs⟩ : ∃ rs, rs = W0.heap.size := ⟨_, rfl⟩
    obtain ⟨y0, y1, y2, z0, z1, z2, SN, HQ⟩ := hR _ HRA.out.1 HRA.out.2
    rw [← hrs] at y0 y1 y2 z0 z1 z2 SN HQ
    rw [← hrs]
    clear HP hR hrs HRA
    refine wpAnyH_take (i := 2) (v := .pointer (some ⟨t, 3, none⟩)) rfl (by kernel_rfl) (by kernel_rfl) (by kernel_rfl) (fun _ _ _ h => h) (Or.inl ⟨by kernel_rfl, fun w hSw => ?_⟩) S1 ?_
    · obtain ⟨e1, e2⟩ := hSw; go_simp
    simp only [Act.put, List.getElem_toArray, List.getElem_cons_succ, List.getElem_cons_zero, List.setIfInBounds_toArray, List.set_cons_zero, List.set_cons_succ]
    refine wpAnyH_take (i := 3) (v := .pointer (some ⟨t, 3, none⟩)) rfl (by kernel_rfl) (by kernel_rfl) (by kernel_rfl) (fun _ _ _ h => h) (Or.inl ⟨by kernel_rfl, fun w hSw => ?_⟩) S1 ?_
    · obtain ⟨e1, e2⟩ := hSw; go_simp
    simp only [Act.put, List.getElem_toArray, List.getElem_cons_succ, List.getElem_cons_zero, List.setIfInBounds_toArray, List.set_cons_zero, List.set_cons_succ]
    refine wpAnyH_ready (rs := [4]) (by kernel_rfl) (by simp) ?_
    refine AllReadyH.cons rfl (fun K hK => ?_) AllReadyH.nil
    go_simp
    refine hK.out _ _ S1 (fun _ => ?_)
    clear hK K
    refine wpAnyH_ready (rs := [6]) (by kernel_rfl) (by simp) ?_
    refine AllReadyH.cons rfl (fun K hK => ?_) AllReadyH.nil
    go_simp
    refine hK.out _ _ S1 (fun _ => ?_)
    clear hK K
    refine wpAnyH_take (i := 7) (v := .tuple #[.agg #[.int .i64 p1, .int .i64 p2, .string ky], .bool Bv]) rfl (by kernel_rfl) (by kernel_rfl) (by kernel_rfl) (fun _ _ _ h => h) (Or.inl ⟨by kernel_rfl, fun w hSw => ?_⟩) S1 ?_
    · obtain ⟨e1, e2⟩ := hSw; go_simp
    simp only [Act.put, List.getElem_toArray, List.getElem_cons_succ, List.getElem_cons_zero, List.setIfInBounds_toArray, List.set_cons_zero, List.set_cons_succ]
    refine wpAnyH_take (i := 8) (v := .agg #[.int .i64 p1, .int .i64 p2, .string ky]) rfl (by kernel_rfl) (by kernel_rfl) (by kernel_rfl) (fun _ _ _ h => h) (Or.inl ⟨by kernel_rfl, fun w hSw => ?_⟩) S1 ?_
    · obtain ⟨e1, e2⟩ := hSw; go_simp
    simp only [Act.put, List.getElem_toArray, List.getElem_cons_succ, List.getElem_cons_zero, List.setIfInBounds_toArray, List.set_cons_zero, List.set_cons_succ]
    refine wpAnyH_take (i := 9) (v := .bool Bv) rfl (by kernel_rfl) (by kernel_rfl) (by kernel_rfl) (fun _ _ _ h => h) (Or.inl ⟨by kernel_rfl, fun w hSw => ?_⟩) S1 ?_
    · obtain ⟨e1, e2⟩ := hSw; go_simp
    simp only [Act.put, List.getElem_toArray, List.getElem_cons_succ, List.getElem_cons_zero, List.setIfInBounds_toArray, List.set_cons_zero, List.set_cons_succ]
    refine wpAnyH_ready (rs := [11]) (by kernel_rfl) (by simp) ?_
    refine AllReadyH.cons rfl (fun K hK => ?_) AllReadyH.nil
    go_simp
    refine hK.out _ _ SN (fun _ => ?_)
    clear hK K
    refine wpAnyH_take (i := 12) (v := .bool Bv) rfl (by kernel_rfl) (by kernel_rfl) (by kernel_rfl) (fun _ _ _ h => h) (Or.inl ⟨by kernel_rfl, fun w hSw => ?_⟩) SN ?_
    · obtain ⟨e1, e2⟩ := hSw; go_simp
    simp only [Act.put, List.getElem_toArray, List.getElem_cons_succ, List.getElem_cons_zero, List.setIfInBounds_toArray, List.set_cons_zero, List.set_cons_succ]
    obtain ⟨ZZ, hZZ⟩ : ∃ ZZ, ZZ = (((W1.setCell ⟨rs, 0, none⟩ (.int .i64 p1)).setCell ⟨rs, 1, none⟩ (.int .i64 p2)).setCell ⟨rs, 2, none⟩ (.string ky)) := ⟨_, rfl⟩
    rw [← hZZ] at HQ
    clear HNA hS0 hSA hlk c3 SN S1
    refine wpAnyH_done (by kernel_rfl) ?_ _
    obtain ⟨hS2, hS3, x0, x1, f0, f1, r0, r1, HF⟩ := HQ.out.fin
    clear HQ
    go_wp2_with fail
    rw [← hZZ]
    clear hZZ
    refine wp_region_held_drew (S := fun w' => w'.cell? ⟨rs, 0, none⟩ = some (.int .i64 p1) ∧ w'.cell? ⟨rs, 1, none⟩ = some (.int .i64 p2) ∧ w'.cell? ⟨rs, 2, none⟩ = some (.string ky)) hmxo hS2 ?_
    intro _
    refine wpAnyH_take (i := 0) (v := .pointer (some ⟨rs, 0, none⟩)) rfl (by kernel_rfl) (by kernel_rfl) (by kernel_rfl) (fun _ _ _ h => h) (Or.inl ⟨by kernel_rfl, fun w hSw => ?_⟩) hS2 ?_
    · obtain ⟨e1, e2, e3⟩ := hSw; go_simp
    simp only [Act.put, List.getElem_toArray, List.getElem_cons_succ, List.getElem_cons_zero, List.setIfInBounds_toArray, List.set_cons_zero, List.set_cons_succ]
    refine wpAnyH_take (i := 1) (v := .agg #[.int .i64 p1, .int .i64 p2]) rfl (by kernel_rfl) (by kernel_rfl) (by kernel_rfl) (fun _ _ _ h => h) (Or.inl ⟨by kernel_rfl, fun w hSw => ?_⟩) hS2 ?_
    · obtain ⟨e1, e2, e3⟩ := hSw; go_simp
    simp only [Act.put, List.getElem_toArray, List.getElem_cons_succ, List.getElem_cons_zero, List.setIfInBounds_toArray, List.set_cons_zero, List.set_cons_succ]
    refine wpAnyH_take (i := 2) (v := .pointer (some ⟨rs, 2, none⟩)) rfl (by kernel_rfl) (by kernel_rfl) (by kernel_rfl) (fun _ _ _ h => h) (Or.inl ⟨by kernel_rfl, fun w hSw => ?_⟩) hS2 ?_
    · obtain ⟨e1, e2, e3⟩ := hSw; go_simp
    simp only [Act.put, List.getElem_toArray, List.getElem_cons_succ, List.getElem_cons_zero, List.setIfInBounds_toArray, List.set_cons_zero, List.set_cons_succ]
    refine wpAnyH_take (i := 3) (v := .string ky) rfl (by kernel_rfl) (by kernel_rfl) (by kernel_rfl) (fun _ _ _ h => h) (Or.inl ⟨by kernel_rfl, fun w hSw => ?_⟩) hS2 ?_
    · obtain ⟨e1, e2, e3⟩ := hSw; go_simp
    simp only [Act.put, List.getElem_toArray, List.getElem_cons_succ, List.getElem_cons_zero, List.setIfInBounds_toArray, List.set_cons_zero, List.set_cons_succ]
    refine wpAnyH_take (i := 4) (v := .bool Bv) rfl (by kernel_rfl) (by kernel_rfl) (by kernel_rfl) (fun _ _ _ h => h) (Or.inl ⟨by kernel_rfl, fun w hSw => ?_⟩) hS2 ?_
    · obtain ⟨e1, e2, e3⟩ := hSw; go_simp
    simp only [Act.put, List.getElem_toArray, List.getElem_cons_succ, List.getElem_cons_zero, List.setIfInBounds_toArray, List.set_cons_zero, List.set_cons_succ]
    refine wpAnyH_ready (rs := [5]) (by kernel_rfl) (by simp) ?_
    refine AllReadyH.cons rfl (fun K hK => ?_) AllReadyH.nil
    go_simp
    refine hK.out _ _ hS3 (fun _ => ?_)
    clear hK K
    refine wpAnyH_take (i := 6) (v := .string ky) rfl (by kernel_rfl) (by kernel_rfl) (by kernel_rfl) (fun _ _ _ h => h) (Or.inl ⟨by kernel_rfl, fun w hSw => ?_⟩) hS3 ?_
    · obtain ⟨e1, e2, e3⟩ := hSw; go_simp
    simp only [Act.put, List.getElem_toArray, List.getElem_cons_succ, List.getElem_cons_zero, List.setIfInBounds_toArray, List.set_cons_zero, List.set_cons_succ]
    refine wpAnyH_take (i := 7) (v := .bool Bv) rfl (by kernel_rfl) (by kernel_rfl) (by kernel_rfl) (fun _ _ _ h => h) (Or.inl ⟨by kernel_rfl, fun w hSw => ?_⟩) hS3 ?_
    · obtain ⟨e1, e2, e3⟩ := hSw; go_simp
    simp only [Act.put, List.getElem_toArray, List.getElem_cons_succ, List.getElem_cons_zero, List.setIfInBounds_toArray, List.set_cons_zero, List.set_cons_succ]
    refine wpAnyH_done (by kernel_rfl) ?_ _
    go_wp2
    refine bodyPost_ret (v := .tuple #[dv (p1, p2), .string ky, .bool Bv]) (by simp [results, Try.results16, go_sem, r0, r1, dv]) rfl ?_
    exact ⟨rfl, HF.out⟩
end Go.Proofs.Ytplcohjpchfkkaa
