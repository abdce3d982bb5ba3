/- texts: a block's text, of operations in an order in which each comes behind the one under which it lies. -/
import Derived.Test.YtbpepmajpojacaaFgOrdM
import Derived.Test.YtbpepmajpojacaaSMath
import Derived.Test.YtbpepmajpojacaaMPlaces
import Derived.Deep.RegionHeld
import Derived.BigQuiet
set_option linter.unusedVariables false
set_option linter.unusedSimpArgs false
namespace Go.Proofs.Ytbpepmajpojacaa
open Go.RowKit

theorem OpAtO.under {w w' : World} {q s : Nat} {x : Mo} (h : OpAtO w q s x) (hb : Below w.heap.size w w') : OpAtO w' q s x :=
  ⟨(hb.cell (p := ⟨q, s, none⟩) (cell_in h.c0)).trans h.c0, (hb.cell (p := ⟨q, s + 1, none⟩) (cell_in h.c1)).trans h.c1, (hb.cell (p := ⟨q, s + 2, none⟩) (cell_in h.c2)).trans h.c2, (hb.cell (p := ⟨q, s + 3, none⟩) (cell_in h.c3)).trans h.c3, (hb.cell (p := ⟨q, s + 4, none⟩) (cell_in h.c4)).trans h.c4, (hb.cell (p := ⟨q, s + 5, none⟩) (cell_in h.c5)).trans h.c5, (hb.cell (p := ⟨q, s + 6, none⟩) (cell_in h.c6)).trans h.c6, (hb.cell (p := ⟨q, s + 7, none⟩) (cell_in h.c7)).trans h.c7, (hb.cell (p := ⟨q, s + 8, none⟩) (cell_in h.c8)).trans h.c8, (hb.cell (p := ⟨q, s + 9, none⟩) (cell_in h.c9)).trans h.c9, (hb.cell (p := ⟨q, s + 10, none⟩) (cell_in h.c10)).trans h.c10, (hb.cell (p := ⟨q, s + 11, none⟩) (cell_in h.c11)).trans h.c11, (hb.cell (p := ⟨q, s + 12, none⟩) (cell_in h.c12)).trans h.c12, (hb.cell (p := ⟨q, s + 13, none⟩) (cell_in h.c13)).trans h.c13⟩

/-- A text, and a dot's box ahead of it. -/
structure XT (w0 : World) (b1 b2 : Int) (t : Nat) (T : List Cr) (w : World) : Prop where
  tm : TM w t T
  bel : Below w0.heap.size w0 w
  lt : w0.heap.size < t
  box : w.heap[w0.heap.size]? = some (.cells #[.int .i64 b1, .int .i64 b2] 24 (0, 0))

theorem XT.fr {w0 : World} {b1 b2 : Int} {t : Nat} {T T' : List Cr} {w w' : World} (h : XT w0 b1 b2 t T w) (htm : TM w' t T') (hf : FrW t w w') : XT w0 b1 b2 t T' w' :=
  ⟨htm, ⟨hf.os.trans h.bel.os, hf.tape.trans h.bel.tape, hf.output.trans h.bel.output, Nat.le_trans h.bel.size hf.size, fun k hk => (hf.block k (Nat.lt_of_lt_of_le hk h.bel.size) (Or.inl (by have := h.lt; omega))).trans (h.bel.block k hk)⟩, h.lt,
   (hf.block _ (Array.getElem?_eq_some_iff.1 h.box).1 (Or.inl h.lt)).trans h.box⟩

theorem XT.below {w0 : World} {b1 b2 : Int} {t : Nat} {T : List Cr} {w w' : World} (h : XT w0 b1 b2 t T w) (hb : Below w.heap.size w w') : XT w0 b1 b2 t T w' := h.fr (h.tm.below hb) (FrW.of_below hb)

theorem XT.facts {w0 : World} {b1 b2 : Int} {t : Nat} {T : List Cr} {w : World} (h : XT w0 b1 b2 t T w) : w.cell? ⟨w0.heap.size, 0, none⟩ = some (.int .i64 b1) ∧ w.cell? ⟨w0.heap.size, 1, none⟩ = some (.int .i64 b2) := by
  have h2 := h.box
  exact ⟨by simp [World.cell?, h2], by simp [World.cell?, h2]⟩

theorem i64_wf' {n : Int} (h : (Lit.int .i64 n).wf = true) : I64 n := by
  simp [Lit.wf] at h
  unfold I64
  exact h

set_option maxRecDepth 100000 in
set_option maxHeartbeats 8000000 in
theorem texts_any (a : Option Addr) (n c : Nat) (L : List Mo) (b : Dt) (w : World) (h : OS w a n c L) (hW : WO (L.map (·.o))) (hf : ∀ x ∈ L, x.o.Fits) (hn : n ≤ 1000) :
    Calls Try.prog 20 #[.slice a n c, dv b] w fun e w' => ∃ t, e = .returned (.pointer (some ⟨t, 0, none⟩)) ∧ TM w' t (crs b (L.map (·.o)) (L.map (·.o))) ∧ Below w.heap.size w w' := by
  obtain ⟨b1, b2⟩ := b
  have mixed := mixed
  have hmxo : Try.prog.follows .mixedOrders = true := by kernel_rfl
  obtain ⟨W0, hW0⟩ : ∃ W0, W0 = w.alloc (.cells #[.int .i64 b1, .int .i64 b2] 24) := ⟨_, rfl⟩
  have hB0 : Below w.heap.size w W0 := by rw [hW0]; exact (Below.refl _ w).alloc (Nat.le_refl _) _
  have hblk : W0.heap[w.heap.size]? = some (.cells #[.int .i64 b1, .int .i64 b2] 24 (0, 0)) := by rw [hW0]; exact World.alloc_heap_new _ _
  have hbl := (Array.getElem?_eq_some_iff.1 hblk).1
  have hnew : Calls Try.prog 9 #[] W0 fun e w2 => ∃ t, e = .returned (.pointer (some ⟨t, 0, none⟩)) ∧ Hid (XT w b1 b2 t [] w2) := (new_tm W0).mono (fun e w2 ⟨k1, k2, k3⟩ => ⟨W0.heap.size, k1, hid ⟨k2, hB0.trans (k3.mono hB0.size), hbl, (k3.block _ hbl).trans hblk⟩⟩)
  have hcap := h.cap
  have hmx := h.max
  unfold maxLen at hmx
  have HLlen : Hid (L.length = n) := hid h.len
  have HW := hid hW
  have HFi := hid hf
  have HOS := hid h
  obtain ⟨M, hM⟩ : ∃ M, M = L.map (·.o) := ⟨_, rfl⟩
  rw [← hM]
  have HM := hid hM
  have HML : Hid (M.length = n) := hid (by rw [hM, List.length_map]; exact h.len)
  clear h hW hf hM
  go_enter Try.func20, Try.ntmps20
  go_wp2_with (go_at_call 9; rw [← hW0]; clear hW0; refine hnew.mono ?_; rintro e w2 ⟨t, rfl, h2⟩)
  clear hblk hbl hnew
  go_loopw [6] (fun i wr => ∃ k : Nat, k ≤ n ∧ i = .int .i64 k ∧ Hid (XT w b1 b2 t (crs (b1, b2) (M.take k) (M.take k)) wr)) (fun i _ => n - (intOf i).toNat)
  case atStart => exact ⟨0, by omega, rfl, hid (by rw [List.take_zero]; exact h2.out)⟩
  case round =>
    obtain ⟨k, hk, rfl, hX⟩ := hrel
    by_cases hlt : k < n
    · obtain ⟨g, o, rfl, hg, hat⟩ := HOS.out.at (by omega)
      have hkL : k < L.length := by rw [HLlen.out]; exact hlt
      have hat := hat k hkL
      obtain ⟨x, hx⟩ : ∃ x, x = L[k]'hkL := ⟨_, rfl⟩
      rw [← hx] at hat
      have hxf := HFi.out x (by rw [hx]; exact List.getElem_mem _)
      have hMk : M[k]? = some x.o := by rw [HM.out, List.getElem?_map, List.getElem?_eq_getElem hkL, ← hx]; rfl
      have hstep := HW.out.step (by rw [← HM.out]; exact hMk) (b1, b2)
      rw [← HM.out] at hstep
      obtain ⟨T, hT⟩ : ∃ T, T = crs (b1, b2) (M.take k) (M.take k) := ⟨_, rfl⟩
      obtain ⟨T', hT'⟩ : ∃ T', T' = crs (b1, b2) (M.take (k + 1)) (M.take (k + 1)) := ⟨_, rfl⟩
      have hTl : T.length ≤ 1000 := by
        rw [hT]
        unfold crs
        rw [List.length_map]
        refine Nat.le_trans (List.length_filter_le _ _) ?_
        rw [List.length_take]
        omega
      rw [← hT] at hX hstep
      rw [← hT'] at hstep
      have HT' := hid hT'
      have HS : Hid (∀ W, Below w.heap.size w W → OpAtO W g (o + k * 14) x) := hid (fun W hb => hat.under hb)
      have HT' := hid hT'
      clear hx hMk hT hT' hkL hat hg
      have HD : Hid (∀ q, XT w b1 b2 t T (wr.drewN q)) := hid (fun q => hX.out.below ((Far.refl wr).drewN q).below)
      have E0 : ∀ q, (wr.drewN q).cell? ⟨w.heap.size, 0, none⟩ = some (.int .i64 b1) := fun q => (HD.out q).facts.1
      have E1 : ∀ q, (wr.drewN q).cell? ⟨w.heap.size, 1, none⟩ = some (.int .i64 b2) := fun q => (HD.out q).facts.2
      have E5 : ∀ q, (wr.drewN q).cell? ⟨g, o + k * 14 + 5, none⟩ = some (.int .i64 x.o.bl0) := fun q => (HS.out _ (HD.out q).bel).c5
      have E6 : ∀ q, (wr.drewN q).cell? ⟨g, o + k * 14 + 6, none⟩ = some (.int .i64 x.o.bl1) := fun q => (HS.out _ (HD.out q).bel).c6
      have hk1 : (k : Int) < (n : Int) := by omega
      have hk0 : (0 : Int) ≤ (k : Int) := by omega
      have HSt := hid hstep
      have HTl := hid hTl
      have HXF := hid hxf
      clear hstep hTl hxf
      by_cases hbb : x.o.bl0 = b1 ∧ x.o.bl1 = b2
      · obtain ⟨e1, e2⟩ := hbb
        have hB : oBl x.o = (b1, b2) := by unfold oBl; rw [e1, e2]
        rw [e1] at E5
        rw [e2] at E6
        have hs2 := HSt.out
        unfold tx1 at hs2
        rw [if_pos hB] at hs2
        clear e1 e2 hB
        go_wp2_with fail
        go_quiet (fail)
        have HDq := hid (HD.out nq)
        clear E0 E1 E5 E6 HD
        generalize wr.drewN nq = W2 at HDq ⊢
        have hc4 := (HS.out _ HDq.out.bel).c4
        by_cases h1 : x.o.kind = 1
        · rw [if_pos h1] at hs2
          rw [h1] at hc4
          have hin := insert_tm HDq.out.tm (by have := HTl.out; omega) x.o.id (oAt x.o) x.o.side x.o.char ⟨HXF.out.id0, HXF.out.id1⟩ ⟨HXF.out.at0, HXF.out.at1⟩ (i64_wf' HXF.out.char)
          have HIn : Hid (∀ W, XT w b1 b2 t T W → Calls Try.prog 12 #[.pointer (some ⟨t, 0, none⟩), .agg #[.int .i64 x.o.id0, .int .i64 x.o.id1], .agg #[.int .i64 x.o.at0, .int .i64 x.o.at1], .int .i64 x.o.side, .int .i64 x.o.char] W fun e w' => e = .returned (.int .i64 0) ∧ Hid (XT w b1 b2 t T' w')) := hid (fun W hW => (insert_tm hW.tm (by have := HTl.out; omega) x.o.id (oAt x.o) x.o.side x.o.char ⟨HXF.out.id0, HXF.out.id1⟩ ⟨HXF.out.at0, HXF.out.at1⟩ (i64_wf' HXF.out.char)).mono (fun e w' ⟨k1, k2, k3⟩ => by
            rw [hs2] at k1 k2
            exact ⟨k1, hid (hW.fr k2 k3)⟩))
          have HK1 := hid h1
          clear h1 hs2 hin
          go_wp2_with fail
          have HU2 : Hid (XT w b1 b2 t T W2.drew) := hid (HDq.out.below ((Far.refl W2).drewN 1).below)
          have HSx : Hid (∀ W, Below w.heap.size w W → W.cell? ⟨g, o + k * 14, none⟩ = some (.int .i64 x.o.id0) ∧ W.cell? ⟨g, o + k * 14 + 1, none⟩ = some (.int .i64 x.o.id1) ∧ W.cell? ⟨g, o + k * 14 + 7, none⟩ = some (.int .i64 x.o.at0) ∧ W.cell? ⟨g, o + k * 14 + 8, none⟩ = some (.int .i64 x.o.at1) ∧ W.cell? ⟨g, o + k * 14 + 9, none⟩ = some (.int .i64 x.o.side) ∧ W.cell? ⟨g, o + k * 14 + 10, none⟩ = some (.int .i64 x.o.char)) := hid (fun W hb => by
            have hh := HS.out W hb
            exact ⟨hh.c0, hh.c1, hh.c7, hh.c8, hh.c9, hh.c10⟩)
          have hS2 := HSx.out _ HU2.out.bel
          have hcall := HIn.out _ HU2.out
          clear hc4
          refine wp_region_held_drew (S := fun w' => w'.cell? ⟨g, o + k * 14, none⟩ = some (.int .i64 x.o.id0) ∧ w'.cell? ⟨g, o + k * 14 + 1, none⟩ = some (.int .i64 x.o.id1) ∧ w'.cell? ⟨g, o + k * 14 + 7, none⟩ = some (.int .i64 x.o.at0) ∧ w'.cell? ⟨g, o + k * 14 + 8, none⟩ = some (.int .i64 x.o.at1) ∧ w'.cell? ⟨g, o + k * 14 + 9, none⟩ = some (.int .i64 x.o.side) ∧ w'.cell? ⟨g, o + k * 14 + 10, none⟩ = some (.int .i64 x.o.char)) hmxo hS2 ?_
          intro _
          refine wpAnyH_take (i := 0) (v := .pointer (some ⟨t, 0, none⟩)) rfl (by kernel_rfl) (by kernel_rfl) (by kernel_rfl) (fun _ _ _ h => h) (Or.inl ⟨by kernel_rfl, fun w hSw => ?_⟩) hS2 ?_
          · obtain ⟨d1, d2, d3, d4, d5, d6⟩ := hSw; go_simp
          simp only [Act.put, List.setIfInBounds_toArray, List.set_cons_zero, List.set_cons_succ]
          refine wpAnyH_take (i := 1) (v := .slice (some ⟨g, o, none⟩) n c) rfl (by kernel_rfl) (by kernel_rfl) (by kernel_rfl) (fun _ _ _ h => h) (Or.inl ⟨by kernel_rfl, fun w hSw => ?_⟩) hS2 ?_
          · obtain ⟨d1, d2, d3, d4, d5, d6⟩ := hSw; go_simp
          simp only [Act.put, List.setIfInBounds_toArray, List.set_cons_zero, List.set_cons_succ]
          refine wpAnyH_take (i := 2) (v := .int .i64 (k : Int)) rfl (by kernel_rfl) (by kernel_rfl) (by kernel_rfl) (fun _ _ _ h => h) (Or.inl ⟨by kernel_rfl, fun w hSw => ?_⟩) hS2 ?_
          · obtain ⟨d1, d2, d3, d4, d5, d6⟩ := hSw; go_simp
          simp only [Act.put, List.setIfInBounds_toArray, List.set_cons_zero, List.set_cons_succ]
          refine wpAnyH_take (i := 3) (v := .pointer (some ⟨g, o + k * 14, none⟩)) rfl (by kernel_rfl) (by kernel_rfl) (by kernel_rfl) (fun _ _ _ h => h) (Or.inl ⟨by kernel_rfl, fun w hSw => ?_⟩) hS2 ?_
          · obtain ⟨d1, d2, d3, d4, d5, d6⟩ := hSw; go_simp
          simp only [Act.put, List.setIfInBounds_toArray, List.set_cons_zero, List.set_cons_succ]
          refine wpAnyH_take (i := 4) (v := .pointer (some ⟨g, o + k * 14, none⟩)) rfl (by kernel_rfl) (by kernel_rfl) (by kernel_rfl) (fun _ _ _ h => h) (Or.inl ⟨by kernel_rfl, fun w hSw => ?_⟩) hS2 ?_
          · obtain ⟨d1, d2, d3, d4, d5, d6⟩ := hSw; go_simp
          simp only [Act.put, List.setIfInBounds_toArray, List.set_cons_zero, List.set_cons_succ]
          refine wpAnyH_take (i := 5) (v := .agg #[.int .i64 x.o.id0, .int .i64 x.o.id1]) rfl (by kernel_rfl) (by kernel_rfl) (by kernel_rfl) (fun _ _ _ h => h) (Or.inl ⟨by kernel_rfl, fun w hSw => ?_⟩) hS2 ?_
          · obtain ⟨d1, d2, d3, d4, d5, d6⟩ := hSw; go_simp
          simp only [Act.put, List.setIfInBounds_toArray, List.set_cons_zero, List.set_cons_succ]
          refine wpAnyH_take (i := 6) (v := .slice (some ⟨g, o, none⟩) n c) rfl (by kernel_rfl) (by kernel_rfl) (by kernel_rfl) (fun _ _ _ h => h) (Or.inl ⟨by kernel_rfl, fun w hSw => ?_⟩) hS2 ?_
          · obtain ⟨d1, d2, d3, d4, d5, d6⟩ := hSw; go_simp
          simp only [Act.put, List.setIfInBounds_toArray, List.set_cons_zero, List.set_cons_succ]
          refine wpAnyH_take (i := 7) (v := .int .i64 (k : Int)) rfl (by kernel_rfl) (by kernel_rfl) (by kernel_rfl) (fun _ _ _ h => h) (Or.inl ⟨by kernel_rfl, fun w hSw => ?_⟩) hS2 ?_
          · obtain ⟨d1, d2, d3, d4, d5, d6⟩ := hSw; go_simp
          simp only [Act.put, List.setIfInBounds_toArray, List.set_cons_zero, List.set_cons_succ]
          refine wpAnyH_take (i := 8) (v := .pointer (some ⟨g, o + k * 14, none⟩)) rfl (by kernel_rfl) (by kernel_rfl) (by kernel_rfl) (fun _ _ _ h => h) (Or.inl ⟨by kernel_rfl, fun w hSw => ?_⟩) hS2 ?_
          · obtain ⟨d1, d2, d3, d4, d5, d6⟩ := hSw; go_simp
          simp only [Act.put, List.setIfInBounds_toArray, List.set_cons_zero, List.set_cons_succ]
          refine wpAnyH_take (i := 9) (v := .pointer (some ⟨g, o + k * 14 + 7, none⟩)) rfl (by kernel_rfl) (by kernel_rfl) (by kernel_rfl) (fun _ _ _ h => h) (Or.inl ⟨by kernel_rfl, fun w hSw => ?_⟩) hS2 ?_
          · obtain ⟨d1, d2, d3, d4, d5, d6⟩ := hSw; go_simp
          simp only [Act.put, List.setIfInBounds_toArray, List.set_cons_zero, List.set_cons_succ]
          refine wpAnyH_take (i := 10) (v := .agg #[.int .i64 x.o.at0, .int .i64 x.o.at1]) rfl (by kernel_rfl) (by kernel_rfl) (by kernel_rfl) (fun _ _ _ h => h) (Or.inl ⟨by kernel_rfl, fun w hSw => ?_⟩) hS2 ?_
          · obtain ⟨d1, d2, d3, d4, d5, d6⟩ := hSw; go_simp
          simp only [Act.put, List.setIfInBounds_toArray, List.set_cons_zero, List.set_cons_succ]
          refine wpAnyH_take (i := 11) (v := .slice (some ⟨g, o, none⟩) n c) rfl (by kernel_rfl) (by kernel_rfl) (by kernel_rfl) (fun _ _ _ h => h) (Or.inl ⟨by kernel_rfl, fun w hSw => ?_⟩) hS2 ?_
          · obtain ⟨d1, d2, d3, d4, d5, d6⟩ := hSw; go_simp
          simp only [Act.put, List.setIfInBounds_toArray, List.set_cons_zero, List.set_cons_succ]
          refine wpAnyH_take (i := 12) (v := .int .i64 (k : Int)) rfl (by kernel_rfl) (by kernel_rfl) (by kernel_rfl) (fun _ _ _ h => h) (Or.inl ⟨by kernel_rfl, fun w hSw => ?_⟩) hS2 ?_
          · obtain ⟨d1, d2, d3, d4, d5, d6⟩ := hSw; go_simp
          simp only [Act.put, List.setIfInBounds_toArray, List.set_cons_zero, List.set_cons_succ]
          refine wpAnyH_take (i := 13) (v := .pointer (some ⟨g, o + k * 14, none⟩)) rfl (by kernel_rfl) (by kernel_rfl) (by kernel_rfl) (fun _ _ _ h => h) (Or.inl ⟨by kernel_rfl, fun w hSw => ?_⟩) hS2 ?_
          · obtain ⟨d1, d2, d3, d4, d5, d6⟩ := hSw; go_simp
          simp only [Act.put, List.setIfInBounds_toArray, List.set_cons_zero, List.set_cons_succ]
          refine wpAnyH_take (i := 14) (v := .pointer (some ⟨g, o + k * 14 + 9, none⟩)) rfl (by kernel_rfl) (by kernel_rfl) (by kernel_rfl) (fun _ _ _ h => h) (Or.inl ⟨by kernel_rfl, fun w hSw => ?_⟩) hS2 ?_
          · obtain ⟨d1, d2, d3, d4, d5, d6⟩ := hSw; go_simp
          simp only [Act.put, List.setIfInBounds_toArray, List.set_cons_zero, List.set_cons_succ]
          refine wpAnyH_take (i := 15) (v := .int .i64 x.o.side) rfl (by kernel_rfl) (by kernel_rfl) (by kernel_rfl) (fun _ _ _ h => h) (Or.inl ⟨by kernel_rfl, fun w hSw => ?_⟩) hS2 ?_
          · obtain ⟨d1, d2, d3, d4, d5, d6⟩ := hSw; go_simp
          simp only [Act.put, List.setIfInBounds_toArray, List.set_cons_zero, List.set_cons_succ]
          refine wpAnyH_take (i := 16) (v := .slice (some ⟨g, o, none⟩) n c) rfl (by kernel_rfl) (by kernel_rfl) (by kernel_rfl) (fun _ _ _ h => h) (Or.inl ⟨by kernel_rfl, fun w hSw => ?_⟩) hS2 ?_
          · obtain ⟨d1, d2, d3, d4, d5, d6⟩ := hSw; go_simp
          simp only [Act.put, List.setIfInBounds_toArray, List.set_cons_zero, List.set_cons_succ]
          refine wpAnyH_take (i := 17) (v := .int .i64 (k : Int)) rfl (by kernel_rfl) (by kernel_rfl) (by kernel_rfl) (fun _ _ _ h => h) (Or.inl ⟨by kernel_rfl, fun w hSw => ?_⟩) hS2 ?_
          · obtain ⟨d1, d2, d3, d4, d5, d6⟩ := hSw; go_simp
          simp only [Act.put, List.setIfInBounds_toArray, List.set_cons_zero, List.set_cons_succ]
          refine wpAnyH_take (i := 18) (v := .pointer (some ⟨g, o + k * 14, none⟩)) rfl (by kernel_rfl) (by kernel_rfl) (by kernel_rfl) (fun _ _ _ h => h) (Or.inl ⟨by kernel_rfl, fun w hSw => ?_⟩) hS2 ?_
          · obtain ⟨d1, d2, d3, d4, d5, d6⟩ := hSw; go_simp
          simp only [Act.put, List.setIfInBounds_toArray, List.set_cons_zero, List.set_cons_succ]
          refine wpAnyH_take (i := 19) (v := .pointer (some ⟨g, o + k * 14 + 10, none⟩)) rfl (by kernel_rfl) (by kernel_rfl) (by kernel_rfl) (fun _ _ _ h => h) (Or.inl ⟨by kernel_rfl, fun w hSw => ?_⟩) hS2 ?_
          · obtain ⟨d1, d2, d3, d4, d5, d6⟩ := hSw; go_simp
          simp only [Act.put, List.setIfInBounds_toArray, List.set_cons_zero, List.set_cons_succ]
          refine wpAnyH_take (i := 20) (v := .int .i64 x.o.char) rfl (by kernel_rfl) (by kernel_rfl) (by kernel_rfl) (fun _ _ _ h => h) (Or.inl ⟨by kernel_rfl, fun w hSw => ?_⟩) hS2 ?_
          · obtain ⟨d1, d2, d3, d4, d5, d6⟩ := hSw; go_simp
          simp only [Act.put, List.setIfInBounds_toArray, List.set_cons_zero, List.set_cons_succ]
          refine wpAnyH_ready (rs := [21]) (by kernel_rfl) (by simp) ?_
          refine AllReadyH.cons rfl (fun K hK => ?_) AllReadyH.nil
          go_simp
          refine hcall.mono ?_
          rintro e U3 ⟨rfl, hU3⟩
          have hS3 := HSx.out _ hU3.out.bel
          refine hK.out _ _ hS3 (fun _ => ?_)
          clear hK K
          refine wpAnyH_take (i := 22) (v := .int .i64 0) rfl (by kernel_rfl) (by kernel_rfl) (by kernel_rfl) (fun _ _ _ h => h) (Or.inl ⟨by kernel_rfl, fun w hSw => ?_⟩) hS3 ?_
          · obtain ⟨d1, d2, d3, d4, d5, d6⟩ := hSw; go_simp
          simp only [Act.put, List.setIfInBounds_toArray, List.set_cons_zero, List.set_cons_succ]
          refine wpAnyH_done (by kernel_rfl) ?_ _
          have hc4 := (HS.out _ hU3.out.bel).c4
          rw [HK1.out] at hc4
          clear hcall hS2 hS3
          go_wp2
          go_roundw
          case rel => exact ⟨k + 1, by omega, by go_num, hid (by rw [← HT'.out]; exact hU3.out)⟩
          case measure => simp [intOf]; omega
        · rw [if_neg h1] at hs2
          have hb1 : (x.o.kind == 1) = false := by simpa using h1
          by_cases h2 : x.o.kind = 2
          · rw [if_pos h2] at hs2
            rw [h2] at hc4
            have hde : Calls Try.prog 10 #[.pointer (some ⟨t, 0, none⟩), .agg #[.int .i64 x.o.at0, .int .i64 x.o.at1]] W2 fun e w' => e = .returned (.int .i64 0) ∧ Hid (XT w b1 b2 t T' w') := (delete_tm HDq.out.tm (oAt x.o) ⟨HXF.out.at0, HXF.out.at1⟩).mono (fun e w' ⟨k1, k2, k3⟩ => by
              rw [hs2] at k1 k2
              exact ⟨k1, hid (HDq.out.fr k2 k3)⟩)
            have hc7 := (HS.out _ HDq.out.bel).c7
            have hc8 := (HS.out _ HDq.out.bel).c8
            clear h1 h2 hs2 hb1
            go_wp2_with (go_at_call 10; refine hde.mono ?_; rintro e U3 ⟨rfl, hU3⟩)
            go_roundw
            case rel => exact ⟨k + 1, by omega, by go_num, hid (by rw [← HT'.out]; exact hU3.out)⟩
            case measure => simp [intOf]; omega
          · rw [if_neg h2] at hs2
            have hb2 : (x.o.kind == 2) = false := by simpa using h2
            have hTT : T = T' := congrArg Prod.snd hs2
            have HTT := hid hTT
            clear h1 h2 hs2 hTT
            go_wp2
            go_roundw
            case rel => exact ⟨k + 1, by omega, by go_num, hid (by rw [← HT'.out, ← HTT.out]; exact HDq.out)⟩
            case measure => simp [intOf]; omega
      · have hB : ¬ oBl x.o = (b1, b2) := fun e => hbb (by unfold oBl at e; exact Prod.mk.inj e)
        have hs2 := HSt.out
        unfold tx1 at hs2
        rw [if_neg hB] at hs2
        have hTT : T = T' := congrArg Prod.snd hs2
        have HTT := hid hTT
        have hcmp : (x.o.bl0 = b1 ∧ ¬ x.o.bl1 = b2) ∨ ¬ x.o.bl0 = b1 := by
          by_cases h : x.o.bl0 = b1
          · exact .inl ⟨h, fun e => hbb ⟨h, e⟩⟩
          · exact .inr h
        clear hbb hB hs2 hTT
        rcases hcmp with ⟨e1, hne⟩ | hne
        · rw [e1] at E5
          clear e1
          go_wp2_with fail
          go_quiet (fail)
          have HDq := hid (HD.out nq)
          clear E0 E1 E5 E6 HD
          go_wp2
          go_roundw
          case rel => exact ⟨k + 1, by omega, by go_num, hid (by rw [← HT'.out, ← HTT.out]; exact HDq.out)⟩
          case measure => simp [intOf]; omega
        · go_wp2_with fail
          go_quiet (fail)
          have HDq := hid (HD.out nq)
          clear E0 E1 E5 E6 HD
          go_wp2
          go_roundw
          case rel => exact ⟨k + 1, by omega, by go_num, hid (by rw [← HT'.out, ← HTT.out]; exact HDq.out)⟩
          case measure => simp [intOf]; omega
    · have hkn : k = n := by omega
      subst hkn
      have hfin : Hid (TM wr t (crs (b1, b2) M M) ∧ Below w.heap.size w wr) := hid (by
        have := hX.out
        rw [List.take_of_length_le (Nat.le_of_eq HML.out)] at this
        exact ⟨this.tm, this.bel⟩)
      go_wp2
      go_ret
      exact ⟨t, rfl, hfin.out.1, hfin.out.2⟩
end Go.Proofs.Ytbpepmajpojacaa
