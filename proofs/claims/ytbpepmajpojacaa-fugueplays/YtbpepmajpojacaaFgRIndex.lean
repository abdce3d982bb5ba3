/- The reference: Index. -/
import Derived.Test.YtbpepmajpojacaaFgRDots
import Derived.Test.YtbpepmajpojacaaFgIndex
set_option linter.unusedVariables false
set_option linter.unusedSimpArgs false
namespace Go.Proofs.Ytbpepmajpojacaa
open Go.RowKit
open Go.Sort (grow)

theorem bel_cell {n : Nat} {w w' : World} (h : Below w.heap.size w w') {p : Addr} {u : Value} (hp : w.cell? p = some u) : w'.cell? p = some u := (h.cell (cell_in hp)).trans hp

set_option maxRecDepth 100000 in
set_option maxHeartbeats 4000000 in
theorem rindex_any (a : Option Addr) (n c : Nat) (T : List Cr) (hT : WT T) (hn : n ≤ 100000) (d : Dt) (w : World) (h : RT w a n c T) :
    Calls Try.prog 16 #[.agg #[.slice a n c], dv d] w fun e w' => e = .returned (.tuple #[.int .i64 (idxL (allC T) d).1, .bool (idxL (allC T) d).2]) ∧ Below w.heap.size w w' := by
  obtain ⟨d1, d2⟩ := d
  have mixed := mixed
  have hmxo : Try.prog.follows .mixedOrders = true := by kernel_rfl
  obtain ⟨W0, hW0⟩ : ∃ W0, W0 = (w.alloc (.cells #[.slice a n c] 30)).alloc (.cells #[.int .i64 d1, .int .i64 d2] 24) := ⟨_, rfl⟩
  have hB0 : Below w.heap.size w W0 := by rw [hW0]; exact ((Below.refl _ w).alloc (Nat.le_refl _) _).alloc (by simp) _
  have hb1 : W0.heap[w.heap.size]? = some (.cells #[.slice a n c] 30 (0, 0)) := by rw [hW0]; exact (Below.heap_alloc _ _ _ (by simp)).trans (World.alloc_heap_new w _)
  have hb2 : W0.heap[w.heap.size + 1]? = some (.cells #[.int .i64 d1, .int .i64 d2] 24 (0, 0)) := by
    rw [hW0]
    have := World.alloc_heap_new (w.alloc (.cells #[.slice a n c] 30)) (.cells #[.int .i64 d1, .int .i64 d2] 24)
    rwa [World.size_alloc] at this
  have hl1 := (Array.getElem?_eq_some_iff.1 hb1).1
  have hl2 := (Array.getElem?_eq_some_iff.1 hb2).1
  have HC : Hid (∀ W, Below W0.heap.size W0 W → W.cell? ⟨w.heap.size, 0, none⟩ = some (.slice a n c) ∧ W.cell? ⟨w.heap.size + 1, 0, none⟩ = some (.int .i64 d1) ∧ W.cell? ⟨w.heap.size + 1, 1, none⟩ = some (.int .i64 d2)) := hid (fun W hb => by
    have g1 := (hb.block _ hl1).trans hb1
    have g2 := (hb.block _ hl2).trans hb2
    exact ⟨by simp [World.cell?, g1], by simp [World.cell?, g2], by simp [World.cell?, g2]⟩)
  have HRT : Hid (∀ W, Below W0.heap.size W0 W → RT W a n c T) := hid (fun W hb => h.below (hB0.trans (hb.mono hB0.size)))
  have hall := rall_any a n c T hT hn W0 (HRT.out W0 (Below.refl _ _))
  obtain ⟨c1, c2, c3⟩ := HC.out W0 (Below.refl _ _)
  have HT := hid h.len
  have hcap := h.cap
  have hmax := h.max
  unfold maxLen at hmax
  have HCl := hid (allC_len hT)
  have HCi := hid (allC_ids hT)
  obtain ⟨L, hL⟩ : ∃ L, L = allT T := ⟨_, rfl⟩
  rw [← hL] at hall
  have HL : Hid (L.length = n) := hid (by rw [hL, allT_len hT, h.len])
  have HLd := hid hL
  clear hL hb1 hb2 h
  go_enter Try.func16, Try.ntmps16
  go_wp2_with (go_at_call 34; rw [← hW0]; clear hW0; refine hall.mono ?_; intro e W1 hg1; obtain ⟨a1, c1', rfl, q1, b1⟩ := hg1.ans)
  have hB1' : W0.heap.size ≤ W1.heap.size := b1.size
  have hq1 := hid q1
  have hcap1 := q1.cap
  have hmax1 := q1.max
  unfold maxLen at hmax1
  have Hb1 := hid b1
  have HbW : Hid (∀ W, Below W1.heap.size W1 W → Below W0.heap.size W0 W) := hid (fun W hb => Hb1.out.trans (hb.mono hB1'))
  clear q1 b1 hall hg1
  go_loopw [6, 8] (fun u i wr => ∃ (k m : Nat), k ≤ L.length ∧ i = .int .i64 k ∧ u = .int .i64 m ∧ m ≤ k ∧ Hid (m = (((allC T).take k).filter (·.seen)).length) ∧ Hid (∀ x ∈ (allC T).take k, x.id ≠ (d1, d2)) ∧ Hid (Below W1.heap.size W1 wr)) (fun _ i _ => L.length - (intOf i).toNat)
  case atStart => exact ⟨0, 0, by omega, rfl, rfl, by omega, hid (by simp), hid (by simp), hid (Below.refl _ _)⟩
  case round =>
    obtain ⟨k, m, hk, rfl, rfl, hmk, hm, hno, hbw⟩ := hrel
    by_cases hlt : k < L.length
    · obtain ⟨gk, ok, rfl, hgk, hatk⟩ := hq1.out.at (by omega)
      obtain ⟨hc0, hc1⟩ := hatk k hlt
      have hkC : k < (allC T).length := by rw [HCl.out, HT.out, ← HL.out]; exact hlt
      obtain ⟨x, hx⟩ : ∃ x, x = (allC T)[k]'hkC := ⟨_, rfl⟩
      have hts : Hid ((allC T).take (k + 1) = (allC T).take k ++ [x]) := hid (by rw [hx]; exact List.take_succ_eq_append_getElem hkC)
      have hsp : Hid (allC T = (allC T).take k ++ x :: (allC T).drop (k + 1)) := hid (by rw [hx, ← List.drop_eq_getElem_cons hkC, List.take_append_drop])
      have hxT : x ∈ T := allC_mem (by rw [hx]; exact List.getElem_mem hkC)
      have hxy : L[k]'hlt = x.id := by
        have e1 : L[k]? = ((allC T).map Cr.id)[k]? := by rw [HCi.out, HLd.out]
        rw [List.getElem?_map, List.getElem?_eq_getElem hlt, List.getElem?_eq_getElem hkC, ← hx] at e1
        exact Option.some.inj e1
      rw [hxy] at hc0 hc1
      obtain ⟨i, hi, hati⟩ := atI_all hT hxT
      have hiT := (List.getElem?_eq_some_iff.1 hi).1
      have hin : i < n := by rw [← HT.out]; exact hiT
      obtain ⟨g, o, rfl, hat⟩ := (HRT.out W1 Hb1.out).at hin
      have hix : T[i]'hiT = x := (List.getElem?_eq_some_iff.1 hi).2
      rw [hix] at hat
      have hc6 := hat.c6
      obtain ⟨y1, hy1⟩ : ∃ y1, y1 = x.id.1 := ⟨_, rfl⟩
      obtain ⟨y2, hy2⟩ : ∃ y2, y2 = x.id.2 := ⟨_, rfl⟩
      obtain ⟨sn, hsn⟩ : ∃ sn, sn = x.seen := ⟨_, rfl⟩
      have HY : Hid (x.id = (y1, y2) ∧ x.seen = sn) := hid ⟨by rw [hy1, hy2], hsn.symm⟩
      rw [HY.out.1] at hati
      rw [← hy1] at hc0
      rw [← hy2] at hc1
      rw [← hsn] at hc6
      have HSx : Hid (∀ w', Below W1.heap.size W1 w' → (w'.cell? ⟨w.heap.size, 0, none⟩ = some (.slice (some ⟨g, o, none⟩) n c) ∧ w'.cell? ⟨gk, ok + k * 2, none⟩ = some (.int .i64 y1) ∧ w'.cell? ⟨gk, ok + k * 2 + 1, none⟩ = some (.int .i64 y2) ∧ w'.cell? ⟨g, o + i * 7 + 6, none⟩ = some (.bool sn))) := hid (fun w' h' => ⟨(HC.out _ (HbW.out _ h')).1, bel_cell (n := 0) h' hc0, bel_cell (n := 0) h' hc1, bel_cell (n := 0) h' hc6⟩)
      have HD : Hid (∀ q, Below W1.heap.size W1 (wr.drewN q)) := hid (fun q => hbw.out.trans (((Far.refl wr).drewN q).below.mono hbw.out.size))
      have E2 : ∀ q, (wr.drewN q).cell? ⟨w.heap.size + 1, 0, none⟩ = some (.int .i64 d1) := fun q => (HC.out _ (HbW.out _ (HD.out q))).2.1
      have E3 : ∀ q, (wr.drewN q).cell? ⟨w.heap.size + 1, 1, none⟩ = some (.int .i64 d2) := fun q => (HC.out _ (HbW.out _ (HD.out q))).2.2
      have C0 : ∀ q, (wr.drewN q).cell? ⟨gk, ok + k * 2, none⟩ = some (.int .i64 y1) := fun q => (HSx.out _ (HD.out q)).2.1
      have C1 : ∀ q, (wr.drewN q).cell? ⟨gk, ok + k * 2 + 1, none⟩ = some (.int .i64 y2) := fun q => (HSx.out _ (HD.out q)).2.2.1
      have Hcall : Hid (∀ W, Below W1.heap.size W1 W → Calls Try.prog 30 #[.agg #[.slice (some ⟨g, o, none⟩) n c], .agg #[.int .i64 y1, .int .i64 y2]] W fun e w' => e = .returned (.int .i64 (i : Int)) ∧ Hid (Below W1.heap.size W1 w')) := hid (fun W hW => (rat_any _ n c T (y1, y2) W (HRT.out _ (HbW.out _ hW)) (by omega)).mono (fun e w' ⟨h1, h2⟩ => ⟨by rw [h1, hati], hid (hW.trans (h2.mono hW.size))⟩))
      have hk1 : (k : Int) < (L.length : Int) := by omega
      have hk0' : (0 : Int) ≤ (k : Int) := by omega
      have hi1 : (i : Int) < (n : Int) := by omega
      have hi0 : (0 : Int) ≤ (i : Int) := by omega
      have hm0 : (0 : Int) ≤ (m : Int) := by omega
      have hmm : (m : Int) ≤ 100000 := by have := HL.out; omega
      have hnx : Hid ((((allC T).take (k + 1)).filter (·.seen)).length = m + (if sn then 1 else 0)) := hid (by
        rw [hts.out, List.filter_append, List.length_append, hm.out]
        congr 1
        rw [← HY.out.2]
        cases hs : x.seen <;> simp [hs])
      clear hatk hc0 hc1 hat hc6 hx hxT hxy hi hati hiT hix hy1 hy2 hsn hkC
      by_cases hyes : y1 = d1 ∧ y2 = d2
      · obtain ⟨rfl, rfl⟩ := hyes
        have hfi := hid (idxL_at hsp.out hno.out HY.out.1)
        go_wp2_with fail
        go_quiet (fail)
        have HDq := hid (HD.out nq)
        clear E2 E3 C0 C1
        go_wp2
        go_ret2
        refine ⟨by rw [hfi.out, ← hm.out]; rfl, ?_⟩
        exact (hB0.trans ((HbW.out _ HDq.out).mono hB0.size))
      · have hne : x.id ≠ (d1, d2) := fun e => hyes (by rw [HY.out.1] at e; exact Prod.mk.inj e)
        have hno' : Hid (∀ z ∈ (allC T).take (k + 1), z.id ≠ (d1, d2)) := hid (fun z hz => by rw [hts.out] at hz; rcases List.mem_append.1 hz with h | h; exact hno.out z h; simp at h; rw [h]; exact hne)
        clear hne
        have hcmp : (y1 = d1 ∧ ¬ y2 = d2) ∨ ¬ y1 = d1 := by
          by_cases h : y1 = d1
          · exact .inl ⟨h, fun e => hyes ⟨h, e⟩⟩
          · exact .inr h
        clear hyes
        rcases hcmp with ⟨rfl, hne⟩ | hne
        · go_wp2_with fail
          go_quiet (fail)
          have HDq := hid (HD.out nq)
          clear E2 E3 C0 C1 HD
          generalize wr.drewN nq = W2 at HDq ⊢
          have HD2 : Hid (Below W1.heap.size W1 W2.drew) := hid (HDq.out.trans (((Far.refl W2).drewN 1).below.mono HDq.out.size))
          have hS0 := HSx.out _ HD2.out
          have hcall := Hcall.out _ HD2.out
          go_wp2_with fail
          refine wp_region_held_drew (S := fun w' => w'.cell? ⟨w.heap.size, 0, none⟩ = some (.slice (some ⟨g, o, none⟩) n c) ∧ w'.cell? ⟨gk, ok + k * 2, none⟩ = some (.int .i64 y1) ∧ w'.cell? ⟨gk, ok + k * 2 + 1, none⟩ = some (.int .i64 y2) ∧ w'.cell? ⟨g, o + i * 7 + 6, none⟩ = some (.bool sn)) hmxo hS0 ?_
          intro _
          refine wpAnyH_take (i := 0) (v := .pointer (some ⟨w.heap.size, 0, none⟩)) rfl (by kernel_rfl) (by kernel_rfl) (by kernel_rfl) (fun _ _ _ h => h) (Or.inl ⟨by kernel_rfl, fun w hSw => ?_⟩) hS0 ?_
          · obtain ⟨d1, d2, d3, d4⟩ := hSw; go_simp
          simp only [Act.put, List.setIfInBounds_toArray, List.set_cons_zero, List.set_cons_succ]
          refine wpAnyH_take (i := 1) (v := .slice (some ⟨g, o, none⟩) n c) rfl (by kernel_rfl) (by kernel_rfl) (by kernel_rfl) (fun _ _ _ h => h) (Or.inl ⟨by kernel_rfl, fun w hSw => ?_⟩) hS0 ?_
          · obtain ⟨d1, d2, d3, d4⟩ := hSw; go_simp
          simp only [Act.put, List.setIfInBounds_toArray, List.set_cons_zero, List.set_cons_succ]
          refine wpAnyH_take (i := 2) (v := .agg #[.slice (some ⟨g, o, none⟩) n c]) rfl (by kernel_rfl) (by kernel_rfl) (by kernel_rfl) (fun _ _ _ h => h) (Or.inl ⟨by kernel_rfl, fun w hSw => ?_⟩) hS0 ?_
          · obtain ⟨d1, d2, d3, d4⟩ := hSw; go_simp
          simp only [Act.put, List.setIfInBounds_toArray, List.set_cons_zero, List.set_cons_succ]
          refine wpAnyH_take (i := 3) (v := .slice (some ⟨gk, ok, none⟩) L.length c1') rfl (by kernel_rfl) (by kernel_rfl) (by kernel_rfl) (fun _ _ _ h => h) (Or.inl ⟨by kernel_rfl, fun w hSw => ?_⟩) hS0 ?_
          · obtain ⟨d1, d2, d3, d4⟩ := hSw; go_simp
          simp only [Act.put, List.setIfInBounds_toArray, List.set_cons_zero, List.set_cons_succ]
          refine wpAnyH_take (i := 4) (v := .int .i64 (k : Int)) rfl (by kernel_rfl) (by kernel_rfl) (by kernel_rfl) (fun _ _ _ h => h) (Or.inl ⟨by kernel_rfl, fun w hSw => ?_⟩) hS0 ?_
          · obtain ⟨d1, d2, d3, d4⟩ := hSw; go_simp
          simp only [Act.put, List.setIfInBounds_toArray, List.set_cons_zero, List.set_cons_succ]
          refine wpAnyH_take (i := 5) (v := .pointer (some ⟨gk, ok + k * 2, none⟩)) rfl (by kernel_rfl) (by kernel_rfl) (by kernel_rfl) (fun _ _ _ h => h) (Or.inl ⟨by kernel_rfl, fun w hSw => ?_⟩) hS0 ?_
          · obtain ⟨d1, d2, d3, d4⟩ := hSw; go_simp
          simp only [Act.put, List.setIfInBounds_toArray, List.set_cons_zero, List.set_cons_succ]
          refine wpAnyH_take (i := 6) (v := .agg #[.int .i64 y1, .int .i64 y2]) rfl (by kernel_rfl) (by kernel_rfl) (by kernel_rfl) (fun _ _ _ h => h) (Or.inl ⟨by kernel_rfl, fun w hSw => ?_⟩) hS0 ?_
          · obtain ⟨d1, d2, d3, d4⟩ := hSw; go_simp
          simp only [Act.put, List.setIfInBounds_toArray, List.set_cons_zero, List.set_cons_succ]
          refine wpAnyH_ready (rs := [7]) (by kernel_rfl) (by simp) ?_
          refine AllReadyH.cons rfl (fun K hK => ?_) AllReadyH.nil
          go_simp
          refine hcall.mono ?_
          rintro e w5 ⟨rfl, hR5⟩
          have hS5 := HSx.out _ hR5.out
          refine hK.out _ _ hS5 (fun _ => ?_)
          clear hK K
          refine wpAnyH_take (i := 8) (v := .pointer (some ⟨g, o + i * 7, none⟩)) rfl (by kernel_rfl) (by kernel_rfl) (by kernel_rfl) (fun _ _ _ h => h) (Or.inl ⟨by kernel_rfl, fun w hSw => ?_⟩) hS5 ?_
          · obtain ⟨d1, d2, d3, d4⟩ := hSw; go_simp
          simp only [Act.put, List.setIfInBounds_toArray, List.set_cons_zero, List.set_cons_succ]
          refine wpAnyH_take (i := 9) (v := .pointer (some ⟨g, o + i * 7 + 6, none⟩)) rfl (by kernel_rfl) (by kernel_rfl) (by kernel_rfl) (fun _ _ _ h => h) (Or.inl ⟨by kernel_rfl, fun w hSw => ?_⟩) hS5 ?_
          · obtain ⟨d1, d2, d3, d4⟩ := hSw; go_simp
          simp only [Act.put, List.setIfInBounds_toArray, List.set_cons_zero, List.set_cons_succ]
          refine wpAnyH_take (i := 10) (v := .bool sn) rfl (by kernel_rfl) (by kernel_rfl) (by kernel_rfl) (fun _ _ _ h => h) (Or.inl ⟨by kernel_rfl, fun w hSw => ?_⟩) hS5 ?_
          · obtain ⟨d1, d2, d3, d4⟩ := hSw; go_simp
          simp only [Act.put, List.setIfInBounds_toArray, List.set_cons_zero, List.set_cons_succ]
          refine wpAnyH_done (by kernel_rfl) ?_ _
          clear hcall hS0 hS5
          cases sn
          · go_wp2
            go_roundw
            case rel => exact ⟨k + 1, m, by omega, by go_num, rfl, by omega, hid (by have := hnx.out; simpa using this.symm), hno', hR5⟩
            case measure => simp [intOf]; omega
          · go_wp2
            go_roundw
            case rel => exact ⟨k + 1, m + 1, by omega, by go_num, by go_num, by omega, hid (by have := hnx.out; simpa using this.symm), hno', hR5⟩
            case measure => simp [intOf]; omega
        · go_wp2_with fail
          go_quiet (fail)
          have HDq := hid (HD.out nq)
          clear E2 E3 C0 C1 HD
          generalize wr.drewN nq = W2 at HDq ⊢
          have HD2 : Hid (Below W1.heap.size W1 W2.drew) := hid (HDq.out.trans (((Far.refl W2).drewN 1).below.mono HDq.out.size))
          have hS0 := HSx.out _ HD2.out
          have hcall := Hcall.out _ HD2.out
          go_wp2_with fail
          refine wp_region_held_drew (S := fun w' => w'.cell? ⟨w.heap.size, 0, none⟩ = some (.slice (some ⟨g, o, none⟩) n c) ∧ w'.cell? ⟨gk, ok + k * 2, none⟩ = some (.int .i64 y1) ∧ w'.cell? ⟨gk, ok + k * 2 + 1, none⟩ = some (.int .i64 y2) ∧ w'.cell? ⟨g, o + i * 7 + 6, none⟩ = some (.bool sn)) hmxo hS0 ?_
          intro _
          refine wpAnyH_take (i := 0) (v := .pointer (some ⟨w.heap.size, 0, none⟩)) rfl (by kernel_rfl) (by kernel_rfl) (by kernel_rfl) (fun _ _ _ h => h) (Or.inl ⟨by kernel_rfl, fun w hSw => ?_⟩) hS0 ?_
          · obtain ⟨d1, d2, d3, d4⟩ := hSw; go_simp
          simp only [Act.put, List.setIfInBounds_toArray, List.set_cons_zero, List.set_cons_succ]
          refine wpAnyH_take (i := 1) (v := .slice (some ⟨g, o, none⟩) n c) rfl (by kernel_rfl) (by kernel_rfl) (by kernel_rfl) (fun _ _ _ h => h) (Or.inl ⟨by kernel_rfl, fun w hSw => ?_⟩) hS0 ?_
          · obtain ⟨d1, d2, d3, d4⟩ := hSw; go_simp
          simp only [Act.put, List.setIfInBounds_toArray, List.set_cons_zero, List.set_cons_succ]
          refine wpAnyH_take (i := 2) (v := .agg #[.slice (some ⟨g, o, none⟩) n c]) rfl (by kernel_rfl) (by kernel_rfl) (by kernel_rfl) (fun _ _ _ h => h) (Or.inl ⟨by kernel_rfl, fun w hSw => ?_⟩) hS0 ?_
          · obtain ⟨d1, d2, d3, d4⟩ := hSw; go_simp
          simp only [Act.put, List.setIfInBounds_toArray, List.set_cons_zero, List.set_cons_succ]
          refine wpAnyH_take (i := 3) (v := .slice (some ⟨gk, ok, none⟩) L.length c1') rfl (by kernel_rfl) (by kernel_rfl) (by kernel_rfl) (fun _ _ _ h => h) (Or.inl ⟨by kernel_rfl, fun w hSw => ?_⟩) hS0 ?_
          · obtain ⟨d1, d2, d3, d4⟩ := hSw; go_simp
          simp only [Act.put, List.setIfInBounds_toArray, List.set_cons_zero, List.set_cons_succ]
          refine wpAnyH_take (i := 4) (v := .int .i64 (k : Int)) rfl (by kernel_rfl) (by kernel_rfl) (by kernel_rfl) (fun _ _ _ h => h) (Or.inl ⟨by kernel_rfl, fun w hSw => ?_⟩) hS0 ?_
          · obtain ⟨d1, d2, d3, d4⟩ := hSw; go_simp
          simp only [Act.put, List.setIfInBounds_toArray, List.set_cons_zero, List.set_cons_succ]
          refine wpAnyH_take (i := 5) (v := .pointer (some ⟨gk, ok + k * 2, none⟩)) rfl (by kernel_rfl) (by kernel_rfl) (by kernel_rfl) (fun _ _ _ h => h) (Or.inl ⟨by kernel_rfl, fun w hSw => ?_⟩) hS0 ?_
          · obtain ⟨d1, d2, d3, d4⟩ := hSw; go_simp
          simp only [Act.put, List.setIfInBounds_toArray, List.set_cons_zero, List.set_cons_succ]
          refine wpAnyH_take (i := 6) (v := .agg #[.int .i64 y1, .int .i64 y2]) rfl (by kernel_rfl) (by kernel_rfl) (by kernel_rfl) (fun _ _ _ h => h) (Or.inl ⟨by kernel_rfl, fun w hSw => ?_⟩) hS0 ?_
          · obtain ⟨d1, d2, d3, d4⟩ := hSw; go_simp
          simp only [Act.put, List.setIfInBounds_toArray, List.set_cons_zero, List.set_cons_succ]
          refine wpAnyH_ready (rs := [7]) (by kernel_rfl) (by simp) ?_
          refine AllReadyH.cons rfl (fun K hK => ?_) AllReadyH.nil
          go_simp
          refine hcall.mono ?_
          rintro e w5 ⟨rfl, hR5⟩
          have hS5 := HSx.out _ hR5.out
          refine hK.out _ _ hS5 (fun _ => ?_)
          clear hK K
          refine wpAnyH_take (i := 8) (v := .pointer (some ⟨g, o + i * 7, none⟩)) rfl (by kernel_rfl) (by kernel_rfl) (by kernel_rfl) (fun _ _ _ h => h) (Or.inl ⟨by kernel_rfl, fun w hSw => ?_⟩) hS5 ?_
          · obtain ⟨d1, d2, d3, d4⟩ := hSw; go_simp
          simp only [Act.put, List.setIfInBounds_toArray, List.set_cons_zero, List.set_cons_succ]
          refine wpAnyH_take (i := 9) (v := .pointer (some ⟨g, o + i * 7 + 6, none⟩)) rfl (by kernel_rfl) (by kernel_rfl) (by kernel_rfl) (fun _ _ _ h => h) (Or.inl ⟨by kernel_rfl, fun w hSw => ?_⟩) hS5 ?_
          · obtain ⟨d1, d2, d3, d4⟩ := hSw; go_simp
          simp only [Act.put, List.setIfInBounds_toArray, List.set_cons_zero, List.set_cons_succ]
          refine wpAnyH_take (i := 10) (v := .bool sn) rfl (by kernel_rfl) (by kernel_rfl) (by kernel_rfl) (fun _ _ _ h => h) (Or.inl ⟨by kernel_rfl, fun w hSw => ?_⟩) hS5 ?_
          · obtain ⟨d1, d2, d3, d4⟩ := hSw; go_simp
          simp only [Act.put, List.setIfInBounds_toArray, List.set_cons_zero, List.set_cons_succ]
          refine wpAnyH_done (by kernel_rfl) ?_ _
          clear hcall hS0 hS5
          cases sn
          · go_wp2
            go_roundw
            case rel => exact ⟨k + 1, m, by omega, by go_num, rfl, by omega, hid (by have := hnx.out; simpa using this.symm), hno', hR5⟩
            case measure => simp [intOf]; omega
          · go_wp2
            go_roundw
            case rel => exact ⟨k + 1, m + 1, by omega, by go_num, by go_num, by omega, hid (by have := hnx.out; simpa using this.symm), hno', hR5⟩
            case measure => simp [intOf]; omega
    · obtain rfl : k = L.length := by omega
      have hfi := hid (idxL_no (L := allC T) (d := (d1, d2)) (by have := hno.out; rw [List.take_of_length_le (by rw [HCl.out, HT.out, ← HL.out]; exact Nat.le_refl _)] at this; exact this))
      have hbe := hid (hB0.trans ((HbW.out _ hbw.out).mono hB0.size))
      clear hno
      go_wp2
      go_ret2
      exact ⟨by rw [hfi.out]; rfl, hbe.out⟩
end Go.Proofs.Ytbpepmajpojacaa
