/- The reference: Chars. -/
import Derived.Test.YtbpepmajpojacaaFgRDots
import Derived.Test.YtbpepmajpojacaaFgTypeW
set_option linter.unusedVariables false
set_option linter.unusedSimpArgs false
namespace Go.Proofs.Ytbpepmajpojacaa
open Go.RowKit
open Go.Sort (grow)

/-- A row of numbers of one's own that grows; all that was there before is kept. -/
structure RI (W3 : World) (w : World) (v : Value) (X : List Int) : Prop where
  own : w.ownsRow W3.heap.size 3 1 v X.length (X.map (Value.int .i64))
  bel : Below W3.heap.size W3 w

theorem RI.cell {W3 w : World} {v : Value} {X : List Int} (h : RI W3 w v X) {p : Addr} {u : Value} (hp : W3.cell? p = some u) : w.cell? p = some u := (h.bel.cell (cell_in hp)).trans hp

theorem RI.more {W3 w w' : World} {v : Value} {X : List Int} (h : RI W3 w v X) (hb : Below w.heap.size w w') : RI W3 w' v X := ⟨own_keepP h.own hb, h.bel.trans (hb.mono h.bel.size)⟩

theorem RI.app {W3 w : World} {v : Value} {X : List Int} (h : RI W3 w v X) (t ty : TypeId) (ht : Try.prog.underlying t = some (.slice 3)) (x : Int) (g c : Nat) (hx : w.cell? ⟨g, 0, none⟩ = some (.int .i64 x)) (hb : X.length ≤ 1000000) :
    ∃ v' w', (Builtin.append_ #[t, t] ty #[v, .slice (some ⟨g, 0, none⟩) 1 c]).run Try.prog w = .ok v' w' ∧ RI W3 w' v' (X ++ [x]) := by
  obtain ⟨i0, hi, hz0, hz1, hz2⟩ := info_parts Try.infoI
  obtain ⟨v', w', h1, h2, h3, _⟩ := run_append_own (P := Try.prog) w W3.heap.size t ty 3 i0 _ 1 8 ht hi hz0 hz1 hz2 rfl (by decide) v X.length (X.map (Value.int .i64)) h.own ⟨g, 0, none⟩ 1 c [.int .i64 x] (by simp) (fun j u hj => by
    cases j with
    | zero => cases hj; exact hx
    | succ j => simp at hj) (fun u hu => by simp at hu; rw [hu]; rfl) (by unfold maxLen; omega) (by omega) h.bel.size
  refine ⟨v', w', h1, ⟨by rw [List.length_append, List.map_append]; exact h2, h.bel.grown h3 h.bel.size (fun j ej => (h.own.lt j ej).1)⟩⟩

set_option maxRecDepth 100000 in
set_option maxHeartbeats 4000000 in
theorem rchars_any (a : Option Addr) (n c : Nat) (T : List Cr) (hT : WT T) (hn : n ≤ 100000) (w : World) (h : RT w a n c T) :
    Calls Try.prog 36 #[.agg #[.slice a n c]] w fun e w' => ∃ v', e = .returned v' ∧ w'.ownsRow w.heap.size 3 1 v' (seenC T).length ((seenC T).map (fun c => Value.int .i64 c.ch)) ∧ Below w.heap.size w w' := by
  have mixed := mixed
  have hmxo : Try.prog.follows .mixedOrders = true := by kernel_rfl
  obtain ⟨W0, hW0⟩ : ∃ W0, W0 = w.alloc (.cells #[.slice a n c] 30) := ⟨_, rfl⟩
  have hB0 : Below w.heap.size w W0 := by rw [hW0]; exact (Below.refl _ w).alloc (Nat.le_refl _) _
  have hb1 : W0.heap[w.heap.size]? = some (.cells #[.slice a n c] 30 (0, 0)) := by rw [hW0]; exact World.alloc_heap_new w _
  have hl1 := (Array.getElem?_eq_some_iff.1 hb1).1
  have HC : Hid (∀ W, Below W0.heap.size W0 W → W.cell? ⟨w.heap.size, 0, none⟩ = some (.slice a n c)) := hid (fun W hb => by
    have g1 := (hb.block _ hl1).trans hb1
    simp [World.cell?, g1])
  have HRT : Hid (∀ W, Below W0.heap.size W0 W → RT W a n c T) := hid (fun W hb => h.below (hB0.trans (hb.mono hB0.size)))
  have hall := rdots_any a n c T hT hn W0 (HRT.out W0 (Below.refl _ _))
  have c1 : W0.cell? ⟨w.heap.size, 0, none⟩ = some (.slice a n c) := HC.out W0 (Below.refl _ _)
  have HT := hid h.len
  have hcap := h.cap
  have hmax := h.max
  unfold maxLen at hmax
  obtain ⟨L, hL⟩ : ∃ L, L = (seenC T).map Cr.id := ⟨_, rfl⟩
  have HCl : Hid ((seenC T).length = L.length) := hid (by rw [hL, List.length_map])
  have HCi : Hid ((seenC T).map Cr.id = L) := hid hL.symm
  rw [← hL] at hall
  have HL : Hid (L.length ≤ n) := hid (by
    rw [hL, List.length_map, ← h.len, ← allC_len hT]
    exact List.length_filter_le _ _)
  have HLd := hid hL
  clear hL hb1 h
  go_enter Try.func36, Try.ntmps36
  go_wp2_with (go_at_call 35; rw [← hW0]; clear hW0; refine hall.mono ?_; intro e W1 hg1; obtain ⟨a1, c1', rfl, q1, b1⟩ := hg1.ans)
  have hB1' : W0.heap.size ≤ W1.heap.size := b1.size
  have hq1 := hid q1
  have hcap1 := q1.cap
  have hmax1 := q1.max
  unfold maxLen at hmax1
  have Hb1 := hid b1
  have hR1 : Hid (RI W1 W1 (.slice none 0 0) []) := hid ⟨World.ownsRow_nil _ _ _ _, Below.refl _ _⟩
  clear q1 b1 hall hg1
  go_loopw [3, 5] (fun u i wr => ∃ (k : Nat) (v : Value), k ≤ L.length ∧ i = .int .i64 k ∧ v = u ∧ Hid (RI W1 wr v (((seenC T).take k).map Cr.ch))) (fun _ i _ => L.length - (intOf i).toNat)
  case atStart => exact ⟨0, _, by omega, rfl, rfl, hid (by simpa using hR1.out)⟩
  case round =>
    obtain ⟨k, v, hk, rfl, rfl, hR⟩ := hrel
    by_cases hlt : k < L.length
    · have hRd : Hid (RI W1 wr.drew v (((seenC T).take k).map Cr.ch)) := hid (hR.out.more ((Far.refl wr).drewN 1).below)
      obtain ⟨gk, ok, rfl, hgk, hatk⟩ := hq1.out.at (by omega)
      obtain ⟨hc0, hc1⟩ := hatk k hlt
      have hkC : k < (seenC T).length := by rw [HCl.out]; exact hlt
      obtain ⟨x, hx⟩ : ∃ x, x = (seenC T)[k]'hkC := ⟨_, rfl⟩
      have hts : Hid ((seenC T).take (k + 1) = (seenC T).take k ++ [x]) := hid (by rw [hx]; exact List.take_succ_eq_append_getElem hkC)
      have hxT : x ∈ T := seenC_mem (by rw [hx]; exact List.getElem_mem hkC)
      have hxy : L[k]'hlt = x.id := by
        have e1 : L[k]? = ((seenC T).map Cr.id)[k]? := by rw [HCi.out]
        rw [List.getElem?_map, List.getElem?_eq_getElem hlt, List.getElem?_eq_getElem hkC, ← hx] at e1
        exact Option.some.inj e1
      rw [hxy] at hc0 hc1
      obtain ⟨i, hi, hati⟩ := atI_all hT hxT
      have hiT := (List.getElem?_eq_some_iff.1 hi).1
      have hin : i < n := by rw [← HT.out]; exact hiT
      obtain ⟨g, o, rfl, hat⟩ := (HRT.out W1 Hb1.out).at hin
      have hix : T[i]'hiT = x := (List.getElem?_eq_some_iff.1 hi).2
      rw [hix] at hat
      have hc6 := hat.c5
      have hgW := hat.lt
      obtain ⟨y, hy⟩ : ∃ y, y = x.id := ⟨_, rfl⟩
      obtain ⟨ch, hsn⟩ : ∃ ch, ch = x.ch := ⟨_, rfl⟩
      rw [← hy] at hc0 hc1 hati
      rw [← hsn] at hc6
      have HY := hid (And.intro hy hsn)
      have hSx : ∀ w' v' P', RI W1 w' v' P' → (w'.cell? ⟨w.heap.size, 0, none⟩ = some (.slice (some ⟨g, o, none⟩) n c) ∧ w'.cell? ⟨gk, ok + k * 2, none⟩ = some (.int .i64 y.1) ∧ w'.cell? ⟨gk, ok + k * 2 + 1, none⟩ = some (.int .i64 y.2) ∧ w'.cell? ⟨g, o + i * 7 + 5, none⟩ = some (.int .i64 ch)) := fun w' v' P' h' => ⟨h'.cell (HC.out W1 Hb1.out), h'.cell hc0, h'.cell hc1, h'.cell hc6⟩
      have hS0 := hSx _ _ _ hRd.out
      have hcall : Calls Try.prog 30 #[.agg #[.slice (some ⟨g, o, none⟩) n c], .agg #[.int .i64 y.1, .int .i64 y.2]] wr.drew fun e w' => e = .returned (.int .i64 (i : Int)) ∧ Hid (RI W1 w' v (((seenC T).take k).map Cr.ch)) := (rat_any _ n c T y wr.drew (HRT.out _ (Hb1.out.trans (hRd.out.bel.mono hB1'))) (by omega)).mono (fun e w' ⟨h1, h2⟩ => ⟨by rw [h1, hati], hid (hRd.out.more h2)⟩)
      have hPl : Hid ((((seenC T).take k).map Cr.ch).length ≤ 100000) := hid (by
        rw [List.length_map, List.length_take]
        have := HL.out
        omega)
      have hk1 : (k : Int) < (L.length : Int) := by omega
      have hk0' : (0 : Int) ≤ (k : Int) := by omega
      have hi1 : (i : Int) < (n : Int) := by omega
      have hi0 : (0 : Int) ≤ (i : Int) := by omega
      have hnx : Hid (∀ w' v', RI W1 w' v' ((((seenC T).take k).map Cr.ch) ++ [ch]) → RI W1 w' v' (((seenC T).take (k + 1)).map Cr.ch)) := hid (fun w' v' h' => by
        rw [hts.out, List.map_append]
        rw [HY.out.2] at h'
        exact h')
      clear hatk hc0 hc1 hR hat hc6 hx hxT hxy hi hati hiT hix hy hsn hkC HY
      go_wp2_with fail
      refine wp_region_held_drew (S := fun w' => w'.cell? ⟨w.heap.size, 0, none⟩ = some (.slice (some ⟨g, o, none⟩) n c) ∧ w'.cell? ⟨gk, ok + k * 2, none⟩ = some (.int .i64 y.1) ∧ w'.cell? ⟨gk, ok + k * 2 + 1, none⟩ = some (.int .i64 y.2) ∧ w'.cell? ⟨g, o + i * 7 + 5, none⟩ = some (.int .i64 ch)) hmxo hS0 ?_
      intro _
      refine wpAnyH_take (i := 0) (v := v) rfl (by kernel_rfl) (by kernel_rfl) (by kernel_rfl) (fun _ _ _ h => h) (Or.inl ⟨by kernel_rfl, fun w hSw => ?_⟩) hS0 ?_
      · obtain ⟨d1, d2, d3, d4⟩ := hSw; go_simp
      simp only [Act.put, List.setIfInBounds_toArray, List.set_cons_zero, List.set_cons_succ]
      refine wpAnyH_take (i := 1) (v := .pointer (some ⟨w.heap.size, 0, none⟩)) rfl (by kernel_rfl) (by kernel_rfl) (by kernel_rfl) (fun _ _ _ h => h) (Or.inl ⟨by kernel_rfl, fun w hSw => ?_⟩) hS0 ?_
      · obtain ⟨d1, d2, d3, d4⟩ := hSw; go_simp
      simp only [Act.put, List.setIfInBounds_toArray, List.set_cons_zero, List.set_cons_succ]
      refine wpAnyH_take (i := 2) (v := .slice (some ⟨g, o, none⟩) n c) rfl (by kernel_rfl) (by kernel_rfl) (by kernel_rfl) (fun _ _ _ h => h) (Or.inl ⟨by kernel_rfl, fun w hSw => ?_⟩) hS0 ?_
      · obtain ⟨d1, d2, d3, d4⟩ := hSw; go_simp
      simp only [Act.put, List.setIfInBounds_toArray, List.set_cons_zero, List.set_cons_succ]
      refine wpAnyH_take (i := 3) (v := .agg #[.slice (some ⟨g, o, none⟩) n c]) rfl (by kernel_rfl) (by kernel_rfl) (by kernel_rfl) (fun _ _ _ h => h) (Or.inl ⟨by kernel_rfl, fun w hSw => ?_⟩) hS0 ?_
      · obtain ⟨d1, d2, d3, d4⟩ := hSw; go_simp
      simp only [Act.put, List.setIfInBounds_toArray, List.set_cons_zero, List.set_cons_succ]
      refine wpAnyH_take (i := 4) (v := .slice (some ⟨gk, ok, none⟩) L.length c1') rfl (by kernel_rfl) (by kernel_rfl) (by kernel_rfl) (fun _ _ _ h => h) (Or.inl ⟨by kernel_rfl, fun w hSw => ?_⟩) hS0 ?_
      · obtain ⟨d1, d2, d3, d4⟩ := hSw; go_simp
      simp only [Act.put, List.setIfInBounds_toArray, List.set_cons_zero, List.set_cons_succ]
      refine wpAnyH_take (i := 5) (v := .int .i64 (k : Int)) rfl (by kernel_rfl) (by kernel_rfl) (by kernel_rfl) (fun _ _ _ h => h) (Or.inl ⟨by kernel_rfl, fun w hSw => ?_⟩) hS0 ?_
      · obtain ⟨d1, d2, d3, d4⟩ := hSw; go_simp
      simp only [Act.put, List.setIfInBounds_toArray, List.set_cons_zero, List.set_cons_succ]
      refine wpAnyH_take (i := 6) (v := .pointer (some ⟨gk, ok + k * 2, none⟩)) rfl (by kernel_rfl) (by kernel_rfl) (by kernel_rfl) (fun _ _ _ h => h) (Or.inl ⟨by kernel_rfl, fun w hSw => ?_⟩) hS0 ?_
      · obtain ⟨d1, d2, d3, d4⟩ := hSw; go_simp
      simp only [Act.put, List.setIfInBounds_toArray, List.set_cons_zero, List.set_cons_succ]
      refine wpAnyH_take (i := 7) (v := .agg #[.int .i64 y.1, .int .i64 y.2]) rfl (by kernel_rfl) (by kernel_rfl) (by kernel_rfl) (fun _ _ _ h => h) (Or.inl ⟨by kernel_rfl, fun w hSw => ?_⟩) hS0 ?_
      · obtain ⟨d1, d2, d3, d4⟩ := hSw; go_simp
      simp only [Act.put, List.setIfInBounds_toArray, List.set_cons_zero, List.set_cons_succ]
      refine wpAnyH_ready (rs := [8]) (by kernel_rfl) (by simp) ?_
      refine AllReadyH.cons rfl (fun K hK => ?_) AllReadyH.nil
      go_simp
      refine hcall.mono ?_
      rintro e w5 ⟨rfl, hR5⟩
      have hS5 := hSx _ _ _ hR5.out
      refine hK.out _ _ hS5 (fun _ => ?_)
      clear hK K
      refine wpAnyH_take (i := 9) (v := .pointer (some ⟨g, o + i * 7, none⟩)) rfl (by kernel_rfl) (by kernel_rfl) (by kernel_rfl) (fun _ _ _ h => h) (Or.inl ⟨by kernel_rfl, fun w hSw => ?_⟩) hS5 ?_
      · obtain ⟨d1, d2, d3, d4⟩ := hSw; go_simp
      simp only [Act.put, List.setIfInBounds_toArray, List.set_cons_zero, List.set_cons_succ]
      refine wpAnyH_take (i := 10) (v := .pointer (some ⟨g, o + i * 7 + 5, none⟩)) rfl (by kernel_rfl) (by kernel_rfl) (by kernel_rfl) (fun _ _ _ h => h) (Or.inl ⟨by kernel_rfl, fun w hSw => ?_⟩) hS5 ?_
      · obtain ⟨d1, d2, d3, d4⟩ := hSw; go_simp
      simp only [Act.put, List.setIfInBounds_toArray, List.set_cons_zero, List.set_cons_succ]
      refine wpAnyH_take (i := 11) (v := .int .i64 ch) rfl (by kernel_rfl) (by kernel_rfl) (by kernel_rfl) (fun _ _ _ h => h) (Or.inl ⟨by kernel_rfl, fun w hSw => ?_⟩) hS5 ?_
      · obtain ⟨d1, d2, d3, d4⟩ := hSw; go_simp
      simp only [Act.put, List.setIfInBounds_toArray, List.set_cons_zero, List.set_cons_succ]
      have hR6 := hid (hR5.out.more ((Below.refl _ w5).alloc (Nat.le_refl _) (.cells #[.int .i64 ch] 3)))
      have hS6 := hSx _ _ _ hR6.out
      obtain ⟨v7, w7, hrun, hR7'⟩ := hR6.out.app 45 45 Try.underlying45 ch w5.heap.size 1 (by go_simp) (by have := hPl.out; omega)
      have hS7 := hSx _ _ _ hR7'
      have hR7 := hid (hnx.out w7 v7 hR7')
      clear hR7' hnx
      refine wpAnyH_ready (rs := [12]) (by kernel_rfl) (by simp) ?_
      refine AllReadyH.cons rfl (fun K hK => ?_) AllReadyH.nil
      go_simp
      refine hK.out _ _ hS6 (fun _ => ?_)
      clear hK K
      refine wpAnyH_ready (rs := [13]) (by kernel_rfl) (by simp) ?_
      refine AllReadyH.cons rfl (fun K hK => ?_) AllReadyH.nil
      refine append_stepH _ _ 45 v _ _ w7 rfl rfl rfl rfl hrun ?_
      refine hK.out _ _ hS7 (fun _ => ?_)
      clear hK K
      simp only [Act.put, List.setIfInBounds_toArray, List.set_cons_zero, List.set_cons_succ]
      refine wpAnyH_take (i := 14) (v := v7) rfl (by kernel_rfl) (by kernel_rfl) (by kernel_rfl) (fun _ _ _ h => h) (Or.inl ⟨by kernel_rfl, fun w hSw => ?_⟩) hS7 ?_
      · obtain ⟨d1, d2, d3, d4⟩ := hSw; go_simp
      simp only [Act.put, List.setIfInBounds_toArray, List.set_cons_zero, List.set_cons_succ]
      refine wpAnyH_done (by kernel_rfl) ?_ _
      clear hSx hcall hS0 hRd hS5 hS6 hS7 hR5 hR6 hrun
      go_wp2
      go_roundw
      case rel => exact ⟨k + 1, _, by omega, by go_num, rfl, hR7⟩
      case measure => simp [intOf]; omega
    · obtain rfl : k = L.length := by omega
      have hR9 : Hid (RI W1 wr v ((seenC T).map Cr.ch)) := hid (by have := hR.out; rw [List.take_of_length_le (by rw [HCl.out]; exact Nat.le_refl _)] at this; exact this)
      clear hR
      go_wp2
      go_ret
      have hb9 := hB0.trans (Hb1.out.mono hB0.size)
      refine ⟨v, rfl, ?_, hb9.trans (hR9.out.bel.mono hb9.size)⟩
      have ho := hR9.out.own
      rw [List.length_map, List.map_map] at ho
      refine ⟨ho.1, ?_⟩
      rcases ho.2 with h0 | ⟨g, cap, cur, h1, h2, h3⟩
      · exact Or.inl h0
      · exact Or.inr ⟨g, cap, cur, h1, Nat.le_trans hb9.size h2, h3⟩
end Go.Proofs.Ytbpepmajpojacaa
