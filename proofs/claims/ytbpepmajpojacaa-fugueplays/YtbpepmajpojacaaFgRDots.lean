/- The reference: All, Dots. -/
import Derived.Test.YtbpepmajpojacaaFgRTree
import Derived.Test.YtbpepmajpojacaaFgPlace
set_option linter.unusedVariables false
set_option linter.unusedSimpArgs false
namespace Go.Proofs.Ytbpepmajpojacaa
open Go.RowKit
open Go.Sort (grow)

/-- Where one of the characters, in order, lies in the row. -/
theorem atI_all {T : List Cr} (hT : WT T) {x : Cr} (hx : x ∈ T) : ∃ i : Nat, T[i]? = some x ∧ atI T x.id = (i : Int) := by
  obtain ⟨i, hi⟩ := List.mem_iff_getElem?.1 hx
  refine ⟨i, hi, atI_at hi rfl (fun c hc e => ?_)⟩
  obtain ⟨j, hj, rfl⟩ := List.mem_take_iff_getElem.1 hc
  have hil := (List.getElem?_eq_some_iff.1 hi).1
  have h1 : (T.map Cr.id)[j]'(by simp; omega) = (T.map Cr.id)[i]'(by simp; omega) := by
    rw [List.getElem_map, List.getElem_map, (List.getElem?_eq_some_iff.1 hi).2]
    exact e
  exact List.pairwise_iff_getElem.1 hT.ids j i (by simp; omega) (by simp; omega) (by omega) h1

set_option maxRecDepth 100000 in
theorem rall_any (a : Option Addr) (n c : Nat) (T : List Cr) (hT : WT T) (hn : n ≤ 100000) (w : World) (h : RT w a n c T) :
    Calls Try.prog 34 #[.agg #[.slice a n c]] w (Gives w (allT T)) := by
  have mixed := mixed
  have hb0 : Below w.heap.size w (w.alloc (.cells #[.slice a n c] 30)) := (Below.refl _ w).alloc (Nat.le_refl _) _
  have htr := rtree_any a n c T hT hn (T.length + 1) (0, 0) _ (h.below hb0) (Or.inl rfl) hT.dep_root
  have hg : Hid (∀ e w', Gives (w.alloc (.cells #[.slice a n c] 30)) (allT T) e w' → Gives w (allT T) e w') := hid (fun e w' ⟨v, he, ho, hb⟩ => by
    refine ⟨v, he, ⟨ho.1, ?_⟩, hb0.trans (hb.mono hb0.size)⟩
    rcases ho.2 with h0 | ⟨g, cap, cur, h1, h2, h3⟩
    · exact Or.inl h0
    · exact Or.inr ⟨g, cap, cur, h1, Nat.le_trans hb0.size h2, h3⟩)
  clear hb0
  go_enter Try.func34, Try.ntmps34
  go_wp2_with (go_at_call 56; refine htr.mono ?_; intro e w3 h3; obtain ⟨v3, rfl, h3'⟩ := h3; have H3 := hid h3'; clear h3')
  go_ret
  exact hg.out _ _ ⟨v3, rfl, H3.out⟩

set_option maxRecDepth 100000 in
set_option maxHeartbeats 4000000 in
theorem rdots_any (a : Option Addr) (n c : Nat) (T : List Cr) (hT : WT T) (hn : n ≤ 100000) (w : World) (h : RT w a n c T) :
    Calls Try.prog 35 #[.agg #[.slice a n c]] w (Gives w ((seenC T).map Cr.id)) := by
  have mixed := mixed
  have hmxo : Try.prog.follows .mixedOrders = true := by kernel_rfl
  obtain ⟨W0, hW0⟩ : ∃ W0, W0 = w.alloc (.cells #[.slice a n c] 30) := ⟨_, rfl⟩
  have hB0 : Below w.heap.size w W0 := by rw [hW0]; exact (Below.refl _ w).alloc (Nat.le_refl _) _
  have hb1 : W0.heap[w.heap.size]? = some (.cells #[.slice a n c] 30 (0, 0)) := by rw [hW0]; exact World.alloc_heap_new w _
  have hl1 := (Array.getElem?_eq_some_iff.1 hb1).1
  have HC : Hid (∀ W, Below W0.heap.size W0 W → W.cell? ⟨w.heap.size, 0, none⟩ = some (.slice a n c)) := hid (fun W hb => by
    have g1 := (hb.block _ hl1).trans hb1
    simp [World.cell?, g1])
  have HRT : Hid (∀ W, Below W0.heap.size W0 W → RT W a n c T) := hid (fun W hb => h.below (hB0.trans (hb.mono hB0.size)))
  have hall := rall_any a n c T hT hn W0 (HRT.out W0 (Below.refl _ _))
  have c1 : W0.cell? ⟨w.heap.size, 0, none⟩ = some (.slice a n c) := HC.out W0 (Below.refl _ _)
  have HT := hid h.len
  have hcap := h.cap
  have hmax := h.max
  unfold maxLen at hmax
  have HCl := hid (allC_len hT)
  have HCi := hid (allC_ids hT)
  obtain ⟨L, hL⟩ : ∃ L, L = allT T := ⟨_, rfl⟩
  rw [← hL] at hall
  have HL : Hid (L.length = n) := hid (by rw [hL, allT_len hT, h.len])
  have HLd := hid hL
  clear hL hb1 h
  go_enter Try.func35, Try.ntmps35
  go_wp2_with (go_at_call 34; rw [← hW0]; clear hW0; refine hall.mono ?_; intro e W1 hg1; obtain ⟨a1, c1', rfl, q1, b1⟩ := hg1.ans)
  obtain ⟨B1, hB1⟩ : ∃ B1, B1 = W1.heap.size := ⟨_, rfl⟩
  have hB1' : W0.heap.size ≤ B1 := by rw [hB1]; exact b1.size
  have hq1 := hid q1
  have hcap1 := q1.cap
  have hmax1 := q1.max
  unfold maxLen at hmax1
  have Hb1 := hid b1
  have hR1 : Hid (RL W1 B1 B1 W1 (.slice none 0 0) []) := hid ⟨World.ownsRow_nil _ _ _ _, rfl, rfl, rfl, Nat.le_refl _, fun _ _ _ => rfl, fun b hb => by simp [Value.ownBlock] at hb, by rw [hB1]; exact Nat.le_refl _⟩
  clear hB1 q1 b1 hall hg1
  go_loopw [3, 5] (fun u i wr => ∃ (k : Nat) (v : Value), k ≤ L.length ∧ i = .int .i64 k ∧ v = u ∧ Hid (RL W1 B1 B1 wr v ((((allC T).take k).filter (·.seen)).map Cr.id))) (fun _ i _ => L.length - (intOf i).toNat)
  case atStart => exact ⟨0, _, by omega, rfl, rfl, hid (by simpa using hR1.out)⟩
  case round =>
    obtain ⟨k, v, hk, rfl, rfl, hR⟩ := hrel
    by_cases hlt : k < L.length
    · have hRd : Hid (RL W1 B1 B1 wr.drew v ((((allC T).take k).filter (·.seen)).map Cr.id)) := hid (hR.out.more ((Far.refl wr).drewN 1).below)
      obtain ⟨gk, ok, rfl, hgk, hatk⟩ := hq1.out.at (by omega)
      obtain ⟨hc0, hc1⟩ := hatk k hlt
      have hkC : k < (allC T).length := by rw [HCl.out, HT.out, ← HL.out]; exact hlt
      obtain ⟨x, hx⟩ : ∃ x, x = (allC T)[k]'hkC := ⟨_, rfl⟩
      have hts : Hid ((allC T).take (k + 1) = (allC T).take k ++ [x]) := hid (by rw [hx]; exact List.take_succ_eq_append_getElem hkC)
      have hxT : x ∈ T := allC_mem (by rw [hx]; exact List.getElem_mem hkC)
      have hxy : L[k]'hlt = x.id := by
        have e1 : L[k]? = ((allC T).map Cr.id)[k]? := by rw [HCi.out, HLd.out]
        rw [List.getElem?_map, List.getElem?_eq_getElem hlt, List.getElem?_eq_getElem hkC, ← hx] at e1
        exact Option.some.inj e1
      rw [hxy] at hc0 hc1
      obtain ⟨i, hi, hati⟩ := atI_all hT hxT
      have hiT := (List.getElem?_eq_some_iff.1 hi).1
      have hin : i < n := by rw [← HT.out]; exact hiT
      obtain ⟨g, o, rfl, hat⟩ := (HRT.out W1 Hb1.out).at hin
      have hix : T[i]'hiT = x := (List.getElem?_eq_some_iff.1 hi).2
      rw [hix] at hat
      have hc6 := hat.c6
      have hgW := hat.lt
      obtain ⟨y, hy⟩ : ∃ y, y = x.id := ⟨_, rfl⟩
      obtain ⟨sn, hsn⟩ : ∃ sn, sn = x.seen := ⟨_, rfl⟩
      rw [← hy] at hc0 hc1 hati
      rw [← hsn] at hc6
      have HY := hid (And.intro hy hsn)
      have hgB : g < B1 ∨ B1 ≤ g := by omega
      have hgkB : gk < B1 ∨ B1 ≤ gk := by omega
      have hSx : ∀ w' v' P', RL W1 B1 B1 w' v' P' → (w'.cell? ⟨w.heap.size, 0, none⟩ = some (.slice (some ⟨g, o, none⟩) n c) ∧ w'.cell? ⟨gk, ok + k * 2, none⟩ = some (.int .i64 y.1) ∧ w'.cell? ⟨gk, ok + k * 2 + 1, none⟩ = some (.int .i64 y.2) ∧ w'.cell? ⟨g, o + i * 7 + 6, none⟩ = some (.bool sn)) := fun w' v' P' h' => ⟨h'.cell (HC.out W1 Hb1.out) (Or.inl (by show w.heap.size < B1; omega)), h'.cell hc0 hgkB, h'.cell hc1 hgkB, h'.cell hc6 hgB⟩
      have hS0 := hSx _ _ _ hRd.out
      have hcall : Calls Try.prog 30 #[.agg #[.slice (some ⟨g, o, none⟩) n c], .agg #[.int .i64 y.1, .int .i64 y.2]] wr.drew fun e w' => e = .returned (.int .i64 (i : Int)) ∧ Hid (RL W1 B1 B1 w' v ((((allC T).take k).filter (·.seen)).map Cr.id)) := (rat_any _ n c T y wr.drew (HRT.out _ (Hb1.out.trans (hRd.out.below.mono hB1'))) (by omega)).mono (fun e w' ⟨h1, h2⟩ => ⟨by rw [h1, hati], hid (hRd.out.more h2)⟩)
      have hPl : Hid (((((allC T).take k).filter (·.seen)).map Cr.id).length ≤ 100000) := hid (by
        rw [List.length_map]
        refine Nat.le_trans (List.length_filter_le _ _) ?_
        rw [List.length_take]
        have := HL.out
        omega)
      have hk1 : (k : Int) < (L.length : Int) := by omega
      have hk0' : (0 : Int) ≤ (k : Int) := by omega
      have hi1 : (i : Int) < (n : Int) := by omega
      have hi0 : (0 : Int) ≤ (i : Int) := by omega
      have hnx : Hid (∀ w' v', RL W1 B1 B1 w' v' (((((allC T).take k).filter (·.seen)).map Cr.id) ++ (if sn then [y] else [])) → RL W1 B1 B1 w' v' ((((allC T).take (k + 1)).filter (·.seen)).map Cr.id)) := hid (fun w' v' h' => by
        rw [hts.out, List.filter_append, List.map_append]
        rw [HY.out.1, HY.out.2] at h'
        cases hs : x.seen
        · simpa [hs] using h'
        · simpa [hs] using h')
      clear hatk hc0 hc1 hR hat hc6 hx hxT hxy hi hati hiT hix hy hsn hkC HY
      go_wp2_with fail
      refine wp_region_held_drew (S := fun w' => w'.cell? ⟨w.heap.size, 0, none⟩ = some (.slice (some ⟨g, o, none⟩) n c) ∧ w'.cell? ⟨gk, ok + k * 2, none⟩ = some (.int .i64 y.1) ∧ w'.cell? ⟨gk, ok + k * 2 + 1, none⟩ = some (.int .i64 y.2) ∧ w'.cell? ⟨g, o + i * 7 + 6, none⟩ = some (.bool sn)) hmxo hS0 ?_
      intro _
      refine wpAnyH_take (i := 0) (v := .pointer (some ⟨w.heap.size, 0, none⟩)) rfl (by kernel_rfl) (by kernel_rfl) (by kernel_rfl) (fun _ _ _ h => h) (Or.inl ⟨by kernel_rfl, fun w hSw => ?_⟩) hS0 ?_
      · obtain ⟨d1, d2, d3, d4⟩ := hSw; go_simp
      simp only [Act.put, List.setIfInBounds_toArray, List.set_cons_zero, List.set_cons_succ]
      refine wpAnyH_take (i := 1) (v := .slice (some ⟨g, o, none⟩) n c) rfl (by kernel_rfl) (by kernel_rfl) (by kernel_rfl) (fun _ _ _ h => h) (Or.inl ⟨by kernel_rfl, fun w hSw => ?_⟩) hS0 ?_
      · obtain ⟨d1, d2, d3, d4⟩ := hSw; go_simp
      simp only [Act.put, List.setIfInBounds_toArray, List.set_cons_zero, List.set_cons_succ]
      refine wpAnyH_take (i := 2) (v := .agg #[.slice (some ⟨g, o, none⟩) n c]) rfl (by kernel_rfl) (by kernel_rfl) (by kernel_rfl) (fun _ _ _ h => h) (Or.inl ⟨by kernel_rfl, fun w hSw => ?_⟩) hS0 ?_
      · obtain ⟨d1, d2, d3, d4⟩ := hSw; go_simp
      simp only [Act.put, List.setIfInBounds_toArray, List.set_cons_zero, List.set_cons_succ]
      refine wpAnyH_take (i := 3) (v := .slice (some ⟨gk, ok, none⟩) L.length c1') rfl (by kernel_rfl) (by kernel_rfl) (by kernel_rfl) (fun _ _ _ h => h) (Or.inl ⟨by kernel_rfl, fun w hSw => ?_⟩) hS0 ?_
      · obtain ⟨d1, d2, d3, d4⟩ := hSw; go_simp
      simp only [Act.put, List.setIfInBounds_toArray, List.set_cons_zero, List.set_cons_succ]
      refine wpAnyH_take (i := 4) (v := .int .i64 (k : Int)) rfl (by kernel_rfl) (by kernel_rfl) (by kernel_rfl) (fun _ _ _ h => h) (Or.inl ⟨by kernel_rfl, fun w hSw => ?_⟩) hS0 ?_
      · obtain ⟨d1, d2, d3, d4⟩ := hSw; go_simp
      simp only [Act.put, List.setIfInBounds_toArray, List.set_cons_zero, List.set_cons_succ]
      refine wpAnyH_take (i := 5) (v := .pointer (some ⟨gk, ok + k * 2, none⟩)) rfl (by kernel_rfl) (by kernel_rfl) (by kernel_rfl) (fun _ _ _ h => h) (Or.inl ⟨by kernel_rfl, fun w hSw => ?_⟩) hS0 ?_
      · obtain ⟨d1, d2, d3, d4⟩ := hSw; go_simp
      simp only [Act.put, List.setIfInBounds_toArray, List.set_cons_zero, List.set_cons_succ]
      refine wpAnyH_take (i := 6) (v := .agg #[.int .i64 y.1, .int .i64 y.2]) rfl (by kernel_rfl) (by kernel_rfl) (by kernel_rfl) (fun _ _ _ h => h) (Or.inl ⟨by kernel_rfl, fun w hSw => ?_⟩) hS0 ?_
      · obtain ⟨d1, d2, d3, d4⟩ := hSw; go_simp
      simp only [Act.put, List.setIfInBounds_toArray, List.set_cons_zero, List.set_cons_succ]
      refine wpAnyH_ready (rs := [7]) (by kernel_rfl) (by simp) ?_
      refine AllReadyH.cons rfl (fun K hK => ?_) AllReadyH.nil
      go_simp
      refine hcall.mono ?_
      rintro e w5 ⟨rfl, hR5⟩
      have hS5 := hSx _ _ _ hR5.out
      refine hK.out _ _ hS5 (fun _ => ?_)
      clear hK K
      refine wpAnyH_take (i := 8) (v := .pointer (some ⟨g, o + i * 7, none⟩)) rfl (by kernel_rfl) (by kernel_rfl) (by kernel_rfl) (fun _ _ _ h => h) (Or.inl ⟨by kernel_rfl, fun w hSw => ?_⟩) hS5 ?_
      · obtain ⟨d1, d2, d3, d4⟩ := hSw; go_simp
      simp only [Act.put, List.setIfInBounds_toArray, List.set_cons_zero, List.set_cons_succ]
      refine wpAnyH_take (i := 9) (v := .pointer (some ⟨g, o + i * 7 + 6, none⟩)) rfl (by kernel_rfl) (by kernel_rfl) (by kernel_rfl) (fun _ _ _ h => h) (Or.inl ⟨by kernel_rfl, fun w hSw => ?_⟩) hS5 ?_
      · obtain ⟨d1, d2, d3, d4⟩ := hSw; go_simp
      simp only [Act.put, List.setIfInBounds_toArray, List.set_cons_zero, List.set_cons_succ]
      refine wpAnyH_take (i := 10) (v := .bool sn) rfl (by kernel_rfl) (by kernel_rfl) (by kernel_rfl) (fun _ _ _ h => h) (Or.inl ⟨by kernel_rfl, fun w hSw => ?_⟩) hS5 ?_
      · obtain ⟨d1, d2, d3, d4⟩ := hSw; go_simp
      simp only [Act.put, List.setIfInBounds_toArray, List.set_cons_zero, List.set_cons_succ]
      refine wpAnyH_done (by kernel_rfl) ?_ _
      obtain ⟨f1, f2, f3, f4⟩ := hS5
      clear hSx hcall hS0 hRd
      have hRa : Hid (∀ o, RL W1 B1 B1 (w5.alloc o) v ((((allC T).take k).filter (·.seen)).map Cr.id)) := hid (fun o => hR5.out.more ((Below.refl _ w5).alloc (Nat.le_refl _) o))
      cases sn
      · have hR7 := hid (hnx.out w5 v (by simpa using hR5.out))
        clear hR5 hRa hnx
        go_wp2
        go_roundw
        case rel => exact ⟨k + 1, _, by omega, by go_num, rfl, hR7⟩
        case measure => simp [intOf]; omega
      · clear hR5
        go_wp2_with (at_builtin; refine wpList_append_RL rfl _ _ 49 Try.underlying49 rfl v _ rfl (hRa.out _) (some ⟨w5.heap.size, 0, none⟩) 1 1 [y] rfl (ps_one w5 y) (by have := hPl.out; omega) ?_; intro v6 w6 hR6; have HR6 := hid hR6; clear hR6)
        have hR7 := hid (hnx.out w6 v6 (by simpa using HR6.out))
        clear HR6
        go_roundw
        case rel => exact ⟨k + 1, _, by omega, by go_num, rfl, hR7⟩
        case measure => simp [intOf]; omega
    · obtain rfl : k = L.length := by omega
      have hR9 : Hid (RL W1 B1 B1 wr v ((seenC T).map Cr.id)) := hid (by have := hR.out; rw [List.take_of_length_le (by rw [HCl.out, HT.out, ← HL.out]; exact Nat.le_refl _)] at this; exact this)
      clear hR
      go_wp2
      go_ret
      exact hR9.out.gives (hB0.trans (Hb1.out.mono hB0.size)) (by omega)
end Go.Proofs.Ytbpepmajpojacaa
