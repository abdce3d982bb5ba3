/- The reference: String. -/
import Derived.Test.YtnmdcdphpcpojaaGreatDoorFgRTree
import Derived.Test.YtnmdcdphpcpojaaGreatDoorTrMath
import Derived.Test.YtnmdcdphpcpojaaGreatDoorFgStayV
namespace Go.Proofs.YtnmdcdphpcpojaaGreatDoor
section
set_option linter.unusedVariables false
set_option linter.unusedSimpArgs false
open Go.RowKit
open Go.Sort (grow)

/-- Where one of the characters, in order, lies in the row. -/
theorem atI_all {T : List Cr} (hT : WT T) {x : Cr} (hx : x ∈ T) : ∃ i : Nat, T[i]? = some x ∧ atI T x.id = (i : Int) := by
  obtain ⟨i, hi⟩ := List.mem_iff_getElem?.1 hx
  refine ⟨i, hi, atI_at hi rfl (fun c hc e => ?_)⟩
  obtain ⟨j, hj, rfl⟩ := List.mem_take_iff_getElem.1 hc
  have hil := (List.getElem?_eq_some_iff.1 hi).1
  have h1 : (T.map Cr.id)[j]'(by simp; omega) = (T.map Cr.id)[i]'(by simp; omega) := by
    rw [List.getElem_map, List.getElem_map, (List.getElem?_eq_some_iff.1 hi).2]
    exact e
  exact List.pairwise_iff_getElem.1 hT.ids j i (by simp; omega) (by simp; omega) (by omega) h1

set_option maxRecDepth 100000 in
theorem frall_any (a : Option Addr) (n c : Nat) (T : List Cr) (hT : WT T) (hn : n ≤ 100000) (w : World) (h : RT w a n c T) :
    Calls Tryz.prog 132 #[.agg #[.slice a n c]] w (Gives w (allT T)) := by
  have mixed := mixed
  have hb0 : Below w.heap.size w (w.alloc (.cells #[.slice a n c] 62)) := (Below.refl _ w).alloc (Nat.le_refl _) _
  have htr := rtree_any a n c T hT hn (T.length + 1) (0, 0) _ (h.below hb0) (Or.inl rfl) hT.dep_root
  have hg : Hid (∀ e w', Gives (w.alloc (.cells #[.slice a n c] 62)) (allT T) e w' → Gives w (allT T) e w') := hid (fun e w' ⟨v, he, ho, hb⟩ => by
    refine ⟨v, he, ⟨ho.1, ?_⟩, hb0.trans (hb.mono hb0.size)⟩
    rcases ho.2 with h0 | ⟨g, cap, cur, h1, h2, h3⟩
    · exact Or.inl h0
    · exact Or.inr ⟨g, cap, cur, h1, Nat.le_trans hb0.size h2, h3⟩)
  clear hb0
  go_enter Tryz.func132, Tryz.ntmps132
  go_wp2_with (go_at_call 160; refine htr.mono ?_; intro e w3 h3; obtain ⟨v3, rfl, h3'⟩ := h3; have H3 := hid h3'; clear h3')
  go_ret
  exact hg.out _ _ ⟨v3, rfl, H3.out⟩

set_option maxRecDepth 100000 in
set_option maxHeartbeats 4000000 in
theorem rdots_any (a : Option Addr) (n c : Nat) (T : List Cr) (hT : WT T) (hn : n ≤ 100000) (w : World) (h : RT w a n c T) :
    Calls Tryz.prog 101 #[.agg #[.slice a n c]] w (Gives w ((seenC T).map Cr.id)) := by
  have mixed := mixed
  have hmxo : Tryz.prog.follows .mixedOrders = true := by kernel_rfl
  obtain ⟨W0, hW0⟩ : ∃ W0, W0 = w.alloc (.cells #[.slice a n c] 62) := ⟨_, rfl⟩
  have hB0 : Below w.heap.size w W0 := by rw [hW0]; exact (Below.refl _ w).alloc (Nat.le_refl _) _
  have hb1 : W0.heap[w.heap.size]? = some (.cells #[.slice a n c] 62 (0, 0)) := by rw [hW0]; exact World.alloc_heap_new w _
  have hl1 := (Array.getElem?_eq_some_iff.1 hb1).1
  have HC : Hid (∀ W, Below W0.heap.size W0 W → W.cell? ⟨w.heap.size, 0, none⟩ = some (.slice a n c)) := hid (fun W hb => by
    have g1 := (hb.block _ hl1).trans hb1
    simp [World.cell?, g1])
  have HRT : Hid (∀ W, Below W0.heap.size W0 W → RT W a n c T) := hid (fun W hb => h.below (hB0.trans (hb.mono hB0.size)))
  have hall := frall_any a n c T hT hn W0 (HRT.out W0 (Below.refl _ _))
  have c1 : W0.cell? ⟨w.heap.size, 0, none⟩ = some (.slice a n c) := HC.out W0 (Below.refl _ _)
  have HT := hid h.len
  have hcap := h.cap
  have hmax := h.max
  unfold maxLen at hmax
  have HCl := hid (allC_len hT)
  have HCi := hid (allC_ids hT)
  obtain ⟨L, hL⟩ : ∃ L, L = allT T := ⟨_, rfl⟩
  rw [← hL] at hall
  have HL : Hid (L.length = n) := hid (by rw [hL, allT_len hT, h.len])
  have HLd := hid hL
  clear hL hb1 h
  go_enter Tryz.func101, Tryz.ntmps101
  go_wp2_with (go_at_call 132; rw [← hW0]; clear hW0; refine hall.mono ?_; intro e W1 hg1; obtain ⟨a1, c1', rfl, q1, b1⟩ := hg1.ans)
  obtain ⟨B1, hB1⟩ : ∃ B1, B1 = W1.heap.size := ⟨_, rfl⟩
  have hB1' : W0.heap.size ≤ B1 := by rw [hB1]; exact b1.size
  have hq1 := hid q1
  have hcap1 := q1.cap
  have hmax1 := q1.max
  unfold maxLen at hmax1
  have Hb1 := hid b1
  have hR1 : Hid (RL W1 B1 B1 W1 (.slice none 0 0) []) := hid ⟨World.ownsRow_nil _ _ _ _, rfl, rfl, rfl, Nat.le_refl _, fun _ _ _ => rfl, fun b hb => by simp [Value.ownBlock] at hb, by rw [hB1]; exact Nat.le_refl _⟩
  clear hB1 q1 b1 hall hg1
  go_loopw [3, 5] (fun u i wr => ∃ (k : Nat) (v : Value), k ≤ L.length ∧ i = .int .i64 k ∧ v = u ∧ Hid (RL W1 B1 B1 wr v ((((allC T).take k).filter (·.seen)).map Cr.id))) (fun _ i _ => L.length - (intOf i).toNat)
  case atStart => exact ⟨0, _, by omega, rfl, rfl, hid (by simpa using hR1.out)⟩
  case round =>
    obtain ⟨k, v, hk, rfl, rfl, hR⟩ := hrel
    by_cases hlt : k < L.length
    · have hRd : Hid (RL W1 B1 B1 wr.drew v ((((allC T).take k).filter (·.seen)).map Cr.id)) := hid (hR.out.more ((Far.refl wr).drewN 1).below)
      obtain ⟨gk, ok, rfl, hgk, hatk⟩ := hq1.out.at (by omega)
      obtain ⟨hc0, hc1⟩ := hatk k hlt
      have hkC : k < (allC T).length := by rw [HCl.out, HT.out, ← HL.out]; exact hlt
      obtain ⟨x, hx⟩ : ∃ x, x = (allC T)[k]'hkC := ⟨_, rfl⟩
      have hts : Hid ((allC T).take (k + 1) = (allC T).take k ++ [x]) := hid (by rw [hx]; exact List.take_succ_eq_append_getElem hkC)
      have hxT : x ∈ T := allC_mem (by rw [hx]; exact List.getElem_mem hkC)
      have hxy : L[k]'hlt = x.id := by
        have e1 : L[k]? = ((allC T).map Cr.id)[k]? := by rw [HCi.out, HLd.out]
        rw [List.getElem?_map, List.getElem?_eq_getElem hlt, List.getElem?_eq_getElem hkC, ← hx] at e1
        exact Option.some.inj e1
      rw [hxy] at hc0 hc1
      obtain ⟨i, hi, hati⟩ := atI_all hT hxT
      have hiT := (List.getElem?_eq_some_iff.1 hi).1
      have hin : i < n := by rw [← HT.out]; exact hiT
      obtain ⟨g, o, rfl, hat⟩ := (HRT.out W1 Hb1.out).at hin
      have hix : T[i]'hiT = x := (List.getElem?_eq_some_iff.1 hi).2
      rw [hix] at hat
      have hc6 := hat.c6
      have hgW := hat.lt
      obtain ⟨y, hy⟩ : ∃ y, y = x.id := ⟨_, rfl⟩
      obtain ⟨sn, hsn⟩ : ∃ sn, sn = x.seen := ⟨_, rfl⟩
      rw [← hy] at hc0 hc1 hati
      rw [← hsn] at hc6
      have HY := hid (And.intro hy hsn)
      have hgB : g < B1 ∨ B1 ≤ g := by omega
      have hgkB : gk < B1 ∨ B1 ≤ gk := by omega
      have hSx : ∀ w' v' P', RL W1 B1 B1 w' v' P' → (w'.cell? ⟨w.heap.size, 0, none⟩ = some (.slice (some ⟨g, o, none⟩) n c) ∧ w'.cell? ⟨gk, ok + k * 2, none⟩ = some (.int .i64 y.1) ∧ w'.cell? ⟨gk, ok + k * 2 + 1, none⟩ = some (.int .i64 y.2) ∧ w'.cell? ⟨g, o + i * 7 + 6, none⟩ = some (.bool sn)) := fun w' v' P' h' => ⟨h'.cell (HC.out W1 Hb1.out) (Or.inl (by show w.heap.size < B1; omega)), h'.cell hc0 hgkB, h'.cell hc1 hgkB, h'.cell hc6 hgB⟩
      have hS0 := hSx _ _ _ hRd.out
      have hcall : Calls Tryz.prog 71 #[.agg #[.slice (some ⟨g, o, none⟩) n c], .agg #[.int .i64 y.1, .int .i64 y.2]] wr.drew fun e w' => e = .returned (.int .i64 (i : Int)) ∧ Hid (RL W1 B1 B1 w' v ((((allC T).take k).filter (·.seen)).map Cr.id)) := (rat_any _ n c T y wr.drew (HRT.out _ (Hb1.out.trans (hRd.out.below.mono hB1'))) (by omega)).mono (fun e w' ⟨h1, h2⟩ => ⟨by rw [h1, hati], hid (hRd.out.more h2)⟩)
      have hPl : Hid (((((allC T).take k).filter (·.seen)).map Cr.id).length ≤ 100000) := hid (by
        rw [List.length_map]
        refine Nat.le_trans (List.length_filter_le _ _) ?_
        rw [List.length_take]
        have := HL.out
        omega)
      have hk1 : (k : Int) < (L.length : Int) := by omega
      have hk0' : (0 : Int) ≤ (k : Int) := by omega
      have hi1 : (i : Int) < (n : Int) := by omega
      have hi0 : (0 : Int) ≤ (i : Int) := by omega
      have hnx : Hid (∀ w' v', RL W1 B1 B1 w' v' (((((allC T).take k).filter (·.seen)).map Cr.id) ++ (if sn then [y] else [])) → RL W1 B1 B1 w' v' ((((allC T).take (k + 1)).filter (·.seen)).map Cr.id)) := hid (fun w' v' h' => by
        rw [hts.out, List.filter_append, List.map_append]
        rw [HY.out.1, HY.out.2] at h'
        cases hs : x.seen
        · simpa [hs] using h'
        · simpa [hs] using h')
      clear hatk hc0 hc1 hR hat hc6 hx hxT hxy hi hati hiT hix hy hsn hkC HY
      go_wp2_with fail
      refine wp_region_held_drew (S := fun w' => w'.cell? ⟨w.heap.size, 0, none⟩ = some (.slice (some ⟨g, o, none⟩) n c) ∧ w'.cell? ⟨gk, ok + k * 2, none⟩ = some (.int .i64 y.1) ∧ w'.cell? ⟨gk, ok + k * 2 + 1, none⟩ = some (.int .i64 y.2) ∧ w'.cell? ⟨g, o + i * 7 + 6, none⟩ = some (.bool sn)) hmxo hS0 ?_
      intro _
      refine wpAnyH_take (i := 0) (v := .pointer (some ⟨w.heap.size, 0, none⟩)) rfl (by kernel_rfl) (by kernel_rfl) (by kernel_rfl) (fun _ _ _ h => h) (Or.inl ⟨by kernel_rfl, fun w hSw => ?_⟩) hS0 ?_
      · obtain ⟨d1, d2, d3, d4⟩ := hSw; go_simp
      simp only [Act.put, List.setIfInBounds_toArray, List.set_cons_zero, List.set_cons_succ]
      refine wpAnyH_take (i := 1) (v := .slice (some ⟨g, o, none⟩) n c) rfl (by kernel_rfl) (by kernel_rfl) (by kernel_rfl) (fun _ _ _ h => h) (Or.inl ⟨by kernel_rfl, fun w hSw => ?_⟩) hS0 ?_
      · obtain ⟨d1, d2, d3, d4⟩ := hSw; go_simp
      simp only [Act.put, List.setIfInBounds_toArray, List.set_cons_zero, List.set_cons_succ]
      refine wpAnyH_take (i := 2) (v := .agg #[.slice (some ⟨g, o, none⟩) n c]) rfl (by kernel_rfl) (by kernel_rfl) (by kernel_rfl) (fun _ _ _ h => h) (Or.inl ⟨by kernel_rfl, fun w hSw => ?_⟩) hS0 ?_
      · obtain ⟨d1, d2, d3, d4⟩ := hSw; go_simp
      simp only [Act.put, List.setIfInBounds_toArray, List.set_cons_zero, List.set_cons_succ]
      refine wpAnyH_take (i := 3) (v := .slice (some ⟨gk, ok, none⟩) L.length c1') rfl (by kernel_rfl) (by kernel_rfl) (by kernel_rfl) (fun _ _ _ h => h) (Or.inl ⟨by kernel_rfl, fun w hSw => ?_⟩) hS0 ?_
      · obtain ⟨d1, d2, d3, d4⟩ := hSw; go_simp
      simp only [Act.put, List.setIfInBounds_toArray, List.set_cons_zero, List.set_cons_succ]
      refine wpAnyH_take (i := 4) (v := .int .i64 (k : Int)) rfl (by kernel_rfl) (by kernel_rfl) (by kernel_rfl) (fun _ _ _ h => h) (Or.inl ⟨by kernel_rfl, fun w hSw => ?_⟩) hS0 ?_
      · obtain ⟨d1, d2, d3, d4⟩ := hSw; go_simp
      simp only [Act.put, List.setIfInBounds_toArray, List.set_cons_zero, List.set_cons_succ]
      refine wpAnyH_take (i := 5) (v := .pointer (some ⟨gk, ok + k * 2, none⟩)) rfl (by kernel_rfl) (by kernel_rfl) (by kernel_rfl) (fun _ _ _ h => h) (Or.inl ⟨by kernel_rfl, fun w hSw => ?_⟩) hS0 ?_
      · obtain ⟨d1, d2, d3, d4⟩ := hSw; go_simp
      simp only [Act.put, List.setIfInBounds_toArray, List.set_cons_zero, List.set_cons_succ]
      refine wpAnyH_take (i := 6) (v := .agg #[.int .i64 y.1, .int .i64 y.2]) rfl (by kernel_rfl) (by kernel_rfl) (by kernel_rfl) (fun _ _ _ h => h) (Or.inl ⟨by kernel_rfl, fun w hSw => ?_⟩) hS0 ?_
      · obtain ⟨d1, d2, d3, d4⟩ := hSw; go_simp
      simp only [Act.put, List.setIfInBounds_toArray, List.set_cons_zero, List.set_cons_succ]
      refine wpAnyH_ready (rs := [7]) (by kernel_rfl) (by simp) ?_
      refine AllReadyH.cons rfl (fun K hK => ?_) AllReadyH.nil
      go_simp
      refine hcall.mono ?_
      rintro e w5 ⟨rfl, hR5⟩
      have hS5 := hSx _ _ _ hR5.out
      refine hK.out _ _ hS5 (fun _ => ?_)
      clear hK K
      refine wpAnyH_take (i := 8) (v := .pointer (some ⟨g, o + i * 7, none⟩)) rfl (by kernel_rfl) (by kernel_rfl) (by kernel_rfl) (fun _ _ _ h => h) (Or.inl ⟨by kernel_rfl, fun w hSw => ?_⟩) hS5 ?_
      · obtain ⟨d1, d2, d3, d4⟩ := hSw; go_simp
      simp only [Act.put, List.setIfInBounds_toArray, List.set_cons_zero, List.set_cons_succ]
      refine wpAnyH_take (i := 9) (v := .pointer (some ⟨g, o + i * 7 + 6, none⟩)) rfl (by kernel_rfl) (by kernel_rfl) (by kernel_rfl) (fun _ _ _ h => h) (Or.inl ⟨by kernel_rfl, fun w hSw => ?_⟩) hS5 ?_
      · obtain ⟨d1, d2, d3, d4⟩ := hSw; go_simp
      simp only [Act.put, List.setIfInBounds_toArray, List.set_cons_zero, List.set_cons_succ]
      refine wpAnyH_take (i := 10) (v := .bool sn) rfl (by kernel_rfl) (by kernel_rfl) (by kernel_rfl) (fun _ _ _ h => h) (Or.inl ⟨by kernel_rfl, fun w hSw => ?_⟩) hS5 ?_
      · obtain ⟨d1, d2, d3, d4⟩ := hSw; go_simp
      simp only [Act.put, List.setIfInBounds_toArray, List.set_cons_zero, List.set_cons_succ]
      refine wpAnyH_done (by kernel_rfl) ?_ _
      obtain ⟨f1, f2, f3, f4⟩ := hS5
      clear hSx hcall hS0 hRd
      have hRa : Hid (∀ o, RL W1 B1 B1 (w5.alloc o) v ((((allC T).take k).filter (·.seen)).map Cr.id)) := hid (fun o => hR5.out.more ((Below.refl _ w5).alloc (Nat.le_refl _) o))
      cases sn
      · have hR7 := hid (hnx.out w5 v (by simpa using hR5.out))
        clear hR5 hRa hnx
        go_wp2
        go_roundw
        case rel => exact ⟨k + 1, _, by omega, by go_num, rfl, hR7⟩
        case measure => simp [intOf]; omega
      · clear hR5
        go_wp2_with (at_builtin; refine wpList_append_RL rfl _ _ 32 Tryz.underlying32 rfl v _ rfl (hRa.out _) (some ⟨w5.heap.size, 0, none⟩) 1 1 [y] rfl (ps_one w5 y) (by have := hPl.out; omega) ?_; intro v6 w6 hR6; have HR6 := hid hR6; clear hR6)
        have hR7 := hid (hnx.out w6 v6 (by simpa using HR6.out))
        clear HR6
        go_roundw
        case rel => exact ⟨k + 1, _, by omega, by go_num, rfl, hR7⟩
        case measure => simp [intOf]; omega
    · obtain rfl : k = L.length := by omega
      have hR9 : Hid (RL W1 B1 B1 wr v ((seenC T).map Cr.id)) := hid (by have := hR.out; rw [List.take_of_length_le (by rw [HCl.out, HT.out, ← HL.out]; exact Nat.le_refl _)] at this; exact this)
      clear hR
      go_wp2
      go_ret
      exact hR9.out.gives (hB0.trans (Hb1.out.mono hB0.size)) (by omega)
end

section
set_option linter.unusedVariables false
set_option linter.unusedSimpArgs false
open Go.RowKit
open Go.Sort (grow)

/-- A row of numbers of one's own that grows; all that was there before is kept. -/
structure RIc (W3 : World) (w : World) (v : Value) (X : List Int) : Prop where
  own : w.ownsRow W3.heap.size 3 1 v X.length (X.map (Value.int .i64))
  bel : Below W3.heap.size W3 w

theorem RIc.cell {W3 w : World} {v : Value} {X : List Int} (h : RIc W3 w v X) {p : Addr} {u : Value} (hp : W3.cell? p = some u) : w.cell? p = some u := (h.bel.cell (cell_in hp)).trans hp

theorem RIc.more {W3 w w' : World} {v : Value} {X : List Int} (h : RIc W3 w v X) (hb : Below w.heap.size w w') : RIc W3 w' v X := ⟨own_keepP h.own hb, h.bel.trans (hb.mono h.bel.size)⟩

theorem RIc.app {W3 w : World} {v : Value} {X : List Int} (h : RIc W3 w v X) (t ty : TypeId) (ht : Tryz.prog.underlying t = some (.slice 3)) (x : Int) (g c : Nat) (hx : w.cell? ⟨g, 0, none⟩ = some (.int .i64 x)) (hb : X.length ≤ 1000000) :
    ∃ v' w', (Builtin.append_ #[t, t] ty #[v, .slice (some ⟨g, 0, none⟩) 1 c]).run Tryz.prog w = .ok v' w' ∧ RIc W3 w' v' (X ++ [x]) := by
  obtain ⟨i0, hi, hz0, hz1, hz2⟩ := info_parts Tryz.infoI
  obtain ⟨v', w', h1, h2, h3, _⟩ := run_append_own (P := Tryz.prog) w W3.heap.size t ty 3 i0 _ 1 8 ht hi hz0 hz1 hz2 rfl (by decide) v X.length (X.map (Value.int .i64)) h.own ⟨g, 0, none⟩ 1 c [.int .i64 x] (by simp) (fun j u hj => by
    cases j with
    | zero => cases hj; exact hx
    | succ j => simp at hj) (fun u hu => by simp at hu; rw [hu]; rfl) (by unfold maxLen; omega) (by omega) h.bel.size
  refine ⟨v', w', h1, ⟨by rw [List.length_append, List.map_append]; exact h2, h.bel.grown h3 h.bel.size (fun j ej => (h.own.lt j ej).1)⟩⟩

set_option maxRecDepth 100000 in
set_option maxHeartbeats 4000000 in
theorem rchars_any (a : Option Addr) (n c : Nat) (T : List Cr) (hT : WT T) (hn : n ≤ 100000) (w : World) (h : RT w a n c T) :
    Calls Tryz.prog 62 #[.agg #[.slice a n c]] w fun e w' => ∃ v', e = .returned v' ∧ w'.ownsRow w.heap.size 3 1 v' (seenC T).length ((seenC T).map (fun c => Value.int .i64 c.ch)) ∧ Below w.heap.size w w' := by
  have mixed := mixed
  have hmxo : Tryz.prog.follows .mixedOrders = true := by kernel_rfl
  obtain ⟨W0, hW0⟩ : ∃ W0, W0 = w.alloc (.cells #[.slice a n c] 62) := ⟨_, rfl⟩
  have hB0 : Below w.heap.size w W0 := by rw [hW0]; exact (Below.refl _ w).alloc (Nat.le_refl _) _
  have hb1 : W0.heap[w.heap.size]? = some (.cells #[.slice a n c] 62 (0, 0)) := by rw [hW0]; exact World.alloc_heap_new w _
  have hl1 := (Array.getElem?_eq_some_iff.1 hb1).1
  have HC : Hid (∀ W, Below W0.heap.size W0 W → W.cell? ⟨w.heap.size, 0, none⟩ = some (.slice a n c)) := hid (fun W hb => by
    have g1 := (hb.block _ hl1).trans hb1
    simp [World.cell?, g1])
  have HRT : Hid (∀ W, Below W0.heap.size W0 W → RT W a n c T) := hid (fun W hb => h.below (hB0.trans (hb.mono hB0.size)))
  have hall := rdots_any a n c T hT hn W0 (HRT.out W0 (Below.refl _ _))
  have c1 : W0.cell? ⟨w.heap.size, 0, none⟩ = some (.slice a n c) := HC.out W0 (Below.refl _ _)
  have HT := hid h.len
  have hcap := h.cap
  have hmax := h.max
  unfold maxLen at hmax
  obtain ⟨L, hL⟩ : ∃ L, L = (seenC T).map Cr.id := ⟨_, rfl⟩
  have HCl : Hid ((seenC T).length = L.length) := hid (by rw [hL, List.length_map])
  have HCi : Hid ((seenC T).map Cr.id = L) := hid hL.symm
  rw [← hL] at hall
  have HL : Hid (L.length ≤ n) := hid (by
    rw [hL, List.length_map, ← h.len, ← allC_len hT]
    exact List.length_filter_le _ _)
  have HLd := hid hL
  clear hL hb1 h
  go_enter Tryz.func62, Tryz.ntmps62
  go_wp2_with (go_at_call 101; rw [← hW0]; clear hW0; refine hall.mono ?_; intro e W1 hg1; obtain ⟨a1, c1', rfl, q1, b1⟩ := hg1.ans)
  have hB1' : W0.heap.size ≤ W1.heap.size := b1.size
  have hq1 := hid q1
  have hcap1 := q1.cap
  have hmax1 := q1.max
  unfold maxLen at hmax1
  have Hb1 := hid b1
  have hR1 : Hid (RIc W1 W1 (.slice none 0 0) []) := hid ⟨World.ownsRow_nil _ _ _ _, Below.refl _ _⟩
  clear q1 b1 hall hg1
  go_loopw [3, 5] (fun u i wr => ∃ (k : Nat) (v : Value), k ≤ L.length ∧ i = .int .i64 k ∧ v = u ∧ Hid (RIc W1 wr v (((seenC T).take k).map Cr.ch))) (fun _ i _ => L.length - (intOf i).toNat)
  case atStart => exact ⟨0, _, by omega, rfl, rfl, hid (by simpa using hR1.out)⟩
  case round =>
    obtain ⟨k, v, hk, rfl, rfl, hR⟩ := hrel
    by_cases hlt : k < L.length
    · have hRd : Hid (RIc W1 wr.drew v (((seenC T).take k).map Cr.ch)) := hid (hR.out.more ((Far.refl wr).drewN 1).below)
      obtain ⟨gk, ok, rfl, hgk, hatk⟩ := hq1.out.at (by omega)
      obtain ⟨hc0, hc1⟩ := hatk k hlt
      have hkC : k < (seenC T).length := by rw [HCl.out]; exact hlt
      obtain ⟨x, hx⟩ : ∃ x, x = (seenC T)[k]'hkC := ⟨_, rfl⟩
      have hts : Hid ((seenC T).take (k + 1) = (seenC T).take k ++ [x]) := hid (by rw [hx]; exact List.take_succ_eq_append_getElem hkC)
      have hxT : x ∈ T := seenC_mem (by rw [hx]; exact List.getElem_mem hkC)
      have hxy : L[k]'hlt = x.id := by
        have e1 : L[k]? = ((seenC T).map Cr.id)[k]? := by rw [HCi.out]
        rw [List.getElem?_map, List.getElem?_eq_getElem hlt, List.getElem?_eq_getElem hkC, ← hx] at e1
        exact Option.some.inj e1
      rw [hxy] at hc0 hc1
      obtain ⟨i, hi, hati⟩ := atI_all hT hxT
      have hiT := (List.getElem?_eq_some_iff.1 hi).1
      have hin : i < n := by rw [← HT.out]; exact hiT
      obtain ⟨g, o, rfl, hat⟩ := (HRT.out W1 Hb1.out).at hin
      have hix : T[i]'hiT = x := (List.getElem?_eq_some_iff.1 hi).2
      rw [hix] at hat
      have hc6 := hat.c5
      have hgW := hat.lt
      obtain ⟨y, hy⟩ : ∃ y, y = x.id := ⟨_, rfl⟩
      obtain ⟨ch, hsn⟩ : ∃ ch, ch = x.ch := ⟨_, rfl⟩
      rw [← hy] at hc0 hc1 hati
      rw [← hsn] at hc6
      have HY := hid (And.intro hy hsn)
      have hSx : ∀ w' v' P', RIc W1 w' v' P' → (w'.cell? ⟨w.heap.size, 0, none⟩ = some (.slice (some ⟨g, o, none⟩) n c) ∧ w'.cell? ⟨gk, ok + k * 2, none⟩ = some (.int .i64 y.1) ∧ w'.cell? ⟨gk, ok + k * 2 + 1, none⟩ = some (.int .i64 y.2) ∧ w'.cell? ⟨g, o + i * 7 + 5, none⟩ = some (.int .i64 ch)) := fun w' v' P' h' => ⟨h'.cell (HC.out W1 Hb1.out), h'.cell hc0, h'.cell hc1, h'.cell hc6⟩
      have hS0 := hSx _ _ _ hRd.out
      have hcall : Calls Tryz.prog 71 #[.agg #[.slice (some ⟨g, o, none⟩) n c], .agg #[.int .i64 y.1, .int .i64 y.2]] wr.drew fun e w' => e = .returned (.int .i64 (i : Int)) ∧ Hid (RIc W1 w' v (((seenC T).take k).map Cr.ch)) := (rat_any _ n c T y wr.drew (HRT.out _ (Hb1.out.trans (hRd.out.bel.mono hB1'))) (by omega)).mono (fun e w' ⟨h1, h2⟩ => ⟨by rw [h1, hati], hid (hRd.out.more h2)⟩)
      have hPl : Hid ((((seenC T).take k).map Cr.ch).length ≤ 100000) := hid (by
        rw [List.length_map, List.length_take]
        have := HL.out
        omega)
      have hk1 : (k : Int) < (L.length : Int) := by omega
      have hk0' : (0 : Int) ≤ (k : Int) := by omega
      have hi1 : (i : Int) < (n : Int) := by omega
      have hi0 : (0 : Int) ≤ (i : Int) := by omega
      have hnx : Hid (∀ w' v', RIc W1 w' v' ((((seenC T).take k).map Cr.ch) ++ [ch]) → RIc W1 w' v' (((seenC T).take (k + 1)).map Cr.ch)) := hid (fun w' v' h' => by
        rw [hts.out, List.map_append]
        rw [HY.out.2] at h'
        exact h')
      clear hatk hc0 hc1 hR hat hc6 hx hxT hxy hi hati hiT hix hy hsn hkC HY
      go_wp2_with fail
      refine wp_region_held_drew (S := fun w' => w'.cell? ⟨w.heap.size, 0, none⟩ = some (.slice (some ⟨g, o, none⟩) n c) ∧ w'.cell? ⟨gk, ok + k * 2, none⟩ = some (.int .i64 y.1) ∧ w'.cell? ⟨gk, ok + k * 2 + 1, none⟩ = some (.int .i64 y.2) ∧ w'.cell? ⟨g, o + i * 7 + 5, none⟩ = some (.int .i64 ch)) hmxo hS0 ?_
      intro _
      refine wpAnyH_take (i := 0) (v := v) rfl (by kernel_rfl) (by kernel_rfl) (by kernel_rfl) (fun _ _ _ h => h) (Or.inl ⟨by kernel_rfl, fun w hSw => ?_⟩) hS0 ?_
      · obtain ⟨d1, d2, d3, d4⟩ := hSw; go_simp
      simp only [Act.put, List.setIfInBounds_toArray, List.set_cons_zero, List.set_cons_succ]
      refine wpAnyH_take (i := 1) (v := .pointer (some ⟨w.heap.size, 0, none⟩)) rfl (by kernel_rfl) (by kernel_rfl) (by kernel_rfl) (fun _ _ _ h => h) (Or.inl ⟨by kernel_rfl, fun w hSw => ?_⟩) hS0 ?_
      · obtain ⟨d1, d2, d3, d4⟩ := hSw; go_simp
      simp only [Act.put, List.setIfInBounds_toArray, List.set_cons_zero, List.set_cons_succ]
      refine wpAnyH_take (i := 2) (v := .slice (some ⟨g, o, none⟩) n c) rfl (by kernel_rfl) (by kernel_rfl) (by kernel_rfl) (fun _ _ _ h => h) (Or.inl ⟨by kernel_rfl, fun w hSw => ?_⟩) hS0 ?_
      · obtain ⟨d1, d2, d3, d4⟩ := hSw; go_simp
      simp only [Act.put, List.setIfInBounds_toArray, List.set_cons_zero, List.set_cons_succ]
      refine wpAnyH_take (i := 3) (v := .agg #[.slice (some ⟨g, o, none⟩) n c]) rfl (by kernel_rfl) (by kernel_rfl) (by kernel_rfl) (fun _ _ _ h => h) (Or.inl ⟨by kernel_rfl, fun w hSw => ?_⟩) hS0 ?_
      · obtain ⟨d1, d2, d3, d4⟩ := hSw; go_simp
      simp only [Act.put, List.setIfInBounds_toArray, List.set_cons_zero, List.set_cons_succ]
      refine wpAnyH_take (i := 4) (v := .slice (some ⟨gk, ok, none⟩) L.length c1') rfl (by kernel_rfl) (by kernel_rfl) (by kernel_rfl) (fun _ _ _ h => h) (Or.inl ⟨by kernel_rfl, fun w hSw => ?_⟩) hS0 ?_
      · obtain ⟨d1, d2, d3, d4⟩ := hSw; go_simp
      simp only [Act.put, List.setIfInBounds_toArray, List.set_cons_zero, List.set_cons_succ]
      refine wpAnyH_take (i := 5) (v := .int .i64 (k : Int)) rfl (by kernel_rfl) (by kernel_rfl) (by kernel_rfl) (fun _ _ _ h => h) (Or.inl ⟨by kernel_rfl, fun w hSw => ?_⟩) hS0 ?_
      · obtain ⟨d1, d2, d3, d4⟩ := hSw; go_simp
      simp only [Act.put, List.setIfInBounds_toArray, List.set_cons_zero, List.set_cons_succ]
      refine wpAnyH_take (i := 6) (v := .pointer (some ⟨gk, ok + k * 2, none⟩)) rfl (by kernel_rfl) (by kernel_rfl) (by kernel_rfl) (fun _ _ _ h => h) (Or.inl ⟨by kernel_rfl, fun w hSw => ?_⟩) hS0 ?_
      · obtain ⟨d1, d2, d3, d4⟩ := hSw; go_simp
      simp only [Act.put, List.setIfInBounds_toArray, List.set_cons_zero, List.set_cons_succ]
      refine wpAnyH_take (i := 7) (v := .agg #[.int .i64 y.1, .int .i64 y.2]) rfl (by kernel_rfl) (by kernel_rfl) (by kernel_rfl) (fun _ _ _ h => h) (Or.inl ⟨by kernel_rfl, fun w hSw => ?_⟩) hS0 ?_
      · obtain ⟨d1, d2, d3, d4⟩ := hSw; go_simp
      simp only [Act.put, List.setIfInBounds_toArray, List.set_cons_zero, List.set_cons_succ]
      refine wpAnyH_ready (rs := [8]) (by kernel_rfl) (by simp) ?_
      refine AllReadyH.cons rfl (fun K hK => ?_) AllReadyH.nil
      go_simp
      refine hcall.mono ?_
      rintro e w5 ⟨rfl, hR5⟩
      have hS5 := hSx _ _ _ hR5.out
      refine hK.out _ _ hS5 (fun _ => ?_)
      clear hK K
      refine wpAnyH_take (i := 9) (v := .pointer (some ⟨g, o + i * 7, none⟩)) rfl (by kernel_rfl) (by kernel_rfl) (by kernel_rfl) (fun _ _ _ h => h) (Or.inl ⟨by kernel_rfl, fun w hSw => ?_⟩) hS5 ?_
      · obtain ⟨d1, d2, d3, d4⟩ := hSw; go_simp
      simp only [Act.put, List.setIfInBounds_toArray, List.set_cons_zero, List.set_cons_succ]
      refine wpAnyH_take (i := 10) (v := .pointer (some ⟨g, o + i * 7 + 5, none⟩)) rfl (by kernel_rfl) (by kernel_rfl) (by kernel_rfl) (fun _ _ _ h => h) (Or.inl ⟨by kernel_rfl, fun w hSw => ?_⟩) hS5 ?_
      · obtain ⟨d1, d2, d3, d4⟩ := hSw; go_simp
      simp only [Act.put, List.setIfInBounds_toArray, List.set_cons_zero, List.set_cons_succ]
      refine wpAnyH_take (i := 11) (v := .int .i64 ch) rfl (by kernel_rfl) (by kernel_rfl) (by kernel_rfl) (fun _ _ _ h => h) (Or.inl ⟨by kernel_rfl, fun w hSw => ?_⟩) hS5 ?_
      · obtain ⟨d1, d2, d3, d4⟩ := hSw; go_simp
      simp only [Act.put, List.setIfInBounds_toArray, List.set_cons_zero, List.set_cons_succ]
      have hR6 := hid (hR5.out.more ((Below.refl _ w5).alloc (Nat.le_refl _) (.cells #[.int .i64 ch] 3)))
      have hS6 := hSx _ _ _ hR6.out
      obtain ⟨v7, w7, hrun, hR7'⟩ := hR6.out.app 142 142 Tryz.underlying142 ch w5.heap.size 1 (by go_simp) (by have := hPl.out; omega)
      have hS7 := hSx _ _ _ hR7'
      have hR7 := hid (hnx.out w7 v7 hR7')
      clear hR7' hnx
      refine wpAnyH_ready (rs := [12]) (by kernel_rfl) (by simp) ?_
      refine AllReadyH.cons rfl (fun K hK => ?_) AllReadyH.nil
      go_simp
      refine hK.out _ _ hS6 (fun _ => ?_)
      clear hK K
      refine wpAnyH_ready (rs := [13]) (by kernel_rfl) (by simp) ?_
      refine AllReadyH.cons rfl (fun K hK => ?_) AllReadyH.nil
      refine append_stepH _ _ 142 v _ _ w7 rfl rfl rfl rfl hrun ?_
      refine hK.out _ _ hS7 (fun _ => ?_)
      clear hK K
      simp only [Act.put, List.setIfInBounds_toArray, List.set_cons_zero, List.set_cons_succ]
      refine wpAnyH_take (i := 14) (v := v7) rfl (by kernel_rfl) (by kernel_rfl) (by kernel_rfl) (fun _ _ _ h => h) (Or.inl ⟨by kernel_rfl, fun w hSw => ?_⟩) hS7 ?_
      · obtain ⟨d1, d2, d3, d4⟩ := hSw; go_simp
      simp only [Act.put, List.setIfInBounds_toArray, List.set_cons_zero, List.set_cons_succ]
      refine wpAnyH_done (by kernel_rfl) ?_ _
      clear hSx hcall hS0 hRd hS5 hS6 hS7 hR5 hR6 hrun
      go_wp2
      go_roundw
      case rel => exact ⟨k + 1, _, by omega, by go_num, rfl, hR7⟩
      case measure => simp [intOf]; omega
    · obtain rfl : k = L.length := by omega
      have hR9 : Hid (RIc W1 wr v ((seenC T).map Cr.ch)) := hid (by have := hR.out; rw [List.take_of_length_le (by rw [HCl.out]; exact Nat.le_refl _)] at this; exact this)
      clear hR
      go_wp2
      go_ret
      have hb9 := hB0.trans (Hb1.out.mono hB0.size)
      refine ⟨v, rfl, ?_, hb9.trans (hR9.out.bel.mono hb9.size)⟩
      have ho := hR9.out.own
      rw [List.length_map, List.map_map] at ho
      refine ⟨ho.1, ?_⟩
      rcases ho.2 with h0 | ⟨g, cap, cur, h1, h2, h3⟩
      · exact Or.inl h0
      · exact Or.inr ⟨g, cap, cur, h1, Nat.le_trans hb9.size h2, h3⟩
end

section
set_option linter.unusedVariables false
set_option linter.unusedSimpArgs false
open Go.RowKit
open Go.Sort (grow)

theorem strB_more (L : List Cr) (c : Cr) : strB (L ++ [c]) = strB L ++ Lib.encodeRune (codeI c.ch) := by
  unfold strB
  rw [List.flatMap_append]
  simp

theorem encode_eq (r : Int) : Utf8.encode r = ⟨(Lib.encodeRune r).toArray⟩ := by
  by_cases h0 : r < 0 ∨ (55296 ≤ r ∧ r ≤ 57343) ∨ 1114111 < r
  · have hv : Utf8.valid r = false := by simp [Utf8.valid]; omega
    unfold Lib.encodeRune
    rw [Lib.encodeRuneZ_bad h0]
    simp [Utf8.encode, hv, Utf8.runeError]
  · obtain ⟨m, rfl⟩ := Int.eq_ofNat_of_zero_le (a := r) (by omega)
    have hv : Utf8.valid (m : Int) = true := by simp [Utf8.valid]; omega
    unfold Lib.encodeRune
    by_cases h1 : m < 128
    · rw [Lib.encodeRuneZ_one (by omega) (by omega)]
      simp [Utf8.encode, hv, h1]
    · by_cases h2 : m < 2048
      · rw [Lib.encodeRuneZ_two (by omega) (by omega)]
        have e1 : (192 + (m : Int) / 64).toNat = 192 + m / 64 := by omega
        have e2 : (128 + (m : Int) % 64).toNat = 128 + m % 64 := by omega
        simp [Utf8.encode, hv, h1, h2, e1, e2]
      · by_cases h3 : m < 65536
        · rw [Lib.encodeRuneZ_three (by omega)]
          have e1 : (224 + (m : Int) / 4096).toNat = 224 + m / 4096 := by omega
          have e2 : (128 + (m : Int) / 64 % 64).toNat = 128 + m / 64 % 64 := by omega
          have e3 : (128 + (m : Int) % 64).toNat = 128 + m % 64 := by omega
          simp [Utf8.encode, hv, h1, h2, h3, e1, e2, e3]
        · rw [Lib.encodeRuneZ_four (by omega) (by omega)]
          have e0 : (240 + (m : Int) / 262144).toNat = 240 + m / 262144 := by omega
          have e1 : (128 + (m : Int) / 4096 % 64).toNat = 128 + m / 4096 % 64 := by omega
          have e2 : (128 + (m : Int) / 64 % 64).toNat = 128 + m / 64 % 64 := by omega
          have e3 : (128 + (m : Int) % 64).toNat = 128 + m % 64 := by omega
          simp [Utf8.encode, hv, h1, h2, h3, e0, e1, e2, e3]

theorem cat_eq (x y : List UInt8) : (ByteArray.mk x.toArray ++ ByteArray.mk y.toArray) = ByteArray.mk (x ++ y).toArray := by
  apply ByteArray.ext
  simp [ByteArray.data_append]

set_option maxRecDepth 100000 in
set_option maxHeartbeats 4000000 in
theorem rstring_any (a : Option Addr) (n c : Nat) (T : List Cr) (hT : WT T) (hc : ∀ x ∈ T, I64 x.ch) (hn : n ≤ 100000) (w : World) (h : RT w a n c T) :
    Calls Tryz.prog 29 #[.agg #[.slice a n c]] w fun e w' => e = .returned (.string ⟨(strB (seenC T)).toArray⟩) ∧ Below w.heap.size w w' := by
  have mixed := mixed
  obtain ⟨W0, hW0⟩ : ∃ W0, W0 = w.alloc (.cells #[.slice a n c] 62) := ⟨_, rfl⟩
  have hB0 : Below w.heap.size w W0 := by rw [hW0]; exact (Below.refl _ w).alloc (Nat.le_refl _) _
  have hch := rchars_any a n c T hT hn W0 (h.below hB0)
  obtain ⟨L, hL⟩ : ∃ L, L = (seenC T).map Cr.ch := ⟨_, rfl⟩
  have HL := hid hL
  have HLl : Hid ((seenC T).length = L.length) := hid (by rw [hL, List.length_map])
  have Hch : Hid (∀ W1 v1, W1.ownsRow W0.heap.size 3 1 v1 (seenC T).length ((seenC T).map (fun c => Value.int .i64 c.ch)) → ∃ a1 c1, v1 = .slice a1 L.length c1 ∧ IS W1 a1 L.length c1 L) := hid (fun W1 v1 ho => by
    rw [HLl.out] at ho
    exact own_is (by rw [hL, List.map_map]; rw [hL] at ho; exact ho))
  have hLn : L.length ≤ 100000 := by
    rw [← HLl.out]
    refine Nat.le_trans (List.length_filter_le _ _) ?_
    rw [allC_len hT, h.len]
    exact hn
  clear hL
  go_enter Tryz.func29, Tryz.ntmps29
  go_wp2_with (go_at_call 62; rw [← hW0]; clear hW0; refine hch.mono ?_; intro e W1 hg1; obtain ⟨v1, rfl, ho1, b1⟩ := hg1; obtain ⟨a1, c1, rfl, q1⟩ := Hch.out _ _ ho1; clear ho1)
  have hq1 := hid q1
  have hcap1 := q1.cap
  have hmax1 := q1.max
  unfold maxLen at hmax1
  have Hb1 := hid b1
  clear q1 b1 hch
  go_loopw [3, 5] (fun u i wr => ∃ (k : Nat), k ≤ L.length ∧ i = .int .i64 k ∧ u = .string ⟨(strB ((seenC T).take k)).toArray⟩ ∧ wr = W1) (fun _ i _ => L.length - (intOf i).toNat)
  case atStart => exact ⟨0, by omega, rfl, rfl, rfl⟩
  case round =>
    obtain ⟨k, hk, rfl, rfl, rfl⟩ := hrel
    by_cases hlt : k < L.length
    · obtain ⟨g, o, rfl, hg, hat⟩ := hq1.out.at_ (by omega)
      have hc0 := hat k hlt
      have hkC : k < (seenC T).length := by rw [HLl.out]; exact hlt
      obtain ⟨x, hx⟩ : ∃ x, x = (seenC T)[k]'hkC := ⟨_, rfl⟩
      have hts : Hid ((seenC T).take (k + 1) = (seenC T).take k ++ [x]) := hid (by rw [hx]; exact List.take_succ_eq_append_getElem hkC)
      have hxT : x ∈ T := seenC_mem (by rw [hx]; exact List.getElem_mem hkC)
      have hxy : L[k]'hlt = x.ch := by
        have e1 : L[k]? = ((seenC T).map Cr.ch)[k]? := by rw [HL.out]
        rw [List.getElem?_map, List.getElem?_eq_getElem hlt, List.getElem?_eq_getElem hkC, ← hx] at e1
        exact Option.some.inj e1
      rw [hxy] at hc0
      have hcx := hc x hxT
      obtain ⟨ch, hch⟩ : ∃ ch, ch = x.ch := ⟨_, rfl⟩
      rw [← hch] at hc0 hcx
      have hnx : Hid (strB ((seenC T).take (k + 1)) = strB ((seenC T).take k) ++ Lib.encodeRune (codeI ch)) := hid (by rw [hts.out, strB_more, hch])
      have hk1 : (k : Int) < (L.length : Int) := by omega
      have hk0' : (0 : Int) ≤ (k : Int) := by omega
      clear hat hx hxT hxy hkC hch
      have hS0 : (strB ((seenC T).take k)).length ≤ 9223372036854775800 := by
        have h1 := strB_len ((seenC T).take k)
        rw [List.length_take] at h1
        omega
      generalize strB ((seenC T).take k) = S at hnx hS0 ⊢
      have hS1 : S.length ≤ 9223372036854775804 := by omega
      have hS2 : ¬ (9223372036854775807 < S.length + 3) := by omega
      have hS3 : S.length + 3 ≤ 9223372036854775807 := by omega
      by_cases h1 : ch < 0
      · have b1 : decide (ch < 0) = true := by simp [h1]
        have he : Hid (codeI ch = 65533) := hid (by unfold codeI; rw [if_pos (Or.inl h1)])
        clear h1
        go_wp2
        go_roundw
        case rel => exact ⟨k + 1, by omega, by go_num, by rw [hnx.out, he.out]; exact congrArg Value.string (cat_eq S [239, 191, 189]), trivial⟩
        case measure => simp [intOf]; omega
      · have b1 : decide (ch < 0) = false := by simp; omega
        by_cases h2 : 1114111 < ch
        · have b2 : decide (1114111 < ch) = true := by simp [h2]
          have he : Hid (codeI ch = 65533) := hid (by unfold codeI; rw [if_pos (Or.inr h2)])
          clear h1 h2
          go_wp2
          go_roundw
          case rel => exact ⟨k + 1, by omega, by go_num, by rw [hnx.out, he.out]; exact congrArg Value.string (cat_eq S [239, 191, 189]), trivial⟩
          case measure => simp [intOf]; omega
        · have b2 : decide (1114111 < ch) = false := by simp; omega
          have he : Hid (codeI ch = ch) := hid (by unfold codeI; rw [if_neg (by omega)])
          have hE := encode_eq ch
          have hEl := encodeRune_le ch
          rw [he.out] at hnx
          generalize Lib.encodeRune ch = E at hE hEl hnx
          have hS4 : ¬ (9223372036854775807 < S.length + E.length) := by omega
          have hS5 : S.length + E.length ≤ 9223372036854775807 := by omega
          clear hEl
          have hw : IntKind.i32.wrap ch = ch := by simp [IntKind.wrap, IntKind.bits, IntKind.signed]; omega
          go_wp2
          go_roundw
          case rel => exact ⟨k + 1, by omega, by go_num, by rw [hnx.out]; exact congrArg Value.string (cat_eq S E), trivial⟩
          case measure => simp [intOf]; omega
    · obtain rfl : k = L.length := by omega
      have hfi : Hid ((seenC T).take L.length = seenC T) := hid (List.take_of_length_le (by rw [HLl.out]; exact Nat.le_refl _))
      have hbe := hid (hB0.trans (Hb1.out.mono hB0.size))
      go_wp2
      go_ret
      exact ⟨by rw [hfi.out]; rfl, hbe.out⟩
end
end Go.Proofs.YtnmdcdphpcpojaaGreatDoor
