/- A tree held against the document's. -/
import Derived.Test.YtplcohjpchfkkaaEIn
import Derived.Test.YtplcohjpchfkkaaTrRBlkO
import Derived.Test.YtplcohjpchfkkaaTrSRow
import Derived.Deep.CutRange
import Derived.Deep.CutBlock
import Derived.BigQuiet
set_option linter.unusedVariables false
set_option linter.unusedSimpArgs false
namespace Go.Proofs.Ytplcohjpchfkkaa
open Go.RowKit

theorem ps_sm {w : World} {a : Option Addr} {n c : Nat} {L : List Dt} (h : PS w a n c L) : n ≤ 9223372036854775807 := by
  have h1 := h.cap
  have h2 := h.max
  unfold maxLen at h2
  omega

set_option maxRecDepth 100000 in
set_option maxHeartbeats 16000000 in
theorem tris_any (t : Nat) (la : Option Addr) (n lc : Nat) (sa : Option Addr) (ns sc : Nat) (ka : Option Addr) (nk kc : Nat) (l : List Mv) (ot : Dt) (P : Nat → Prop) (w : World) (hT : TP w t l P) (hR : R3 w la n lc sa ns sc ka nk kc l) (hB : ∀ j, B3 la n sa ns ka nk j → P j) (hd : Dw ot) (hn : n ≤ 900) :
    Calls Try.prog 13 #[.pointer (some ⟨t, 0, none⟩), .agg #[.slice la n lc, .slice sa ns sc, .slice ka nk kc], dv ot] w fun e w' => e = .returned (.bool true) ∧ TP w' t l P ∧ KP P w w' := by
  obtain ⟨o1, o2⟩ := ot
  have hmxo : Try.prog.follows .mixedOrders = true := by kernel_rfl
  have mixed := mixed
  obtain ⟨W0, hW0⟩ : ∃ W0, W0 = (w.alloc (.cells #[.slice la n lc, .slice sa ns sc, .slice ka nk kc] 31)).alloc (.cells #[.int .i64 o1, .int .i64 o2] 24) := ⟨_, rfl⟩
  have hB0 : Below w.heap.size w W0 := by rw [hW0]; exact ((Below.refl _ w).alloc (Nat.le_refl _) _).alloc (by simp) _
  have hz0 : W0.heap.size = w.heap.size + 2 := by rw [hW0]; simp
  have hb1 : W0.heap[w.heap.size]? = some (.cells #[.slice la n lc, .slice sa ns sc, .slice ka nk kc] 31 (0, 0)) := by rw [hW0]; exact (Below.heap_alloc _ _ _ (by simp)).trans (World.alloc_heap_new w _)
  have hb2 : W0.heap[w.heap.size + 1]? = some (.cells #[.int .i64 o1, .int .i64 o2] 24 (0, 0)) := by
    rw [hW0]
    have := World.alloc_heap_new (w.alloc (.cells #[.slice la n lc, .slice sa ns sc, .slice ka nk kc] 31)) (.cells #[.int .i64 o1, .int .i64 o2] 24)
    rwa [World.size_alloc] at this
  obtain ⟨P0, hP0⟩ : ∃ P0 : Nat → Prop, P0 = (fun j => P j ∨ j = w.heap.size ∨ j = w.heap.size + 1) := ⟨_, rfl⟩
  have hT0 : TP W0 t l P0 := hT.turn hB0.size (fun j hj _ => hB0.block j hj) (fun j hj => by
    rw [hP0] at hj
    rcases hj with hj | hj | hj
    · exact Or.inl hj
    · exact Or.inr ⟨by omega, by omega⟩
    · exact Or.inr ⟨by omega, by omega⟩)
  have HR : Hid (∀ V, KP P0 W0 V → R3 V la n lc sa ns sc ka nk kc l) := hid (fun V hV => (hR.below hB0).same hV.size (fun j hj => hV.keep j (by rw [hP0]; exact Or.inl (hB j hj))))
  have HC0 : Hid (∀ V, KP P0 W0 V → (V.cell? ⟨w.heap.size, 0, none⟩ = some (.slice la n lc) ∧ V.cell? ⟨w.heap.size, 1, none⟩ = some (.slice sa ns sc) ∧ V.cell? ⟨w.heap.size, 2, none⟩ = some (.slice ka nk kc) ∧ V.cell? ⟨w.heap.size + 1, 0, none⟩ = some (.int .i64 o1) ∧ V.cell? ⟨w.heap.size + 1, 1, none⟩ = some (.int .i64 o2))) := hid (fun V hV => by
    have e1 := (hV.keep w.heap.size (by rw [hP0]; exact Or.inr (Or.inl rfl))).trans hb1
    have e2 := (hV.keep (w.heap.size + 1) (by rw [hP0]; exact Or.inr (Or.inr rfl))).trans hb2
    exact ⟨by simp [World.cell?, e1], by simp [World.cell?, e1], by simp [World.cell?, e1], by simp [World.cell?, e2], by simp [World.cell?, e2]⟩)
  have HLG := hid hT.log
  have HND : Hid (((run l).map Sp.b).Nodup) := hid (by obtain ⟨r, hr⟩ := hT.log.1.run_tk; exact hr.nd)
  have HNS : Hid (ns ≤ 100000) := hid (by have h1 := hR.sp.len; have h2 := run_len l; have h3 := hR.mv.len; omega)
  have HNK : Hid (nk ≤ 1000000) := hid (by have h1 := hR.tk.len; have h2 := tkL_len l; have h3 := hR.mv.len; omega)
  have HBw : Hid (KP P w W0) := hid (KP.below hB0 hT.lt)
  have HP0 := hid hP0
  have HT0 := hid hT0
  have HDo := hid hd
  have hnb9 : (blks l).length ≤ 900 := by have h1 := blks_len l; have h2 := hR.mv.len; omega
  have HP0lt : Hid (∀ j, P0 j → j < W0.heap.size) := hid hT0.lt
  have HBl0 : Calls Try.prog 32 #[.agg #[.slice la n lc, .slice sa ns sc, .slice ka nk kc]] W0 fun e V => ∃ a7 nb c7, e = .returned (.slice a7 nb c7) ∧ nb ≤ 900 ∧ Hid (nb = (blks l).length ∧ V.ownsRow W0.heap.size 24 2 (.slice a7 nb c7) nb (flat (blks l)) ∧ Below W0.heap.size W0 V) := (trblkso_any la ka n lc nk kc sa ns sc (run l) W0 (HR.out W0 (KP.refl _ _)).sp HNS.out).mono (fun e V g => by
    obtain ⟨v, g1, g2, g3⟩ := g
    obtain ⟨a7, c7, rfl⟩ := slice_form g2
    exact ⟨a7, _, c7, g1, hnb9, hid ⟨rfl, g2, g3⟩⟩)
  obtain ⟨c0, c1, c2, c3, c4⟩ := HC0.out W0 (KP.refl _ _)
  clear hT hR hB hd hB0 hz0 hb1 hb2 hP0 hT0 hnb9
  show Calls Try.prog 13 #[.pointer (some ⟨t, 0, none⟩), .agg #[.slice la n lc, .slice sa ns sc, .slice ka nk kc], .agg #[.int .i64 o1, .int .i64 o2]] w _
  go_enter Try.func13, Try.ntmps13
  go_upto_region 2 with (go_at_call 32; rw [← hW0]; refine HBl0.mono ?_; rintro e W1 ⟨a7, nb, c7, rfl, hnb, H1⟩)
  clear HBl0 hW0 c0 c1 c2 c3 c4
  obtain ⟨hnbe, ho7, hb7⟩ := H1.out
  clear H1
  obtain ⟨P7, hP7⟩ : ∃ P7 : Nat → Prop, P7 = (fun j => P0 j ∨ (Value.slice a7 nb c7).ownBlock = some j) := ⟨_, rfl⟩
  have hT7 : TP W1 t l P7 := HT0.out.turn hb7.size (fun j hj _ => hb7.block j hj) (fun j hj => by
    rw [hP7] at hj
    rcases hj with hj | hj
    · exact Or.inl hj
    · exact Or.inr (ho7.lt j hj))
  have HB7 : Hid (∀ V, KP P7 W1 V → KP P0 W0 V) := hid (fun V hV => (KP.below hb7 HT0.out.lt).trans (hV.mono (fun j hj => by rw [hP7]; exact Or.inl hj)))
  have HO7 : Hid (∀ V, KP P7 W1 V → V.ownsRow W0.heap.size 24 2 (.slice a7 nb c7) nb (flat (blks l))) := hid (fun V hV => own_kept2 ho7 (fun j hj => hV.keep j (by rw [hP7]; exact Or.inr hj)))
  have HPS7 : Hid (∀ V, KP P7 W1 V → PS V a7 nb c7 (blks l)) := hid (fun V hV => by
    have h1 := HO7.out V hV
    obtain ⟨a', c', e', hps⟩ := owned_ps h1 hnbe.symm
    simp only [Value.slice.injEq] at e'
    obtain ⟨rfl, _, rfl⟩ := e'
    exact hps)
  have HC7 : Hid (∀ V, KP P7 W1 V → (V.cell? ⟨w.heap.size, 0, none⟩ = some (.slice la n lc) ∧ V.cell? ⟨w.heap.size, 1, none⟩ = some (.slice sa ns sc) ∧ V.cell? ⟨w.heap.size, 2, none⟩ = some (.slice ka nk kc) ∧ V.cell? ⟨w.heap.size + 1, 0, none⟩ = some (.int .i64 o1) ∧ V.cell? ⟨w.heap.size + 1, 1, none⟩ = some (.int .i64 o2))) := hid (fun V hV => HC0.out V (HB7.out V hV))
  have HT7 := hid hT7
  have HP7 := hid hP7
  have HNE := hid hnbe
  have H7R : Hid (∀ V, (TP V t l P7 ∧ KP P7 W1 V) → Calls Try.prog 19 #[] V fun e V' => e = .returned (.agg #[.int .i64 0, .int .i64 (-1)]) ∧ Hid (TP V' t l P7 ∧ KP P7 W1 V')) := hid (fun V h => (root_any V).mono (fun e V' g => ⟨g.1, hid ⟨h.1.below g.2.below, h.2.trans (KP.below g.2.below h.1.lt)⟩⟩))
  have H7X : Hid (∀ V, (TP V t l P7 ∧ KP P7 W1 V) → Calls Try.prog 21 #[] V fun e V' => e = .returned (.agg #[.int .i64 0, .int .i64 (-2)]) ∧ Hid (TP V' t l P7 ∧ KP P7 W1 V')) := hid (fun V h => (trash_any V).mono (fun e V' g => ⟨g.1, hid ⟨h.1.below g.2.below, h.2.trans (KP.below g.2.below h.1.lt)⟩⟩))
  have H7R2 : Hid (∀ (K : List Dt) V a1 n1 c1, ((TP V t l P7 ∧ KP P7 W1 V) ∧ PS V a1 n1 c1 K) → Calls Try.prog 19 #[] V fun e V' => e = .returned (.agg #[.int .i64 0, .int .i64 (-1)]) ∧ Hid ((TP V' t l P7 ∧ KP P7 W1 V') ∧ PS V' a1 n1 c1 K)) := hid (fun K V a1 n1 c1 h => (root_any V).mono (fun e V' g => ⟨g.1, hid ⟨⟨h.1.1.below g.2.below, h.1.2.trans (KP.below g.2.below h.1.1.lt)⟩, h.2.below g.2.below⟩⟩))
  have H7X2 : Hid (∀ (K : List Dt) V a1 n1 c1, ((TP V t l P7 ∧ KP P7 W1 V) ∧ PS V a1 n1 c1 K) → Calls Try.prog 21 #[] V fun e V' => e = .returned (.agg #[.int .i64 0, .int .i64 (-2)]) ∧ Hid ((TP V' t l P7 ∧ KP P7 W1 V') ∧ PS V' a1 n1 c1 K)) := hid (fun K V a1 n1 c1 h => (trash_any V).mono (fun e V' g => ⟨g.1, hid ⟨⟨h.1.1.below g.2.below, h.1.2.trans (KP.below g.2.below h.1.1.lt)⟩, h.2.below g.2.below⟩⟩))
  have H7K : Hid (∀ (d : Dt), Dw d → ∀ V, (TP V t l P7 ∧ KP P7 W1 V) → Calls Try.prog 17 #[.pointer (some ⟨t, 0, none⟩), dv d] V fun e V' => ∃ a1 n1 c1, e = .returned (.slice a1 n1 c1) ∧ Hid ((TP V' t l P7 ∧ KP P7 W1 V') ∧ PS V' a1 n1 c1 (kidB (run l) d))) := hid (fun d hd V h => (kids_tp d h.1 hd).mono (fun e V' g => by
    obtain ⟨a', c', g1, g2, g3, g4⟩ := g
    exact ⟨a', _, c', g1, hid ⟨⟨g3.mono (fun j hj => Or.inl hj), h.2.trans g4⟩, g2⟩⟩))
  have H7Kr : Hid (∀ (d : Dt) V a1 n1 c1, ((TP V t l P7 ∧ KP P7 W1 V) ∧ PS V a1 n1 c1 (kidB (run l) d)) → Calls Try.prog 33 #[.agg #[.slice la n lc, .slice sa ns sc, .slice ka nk kc], dv d] V fun e V' => ∃ a2 n2 c2, e = .returned (.slice a2 n2 c2) ∧ Hid ((TP V' t l P7 ∧ KP P7 W1 V') ∧ PS V' a1 n1 c1 (kidB (run l) d) ∧ PS V' a2 n2 c2 (kidB (run l) d))) := hid (fun d V a1 n1 c1 h => (trkids_any la ka n lc nk kc sa ns sc (run l) d V (HR.out V (HB7.out V h.1.2)).sp (HNS.out) HND.out).mono (fun e V' g => by
    obtain ⟨v, g1, g2, g3⟩ := g
    obtain ⟨a', c', rfl, hps⟩ := owned_ps g2 rfl
    exact ⟨a', _, c', g1, hid ⟨⟨h.1.1.below g3, h.1.2.trans (KP.below g3 h.1.1.lt)⟩, h.2.below g3, hps⟩⟩))
  have H7S : Hid (∀ (K : List Dt) V a1 n1 c1 a2 n2 c2, ((TP V t l P7 ∧ KP P7 W1 V) ∧ PS V a1 n1 c1 K ∧ PS V a2 n2 c2 K) → Calls Try.prog 15 #[.slice a1 n1 c1, .slice a2 n2 c2] V fun e V' => e = .returned (.bool true) ∧ Hid (TP V' t l P7 ∧ KP P7 W1 V')) := hid (fun K V a1 n1 c1 a2 n2 c2 h => (fsame_any h.2.1 (ps_sm h.2.1) h.2.2 (ps_sm h.2.2)).mono (fun e V' g => ⟨by rw [g.1, decide_eq_true (rfl : K = K)], hid ⟨h.1.1.below g.2, h.1.2.trans (KP.below g.2 h.1.1.lt)⟩⟩))
  have HtB : Calls Try.prog 14 #[.pointer (some ⟨t, 0, none⟩)] W1.drew fun e V => ∃ a1 n1 c1, e = .returned (.slice a1 n1 c1) ∧ Hid ((TP V t l P7 ∧ KP P7 W1 V) ∧ PS V a1 n1 c1 (blks l) ∧ PS V a7 nb c7 (blks l)) := (blocks_tp HT7.out.drew).mono (fun e V g => by
    obtain ⟨a', c', g1, g2, g3, g4⟩ := g
    have hk : KP P7 W1 V := (KP.refl P7 W1).drew.trans g4
    exact ⟨a', _, c', g1, hid ⟨⟨g3.mono (fun j hj => Or.inl hj), hk⟩, g2, HPS7.out V hk⟩⟩)
  have hc0 := HC7.out W1.drew ((KP.refl P7 W1).drew)
  clear hnbe ho7 hb7 hP7 hT7
  go_wp2_with fail
  refine wp_region_held_drew (S := fun w' => w'.cell? ⟨w.heap.size, 0, none⟩ = some (.slice la n lc) ∧ w'.cell? ⟨w.heap.size, 1, none⟩ = some (.slice sa ns sc) ∧ w'.cell? ⟨w.heap.size, 2, none⟩ = some (.slice ka nk kc) ∧ w'.cell? ⟨w.heap.size + 1, 0, none⟩ = some (.int .i64 o1) ∧ w'.cell? ⟨w.heap.size + 1, 1, none⟩ = some (.int .i64 o2)) hmxo hc0 ?_
  intro _
  refine wpAnyH_take (i := 0) (v := .pointer (some ⟨t, 0, none⟩)) rfl (by kernel_rfl) (by kernel_rfl) (by kernel_rfl) (fun _ _ _ h => h) (Or.inl ⟨by kernel_rfl, fun w hSw => ?_⟩) hc0 ?_
  · obtain ⟨e1, e2, e3, e4, e5⟩ := hSw; go_simp
  simp only [Act.put, List.getElem_toArray, List.getElem_cons_succ, List.getElem_cons_zero, List.setIfInBounds_toArray, List.set_cons_zero, List.set_cons_succ]
  refine wpAnyH_take (i := 2) (v := .slice a7 nb c7) rfl (by kernel_rfl) (by kernel_rfl) (by kernel_rfl) (fun _ _ _ h => h) (Or.inl ⟨by kernel_rfl, fun w hSw => ?_⟩) hc0 ?_
  · obtain ⟨e1, e2, e3, e4, e5⟩ := hSw; go_simp
  simp only [Act.put, List.getElem_toArray, List.getElem_cons_succ, List.getElem_cons_zero, List.setIfInBounds_toArray, List.set_cons_zero, List.set_cons_succ]
  refine wpAnyH_ready (rs := [1]) (by kernel_rfl) (by simp) ?_
  refine AllReadyH.cons rfl (fun K hK => ?_) AllReadyH.nil
  go_simp
  refine (HtB).mono ?_
  rintro e U1 ⟨a1, n1, c1, rfl, Q1⟩
  have hc1 := HC7.out _ Q1.out.1.2
  refine hK.out _ _ hc1 (fun _ => ?_)
  clear hK K
  refine wpAnyH_ready (rs := [3]) (by kernel_rfl) (by simp) ?_
  refine AllReadyH.cons rfl (fun K hK => ?_) AllReadyH.nil
  go_simp
  refine (H7S.out _ _ _ _ _ _ _ _ Q1.out).mono ?_
  rintro e U2 ⟨rfl, Q2⟩
  have hc2 := HC7.out _ Q2.out.2
  refine hK.out _ _ hc2 (fun _ => ?_)
  clear hK K
  refine wpAnyH_take (i := 4) (v := .bool false) rfl (by kernel_rfl) (by kernel_rfl) (by kernel_rfl) (fun _ _ _ h => h) (Or.inl ⟨by kernel_rfl, fun w hSw => ?_⟩) hc2 ?_
  · obtain ⟨e1, e2, e3, e4, e5⟩ := hSw; go_simp
  simp only [Act.put, List.getElem_toArray, List.getElem_cons_succ, List.getElem_cons_zero, List.setIfInBounds_toArray, List.set_cons_zero, List.set_cons_succ]
  refine wpAnyH_take (i := 5) (v := .bool false) rfl (by kernel_rfl) (by kernel_rfl) (by kernel_rfl) (fun _ _ _ h => h) (Or.inl ⟨by kernel_rfl, fun w hSw => ?_⟩) hc2 ?_
  · obtain ⟨e1, e2, e3, e4, e5⟩ := hSw; go_simp
  simp only [Act.put, List.getElem_toArray, List.getElem_cons_succ, List.getElem_cons_zero, List.setIfInBounds_toArray, List.set_cons_zero, List.set_cons_succ]
  refine wpAnyH_take (i := 6) (v := .pointer (some ⟨t, 0, none⟩)) rfl (by kernel_rfl) (by kernel_rfl) (by kernel_rfl) (fun _ _ _ h => h) (Or.inl ⟨by kernel_rfl, fun w hSw => ?_⟩) hc2 ?_
  · obtain ⟨e1, e2, e3, e4, e5⟩ := hSw; go_simp
  simp only [Act.put, List.getElem_toArray, List.getElem_cons_succ, List.getElem_cons_zero, List.setIfInBounds_toArray, List.set_cons_zero, List.set_cons_succ]
  refine wpAnyH_take (i := 9) (v := .agg #[.slice la n lc, .slice sa ns sc, .slice ka nk kc]) rfl (by kernel_rfl) (by kernel_rfl) (by kernel_rfl) (fun _ _ _ h => h) (Or.inl ⟨by kernel_rfl, fun w hSw => ?_⟩) hc2 ?_
  · obtain ⟨e1, e2, e3, e4, e5⟩ := hSw; go_simp
  simp only [Act.put, List.getElem_toArray, List.getElem_cons_succ, List.getElem_cons_zero, List.setIfInBounds_toArray, List.set_cons_zero, List.set_cons_succ]
  refine wpAnyH_ready (rs := [7]) (by kernel_rfl) (by simp) ?_
  refine AllReadyH.cons rfl (fun K hK => ?_) AllReadyH.nil
  go_simp
  refine (H7R.out _ Q2.out).mono ?_
  rintro e U3 ⟨rfl, Q3⟩
  have hc3 := HC7.out _ Q3.out.2
  refine hK.out _ _ hc3 (fun _ => ?_)
  clear hK K
  refine wpAnyH_ready (rs := [8]) (by kernel_rfl) (by simp) ?_
  refine AllReadyH.cons rfl (fun K hK => ?_) AllReadyH.nil
  go_simp
  refine (H7K.out (0, -1) ⟨rfl, rfl⟩ _ Q3.out).mono ?_
  rintro e U4 ⟨b1, m1, e1, rfl, Q4⟩
  have hc4 := HC7.out _ Q4.out.1.2
  refine hK.out _ _ hc4 (fun _ => ?_)
  clear hK K
  refine wpAnyH_ready (rs := [10]) (by kernel_rfl) (by simp) ?_
  refine AllReadyH.cons rfl (fun K hK => ?_) AllReadyH.nil
  go_simp
  refine (H7R2.out _ _ _ _ _ Q4.out).mono ?_
  rintro e U5 ⟨rfl, Q5⟩
  have hc5 := HC7.out _ Q5.out.1.2
  refine hK.out _ _ hc5 (fun _ => ?_)
  clear hK K
  refine wpAnyH_ready (rs := [11]) (by kernel_rfl) (by simp) ?_
  refine AllReadyH.cons rfl (fun K hK => ?_) AllReadyH.nil
  go_simp
  refine (H7Kr.out (0, -1) _ _ _ _ Q5.out).mono ?_
  rintro e U6 ⟨b2, m2, e2, rfl, Q6⟩
  have hc6 := HC7.out _ Q6.out.1.2
  refine hK.out _ _ hc6 (fun _ => ?_)
  clear hK K
  refine wpAnyH_ready (rs := [12]) (by kernel_rfl) (by simp) ?_
  refine AllReadyH.cons rfl (fun K hK => ?_) AllReadyH.nil
  go_simp
  refine (H7S.out _ _ _ _ _ _ _ _ Q6.out).mono ?_
  rintro e U7 ⟨rfl, Q7⟩
  have hc7 := HC7.out _ Q7.out.2
  refine hK.out _ _ hc7 (fun _ => ?_)
  clear hK K
  refine wpAnyH_take (i := 13) (v := .bool false) rfl (by kernel_rfl) (by kernel_rfl) (by kernel_rfl) (fun _ _ _ h => h) (Or.inl ⟨by kernel_rfl, fun w hSw => ?_⟩) hc7 ?_
  · obtain ⟨e1, e2, e3, e4, e5⟩ := hSw; go_simp
  simp only [Act.put, List.getElem_toArray, List.getElem_cons_succ, List.getElem_cons_zero, List.setIfInBounds_toArray, List.set_cons_zero, List.set_cons_succ]
  refine wpAnyH_take (i := 14) (v := .bool false) rfl (by kernel_rfl) (by kernel_rfl) (by kernel_rfl) (fun _ _ _ h => h) (Or.inl ⟨by kernel_rfl, fun w hSw => ?_⟩) hc7 ?_
  · obtain ⟨e1, e2, e3, e4, e5⟩ := hSw; go_simp
  simp only [Act.put, List.getElem_toArray, List.getElem_cons_succ, List.getElem_cons_zero, List.setIfInBounds_toArray, List.set_cons_zero, List.set_cons_succ]
  refine wpAnyH_take (i := 15) (v := .bool false) rfl (by kernel_rfl) (by kernel_rfl) (by kernel_rfl) (fun _ _ _ h => h) (Or.inl ⟨by kernel_rfl, fun w hSw => ?_⟩) hc7 ?_
  · obtain ⟨e1, e2, e3, e4, e5⟩ := hSw; go_simp
  simp only [Act.put, List.getElem_toArray, List.getElem_cons_succ, List.getElem_cons_zero, List.setIfInBounds_toArray, List.set_cons_zero, List.set_cons_succ]
  refine wpAnyH_take (i := 16) (v := .pointer (some ⟨t, 0, none⟩)) rfl (by kernel_rfl) (by kernel_rfl) (by kernel_rfl) (fun _ _ _ h => h) (Or.inl ⟨by kernel_rfl, fun w hSw => ?_⟩) hc7 ?_
  · obtain ⟨e1, e2, e3, e4, e5⟩ := hSw; go_simp
  simp only [Act.put, List.getElem_toArray, List.getElem_cons_succ, List.getElem_cons_zero, List.setIfInBounds_toArray, List.set_cons_zero, List.set_cons_succ]
  refine wpAnyH_take (i := 19) (v := .agg #[.slice la n lc, .slice sa ns sc, .slice ka nk kc]) rfl (by kernel_rfl) (by kernel_rfl) (by kernel_rfl) (fun _ _ _ h => h) (Or.inl ⟨by kernel_rfl, fun w hSw => ?_⟩) hc7 ?_
  · obtain ⟨e1, e2, e3, e4, e5⟩ := hSw; go_simp
  simp only [Act.put, List.getElem_toArray, List.getElem_cons_succ, List.getElem_cons_zero, List.setIfInBounds_toArray, List.set_cons_zero, List.set_cons_succ]
  refine wpAnyH_ready (rs := [17]) (by kernel_rfl) (by simp) ?_
  refine AllReadyH.cons rfl (fun K hK => ?_) AllReadyH.nil
  go_simp
  refine (H7X.out _ Q7.out).mono ?_
  rintro e U8 ⟨rfl, Q8⟩
  have hc8 := HC7.out _ Q8.out.2
  refine hK.out _ _ hc8 (fun _ => ?_)
  clear hK K
  refine wpAnyH_ready (rs := [18]) (by kernel_rfl) (by simp) ?_
  refine AllReadyH.cons rfl (fun K hK => ?_) AllReadyH.nil
  go_simp
  refine (H7K.out (0, -2) ⟨rfl, rfl⟩ _ Q8.out).mono ?_
  rintro e U9 ⟨b3, m3, e3, rfl, Q9⟩
  have hc9 := HC7.out _ Q9.out.1.2
  refine hK.out _ _ hc9 (fun _ => ?_)
  clear hK K
  refine wpAnyH_ready (rs := [20]) (by kernel_rfl) (by simp) ?_
  refine AllReadyH.cons rfl (fun K hK => ?_) AllReadyH.nil
  go_simp
  refine (H7X2.out _ _ _ _ _ Q9.out).mono ?_
  rintro e Ua ⟨rfl, Qa⟩
  have hca := HC7.out _ Qa.out.1.2
  refine hK.out _ _ hca (fun _ => ?_)
  clear hK K
  refine wpAnyH_ready (rs := [21]) (by kernel_rfl) (by simp) ?_
  refine AllReadyH.cons rfl (fun K hK => ?_) AllReadyH.nil
  go_simp
  refine (H7Kr.out (0, -2) _ _ _ _ Qa.out).mono ?_
  rintro e Ub ⟨b4, m4, e4, rfl, Qb⟩
  have hcb := HC7.out _ Qb.out.1.2
  refine hK.out _ _ hcb (fun _ => ?_)
  clear hK K
  refine wpAnyH_ready (rs := [22]) (by kernel_rfl) (by simp) ?_
  refine AllReadyH.cons rfl (fun K hK => ?_) AllReadyH.nil
  go_simp
  refine (H7S.out _ _ _ _ _ _ _ _ Qb.out).mono ?_
  rintro e Uc ⟨rfl, Qc⟩
  have hcc := HC7.out _ Qc.out.2
  refine hK.out _ _ hcc (fun _ => ?_)
  clear hK K
  refine wpAnyH_take (i := 23) (v := .bool false) rfl (by kernel_rfl) (by kernel_rfl) (by kernel_rfl) (fun _ _ _ h => h) (Or.inl ⟨by kernel_rfl, fun w hSw => ?_⟩) hcc ?_
  · obtain ⟨e1, e2, e3, e4, e5⟩ := hSw; go_simp
  simp only [Act.put, List.getElem_toArray, List.getElem_cons_succ, List.getElem_cons_zero, List.setIfInBounds_toArray, List.set_cons_zero, List.set_cons_succ]
  refine wpAnyH_take (i := 24) (v := .bool false) rfl (by kernel_rfl) (by kernel_rfl) (by kernel_rfl) (fun _ _ _ h => h) (Or.inl ⟨by kernel_rfl, fun w hSw => ?_⟩) hcc ?_
  · obtain ⟨e1, e2, e3, e4, e5⟩ := hSw; go_simp
  simp only [Act.put, List.getElem_toArray, List.getElem_cons_succ, List.getElem_cons_zero, List.setIfInBounds_toArray, List.set_cons_zero, List.set_cons_succ]
  refine wpAnyH_take (i := 25) (v := .bool false) rfl (by kernel_rfl) (by kernel_rfl) (by kernel_rfl) (fun _ _ _ h => h) (Or.inl ⟨by kernel_rfl, fun w hSw => ?_⟩) hcc ?_
  · obtain ⟨e1, e2, e3, e4, e5⟩ := hSw; go_simp
  simp only [Act.put, List.getElem_toArray, List.getElem_cons_succ, List.getElem_cons_zero, List.setIfInBounds_toArray, List.set_cons_zero, List.set_cons_succ]
  refine wpAnyH_take (i := 26) (v := .pointer (some ⟨t, 0, none⟩)) rfl (by kernel_rfl) (by kernel_rfl) (by kernel_rfl) (fun _ _ _ h => h) (Or.inl ⟨by kernel_rfl, fun w hSw => ?_⟩) hcc ?_
  · obtain ⟨e1, e2, e3, e4, e5⟩ := hSw; go_simp
  simp only [Act.put, List.getElem_toArray, List.getElem_cons_succ, List.getElem_cons_zero, List.setIfInBounds_toArray, List.set_cons_zero, List.set_cons_succ]
  refine wpAnyH_take (i := 27) (v := .agg #[.int .i64 o1, .int .i64 o2]) rfl (by kernel_rfl) (by kernel_rfl) (by kernel_rfl) (fun _ _ _ h => h) (Or.inl ⟨by kernel_rfl, fun w hSw => ?_⟩) hcc ?_
  · obtain ⟨e1, e2, e3, e4, e5⟩ := hSw; go_simp
  simp only [Act.put, List.getElem_toArray, List.getElem_cons_succ, List.getElem_cons_zero, List.setIfInBounds_toArray, List.set_cons_zero, List.set_cons_succ]
  refine wpAnyH_take (i := 29) (v := .agg #[.slice la n lc, .slice sa ns sc, .slice ka nk kc]) rfl (by kernel_rfl) (by kernel_rfl) (by kernel_rfl) (fun _ _ _ h => h) (Or.inl ⟨by kernel_rfl, fun w hSw => ?_⟩) hcc ?_
  · obtain ⟨e1, e2, e3, e4, e5⟩ := hSw; go_simp
  simp only [Act.put, List.getElem_toArray, List.getElem_cons_succ, List.getElem_cons_zero, List.setIfInBounds_toArray, List.set_cons_zero, List.set_cons_succ]
  refine wpAnyH_take (i := 30) (v := .agg #[.int .i64 o1, .int .i64 o2]) rfl (by kernel_rfl) (by kernel_rfl) (by kernel_rfl) (fun _ _ _ h => h) (Or.inl ⟨by kernel_rfl, fun w hSw => ?_⟩) hcc ?_
  · obtain ⟨e1, e2, e3, e4, e5⟩ := hSw; go_simp
  simp only [Act.put, List.getElem_toArray, List.getElem_cons_succ, List.getElem_cons_zero, List.setIfInBounds_toArray, List.set_cons_zero, List.set_cons_succ]
  refine wpAnyH_ready (rs := [28]) (by kernel_rfl) (by simp) ?_
  refine AllReadyH.cons rfl (fun K hK => ?_) AllReadyH.nil
  go_simp
  refine (H7K.out (o1, o2) HDo.out _ Qc.out).mono ?_
  rintro e Ud ⟨b5, m5, e5, rfl, Qd⟩
  have hcd := HC7.out _ Qd.out.1.2
  refine hK.out _ _ hcd (fun _ => ?_)
  clear hK K
  refine wpAnyH_ready (rs := [31]) (by kernel_rfl) (by simp) ?_
  refine AllReadyH.cons rfl (fun K hK => ?_) AllReadyH.nil
  go_simp
  refine (H7Kr.out (o1, o2) _ _ _ _ Qd.out).mono ?_
  rintro e Ue ⟨b6, m6, e6, rfl, Qe⟩
  have hce := HC7.out _ Qe.out.1.2
  refine hK.out _ _ hce (fun _ => ?_)
  clear hK K
  refine wpAnyH_ready (rs := [32]) (by kernel_rfl) (by simp) ?_
  refine AllReadyH.cons rfl (fun K hK => ?_) AllReadyH.nil
  go_simp
  refine (H7S.out _ _ _ _ _ _ _ _ Qe.out).mono ?_
  rintro e Uf ⟨rfl, Qf⟩
  have hcf := HC7.out _ Qf.out.2
  refine hK.out _ _ hcf (fun _ => ?_)
  clear hK K
  refine wpAnyH_take (i := 33) (v := .bool false) rfl (by kernel_rfl) (by kernel_rfl) (by kernel_rfl) (fun _ _ _ h => h) (Or.inl ⟨by kernel_rfl, fun w hSw => ?_⟩) hcf ?_
  · obtain ⟨e1, e2, e3, e4, e5⟩ := hSw; go_simp
  simp only [Act.put, List.getElem_toArray, List.getElem_cons_succ, List.getElem_cons_zero, List.setIfInBounds_toArray, List.set_cons_zero, List.set_cons_succ]
  refine wpAnyH_take (i := 34) (v := .bool false) rfl (by kernel_rfl) (by kernel_rfl) (by kernel_rfl) (fun _ _ _ h => h) (Or.inl ⟨by kernel_rfl, fun w hSw => ?_⟩) hcf ?_
  · obtain ⟨e1, e2, e3, e4, e5⟩ := hSw; go_simp
  simp only [Act.put, List.getElem_toArray, List.getElem_cons_succ, List.getElem_cons_zero, List.setIfInBounds_toArray, List.set_cons_zero, List.set_cons_succ]
  refine wpAnyH_done (by kernel_rfl) ?_ _
  clear HtB hc0 hc1 hc2 hc3 hc4 hc5 hc6 hc7 hc8 hc9 hca hcb hcc hcd hce
  obtain ⟨f0, f1, f2, f3, f4⟩ := hcf
  clear H7R H7X H7R2 H7X2 H7K H7Kr H7S Q1 Q2 Q3 Q4 Q5 Q6 Q7 Q8 Q9 Qa Qb Qc Qd Qe
  obtain ⟨i0, hi, hz0, hz1, hz2⟩ := info_parts Try.infoDD
  have ho7f := (HO7.out Uf Qf.out.2).alloc (.cells #[.int .i64 o1, .int .i64 o2] 24)
  have hsf : W0.heap.size ≤ Uf.heap.size := (HB7.out Uf Qf.out.2).size
  go_upto_region 5 with (first
    | (at_builtin; refine wpList_append_own_at _ rfl _ _ 29 rfl W0.heap.size 24 i0 _ 2 16 Try.underlying29 hi hz0 hz1 hz2 rfl (by decide) (.slice a7 nb c7) nb (flat (blks l)) rfl ho7f ⟨Uf.heap.size, 0, none⟩ 1 1 [.int .i64 o1, .int .i64 o2] rfl rfl (cell_two _ _ _) (by simp [Value.oneCell']) (by unfold maxLen; omega) (by omega) (by simp; omega) ?_; intro v8 W8 ho8 hg8 hnil8 hat8))
  obtain ⟨L8, hL8⟩ : ∃ L8, L8 = blks l ++ [((o1, o2) : Dt)] := ⟨_, rfl⟩
  have ho9 : W8.ownsRow W0.heap.size 24 2 v8 (nb + 1) (flat L8) := by rw [hL8, flat_append]; exact ho8
  obtain ⟨a8, c8, rfl⟩ := slice_form ho9
  have hlen8 : L8.length = nb + 1 := by rw [hL8, List.length_append, HNE.out]; rfl
  have HD8 : Hid (∀ d ∈ L8, Dw d) := hid (fun d hd => by
    rw [hL8] at hd
    rcases List.mem_append.1 hd with h | h
    · exact blks_dw HLG.out.2.1 d h
    · rw [List.mem_singleton.1 h]; exact HDo.out)
  obtain ⟨P8, hP8⟩ : ∃ P8 : Nat → Prop, P8 = (fun j => P0 j ∨ (Value.slice a8 (nb + 1) c8).ownBlock = some j) := ⟨_, rfl⟩
  have hz8 : Uf.heap.size + 1 ≤ W8.heap.size := by have := hg8.size; simpa using this
  have hkeep8 : ∀ j, j < Uf.heap.size → (Value.slice a7 nb c7).ownBlock ≠ some j → W8.heap[j]? = Uf.heap[j]? := fun j hj hne => (hg8.block j (by simp; omega) (fun e => hne e.symm)).trans (Below.heap_alloc Uf _ j hj)
  have hv7 : ∀ j, (Value.slice a7 nb c7).ownBlock = some j → W0.heap.size ≤ j := fun j hj => (ho7f.lt j hj).1
  have hT8 : TP W8 t l P8 := Qf.out.1.turn (by omega) (fun j hj hP => hkeep8 j hj (fun e => hP (by rw [HP7.out]; exact Or.inr e))) (fun j hj => by
    rw [hP8] at hj
    rcases hj with hj | hj
    · exact Or.inl (by rw [HP7.out]; exact Or.inl hj)
    · rcases hat8 with e | e
      · exact Or.inl (by rw [HP7.out]; exact Or.inr (by rw [← e]; exact hj))
      · rw [e] at hj
        cases hj
        exact Or.inr ⟨by simp, (ho9.lt _ e).2⟩)
  have hK8 : KP P0 W0 W8 := by
    have h1 := HB7.out Uf Qf.out.2
    refine h1.trans ⟨by omega, fun j hj => hkeep8 j (Nat.lt_of_lt_of_le (HP0lt.out j hj) h1.size) (fun e => by have := hv7 j e; have := HP0lt.out j hj; omega), ⟨hg8.os, hg8.tape, hg8.output⟩⟩
  have HB8 : Hid (∀ V, KP P8 W8 V → KP P0 W0 V) := hid (fun V hV => hK8.trans (hV.mono (fun j hj => by rw [hP8]; exact Or.inl hj)))
  have HPS8 : Hid (∀ V, KP P8 W8 V → PS V a8 (nb + 1) c8 L8) := hid (fun V hV => by
    have h1 := own_kept2 (w' := V) ho9 (fun j hj => hV.keep j (by rw [hP8]; exact Or.inr hj))
    obtain ⟨a', c', e', hps⟩ := owned_ps h1 hlen8
    simp only [Value.slice.injEq] at e'
    obtain ⟨rfl, _, rfl⟩ := e'
    exact hps)
  have hn8c : nb + 1 ≤ c8 := (HPS8.out W8 (KP.refl _ _)).cap
  have HAt0 : Hid (∀ (d : Dt) V, (TP V t l P8 ∧ KP P8 W8 V) → Calls Try.prog 34 #[.agg #[.slice la n lc, .slice sa ns sc, .slice ka nk kc], dv d] V fun e V' => e = .returned (.int .i64 (spI (run l) d)) ∧ Hid (TP V' t l P8 ∧ KP P8 W8 V')) := hid (fun d V h => (trat_any la ka n lc nk kc sa ns sc (run l) d V (HR.out V (HB8.out V h.2)).sp (by have := HNS.out; omega)).mono (fun e V' g => ⟨g.1, hid ⟨h.1.below g.2, h.2.trans (KP.below g.2 h.1.lt)⟩⟩))
  obtain ⟨n8, hn8⟩ : ∃ n8, n8 = nb + 1 := ⟨_, rfl⟩
  have hn8b : n8 ≤ 901 := by omega
  rw [← hn8] at HPS8 hlen8 hn8c hP8 ⊢
  have HL8 := hid hlen8
  have HP8 := hid hP8
  have HT8 := hid hT8
  clear ho7f hi hz0 hz1 hz2 ho8 hg8 hnil8 hat8 hL8 ho9 hlen8 hP8 hz8 hkeep8 hv7 hT8 hK8 f0 f1 f2 f3 f4 hn8 hsf Qf HC7 HO7 HPS7 HB7 HT7 HP7
  go_wp2_with fail
  go_loopw [8] (fun iv wr => ∃ i : Nat, i ≤ n8 ∧ iv = .int .i64 i ∧ Hid (TP wr t l P8 ∧ KP P8 W8 wr)) (fun i _ => n8 - (intOf i).toNat)
  case atStart => exact ⟨0, by omega, rfl, hid ⟨HT8.out, KP.refl _ _⟩⟩
  case round =>
    obtain ⟨i, hi, rfl, S5⟩ := hrel
    by_cases hil : i < n8
    · have hb1 : decide ((i : Int) < (n8 : Int)) = true := by simp [hil]
      obtain ⟨⟨d1, d2⟩, hd8⟩ : ∃ d, L8[i]? = some d := ⟨_, List.getElem?_eq_getElem (by rw [HL8.out]; exact hil)⟩
      have HDd : Hid (Dw (d1, d2)) := hid (HD8.out _ (List.mem_of_getElem? hd8))
      obtain ⟨g8, o8, rfl, hg8, _, hlk8⟩ := (HPS8.out W8 (KP.refl _ _)).look hd8
      have HC8 : Hid (∀ V, KP P8 W8 V → (V.cell? ⟨w.heap.size, 0, none⟩ = some (.slice la n lc) ∧ V.cell? ⟨w.heap.size, 1, none⟩ = some (.slice sa ns sc) ∧ V.cell? ⟨w.heap.size, 2, none⟩ = some (.slice ka nk kc) ∧ V.cell? ⟨w.heap.size + 1, 0, none⟩ = some (.int .i64 o1) ∧ V.cell? ⟨w.heap.size + 1, 1, none⟩ = some (.int .i64 o2) ∧ V.cell? ⟨g8, o8 + i * 2, none⟩ = some (.int .i64 d1) ∧ V.cell? ⟨g8, o8 + i * 2 + 1, none⟩ = some (.int .i64 d2))) := hid (fun V hV => by
        obtain ⟨c0, c1, c2, c3, c4⟩ := HC0.out V (HB8.out V hV)
        obtain ⟨e0, e1⟩ := hlk8 V (hV.keep g8 (by rw [HP8.out]; exact Or.inr rfl))
        exact ⟨c0, c1, c2, c3, c4, e0, e1⟩)
      have hc0 := HC8.out wr.drew S5.out.2.drew
      have hib : (i : Int) < (n8 : Int) := by omega
      have HIL : Hid (i < n8) := hid hil
      clear hd8 hg8 hlk8
      rcases spI_lk (run l) (d1, d2) with hcase | hcase
      · skip
        obtain ⟨hl0, hs0⟩ := hcase
        have HLK : Hid (lk (run l) (d1, d2) = none) := hid hl0
        have hpl : (lk (run l) (d1, d2)).getD pl0 = ((0, 0), ⟨#[]⟩) := by rw [hl0]; rfl
        have HPa : Hid (∀ V, (TP V t l P8 ∧ KP P8 W8 V) → Calls Try.prog 16 #[.pointer (some ⟨t, 0, none⟩), .agg #[.int .i64 d1, .int .i64 d2]] V fun e V' => e = .returned (.tuple #[.agg #[.int .i64 0, .int .i64 0], .string ⟨#[]⟩, .bool false]) ∧ Hid (TP V' t l P8 ∧ KP P8 W8 V')) := hid (fun V h => (parent_tp (d1, d2) h.1 HDd.out).mono (fun e V' g => by
          rw [hl0] at g
          exact ⟨g.1, hid ⟨g.2.1, h.2.trans g.2.2⟩⟩))
        have HAt : Calls Try.prog 34 #[.agg #[.slice la n lc, .slice sa ns sc, .slice ka nk kc], .agg #[.int .i64 d1, .int .i64 d2]] wr.drew fun e V => e = .returned (.int .i64 (-1)) ∧ Hid (TP V t l P8 ∧ KP P8 W8 V) := (HAt0.out (d1, d2) wr.drew ⟨S5.out.1.drew, S5.out.2.drew⟩).mono (fun e V g => ⟨by rw [g.1, hs0], g.2⟩)
        clear hl0 hs0 hpl
        go_wp2_with fail
        refine wp_region_held_drew (S := fun w' => w'.cell? ⟨w.heap.size, 0, none⟩ = some (.slice la n lc) ∧ w'.cell? ⟨w.heap.size, 1, none⟩ = some (.slice sa ns sc) ∧ w'.cell? ⟨w.heap.size, 2, none⟩ = some (.slice ka nk kc) ∧ w'.cell? ⟨w.heap.size + 1, 0, none⟩ = some (.int .i64 o1) ∧ w'.cell? ⟨w.heap.size + 1, 1, none⟩ = some (.int .i64 o2) ∧ w'.cell? ⟨g8, o8 + i * 2, none⟩ = some (.int .i64 d1) ∧ w'.cell? ⟨g8, o8 + i * 2 + 1, none⟩ = some (.int .i64 d2)) hmxo hc0 ?_
        intro _
        refine wpAnyH_take (i := 0) (v := .agg #[.slice la n lc, .slice sa ns sc, .slice ka nk kc]) rfl (by kernel_rfl) (by kernel_rfl) (by kernel_rfl) (fun _ _ _ h => h) (Or.inl ⟨by kernel_rfl, fun w hSw => ?_⟩) hc0 ?_
        · obtain ⟨e1, e2, e3, e4, e5, e6, e7⟩ := hSw; go_simp
        simp only [Act.put, List.getElem_toArray, List.getElem_cons_succ, List.getElem_cons_zero, List.setIfInBounds_toArray, List.set_cons_zero, List.set_cons_succ]
        refine wpAnyH_take (i := 1) (v := .slice (some ⟨g8, o8, none⟩) n8 c8) rfl (by kernel_rfl) (by kernel_rfl) (by kernel_rfl) (fun _ _ _ h => h) (Or.inl ⟨by kernel_rfl, fun w hSw => ?_⟩) hc0 ?_
        · obtain ⟨e1, e2, e3, e4, e5, e6, e7⟩ := hSw; go_simp
        simp only [Act.put, List.getElem_toArray, List.getElem_cons_succ, List.getElem_cons_zero, List.setIfInBounds_toArray, List.set_cons_zero, List.set_cons_succ]
        refine wpAnyH_take (i := 2) (v := .int .i64 (i : Int)) rfl (by kernel_rfl) (by kernel_rfl) (by kernel_rfl) (fun _ _ _ h => h) (Or.inl ⟨by kernel_rfl, fun w hSw => ?_⟩) hc0 ?_
        · obtain ⟨e1, e2, e3, e4, e5, e6, e7⟩ := hSw; go_simp
        simp only [Act.put, List.getElem_toArray, List.getElem_cons_succ, List.getElem_cons_zero, List.setIfInBounds_toArray, List.set_cons_zero, List.set_cons_succ]
        refine wpAnyH_take (i := 3) (v := .pointer (some ⟨g8, o8 + i * 2, none⟩)) rfl (by kernel_rfl) (by kernel_rfl) (by kernel_rfl) (fun _ _ _ h => h) (Or.inl ⟨by kernel_rfl, fun w hSw => ?_⟩) hc0 ?_
        · obtain ⟨e1, e2, e3, e4, e5, e6, e7⟩ := hSw; go_simp
        simp only [Act.put, List.getElem_toArray, List.getElem_cons_succ, List.getElem_cons_zero, List.setIfInBounds_toArray, List.set_cons_zero, List.set_cons_succ]
        refine wpAnyH_take (i := 4) (v := .agg #[.int .i64 d1, .int .i64 d2]) rfl (by kernel_rfl) (by kernel_rfl) (by kernel_rfl) (fun _ _ _ h => h) (Or.inl ⟨by kernel_rfl, fun w hSw => ?_⟩) hc0 ?_
        · obtain ⟨e1, e2, e3, e4, e5, e6, e7⟩ := hSw; go_simp
        simp only [Act.put, List.getElem_toArray, List.getElem_cons_succ, List.getElem_cons_zero, List.setIfInBounds_toArray, List.set_cons_zero, List.set_cons_succ]
        refine wpAnyH_ready (rs := [5]) (by kernel_rfl) (by simp) ?_
        refine AllReadyH.cons rfl (fun K hK => ?_) AllReadyH.nil
        go_simp
        refine (HAt).mono ?_
        rintro e V1 ⟨rfl, Q1⟩
        have hc1 := HC8.out _ Q1.out.2
        refine hK.out _ _ hc1 (fun _ => ?_)
        clear hK K
        refine wpAnyH_take (i := 6) (v := .int .i64 (-1)) rfl (by kernel_rfl) (by kernel_rfl) (by kernel_rfl) (fun _ _ _ h => h) (Or.inl ⟨by kernel_rfl, fun w hSw => ?_⟩) hc1 ?_
        · obtain ⟨e1, e2, e3, e4, e5, e6, e7⟩ := hSw; go_simp
        simp only [Act.put, List.getElem_toArray, List.getElem_cons_succ, List.getElem_cons_zero, List.setIfInBounds_toArray, List.set_cons_zero, List.set_cons_succ]
        refine wpAnyH_done (by kernel_rfl) ?_ _
        clear HAt hc0 hc1
        have HPar := HPa.out V1 Q1.out
        obtain ⟨f0, f1, f2, f3, f4, f5, f6⟩ := HC8.out V1 Q1.out.2
        go_upto_region 10 with (go_at_call 16; refine HPar.mono ?_; rintro e V2 ⟨rfl, Q2⟩)
        clear HPar f0 f1 f2 f3 f4 f5 f6
        obtain ⟨X9, hX9⟩ : ∃ X9, X9 = V2.alloc (.cells #[.int .i64 0, .int .i64 0] 24) := ⟨_, rfl⟩
        rw [← hX9]
        obtain ⟨pb, hpb⟩ : ∃ pb, pb = V2.heap.size := ⟨_, rfl⟩
        rw [← hpb]
        have hbX : Below V2.heap.size V2 X9 := by rw [hX9]; exact (Below.refl _ V2).alloc (Nat.le_refl _) _
        have hbp : X9.heap[pb]? = some (.cells #[.int .i64 0, .int .i64 0] 24 (0, 0)) := by rw [hX9, hpb]; exact World.alloc_heap_new V2 _
        obtain ⟨P9, hP9⟩ : ∃ P9 : Nat → Prop, P9 = (fun j => P8 j ∨ j = pb) := ⟨_, rfl⟩
        have HQ9 : Hid (TP X9 t l P9 ∧ KP P9 X9 X9) := hid ⟨by rw [hP9, hX9, hpb]; exact Q2.out.1.alloc _, KP.refl _ _⟩
        have HK9 : Hid (∀ V, KP P9 X9 V → KP P8 W8 V) := hid (fun V hV => Q2.out.2.trans ((KP.below hbX Q2.out.1.lt).trans (hV.mono (fun j hj => by rw [hP9]; exact Or.inl hj))))
        have HPB : Hid (∀ V, KP P9 X9 V → V.heap[pb]? = some (.cells #[.int .i64 0, .int .i64 0] 24 (0, 0))) := hid (fun V hV => (hV.keep pb (by rw [hP9]; exact Or.inr rfl)).trans hbp)
        have HC9 : Hid (∀ V, KP P9 X9 V → (V.cell? ⟨w.heap.size, 0, none⟩ = some (.slice la n lc) ∧ V.cell? ⟨w.heap.size, 1, none⟩ = some (.slice sa ns sc) ∧ V.cell? ⟨w.heap.size, 2, none⟩ = some (.slice ka nk kc) ∧ V.cell? ⟨w.heap.size + 1, 0, none⟩ = some (.int .i64 o1) ∧ V.cell? ⟨w.heap.size + 1, 1, none⟩ = some (.int .i64 o2) ∧ V.cell? ⟨g8, o8 + i * 2, none⟩ = some (.int .i64 d1) ∧ V.cell? ⟨g8, o8 + i * 2 + 1, none⟩ = some (.int .i64 d2))) := hid (fun V hV => HC8.out V (HK9.out V hV))
        have HP9 := hid hP9
        have H9R : Hid (∀ V, (TP V t l P9 ∧ KP P9 X9 V) → Calls Try.prog 19 #[] V fun e V' => e = .returned (.agg #[.int .i64 0, .int .i64 (-1)]) ∧ Hid (TP V' t l P9 ∧ KP P9 X9 V')) := hid (fun V h => (root_any V).mono (fun e V' g => ⟨g.1, hid ⟨h.1.below g.2.below, h.2.trans (KP.below g.2.below h.1.lt)⟩⟩))
        have H9X : Hid (∀ V, (TP V t l P9 ∧ KP P9 X9 V) → Calls Try.prog 21 #[] V fun e V' => e = .returned (.agg #[.int .i64 0, .int .i64 (-2)]) ∧ Hid (TP V' t l P9 ∧ KP P9 X9 V')) := hid (fun V h => (trash_any V).mono (fun e V' g => ⟨g.1, hid ⟨h.1.below g.2.below, h.2.trans (KP.below g.2.below h.1.lt)⟩⟩))
        have H9R2 : Hid (∀ (K : List Dt) V a1 n1 c1, ((TP V t l P9 ∧ KP P9 X9 V) ∧ PS V a1 n1 c1 K) → Calls Try.prog 19 #[] V fun e V' => e = .returned (.agg #[.int .i64 0, .int .i64 (-1)]) ∧ Hid ((TP V' t l P9 ∧ KP P9 X9 V') ∧ PS V' a1 n1 c1 K)) := hid (fun K V a1 n1 c1 h => (root_any V).mono (fun e V' g => ⟨g.1, hid ⟨⟨h.1.1.below g.2.below, h.1.2.trans (KP.below g.2.below h.1.1.lt)⟩, h.2.below g.2.below⟩⟩))
        have H9X2 : Hid (∀ (K : List Dt) V a1 n1 c1, ((TP V t l P9 ∧ KP P9 X9 V) ∧ PS V a1 n1 c1 K) → Calls Try.prog 21 #[] V fun e V' => e = .returned (.agg #[.int .i64 0, .int .i64 (-2)]) ∧ Hid ((TP V' t l P9 ∧ KP P9 X9 V') ∧ PS V' a1 n1 c1 K)) := hid (fun K V a1 n1 c1 h => (trash_any V).mono (fun e V' g => ⟨g.1, hid ⟨⟨h.1.1.below g.2.below, h.1.2.trans (KP.below g.2.below h.1.1.lt)⟩, h.2.below g.2.below⟩⟩))
        have H9K : Hid (∀ (d : Dt), Dw d → ∀ V, (TP V t l P9 ∧ KP P9 X9 V) → Calls Try.prog 17 #[.pointer (some ⟨t, 0, none⟩), dv d] V fun e V' => ∃ a1 n1 c1, e = .returned (.slice a1 n1 c1) ∧ Hid ((TP V' t l P9 ∧ KP P9 X9 V') ∧ PS V' a1 n1 c1 (kidB (run l) d))) := hid (fun d hd V h => (kids_tp d h.1 hd).mono (fun e V' g => by
          obtain ⟨a', c', g1, g2, g3, g4⟩ := g
          exact ⟨a', _, c', g1, hid ⟨⟨g3.mono (fun j hj => Or.inl hj), h.2.trans g4⟩, g2⟩⟩))
        have H9Kr : Hid (∀ (d : Dt) V a1 n1 c1, ((TP V t l P9 ∧ KP P9 X9 V) ∧ PS V a1 n1 c1 (kidB (run l) d)) → Calls Try.prog 33 #[.agg #[.slice la n lc, .slice sa ns sc, .slice ka nk kc], dv d] V fun e V' => ∃ a2 n2 c2, e = .returned (.slice a2 n2 c2) ∧ Hid ((TP V' t l P9 ∧ KP P9 X9 V') ∧ PS V' a1 n1 c1 (kidB (run l) d) ∧ PS V' a2 n2 c2 (kidB (run l) d))) := hid (fun d V a1 n1 c1 h => (trkids_any la ka n lc nk kc sa ns sc (run l) d V (HR.out V (HB8.out V (HK9.out V h.1.2))).sp (HNS.out) HND.out).mono (fun e V' g => by
          obtain ⟨v, g1, g2, g3⟩ := g
          obtain ⟨a', c', rfl, hps⟩ := owned_ps g2 rfl
          exact ⟨a', _, c', g1, hid ⟨⟨h.1.1.below g3, h.1.2.trans (KP.below g3 h.1.1.lt)⟩, h.2.below g3, hps⟩⟩))
        have H9S : Hid (∀ (K : List Dt) V a1 n1 c1 a2 n2 c2, ((TP V t l P9 ∧ KP P9 X9 V) ∧ PS V a1 n1 c1 K ∧ PS V a2 n2 c2 K) → Calls Try.prog 15 #[.slice a1 n1 c1, .slice a2 n2 c2] V fun e V' => e = .returned (.bool true) ∧ Hid (TP V' t l P9 ∧ KP P9 X9 V')) := hid (fun K V a1 n1 c1 a2 n2 c2 h => (fsame_any h.2.1 (ps_sm h.2.1) h.2.2 (ps_sm h.2.2)).mono (fun e V' g => ⟨by rw [g.1, decide_eq_true (rfl : K = K)], hid ⟨h.1.1.below g.2, h.1.2.trans (KP.below g.2 h.1.1.lt)⟩⟩))
        have HTh : Calls Try.prog 25 #[.pointer (some ⟨t, 0, none⟩), .agg #[.int .i64 d1, .int .i64 d2]] X9.drew fun e V => e = .returned (.bool false) ∧ Hid (TP V t l P9 ∧ KP P9 X9 V) := (there_tp (d1, d2) HQ9.out.1.drew HDd.out).mono (fun e V g => by
          rw [HLK.out] at g
          exact ⟨g.1, hid ⟨g.2.1, (KP.refl P9 X9).drew.trans g.2.2⟩⟩)
        have HPt : Hid (∀ V, (TP V t l P9 ∧ KP P9 X9 V) → Calls Try.prog 20 #[.pointer (some ⟨t, 0, none⟩), .agg #[.int .i64 d1, .int .i64 d2]] V fun e V' => ∃ a1 n1 c1, e = .returned (.slice a1 n1 c1) ∧ Hid ((TP V' t l P9 ∧ KP P9 X9 V') ∧ PS V' a1 n1 c1 (pth (run l) (d1, d2)))) := hid (fun V h => (path_tp (d1, d2) h.1 HDd.out).mono (fun e V' g => by
          obtain ⟨a', c', g1, g2, g3, g4⟩ := g
          exact ⟨a', _, c', g1, hid ⟨⟨g3.mono (fun j hj => Or.inl hj), h.2.trans g4⟩, g2⟩⟩))
        have HPr : Hid (∀ V a1 n1 c1, ((TP V t l P9 ∧ KP P9 X9 V) ∧ PS V a1 n1 c1 (pth (run l) (d1, d2))) → Calls Try.prog 35 #[.agg #[.slice la n lc, .slice sa ns sc, .slice ka nk kc], .agg #[.int .i64 d1, .int .i64 d2]] V fun e V' => ∃ a2 n2 c2, e = .returned (.slice a2 n2 c2) ∧ Hid ((TP V' t l P9 ∧ KP P9 X9 V') ∧ PS V' a1 n1 c1 (pth (run l) (d1, d2)) ∧ PS V' a2 n2 c2 (pth (run l) (d1, d2)))) := hid (fun V a1 n1 c1 h => (trpath_any la ka n lc nk kc sa ns sc (run l) (d1, d2) V (HR.out V (HB8.out V (HK9.out V h.1.2))).sp HNS.out).mono (fun e V' g => by
          obtain ⟨v, g1, g2, g3⟩ := g
          obtain ⟨a', c', rfl, hps⟩ := owned_ps g2 rfl
          exact ⟨a', _, c', g1, hid ⟨⟨h.1.1.below g3, h.1.2.trans (KP.below g3 h.1.1.lt)⟩, h.2.below g3, hps⟩⟩))
        have hc2 := HC9.out X9.drew ((KP.refl P9 X9).drew)
        clear hX9 hpb hbX hbp hP9
        go_wp2_with fail
        refine wp_region_held_drew (S := fun w' => w'.cell? ⟨w.heap.size, 0, none⟩ = some (.slice la n lc) ∧ w'.cell? ⟨w.heap.size, 1, none⟩ = some (.slice sa ns sc) ∧ w'.cell? ⟨w.heap.size, 2, none⟩ = some (.slice ka nk kc) ∧ w'.cell? ⟨w.heap.size + 1, 0, none⟩ = some (.int .i64 o1) ∧ w'.cell? ⟨w.heap.size + 1, 1, none⟩ = some (.int .i64 o2) ∧ w'.cell? ⟨g8, o8 + i * 2, none⟩ = some (.int .i64 d1) ∧ w'.cell? ⟨g8, o8 + i * 2 + 1, none⟩ = some (.int .i64 d2)) hmxo hc2 ?_
        intro _
        refine wpAnyH_take (i := 0) (v := .bool false) rfl (by kernel_rfl) (by kernel_rfl) (by kernel_rfl) (fun _ _ _ h => h) (Or.inl ⟨by kernel_rfl, fun w hSw => ?_⟩) hc2 ?_
        · obtain ⟨e1, e2, e3, e4, e5, e6, e7⟩ := hSw; go_simp
        simp only [Act.put, List.getElem_toArray, List.getElem_cons_succ, List.getElem_cons_zero, List.setIfInBounds_toArray, List.set_cons_zero, List.set_cons_succ]
        refine wpAnyH_take (i := 1) (v := .int .i64 (-1)) rfl (by kernel_rfl) (by kernel_rfl) (by kernel_rfl) (fun _ _ _ h => h) (Or.inl ⟨by kernel_rfl, fun w hSw => ?_⟩) hc2 ?_
        · obtain ⟨e1, e2, e3, e4, e5, e6, e7⟩ := hSw; go_simp
        simp only [Act.put, List.getElem_toArray, List.getElem_cons_succ, List.getElem_cons_zero, List.setIfInBounds_toArray, List.set_cons_zero, List.set_cons_succ]
        refine wpAnyH_take (i := 2) (v := .bool false) rfl (by kernel_rfl) (by kernel_rfl) (by kernel_rfl) (fun _ _ _ h => h) (Or.inl ⟨by kernel_rfl, fun w hSw => ?_⟩) hc2 ?_
        · obtain ⟨e1, e2, e3, e4, e5, e6, e7⟩ := hSw; go_simp
        simp only [Act.put, List.getElem_toArray, List.getElem_cons_succ, List.getElem_cons_zero, List.setIfInBounds_toArray, List.set_cons_zero, List.set_cons_succ]
        refine wpAnyH_take (i := 3) (v := .bool false) rfl (by kernel_rfl) (by kernel_rfl) (by kernel_rfl) (fun _ _ _ h => h) (Or.inl ⟨by kernel_rfl, fun w hSw => ?_⟩) hc2 ?_
        · obtain ⟨e1, e2, e3, e4, e5, e6, e7⟩ := hSw; go_simp
        simp only [Act.put, List.getElem_toArray, List.getElem_cons_succ, List.getElem_cons_zero, List.setIfInBounds_toArray, List.set_cons_zero, List.set_cons_succ]
        refine wpAnyH_take (i := 4) (v := .bool false) rfl (by kernel_rfl) (by kernel_rfl) (by kernel_rfl) (fun _ _ _ h => h) (Or.inl ⟨by kernel_rfl, fun w hSw => ?_⟩) hc2 ?_
        · obtain ⟨e1, e2, e3, e4, e5, e6, e7⟩ := hSw; go_simp
        simp only [Act.put, List.getElem_toArray, List.getElem_cons_succ, List.getElem_cons_zero, List.setIfInBounds_toArray, List.set_cons_zero, List.set_cons_succ]
        refine wpAnyH_take (i := 5) (v := .pointer (some ⟨t, 0, none⟩)) rfl (by kernel_rfl) (by kernel_rfl) (by kernel_rfl) (fun _ _ _ h => h) (Or.inl ⟨by kernel_rfl, fun w hSw => ?_⟩) hc2 ?_
        · obtain ⟨e1, e2, e3, e4, e5, e6, e7⟩ := hSw; go_simp
        simp only [Act.put, List.getElem_toArray, List.getElem_cons_succ, List.getElem_cons_zero, List.setIfInBounds_toArray, List.set_cons_zero, List.set_cons_succ]
        refine wpAnyH_take (i := 6) (v := .slice (some ⟨g8, o8, none⟩) n8 c8) rfl (by kernel_rfl) (by kernel_rfl) (by kernel_rfl) (fun _ _ _ h => h) (Or.inl ⟨by kernel_rfl, fun w hSw => ?_⟩) hc2 ?_
        · obtain ⟨e1, e2, e3, e4, e5, e6, e7⟩ := hSw; go_simp
        simp only [Act.put, List.getElem_toArray, List.getElem_cons_succ, List.getElem_cons_zero, List.setIfInBounds_toArray, List.set_cons_zero, List.set_cons_succ]
        refine wpAnyH_take (i := 7) (v := .int .i64 (i : Int)) rfl (by kernel_rfl) (by kernel_rfl) (by kernel_rfl) (fun _ _ _ h => h) (Or.inl ⟨by kernel_rfl, fun w hSw => ?_⟩) hc2 ?_
        · obtain ⟨e1, e2, e3, e4, e5, e6, e7⟩ := hSw; go_simp
        simp only [Act.put, List.getElem_toArray, List.getElem_cons_succ, List.getElem_cons_zero, List.setIfInBounds_toArray, List.set_cons_zero, List.set_cons_succ]
        refine wpAnyH_take (i := 8) (v := .pointer (some ⟨g8, o8 + i * 2, none⟩)) rfl (by kernel_rfl) (by kernel_rfl) (by kernel_rfl) (fun _ _ _ h => h) (Or.inl ⟨by kernel_rfl, fun w hSw => ?_⟩) hc2 ?_
        · obtain ⟨e1, e2, e3, e4, e5, e6, e7⟩ := hSw; go_simp
        simp only [Act.put, List.getElem_toArray, List.getElem_cons_succ, List.getElem_cons_zero, List.setIfInBounds_toArray, List.set_cons_zero, List.set_cons_succ]
        refine wpAnyH_take (i := 9) (v := .agg #[.int .i64 d1, .int .i64 d2]) rfl (by kernel_rfl) (by kernel_rfl) (by kernel_rfl) (fun _ _ _ h => h) (Or.inl ⟨by kernel_rfl, fun w hSw => ?_⟩) hc2 ?_
        · obtain ⟨e1, e2, e3, e4, e5, e6, e7⟩ := hSw; go_simp
        simp only [Act.put, List.getElem_toArray, List.getElem_cons_succ, List.getElem_cons_zero, List.setIfInBounds_toArray, List.set_cons_zero, List.set_cons_succ]
        refine wpAnyH_take (i := 11) (v := .int .i64 (-1)) rfl (by kernel_rfl) (by kernel_rfl) (by kernel_rfl) (fun _ _ _ h => h) (Or.inl ⟨by kernel_rfl, fun w hSw => ?_⟩) hc2 ?_
        · obtain ⟨e1, e2, e3, e4, e5, e6, e7⟩ := hSw; go_simp
        simp only [Act.put, List.getElem_toArray, List.getElem_cons_succ, List.getElem_cons_zero, List.setIfInBounds_toArray, List.set_cons_zero, List.set_cons_succ]
        refine wpAnyH_take (i := 12) (v := .bool false) rfl (by kernel_rfl) (by kernel_rfl) (by kernel_rfl) (fun _ _ _ h => h) (Or.inl ⟨by kernel_rfl, fun w hSw => ?_⟩) hc2 ?_
        · obtain ⟨e1, e2, e3, e4, e5, e6, e7⟩ := hSw; go_simp
        simp only [Act.put, List.getElem_toArray, List.getElem_cons_succ, List.getElem_cons_zero, List.setIfInBounds_toArray, List.set_cons_zero, List.set_cons_succ]
        refine wpAnyH_ready (rs := [10]) (by kernel_rfl) (by simp) ?_
        refine AllReadyH.cons rfl (fun K hK => ?_) AllReadyH.nil
        go_simp
        refine (HTh).mono ?_
        rintro e V4 ⟨rfl, Q4⟩
        have hc4 := HC9.out _ Q4.out.2
        refine hK.out _ _ hc4 (fun _ => ?_)
        clear hK K
        refine wpAnyH_take (i := 13) (v := .bool false) rfl (by kernel_rfl) (by kernel_rfl) (by kernel_rfl) (fun _ _ _ h => h) (Or.inl ⟨by kernel_rfl, fun w hSw => ?_⟩) hc4 ?_
        · obtain ⟨e1, e2, e3, e4, e5, e6, e7⟩ := hSw; go_simp
        simp only [Act.put, List.getElem_toArray, List.getElem_cons_succ, List.getElem_cons_zero, List.setIfInBounds_toArray, List.set_cons_zero, List.set_cons_succ]
        refine wpAnyH_take (i := 14) (v := .bool false) rfl (by kernel_rfl) (by kernel_rfl) (by kernel_rfl) (fun _ _ _ h => h) (Or.inl ⟨by kernel_rfl, fun w hSw => ?_⟩) hc4 ?_
        · obtain ⟨e1, e2, e3, e4, e5, e6, e7⟩ := hSw; go_simp
        simp only [Act.put, List.getElem_toArray, List.getElem_cons_succ, List.getElem_cons_zero, List.setIfInBounds_toArray, List.set_cons_zero, List.set_cons_succ]
        refine wpAnyH_take (i := 15) (v := .bool false) rfl (by kernel_rfl) (by kernel_rfl) (by kernel_rfl) (fun _ _ _ h => h) (Or.inl ⟨by kernel_rfl, fun w hSw => ?_⟩) hc4 ?_
        · obtain ⟨e1, e2, e3, e4, e5, e6, e7⟩ := hSw; go_simp
        simp only [Act.put, List.getElem_toArray, List.getElem_cons_succ, List.getElem_cons_zero, List.setIfInBounds_toArray, List.set_cons_zero, List.set_cons_succ]
        refine wpAnyH_take (i := 16) (v := .pointer (some ⟨t, 0, none⟩)) rfl (by kernel_rfl) (by kernel_rfl) (by kernel_rfl) (fun _ _ _ h => h) (Or.inl ⟨by kernel_rfl, fun w hSw => ?_⟩) hc4 ?_
        · obtain ⟨e1, e2, e3, e4, e5, e6, e7⟩ := hSw; go_simp
        simp only [Act.put, List.getElem_toArray, List.getElem_cons_succ, List.getElem_cons_zero, List.setIfInBounds_toArray, List.set_cons_zero, List.set_cons_succ]
        refine wpAnyH_take (i := 17) (v := .slice (some ⟨g8, o8, none⟩) n8 c8) rfl (by kernel_rfl) (by kernel_rfl) (by kernel_rfl) (fun _ _ _ h => h) (Or.inl ⟨by kernel_rfl, fun w hSw => ?_⟩) hc4 ?_
        · obtain ⟨e1, e2, e3, e4, e5, e6, e7⟩ := hSw; go_simp
        simp only [Act.put, List.getElem_toArray, List.getElem_cons_succ, List.getElem_cons_zero, List.setIfInBounds_toArray, List.set_cons_zero, List.set_cons_succ]
        refine wpAnyH_take (i := 18) (v := .int .i64 (i : Int)) rfl (by kernel_rfl) (by kernel_rfl) (by kernel_rfl) (fun _ _ _ h => h) (Or.inl ⟨by kernel_rfl, fun w hSw => ?_⟩) hc4 ?_
        · obtain ⟨e1, e2, e3, e4, e5, e6, e7⟩ := hSw; go_simp
        simp only [Act.put, List.getElem_toArray, List.getElem_cons_succ, List.getElem_cons_zero, List.setIfInBounds_toArray, List.set_cons_zero, List.set_cons_succ]
        refine wpAnyH_take (i := 19) (v := .pointer (some ⟨g8, o8 + i * 2, none⟩)) rfl (by kernel_rfl) (by kernel_rfl) (by kernel_rfl) (fun _ _ _ h => h) (Or.inl ⟨by kernel_rfl, fun w hSw => ?_⟩) hc4 ?_
        · obtain ⟨e1, e2, e3, e4, e5, e6, e7⟩ := hSw; go_simp
        simp only [Act.put, List.getElem_toArray, List.getElem_cons_succ, List.getElem_cons_zero, List.setIfInBounds_toArray, List.set_cons_zero, List.set_cons_succ]
        refine wpAnyH_take (i := 20) (v := .agg #[.int .i64 d1, .int .i64 d2]) rfl (by kernel_rfl) (by kernel_rfl) (by kernel_rfl) (fun _ _ _ h => h) (Or.inl ⟨by kernel_rfl, fun w hSw => ?_⟩) hc4 ?_
        · obtain ⟨e1, e2, e3, e4, e5, e6, e7⟩ := hSw; go_simp
        simp only [Act.put, List.getElem_toArray, List.getElem_cons_succ, List.getElem_cons_zero, List.setIfInBounds_toArray, List.set_cons_zero, List.set_cons_succ]
        refine wpAnyH_take (i := 22) (v := .agg #[.slice la n lc, .slice sa ns sc, .slice ka nk kc]) rfl (by kernel_rfl) (by kernel_rfl) (by kernel_rfl) (fun _ _ _ h => h) (Or.inl ⟨by kernel_rfl, fun w hSw => ?_⟩) hc4 ?_
        · obtain ⟨e1, e2, e3, e4, e5, e6, e7⟩ := hSw; go_simp
        simp only [Act.put, List.getElem_toArray, List.getElem_cons_succ, List.getElem_cons_zero, List.setIfInBounds_toArray, List.set_cons_zero, List.set_cons_succ]
        refine wpAnyH_take (i := 23) (v := .slice (some ⟨g8, o8, none⟩) n8 c8) rfl (by kernel_rfl) (by kernel_rfl) (by kernel_rfl) (fun _ _ _ h => h) (Or.inl ⟨by kernel_rfl, fun w hSw => ?_⟩) hc4 ?_
        · obtain ⟨e1, e2, e3, e4, e5, e6, e7⟩ := hSw; go_simp
        simp only [Act.put, List.getElem_toArray, List.getElem_cons_succ, List.getElem_cons_zero, List.setIfInBounds_toArray, List.set_cons_zero, List.set_cons_succ]
        refine wpAnyH_take (i := 24) (v := .int .i64 (i : Int)) rfl (by kernel_rfl) (by kernel_rfl) (by kernel_rfl) (fun _ _ _ h => h) (Or.inl ⟨by kernel_rfl, fun w hSw => ?_⟩) hc4 ?_
        · obtain ⟨e1, e2, e3, e4, e5, e6, e7⟩ := hSw; go_simp
        simp only [Act.put, List.getElem_toArray, List.getElem_cons_succ, List.getElem_cons_zero, List.setIfInBounds_toArray, List.set_cons_zero, List.set_cons_succ]
        refine wpAnyH_take (i := 25) (v := .pointer (some ⟨g8, o8 + i * 2, none⟩)) rfl (by kernel_rfl) (by kernel_rfl) (by kernel_rfl) (fun _ _ _ h => h) (Or.inl ⟨by kernel_rfl, fun w hSw => ?_⟩) hc4 ?_
        · obtain ⟨e1, e2, e3, e4, e5, e6, e7⟩ := hSw; go_simp
        simp only [Act.put, List.getElem_toArray, List.getElem_cons_succ, List.getElem_cons_zero, List.setIfInBounds_toArray, List.set_cons_zero, List.set_cons_succ]
        refine wpAnyH_take (i := 26) (v := .agg #[.int .i64 d1, .int .i64 d2]) rfl (by kernel_rfl) (by kernel_rfl) (by kernel_rfl) (fun _ _ _ h => h) (Or.inl ⟨by kernel_rfl, fun w hSw => ?_⟩) hc4 ?_
        · obtain ⟨e1, e2, e3, e4, e5, e6, e7⟩ := hSw; go_simp
        simp only [Act.put, List.getElem_toArray, List.getElem_cons_succ, List.getElem_cons_zero, List.setIfInBounds_toArray, List.set_cons_zero, List.set_cons_succ]
        refine wpAnyH_ready (rs := [21]) (by kernel_rfl) (by simp) ?_
        refine AllReadyH.cons rfl (fun K hK => ?_) AllReadyH.nil
        go_simp
        refine (HPt.out _ Q4.out).mono ?_
        rintro e V5 ⟨b1, m1, e1, rfl, Q5⟩
        have hc5 := HC9.out _ Q5.out.1.2
        refine hK.out _ _ hc5 (fun _ => ?_)
        clear hK K
        refine wpAnyH_ready (rs := [27]) (by kernel_rfl) (by simp) ?_
        refine AllReadyH.cons rfl (fun K hK => ?_) AllReadyH.nil
        go_simp
        refine (HPr.out _ _ _ _ Q5.out).mono ?_
        rintro e V6 ⟨b2, m2, e2, rfl, Q6⟩
        have hc6 := HC9.out _ Q6.out.1.2
        refine hK.out _ _ hc6 (fun _ => ?_)
        clear hK K
        refine wpAnyH_ready (rs := [28]) (by kernel_rfl) (by simp) ?_
        refine AllReadyH.cons rfl (fun K hK => ?_) AllReadyH.nil
        go_simp
        refine (H9S.out _ _ _ _ _ _ _ _ Q6.out).mono ?_
        rintro e V7 ⟨rfl, Q7⟩
        have hc7 := HC9.out _ Q7.out.2
        refine hK.out _ _ hc7 (fun _ => ?_)
        clear hK K
        refine wpAnyH_take (i := 29) (v := .bool false) rfl (by kernel_rfl) (by kernel_rfl) (by kernel_rfl) (fun _ _ _ h => h) (Or.inl ⟨by kernel_rfl, fun w hSw => ?_⟩) hc7 ?_
        · obtain ⟨e1, e2, e3, e4, e5, e6, e7⟩ := hSw; go_simp
        simp only [Act.put, List.getElem_toArray, List.getElem_cons_succ, List.getElem_cons_zero, List.setIfInBounds_toArray, List.set_cons_zero, List.set_cons_succ]
        refine wpAnyH_take (i := 30) (v := .bool false) rfl (by kernel_rfl) (by kernel_rfl) (by kernel_rfl) (fun _ _ _ h => h) (Or.inl ⟨by kernel_rfl, fun w hSw => ?_⟩) hc7 ?_
        · obtain ⟨e1, e2, e3, e4, e5, e6, e7⟩ := hSw; go_simp
        simp only [Act.put, List.getElem_toArray, List.getElem_cons_succ, List.getElem_cons_zero, List.setIfInBounds_toArray, List.set_cons_zero, List.set_cons_succ]
        refine wpAnyH_take (i := 31) (v := .bool false) rfl (by kernel_rfl) (by kernel_rfl) (by kernel_rfl) (fun _ _ _ h => h) (Or.inl ⟨by kernel_rfl, fun w hSw => ?_⟩) hc7 ?_
        · obtain ⟨e1, e2, e3, e4, e5, e6, e7⟩ := hSw; go_simp
        simp only [Act.put, List.getElem_toArray, List.getElem_cons_succ, List.getElem_cons_zero, List.setIfInBounds_toArray, List.set_cons_zero, List.set_cons_succ]
        refine wpAnyH_take (i := 32) (v := .pointer (some ⟨t, 0, none⟩)) rfl (by kernel_rfl) (by kernel_rfl) (by kernel_rfl) (fun _ _ _ h => h) (Or.inl ⟨by kernel_rfl, fun w hSw => ?_⟩) hc7 ?_
        · obtain ⟨e1, e2, e3, e4, e5, e6, e7⟩ := hSw; go_simp
        simp only [Act.put, List.getElem_toArray, List.getElem_cons_succ, List.getElem_cons_zero, List.setIfInBounds_toArray, List.set_cons_zero, List.set_cons_succ]
        refine wpAnyH_take (i := 33) (v := .slice (some ⟨g8, o8, none⟩) n8 c8) rfl (by kernel_rfl) (by kernel_rfl) (by kernel_rfl) (fun _ _ _ h => h) (Or.inl ⟨by kernel_rfl, fun w hSw => ?_⟩) hc7 ?_
        · obtain ⟨e1, e2, e3, e4, e5, e6, e7⟩ := hSw; go_simp
        simp only [Act.put, List.getElem_toArray, List.getElem_cons_succ, List.getElem_cons_zero, List.setIfInBounds_toArray, List.set_cons_zero, List.set_cons_succ]
        refine wpAnyH_take (i := 34) (v := .int .i64 (i : Int)) rfl (by kernel_rfl) (by kernel_rfl) (by kernel_rfl) (fun _ _ _ h => h) (Or.inl ⟨by kernel_rfl, fun w hSw => ?_⟩) hc7 ?_
        · obtain ⟨e1, e2, e3, e4, e5, e6, e7⟩ := hSw; go_simp
        simp only [Act.put, List.getElem_toArray, List.getElem_cons_succ, List.getElem_cons_zero, List.setIfInBounds_toArray, List.set_cons_zero, List.set_cons_succ]
        refine wpAnyH_take (i := 35) (v := .pointer (some ⟨g8, o8 + i * 2, none⟩)) rfl (by kernel_rfl) (by kernel_rfl) (by kernel_rfl) (fun _ _ _ h => h) (Or.inl ⟨by kernel_rfl, fun w hSw => ?_⟩) hc7 ?_
        · obtain ⟨e1, e2, e3, e4, e5, e6, e7⟩ := hSw; go_simp
        simp only [Act.put, List.getElem_toArray, List.getElem_cons_succ, List.getElem_cons_zero, List.setIfInBounds_toArray, List.set_cons_zero, List.set_cons_succ]
        refine wpAnyH_take (i := 36) (v := .agg #[.int .i64 d1, .int .i64 d2]) rfl (by kernel_rfl) (by kernel_rfl) (by kernel_rfl) (fun _ _ _ h => h) (Or.inl ⟨by kernel_rfl, fun w hSw => ?_⟩) hc7 ?_
        · obtain ⟨e1, e2, e3, e4, e5, e6, e7⟩ := hSw; go_simp
        simp only [Act.put, List.getElem_toArray, List.getElem_cons_succ, List.getElem_cons_zero, List.setIfInBounds_toArray, List.set_cons_zero, List.set_cons_succ]
        refine wpAnyH_take (i := 38) (v := .agg #[.slice la n lc, .slice sa ns sc, .slice ka nk kc]) rfl (by kernel_rfl) (by kernel_rfl) (by kernel_rfl) (fun _ _ _ h => h) (Or.inl ⟨by kernel_rfl, fun w hSw => ?_⟩) hc7 ?_
        · obtain ⟨e1, e2, e3, e4, e5, e6, e7⟩ := hSw; go_simp
        simp only [Act.put, List.getElem_toArray, List.getElem_cons_succ, List.getElem_cons_zero, List.setIfInBounds_toArray, List.set_cons_zero, List.set_cons_succ]
        refine wpAnyH_take (i := 39) (v := .slice (some ⟨g8, o8, none⟩) n8 c8) rfl (by kernel_rfl) (by kernel_rfl) (by kernel_rfl) (fun _ _ _ h => h) (Or.inl ⟨by kernel_rfl, fun w hSw => ?_⟩) hc7 ?_
        · obtain ⟨e1, e2, e3, e4, e5, e6, e7⟩ := hSw; go_simp
        simp only [Act.put, List.getElem_toArray, List.getElem_cons_succ, List.getElem_cons_zero, List.setIfInBounds_toArray, List.set_cons_zero, List.set_cons_succ]
        refine wpAnyH_take (i := 40) (v := .int .i64 (i : Int)) rfl (by kernel_rfl) (by kernel_rfl) (by kernel_rfl) (fun _ _ _ h => h) (Or.inl ⟨by kernel_rfl, fun w hSw => ?_⟩) hc7 ?_
        · obtain ⟨e1, e2, e3, e4, e5, e6, e7⟩ := hSw; go_simp
        simp only [Act.put, List.getElem_toArray, List.getElem_cons_succ, List.getElem_cons_zero, List.setIfInBounds_toArray, List.set_cons_zero, List.set_cons_succ]
        refine wpAnyH_take (i := 41) (v := .pointer (some ⟨g8, o8 + i * 2, none⟩)) rfl (by kernel_rfl) (by kernel_rfl) (by kernel_rfl) (fun _ _ _ h => h) (Or.inl ⟨by kernel_rfl, fun w hSw => ?_⟩) hc7 ?_
        · obtain ⟨e1, e2, e3, e4, e5, e6, e7⟩ := hSw; go_simp
        simp only [Act.put, List.getElem_toArray, List.getElem_cons_succ, List.getElem_cons_zero, List.setIfInBounds_toArray, List.set_cons_zero, List.set_cons_succ]
        refine wpAnyH_take (i := 42) (v := .agg #[.int .i64 d1, .int .i64 d2]) rfl (by kernel_rfl) (by kernel_rfl) (by kernel_rfl) (fun _ _ _ h => h) (Or.inl ⟨by kernel_rfl, fun w hSw => ?_⟩) hc7 ?_
        · obtain ⟨e1, e2, e3, e4, e5, e6, e7⟩ := hSw; go_simp
        simp only [Act.put, List.getElem_toArray, List.getElem_cons_succ, List.getElem_cons_zero, List.setIfInBounds_toArray, List.set_cons_zero, List.set_cons_succ]
        refine wpAnyH_ready (rs := [37]) (by kernel_rfl) (by simp) ?_
        refine AllReadyH.cons rfl (fun K hK => ?_) AllReadyH.nil
        go_simp
        refine (H9K.out (d1, d2) HDd.out _ Q7.out).mono ?_
        rintro e V8 ⟨b3, m3, e3, rfl, Q8⟩
        have hc8 := HC9.out _ Q8.out.1.2
        refine hK.out _ _ hc8 (fun _ => ?_)
        clear hK K
        refine wpAnyH_ready (rs := [43]) (by kernel_rfl) (by simp) ?_
        refine AllReadyH.cons rfl (fun K hK => ?_) AllReadyH.nil
        go_simp
        refine (H9Kr.out (d1, d2) _ _ _ _ Q8.out).mono ?_
        rintro e V9 ⟨b4, m4, e4, rfl, Q9⟩
        have hc9 := HC9.out _ Q9.out.1.2
        refine hK.out _ _ hc9 (fun _ => ?_)
        clear hK K
        refine wpAnyH_ready (rs := [44]) (by kernel_rfl) (by simp) ?_
        refine AllReadyH.cons rfl (fun K hK => ?_) AllReadyH.nil
        go_simp
        refine (H9S.out _ _ _ _ _ _ _ _ Q9.out).mono ?_
        rintro e Va ⟨rfl, Qa⟩
        have hca := HC9.out _ Qa.out.2
        refine hK.out _ _ hca (fun _ => ?_)
        clear hK K
        refine wpAnyH_take (i := 45) (v := .bool false) rfl (by kernel_rfl) (by kernel_rfl) (by kernel_rfl) (fun _ _ _ h => h) (Or.inl ⟨by kernel_rfl, fun w hSw => ?_⟩) hca ?_
        · obtain ⟨e1, e2, e3, e4, e5, e6, e7⟩ := hSw; go_simp
        simp only [Act.put, List.getElem_toArray, List.getElem_cons_succ, List.getElem_cons_zero, List.setIfInBounds_toArray, List.set_cons_zero, List.set_cons_succ]
        refine wpAnyH_take (i := 46) (v := .bool false) rfl (by kernel_rfl) (by kernel_rfl) (by kernel_rfl) (fun _ _ _ h => h) (Or.inl ⟨by kernel_rfl, fun w hSw => ?_⟩) hca ?_
        · obtain ⟨e1, e2, e3, e4, e5, e6, e7⟩ := hSw; go_simp
        simp only [Act.put, List.getElem_toArray, List.getElem_cons_succ, List.getElem_cons_zero, List.setIfInBounds_toArray, List.set_cons_zero, List.set_cons_succ]
        refine wpAnyH_done (by kernel_rfl) ?_ _
        clear HTh hc2 hc4 hc5 hc6 hc7 hc8 hc9 hca
        have C0 : ∀ mm, (Va.drewN mm).cell? ⟨pb, 0, none⟩ = some (.int .i64 0) := fun mm => by have := HPB.out Va Qa.out.2; show Va.cell? _ = _; simp [World.cell?, this]
        have C1 : ∀ mm, (Va.drewN mm).cell? ⟨pb, 1, none⟩ = some (.int .i64 0) := fun mm => by have := HPB.out Va Qa.out.2; show Va.cell? _ = _; simp [World.cell?, this]
        have C2 : ∀ mm, (Va.drewN mm).cell? ⟨w.heap.size, 1, none⟩ = some (.slice sa ns sc) := fun mm => (HC9.out Va Qa.out.2).2.1

        go_wp2_with fail
        go_quiet (fail)
        go_wp2_with fail
        go_roundw
        case rel => exact ⟨i + 1, by have := HIL.out; omega, by go_num, hid (by
          have hb := ((Far.refl Va).drewN nq).below
          exact ⟨(Qa.out.1.below hb).mono (fun j hj => by rw [HP9.out]; exact Or.inl hj), HK9.out _ (Qa.out.2.trans (KP.below hb Qa.out.1.lt))⟩)⟩
        case measure => have := HIL.out; simp [intOf]; omega
      · skip
        obtain ⟨kn, x, hx, hs0, hxb, hl0⟩ := hcase
        obtain ⟨xb, ⟨p1, p2⟩, pk⟩ := x
        have HLK : Hid (lk (run l) (d1, d2) = some ((p1, p2), pk)) := hid hl0
        have HPa : Hid (∀ V, (TP V t l P8 ∧ KP P8 W8 V) → Calls Try.prog 16 #[.pointer (some ⟨t, 0, none⟩), .agg #[.int .i64 d1, .int .i64 d2]] V fun e V' => e = .returned (.tuple #[.agg #[.int .i64 p1, .int .i64 p2], .string pk, .bool true]) ∧ Hid (TP V' t l P8 ∧ KP P8 W8 V')) := hid (fun V h => (parent_tp (d1, d2) h.1 HDd.out).mono (fun e V' g => by
          rw [hl0] at g
          exact ⟨g.1, hid ⟨g.2.1, h.2.trans g.2.2⟩⟩))
        have HAt : Calls Try.prog 34 #[.agg #[.slice la n lc, .slice sa ns sc, .slice ka nk kc], .agg #[.int .i64 d1, .int .i64 d2]] wr.drew fun e V => e = .returned (.int .i64 (kn : Int)) ∧ Hid (TP V t l P8 ∧ KP P8 W8 V) := (HAt0.out (d1, d2) wr.drew ⟨S5.out.1.drew, S5.out.2.drew⟩).mono (fun e V g => ⟨by rw [g.1, hs0], g.2⟩)
        have hkn : kn < ns := by have h1 := (List.getElem?_eq_some_iff.1 hx).1; have h2 := (HR.out W0 (KP.refl _ _)).sp.len; omega
        have hge : decide ((kn : Int) ≥ 0) = true := by simp
        have hlt : decide ((kn : Int) < 0) = false := by simp
        have hknI : (kn : Int) < (ns : Int) := by omega
        have HSA : Hid (∃ gs os, sa = some ⟨gs, os, none⟩ ∧ ∀ V, KP P0 W0 V → V.cell? ⟨gs, os + kn * 5 + 2, none⟩ = some (.int .i64 p1) ∧ V.cell? ⟨gs, os + kn * 5 + 3, none⟩ = some (.int .i64 p2) ∧ V.cell? ⟨gs, os + kn * 5 + 4, none⟩ = some (.string pk)) := hid (by
          obtain ⟨gs, os, e, _⟩ := (HR.out W0 (KP.refl _ _)).sp.at hkn
          refine ⟨gs, os, e, fun V hV => ?_⟩
          obtain ⟨g', o', e', hat⟩ := (HR.out V hV).sp.at hkn
          rw [e] at e'
          cases e'
          rw [(List.getElem?_eq_some_iff.1 hx).2] at hat
          exact ⟨hat.c2, hat.c3, hat.c4⟩)
        obtain ⟨gs, os, rfl, hsa⟩ := HSA.out
        have HSC := hid hsa
        have hnsc : ns ≤ sc := (HR.out W0 (KP.refl _ _)).sp.cap
        clear hl0 hs0 hx hxb hsa
        go_wp2_with fail
        refine wp_region_held_drew (S := fun w' => w'.cell? ⟨w.heap.size, 0, none⟩ = some (.slice la n lc) ∧ w'.cell? ⟨w.heap.size, 1, none⟩ = some (.slice (some ⟨gs, os, none⟩) ns sc) ∧ w'.cell? ⟨w.heap.size, 2, none⟩ = some (.slice ka nk kc) ∧ w'.cell? ⟨w.heap.size + 1, 0, none⟩ = some (.int .i64 o1) ∧ w'.cell? ⟨w.heap.size + 1, 1, none⟩ = some (.int .i64 o2) ∧ w'.cell? ⟨g8, o8 + i * 2, none⟩ = some (.int .i64 d1) ∧ w'.cell? ⟨g8, o8 + i * 2 + 1, none⟩ = some (.int .i64 d2)) hmxo hc0 ?_
        intro _
        refine wpAnyH_take (i := 0) (v := .agg #[.slice la n lc, .slice (some ⟨gs, os, none⟩) ns sc, .slice ka nk kc]) rfl (by kernel_rfl) (by kernel_rfl) (by kernel_rfl) (fun _ _ _ h => h) (Or.inl ⟨by kernel_rfl, fun w hSw => ?_⟩) hc0 ?_
        · obtain ⟨e1, e2, e3, e4, e5, e6, e7⟩ := hSw; go_simp
        simp only [Act.put, List.getElem_toArray, List.getElem_cons_succ, List.getElem_cons_zero, List.setIfInBounds_toArray, List.set_cons_zero, List.set_cons_succ]
        refine wpAnyH_take (i := 1) (v := .slice (some ⟨g8, o8, none⟩) n8 c8) rfl (by kernel_rfl) (by kernel_rfl) (by kernel_rfl) (fun _ _ _ h => h) (Or.inl ⟨by kernel_rfl, fun w hSw => ?_⟩) hc0 ?_
        · obtain ⟨e1, e2, e3, e4, e5, e6, e7⟩ := hSw; go_simp
        simp only [Act.put, List.getElem_toArray, List.getElem_cons_succ, List.getElem_cons_zero, List.setIfInBounds_toArray, List.set_cons_zero, List.set_cons_succ]
        refine wpAnyH_take (i := 2) (v := .int .i64 (i : Int)) rfl (by kernel_rfl) (by kernel_rfl) (by kernel_rfl) (fun _ _ _ h => h) (Or.inl ⟨by kernel_rfl, fun w hSw => ?_⟩) hc0 ?_
        · obtain ⟨e1, e2, e3, e4, e5, e6, e7⟩ := hSw; go_simp
        simp only [Act.put, List.getElem_toArray, List.getElem_cons_succ, List.getElem_cons_zero, List.setIfInBounds_toArray, List.set_cons_zero, List.set_cons_succ]
        refine wpAnyH_take (i := 3) (v := .pointer (some ⟨g8, o8 + i * 2, none⟩)) rfl (by kernel_rfl) (by kernel_rfl) (by kernel_rfl) (fun _ _ _ h => h) (Or.inl ⟨by kernel_rfl, fun w hSw => ?_⟩) hc0 ?_
        · obtain ⟨e1, e2, e3, e4, e5, e6, e7⟩ := hSw; go_simp
        simp only [Act.put, List.getElem_toArray, List.getElem_cons_succ, List.getElem_cons_zero, List.setIfInBounds_toArray, List.set_cons_zero, List.set_cons_succ]
        refine wpAnyH_take (i := 4) (v := .agg #[.int .i64 d1, .int .i64 d2]) rfl (by kernel_rfl) (by kernel_rfl) (by kernel_rfl) (fun _ _ _ h => h) (Or.inl ⟨by kernel_rfl, fun w hSw => ?_⟩) hc0 ?_
        · obtain ⟨e1, e2, e3, e4, e5, e6, e7⟩ := hSw; go_simp
        simp only [Act.put, List.getElem_toArray, List.getElem_cons_succ, List.getElem_cons_zero, List.setIfInBounds_toArray, List.set_cons_zero, List.set_cons_succ]
        refine wpAnyH_ready (rs := [5]) (by kernel_rfl) (by simp) ?_
        refine AllReadyH.cons rfl (fun K hK => ?_) AllReadyH.nil
        go_simp
        refine (HAt).mono ?_
        rintro e V1 ⟨rfl, Q1⟩
        have hc1 := HC8.out _ Q1.out.2
        refine hK.out _ _ hc1 (fun _ => ?_)
        clear hK K
        refine wpAnyH_take (i := 6) (v := .int .i64 (kn : Int)) rfl (by kernel_rfl) (by kernel_rfl) (by kernel_rfl) (fun _ _ _ h => h) (Or.inl ⟨by kernel_rfl, fun w hSw => ?_⟩) hc1 ?_
        · obtain ⟨e1, e2, e3, e4, e5, e6, e7⟩ := hSw; go_simp
        simp only [Act.put, List.getElem_toArray, List.getElem_cons_succ, List.getElem_cons_zero, List.setIfInBounds_toArray, List.set_cons_zero, List.set_cons_succ]
        refine wpAnyH_done (by kernel_rfl) ?_ _
        clear HAt hc0 hc1
        have HPar := HPa.out V1 Q1.out
        obtain ⟨f0, f1, f2, f3, f4, f5, f6⟩ := HC8.out V1 Q1.out.2
        go_upto_region 10 with (go_at_call 16; refine HPar.mono ?_; rintro e V2 ⟨rfl, Q2⟩)
        clear HPar f0 f1 f2 f3 f4 f5 f6
        obtain ⟨X9, hX9⟩ : ∃ X9, X9 = V2.alloc (.cells #[.int .i64 p1, .int .i64 p2] 24) := ⟨_, rfl⟩
        rw [← hX9]
        obtain ⟨pb, hpb⟩ : ∃ pb, pb = V2.heap.size := ⟨_, rfl⟩
        rw [← hpb]
        have hbX : Below V2.heap.size V2 X9 := by rw [hX9]; exact (Below.refl _ V2).alloc (Nat.le_refl _) _
        have hbp : X9.heap[pb]? = some (.cells #[.int .i64 p1, .int .i64 p2] 24 (0, 0)) := by rw [hX9, hpb]; exact World.alloc_heap_new V2 _
        obtain ⟨P9, hP9⟩ : ∃ P9 : Nat → Prop, P9 = (fun j => P8 j ∨ j = pb) := ⟨_, rfl⟩
        have HQ9 : Hid (TP X9 t l P9 ∧ KP P9 X9 X9) := hid ⟨by rw [hP9, hX9, hpb]; exact Q2.out.1.alloc _, KP.refl _ _⟩
        have HK9 : Hid (∀ V, KP P9 X9 V → KP P8 W8 V) := hid (fun V hV => Q2.out.2.trans ((KP.below hbX Q2.out.1.lt).trans (hV.mono (fun j hj => by rw [hP9]; exact Or.inl hj))))
        have HPB : Hid (∀ V, KP P9 X9 V → V.heap[pb]? = some (.cells #[.int .i64 p1, .int .i64 p2] 24 (0, 0))) := hid (fun V hV => (hV.keep pb (by rw [hP9]; exact Or.inr rfl)).trans hbp)
        have HC9 : Hid (∀ V, KP P9 X9 V → (V.cell? ⟨w.heap.size, 0, none⟩ = some (.slice la n lc) ∧ V.cell? ⟨w.heap.size, 1, none⟩ = some (.slice (some ⟨gs, os, none⟩) ns sc) ∧ V.cell? ⟨w.heap.size, 2, none⟩ = some (.slice ka nk kc) ∧ V.cell? ⟨w.heap.size + 1, 0, none⟩ = some (.int .i64 o1) ∧ V.cell? ⟨w.heap.size + 1, 1, none⟩ = some (.int .i64 o2) ∧ V.cell? ⟨g8, o8 + i * 2, none⟩ = some (.int .i64 d1) ∧ V.cell? ⟨g8, o8 + i * 2 + 1, none⟩ = some (.int .i64 d2))) := hid (fun V hV => HC8.out V (HK9.out V hV))
        have HP9 := hid hP9
        have H9R : Hid (∀ V, (TP V t l P9 ∧ KP P9 X9 V) → Calls Try.prog 19 #[] V fun e V' => e = .returned (.agg #[.int .i64 0, .int .i64 (-1)]) ∧ Hid (TP V' t l P9 ∧ KP P9 X9 V')) := hid (fun V h => (root_any V).mono (fun e V' g => ⟨g.1, hid ⟨h.1.below g.2.below, h.2.trans (KP.below g.2.below h.1.lt)⟩⟩))
        have H9X : Hid (∀ V, (TP V t l P9 ∧ KP P9 X9 V) → Calls Try.prog 21 #[] V fun e V' => e = .returned (.agg #[.int .i64 0, .int .i64 (-2)]) ∧ Hid (TP V' t l P9 ∧ KP P9 X9 V')) := hid (fun V h => (trash_any V).mono (fun e V' g => ⟨g.1, hid ⟨h.1.below g.2.below, h.2.trans (KP.below g.2.below h.1.lt)⟩⟩))
        have H9R2 : Hid (∀ (K : List Dt) V a1 n1 c1, ((TP V t l P9 ∧ KP P9 X9 V) ∧ PS V a1 n1 c1 K) → Calls Try.prog 19 #[] V fun e V' => e = .returned (.agg #[.int .i64 0, .int .i64 (-1)]) ∧ Hid ((TP V' t l P9 ∧ KP P9 X9 V') ∧ PS V' a1 n1 c1 K)) := hid (fun K V a1 n1 c1 h => (root_any V).mono (fun e V' g => ⟨g.1, hid ⟨⟨h.1.1.below g.2.below, h.1.2.trans (KP.below g.2.below h.1.1.lt)⟩, h.2.below g.2.below⟩⟩))
        have H9X2 : Hid (∀ (K : List Dt) V a1 n1 c1, ((TP V t l P9 ∧ KP P9 X9 V) ∧ PS V a1 n1 c1 K) → Calls Try.prog 21 #[] V fun e V' => e = .returned (.agg #[.int .i64 0, .int .i64 (-2)]) ∧ Hid ((TP V' t l P9 ∧ KP P9 X9 V') ∧ PS V' a1 n1 c1 K)) := hid (fun K V a1 n1 c1 h => (trash_any V).mono (fun e V' g => ⟨g.1, hid ⟨⟨h.1.1.below g.2.below, h.1.2.trans (KP.below g.2.below h.1.1.lt)⟩, h.2.below g.2.below⟩⟩))
        have H9K : Hid (∀ (d : Dt), Dw d → ∀ V, (TP V t l P9 ∧ KP P9 X9 V) → Calls Try.prog 17 #[.pointer (some ⟨t, 0, none⟩), dv d] V fun e V' => ∃ a1 n1 c1, e = .returned (.slice a1 n1 c1) ∧ Hid ((TP V' t l P9 ∧ KP P9 X9 V') ∧ PS V' a1 n1 c1 (kidB (run l) d))) := hid (fun d hd V h => (kids_tp d h.1 hd).mono (fun e V' g => by
          obtain ⟨a', c', g1, g2, g3, g4⟩ := g
          exact ⟨a', _, c', g1, hid ⟨⟨g3.mono (fun j hj => Or.inl hj), h.2.trans g4⟩, g2⟩⟩))
        have H9Kr : Hid (∀ (d : Dt) V a1 n1 c1, ((TP V t l P9 ∧ KP P9 X9 V) ∧ PS V a1 n1 c1 (kidB (run l) d)) → Calls Try.prog 33 #[.agg #[.slice la n lc, .slice (some ⟨gs, os, none⟩) ns sc, .slice ka nk kc], dv d] V fun e V' => ∃ a2 n2 c2, e = .returned (.slice a2 n2 c2) ∧ Hid ((TP V' t l P9 ∧ KP P9 X9 V') ∧ PS V' a1 n1 c1 (kidB (run l) d) ∧ PS V' a2 n2 c2 (kidB (run l) d))) := hid (fun d V a1 n1 c1 h => (trkids_any la ka n lc nk kc (some ⟨gs, os, none⟩) ns sc (run l) d V (HR.out V (HB8.out V (HK9.out V h.1.2))).sp (HNS.out) HND.out).mono (fun e V' g => by
          obtain ⟨v, g1, g2, g3⟩ := g
          obtain ⟨a', c', rfl, hps⟩ := owned_ps g2 rfl
          exact ⟨a', _, c', g1, hid ⟨⟨h.1.1.below g3, h.1.2.trans (KP.below g3 h.1.1.lt)⟩, h.2.below g3, hps⟩⟩))
        have H9S : Hid (∀ (K : List Dt) V a1 n1 c1 a2 n2 c2, ((TP V t l P9 ∧ KP P9 X9 V) ∧ PS V a1 n1 c1 K ∧ PS V a2 n2 c2 K) → Calls Try.prog 15 #[.slice a1 n1 c1, .slice a2 n2 c2] V fun e V' => e = .returned (.bool true) ∧ Hid (TP V' t l P9 ∧ KP P9 X9 V')) := hid (fun K V a1 n1 c1 a2 n2 c2 h => (fsame_any h.2.1 (ps_sm h.2.1) h.2.2 (ps_sm h.2.2)).mono (fun e V' g => ⟨by rw [g.1, decide_eq_true (rfl : K = K)], hid ⟨h.1.1.below g.2, h.1.2.trans (KP.below g.2 h.1.1.lt)⟩⟩))
        have HTh : Calls Try.prog 25 #[.pointer (some ⟨t, 0, none⟩), .agg #[.int .i64 d1, .int .i64 d2]] X9.drew fun e V => e = .returned (.bool true) ∧ Hid (TP V t l P9 ∧ KP P9 X9 V) := (there_tp (d1, d2) HQ9.out.1.drew HDd.out).mono (fun e V g => by
          rw [HLK.out] at g
          exact ⟨g.1, hid ⟨g.2.1, (KP.refl P9 X9).drew.trans g.2.2⟩⟩)
        have HPt : Hid (∀ V, (TP V t l P9 ∧ KP P9 X9 V) → Calls Try.prog 20 #[.pointer (some ⟨t, 0, none⟩), .agg #[.int .i64 d1, .int .i64 d2]] V fun e V' => ∃ a1 n1 c1, e = .returned (.slice a1 n1 c1) ∧ Hid ((TP V' t l P9 ∧ KP P9 X9 V') ∧ PS V' a1 n1 c1 (pth (run l) (d1, d2)))) := hid (fun V h => (path_tp (d1, d2) h.1 HDd.out).mono (fun e V' g => by
          obtain ⟨a', c', g1, g2, g3, g4⟩ := g
          exact ⟨a', _, c', g1, hid ⟨⟨g3.mono (fun j hj => Or.inl hj), h.2.trans g4⟩, g2⟩⟩))
        have HPr : Hid (∀ V a1 n1 c1, ((TP V t l P9 ∧ KP P9 X9 V) ∧ PS V a1 n1 c1 (pth (run l) (d1, d2))) → Calls Try.prog 35 #[.agg #[.slice la n lc, .slice (some ⟨gs, os, none⟩) ns sc, .slice ka nk kc], .agg #[.int .i64 d1, .int .i64 d2]] V fun e V' => ∃ a2 n2 c2, e = .returned (.slice a2 n2 c2) ∧ Hid ((TP V' t l P9 ∧ KP P9 X9 V') ∧ PS V' a1 n1 c1 (pth (run l) (d1, d2)) ∧ PS V' a2 n2 c2 (pth (run l) (d1, d2)))) := hid (fun V a1 n1 c1 h => (trpath_any la ka n lc nk kc (some ⟨gs, os, none⟩) ns sc (run l) (d1, d2) V (HR.out V (HB8.out V (HK9.out V h.1.2))).sp HNS.out).mono (fun e V' g => by
          obtain ⟨v, g1, g2, g3⟩ := g
          obtain ⟨a', c', rfl, hps⟩ := owned_ps g2 rfl
          exact ⟨a', _, c', g1, hid ⟨⟨h.1.1.below g3, h.1.2.trans (KP.below g3 h.1.1.lt)⟩, h.2.below g3, hps⟩⟩))
        have hc2 := HC9.out X9.drew ((KP.refl P9 X9).drew)
        clear hX9 hpb hbX hbp hP9
        go_wp2_with fail
        refine wp_region_held_drew (S := fun w' => w'.cell? ⟨w.heap.size, 0, none⟩ = some (.slice la n lc) ∧ w'.cell? ⟨w.heap.size, 1, none⟩ = some (.slice (some ⟨gs, os, none⟩) ns sc) ∧ w'.cell? ⟨w.heap.size, 2, none⟩ = some (.slice ka nk kc) ∧ w'.cell? ⟨w.heap.size + 1, 0, none⟩ = some (.int .i64 o1) ∧ w'.cell? ⟨w.heap.size + 1, 1, none⟩ = some (.int .i64 o2) ∧ w'.cell? ⟨g8, o8 + i * 2, none⟩ = some (.int .i64 d1) ∧ w'.cell? ⟨g8, o8 + i * 2 + 1, none⟩ = some (.int .i64 d2)) hmxo hc2 ?_
        intro _
        refine wpAnyH_take (i := 0) (v := .bool true) rfl (by kernel_rfl) (by kernel_rfl) (by kernel_rfl) (fun _ _ _ h => h) (Or.inl ⟨by kernel_rfl, fun w hSw => ?_⟩) hc2 ?_
        · obtain ⟨e1, e2, e3, e4, e5, e6, e7⟩ := hSw; go_simp
        simp only [Act.put, List.getElem_toArray, List.getElem_cons_succ, List.getElem_cons_zero, List.setIfInBounds_toArray, List.set_cons_zero, List.set_cons_succ]
        refine wpAnyH_take (i := 1) (v := .int .i64 (kn : Int)) rfl (by kernel_rfl) (by kernel_rfl) (by kernel_rfl) (fun _ _ _ h => h) (Or.inl ⟨by kernel_rfl, fun w hSw => ?_⟩) hc2 ?_
        · obtain ⟨e1, e2, e3, e4, e5, e6, e7⟩ := hSw; go_simp
        simp only [Act.put, List.getElem_toArray, List.getElem_cons_succ, List.getElem_cons_zero, List.setIfInBounds_toArray, List.set_cons_zero, List.set_cons_succ]
        refine wpAnyH_take (i := 2) (v := .bool true) rfl (by kernel_rfl) (by kernel_rfl) (by kernel_rfl) (fun _ _ _ h => h) (Or.inl ⟨by kernel_rfl, fun w hSw => ?_⟩) hc2 ?_
        · obtain ⟨e1, e2, e3, e4, e5, e6, e7⟩ := hSw; go_simp
        simp only [Act.put, List.getElem_toArray, List.getElem_cons_succ, List.getElem_cons_zero, List.setIfInBounds_toArray, List.set_cons_zero, List.set_cons_succ]
        refine wpAnyH_take (i := 3) (v := .bool false) rfl (by kernel_rfl) (by kernel_rfl) (by kernel_rfl) (fun _ _ _ h => h) (Or.inl ⟨by kernel_rfl, fun w hSw => ?_⟩) hc2 ?_
        · obtain ⟨e1, e2, e3, e4, e5, e6, e7⟩ := hSw; go_simp
        simp only [Act.put, List.getElem_toArray, List.getElem_cons_succ, List.getElem_cons_zero, List.setIfInBounds_toArray, List.set_cons_zero, List.set_cons_succ]
        refine wpAnyH_take (i := 4) (v := .bool false) rfl (by kernel_rfl) (by kernel_rfl) (by kernel_rfl) (fun _ _ _ h => h) (Or.inl ⟨by kernel_rfl, fun w hSw => ?_⟩) hc2 ?_
        · obtain ⟨e1, e2, e3, e4, e5, e6, e7⟩ := hSw; go_simp
        simp only [Act.put, List.getElem_toArray, List.getElem_cons_succ, List.getElem_cons_zero, List.setIfInBounds_toArray, List.set_cons_zero, List.set_cons_succ]
        refine wpAnyH_take (i := 5) (v := .pointer (some ⟨t, 0, none⟩)) rfl (by kernel_rfl) (by kernel_rfl) (by kernel_rfl) (fun _ _ _ h => h) (Or.inl ⟨by kernel_rfl, fun w hSw => ?_⟩) hc2 ?_
        · obtain ⟨e1, e2, e3, e4, e5, e6, e7⟩ := hSw; go_simp
        simp only [Act.put, List.getElem_toArray, List.getElem_cons_succ, List.getElem_cons_zero, List.setIfInBounds_toArray, List.set_cons_zero, List.set_cons_succ]
        refine wpAnyH_take (i := 6) (v := .slice (some ⟨g8, o8, none⟩) n8 c8) rfl (by kernel_rfl) (by kernel_rfl) (by kernel_rfl) (fun _ _ _ h => h) (Or.inl ⟨by kernel_rfl, fun w hSw => ?_⟩) hc2 ?_
        · obtain ⟨e1, e2, e3, e4, e5, e6, e7⟩ := hSw; go_simp
        simp only [Act.put, List.getElem_toArray, List.getElem_cons_succ, List.getElem_cons_zero, List.setIfInBounds_toArray, List.set_cons_zero, List.set_cons_succ]
        refine wpAnyH_take (i := 7) (v := .int .i64 (i : Int)) rfl (by kernel_rfl) (by kernel_rfl) (by kernel_rfl) (fun _ _ _ h => h) (Or.inl ⟨by kernel_rfl, fun w hSw => ?_⟩) hc2 ?_
        · obtain ⟨e1, e2, e3, e4, e5, e6, e7⟩ := hSw; go_simp
        simp only [Act.put, List.getElem_toArray, List.getElem_cons_succ, List.getElem_cons_zero, List.setIfInBounds_toArray, List.set_cons_zero, List.set_cons_succ]
        refine wpAnyH_take (i := 8) (v := .pointer (some ⟨g8, o8 + i * 2, none⟩)) rfl (by kernel_rfl) (by kernel_rfl) (by kernel_rfl) (fun _ _ _ h => h) (Or.inl ⟨by kernel_rfl, fun w hSw => ?_⟩) hc2 ?_
        · obtain ⟨e1, e2, e3, e4, e5, e6, e7⟩ := hSw; go_simp
        simp only [Act.put, List.getElem_toArray, List.getElem_cons_succ, List.getElem_cons_zero, List.setIfInBounds_toArray, List.set_cons_zero, List.set_cons_succ]
        refine wpAnyH_take (i := 9) (v := .agg #[.int .i64 d1, .int .i64 d2]) rfl (by kernel_rfl) (by kernel_rfl) (by kernel_rfl) (fun _ _ _ h => h) (Or.inl ⟨by kernel_rfl, fun w hSw => ?_⟩) hc2 ?_
        · obtain ⟨e1, e2, e3, e4, e5, e6, e7⟩ := hSw; go_simp
        simp only [Act.put, List.getElem_toArray, List.getElem_cons_succ, List.getElem_cons_zero, List.setIfInBounds_toArray, List.set_cons_zero, List.set_cons_succ]
        refine wpAnyH_take (i := 11) (v := .int .i64 (kn : Int)) rfl (by kernel_rfl) (by kernel_rfl) (by kernel_rfl) (fun _ _ _ h => h) (Or.inl ⟨by kernel_rfl, fun w hSw => ?_⟩) hc2 ?_
        · obtain ⟨e1, e2, e3, e4, e5, e6, e7⟩ := hSw; go_simp
        simp only [Act.put, List.getElem_toArray, List.getElem_cons_succ, List.getElem_cons_zero, List.setIfInBounds_toArray, List.set_cons_zero, List.set_cons_succ]
        refine wpAnyH_take (i := 12) (v := .bool true) rfl (by kernel_rfl) (by kernel_rfl) (by kernel_rfl) (fun _ _ _ h => h) (Or.inl ⟨by kernel_rfl, fun w hSw => ?_⟩) hc2 ?_
        · obtain ⟨e1, e2, e3, e4, e5, e6, e7⟩ := hSw; go_simp
        simp only [Act.put, List.getElem_toArray, List.getElem_cons_succ, List.getElem_cons_zero, List.setIfInBounds_toArray, List.set_cons_zero, List.set_cons_succ]
        refine wpAnyH_ready (rs := [10]) (by kernel_rfl) (by simp) ?_
        refine AllReadyH.cons rfl (fun K hK => ?_) AllReadyH.nil
        go_simp
        refine (HTh).mono ?_
        rintro e V4 ⟨rfl, Q4⟩
        have hc4 := HC9.out _ Q4.out.2
        refine hK.out _ _ hc4 (fun _ => ?_)
        clear hK K
        refine wpAnyH_take (i := 13) (v := .bool false) rfl (by kernel_rfl) (by kernel_rfl) (by kernel_rfl) (fun _ _ _ h => h) (Or.inl ⟨by kernel_rfl, fun w hSw => ?_⟩) hc4 ?_
        · obtain ⟨e1, e2, e3, e4, e5, e6, e7⟩ := hSw; go_simp
        simp only [Act.put, List.getElem_toArray, List.getElem_cons_succ, List.getElem_cons_zero, List.setIfInBounds_toArray, List.set_cons_zero, List.set_cons_succ]
        refine wpAnyH_take (i := 14) (v := .bool false) rfl (by kernel_rfl) (by kernel_rfl) (by kernel_rfl) (fun _ _ _ h => h) (Or.inl ⟨by kernel_rfl, fun w hSw => ?_⟩) hc4 ?_
        · obtain ⟨e1, e2, e3, e4, e5, e6, e7⟩ := hSw; go_simp
        simp only [Act.put, List.getElem_toArray, List.getElem_cons_succ, List.getElem_cons_zero, List.setIfInBounds_toArray, List.set_cons_zero, List.set_cons_succ]
        refine wpAnyH_take (i := 15) (v := .bool false) rfl (by kernel_rfl) (by kernel_rfl) (by kernel_rfl) (fun _ _ _ h => h) (Or.inl ⟨by kernel_rfl, fun w hSw => ?_⟩) hc4 ?_
        · obtain ⟨e1, e2, e3, e4, e5, e6, e7⟩ := hSw; go_simp
        simp only [Act.put, List.getElem_toArray, List.getElem_cons_succ, List.getElem_cons_zero, List.setIfInBounds_toArray, List.set_cons_zero, List.set_cons_succ]
        refine wpAnyH_take (i := 16) (v := .pointer (some ⟨t, 0, none⟩)) rfl (by kernel_rfl) (by kernel_rfl) (by kernel_rfl) (fun _ _ _ h => h) (Or.inl ⟨by kernel_rfl, fun w hSw => ?_⟩) hc4 ?_
        · obtain ⟨e1, e2, e3, e4, e5, e6, e7⟩ := hSw; go_simp
        simp only [Act.put, List.getElem_toArray, List.getElem_cons_succ, List.getElem_cons_zero, List.setIfInBounds_toArray, List.set_cons_zero, List.set_cons_succ]
        refine wpAnyH_take (i := 17) (v := .slice (some ⟨g8, o8, none⟩) n8 c8) rfl (by kernel_rfl) (by kernel_rfl) (by kernel_rfl) (fun _ _ _ h => h) (Or.inl ⟨by kernel_rfl, fun w hSw => ?_⟩) hc4 ?_
        · obtain ⟨e1, e2, e3, e4, e5, e6, e7⟩ := hSw; go_simp
        simp only [Act.put, List.getElem_toArray, List.getElem_cons_succ, List.getElem_cons_zero, List.setIfInBounds_toArray, List.set_cons_zero, List.set_cons_succ]
        refine wpAnyH_take (i := 18) (v := .int .i64 (i : Int)) rfl (by kernel_rfl) (by kernel_rfl) (by kernel_rfl) (fun _ _ _ h => h) (Or.inl ⟨by kernel_rfl, fun w hSw => ?_⟩) hc4 ?_
        · obtain ⟨e1, e2, e3, e4, e5, e6, e7⟩ := hSw; go_simp
        simp only [Act.put, List.getElem_toArray, List.getElem_cons_succ, List.getElem_cons_zero, List.setIfInBounds_toArray, List.set_cons_zero, List.set_cons_succ]
        refine wpAnyH_take (i := 19) (v := .pointer (some ⟨g8, o8 + i * 2, none⟩)) rfl (by kernel_rfl) (by kernel_rfl) (by kernel_rfl) (fun _ _ _ h => h) (Or.inl ⟨by kernel_rfl, fun w hSw => ?_⟩) hc4 ?_
        · obtain ⟨e1, e2, e3, e4, e5, e6, e7⟩ := hSw; go_simp
        simp only [Act.put, List.getElem_toArray, List.getElem_cons_succ, List.getElem_cons_zero, List.setIfInBounds_toArray, List.set_cons_zero, List.set_cons_succ]
        refine wpAnyH_take (i := 20) (v := .agg #[.int .i64 d1, .int .i64 d2]) rfl (by kernel_rfl) (by kernel_rfl) (by kernel_rfl) (fun _ _ _ h => h) (Or.inl ⟨by kernel_rfl, fun w hSw => ?_⟩) hc4 ?_
        · obtain ⟨e1, e2, e3, e4, e5, e6, e7⟩ := hSw; go_simp
        simp only [Act.put, List.getElem_toArray, List.getElem_cons_succ, List.getElem_cons_zero, List.setIfInBounds_toArray, List.set_cons_zero, List.set_cons_succ]
        refine wpAnyH_take (i := 22) (v := .agg #[.slice la n lc, .slice (some ⟨gs, os, none⟩) ns sc, .slice ka nk kc]) rfl (by kernel_rfl) (by kernel_rfl) (by kernel_rfl) (fun _ _ _ h => h) (Or.inl ⟨by kernel_rfl, fun w hSw => ?_⟩) hc4 ?_
        · obtain ⟨e1, e2, e3, e4, e5, e6, e7⟩ := hSw; go_simp
        simp only [Act.put, List.getElem_toArray, List.getElem_cons_succ, List.getElem_cons_zero, List.setIfInBounds_toArray, List.set_cons_zero, List.set_cons_succ]
        refine wpAnyH_take (i := 23) (v := .slice (some ⟨g8, o8, none⟩) n8 c8) rfl (by kernel_rfl) (by kernel_rfl) (by kernel_rfl) (fun _ _ _ h => h) (Or.inl ⟨by kernel_rfl, fun w hSw => ?_⟩) hc4 ?_
        · obtain ⟨e1, e2, e3, e4, e5, e6, e7⟩ := hSw; go_simp
        simp only [Act.put, List.getElem_toArray, List.getElem_cons_succ, List.getElem_cons_zero, List.setIfInBounds_toArray, List.set_cons_zero, List.set_cons_succ]
        refine wpAnyH_take (i := 24) (v := .int .i64 (i : Int)) rfl (by kernel_rfl) (by kernel_rfl) (by kernel_rfl) (fun _ _ _ h => h) (Or.inl ⟨by kernel_rfl, fun w hSw => ?_⟩) hc4 ?_
        · obtain ⟨e1, e2, e3, e4, e5, e6, e7⟩ := hSw; go_simp
        simp only [Act.put, List.getElem_toArray, List.getElem_cons_succ, List.getElem_cons_zero, List.setIfInBounds_toArray, List.set_cons_zero, List.set_cons_succ]
        refine wpAnyH_take (i := 25) (v := .pointer (some ⟨g8, o8 + i * 2, none⟩)) rfl (by kernel_rfl) (by kernel_rfl) (by kernel_rfl) (fun _ _ _ h => h) (Or.inl ⟨by kernel_rfl, fun w hSw => ?_⟩) hc4 ?_
        · obtain ⟨e1, e2, e3, e4, e5, e6, e7⟩ := hSw; go_simp
        simp only [Act.put, List.getElem_toArray, List.getElem_cons_succ, List.getElem_cons_zero, List.setIfInBounds_toArray, List.set_cons_zero, List.set_cons_succ]
        refine wpAnyH_take (i := 26) (v := .agg #[.int .i64 d1, .int .i64 d2]) rfl (by kernel_rfl) (by kernel_rfl) (by kernel_rfl) (fun _ _ _ h => h) (Or.inl ⟨by kernel_rfl, fun w hSw => ?_⟩) hc4 ?_
        · obtain ⟨e1, e2, e3, e4, e5, e6, e7⟩ := hSw; go_simp
        simp only [Act.put, List.getElem_toArray, List.getElem_cons_succ, List.getElem_cons_zero, List.setIfInBounds_toArray, List.set_cons_zero, List.set_cons_succ]
        refine wpAnyH_ready (rs := [21]) (by kernel_rfl) (by simp) ?_
        refine AllReadyH.cons rfl (fun K hK => ?_) AllReadyH.nil
        go_simp
        refine (HPt.out _ Q4.out).mono ?_
        rintro e V5 ⟨b1, m1, e1, rfl, Q5⟩
        have hc5 := HC9.out _ Q5.out.1.2
        refine hK.out _ _ hc5 (fun _ => ?_)
        clear hK K
        refine wpAnyH_ready (rs := [27]) (by kernel_rfl) (by simp) ?_
        refine AllReadyH.cons rfl (fun K hK => ?_) AllReadyH.nil
        go_simp
        refine (HPr.out _ _ _ _ Q5.out).mono ?_
        rintro e V6 ⟨b2, m2, e2, rfl, Q6⟩
        have hc6 := HC9.out _ Q6.out.1.2
        refine hK.out _ _ hc6 (fun _ => ?_)
        clear hK K
        refine wpAnyH_ready (rs := [28]) (by kernel_rfl) (by simp) ?_
        refine AllReadyH.cons rfl (fun K hK => ?_) AllReadyH.nil
        go_simp
        refine (H9S.out _ _ _ _ _ _ _ _ Q6.out).mono ?_
        rintro e V7 ⟨rfl, Q7⟩
        have hc7 := HC9.out _ Q7.out.2
        refine hK.out _ _ hc7 (fun _ => ?_)
        clear hK K
        refine wpAnyH_take (i := 29) (v := .bool false) rfl (by kernel_rfl) (by kernel_rfl) (by kernel_rfl) (fun _ _ _ h => h) (Or.inl ⟨by kernel_rfl, fun w hSw => ?_⟩) hc7 ?_
        · obtain ⟨e1, e2, e3, e4, e5, e6, e7⟩ := hSw; go_simp
        simp only [Act.put, List.getElem_toArray, List.getElem_cons_succ, List.getElem_cons_zero, List.setIfInBounds_toArray, List.set_cons_zero, List.set_cons_succ]
        refine wpAnyH_take (i := 30) (v := .bool false) rfl (by kernel_rfl) (by kernel_rfl) (by kernel_rfl) (fun _ _ _ h => h) (Or.inl ⟨by kernel_rfl, fun w hSw => ?_⟩) hc7 ?_
        · obtain ⟨e1, e2, e3, e4, e5, e6, e7⟩ := hSw; go_simp
        simp only [Act.put, List.getElem_toArray, List.getElem_cons_succ, List.getElem_cons_zero, List.setIfInBounds_toArray, List.set_cons_zero, List.set_cons_succ]
        refine wpAnyH_take (i := 31) (v := .bool false) rfl (by kernel_rfl) (by kernel_rfl) (by kernel_rfl) (fun _ _ _ h => h) (Or.inl ⟨by kernel_rfl, fun w hSw => ?_⟩) hc7 ?_
        · obtain ⟨e1, e2, e3, e4, e5, e6, e7⟩ := hSw; go_simp
        simp only [Act.put, List.getElem_toArray, List.getElem_cons_succ, List.getElem_cons_zero, List.setIfInBounds_toArray, List.set_cons_zero, List.set_cons_succ]
        refine wpAnyH_take (i := 32) (v := .pointer (some ⟨t, 0, none⟩)) rfl (by kernel_rfl) (by kernel_rfl) (by kernel_rfl) (fun _ _ _ h => h) (Or.inl ⟨by kernel_rfl, fun w hSw => ?_⟩) hc7 ?_
        · obtain ⟨e1, e2, e3, e4, e5, e6, e7⟩ := hSw; go_simp
        simp only [Act.put, List.getElem_toArray, List.getElem_cons_succ, List.getElem_cons_zero, List.setIfInBounds_toArray, List.set_cons_zero, List.set_cons_succ]
        refine wpAnyH_take (i := 33) (v := .slice (some ⟨g8, o8, none⟩) n8 c8) rfl (by kernel_rfl) (by kernel_rfl) (by kernel_rfl) (fun _ _ _ h => h) (Or.inl ⟨by kernel_rfl, fun w hSw => ?_⟩) hc7 ?_
        · obtain ⟨e1, e2, e3, e4, e5, e6, e7⟩ := hSw; go_simp
        simp only [Act.put, List.getElem_toArray, List.getElem_cons_succ, List.getElem_cons_zero, List.setIfInBounds_toArray, List.set_cons_zero, List.set_cons_succ]
        refine wpAnyH_take (i := 34) (v := .int .i64 (i : Int)) rfl (by kernel_rfl) (by kernel_rfl) (by kernel_rfl) (fun _ _ _ h => h) (Or.inl ⟨by kernel_rfl, fun w hSw => ?_⟩) hc7 ?_
        · obtain ⟨e1, e2, e3, e4, e5, e6, e7⟩ := hSw; go_simp
        simp only [Act.put, List.getElem_toArray, List.getElem_cons_succ, List.getElem_cons_zero, List.setIfInBounds_toArray, List.set_cons_zero, List.set_cons_succ]
        refine wpAnyH_take (i := 35) (v := .pointer (some ⟨g8, o8 + i * 2, none⟩)) rfl (by kernel_rfl) (by kernel_rfl) (by kernel_rfl) (fun _ _ _ h => h) (Or.inl ⟨by kernel_rfl, fun w hSw => ?_⟩) hc7 ?_
        · obtain ⟨e1, e2, e3, e4, e5, e6, e7⟩ := hSw; go_simp
        simp only [Act.put, List.getElem_toArray, List.getElem_cons_succ, List.getElem_cons_zero, List.setIfInBounds_toArray, List.set_cons_zero, List.set_cons_succ]
        refine wpAnyH_take (i := 36) (v := .agg #[.int .i64 d1, .int .i64 d2]) rfl (by kernel_rfl) (by kernel_rfl) (by kernel_rfl) (fun _ _ _ h => h) (Or.inl ⟨by kernel_rfl, fun w hSw => ?_⟩) hc7 ?_
        · obtain ⟨e1, e2, e3, e4, e5, e6, e7⟩ := hSw; go_simp
        simp only [Act.put, List.getElem_toArray, List.getElem_cons_succ, List.getElem_cons_zero, List.setIfInBounds_toArray, List.set_cons_zero, List.set_cons_succ]
        refine wpAnyH_take (i := 38) (v := .agg #[.slice la n lc, .slice (some ⟨gs, os, none⟩) ns sc, .slice ka nk kc]) rfl (by kernel_rfl) (by kernel_rfl) (by kernel_rfl) (fun _ _ _ h => h) (Or.inl ⟨by kernel_rfl, fun w hSw => ?_⟩) hc7 ?_
        · obtain ⟨e1, e2, e3, e4, e5, e6, e7⟩ := hSw; go_simp
        simp only [Act.put, List.getElem_toArray, List.getElem_cons_succ, List.getElem_cons_zero, List.setIfInBounds_toArray, List.set_cons_zero, List.set_cons_succ]
        refine wpAnyH_take (i := 39) (v := .slice (some ⟨g8, o8, none⟩) n8 c8) rfl (by kernel_rfl) (by kernel_rfl) (by kernel_rfl) (fun _ _ _ h => h) (Or.inl ⟨by kernel_rfl, fun w hSw => ?_⟩) hc7 ?_
        · obtain ⟨e1, e2, e3, e4, e5, e6, e7⟩ := hSw; go_simp
        simp only [Act.put, List.getElem_toArray, List.getElem_cons_succ, List.getElem_cons_zero, List.setIfInBounds_toArray, List.set_cons_zero, List.set_cons_succ]
        refine wpAnyH_take (i := 40) (v := .int .i64 (i : Int)) rfl (by kernel_rfl) (by kernel_rfl) (by kernel_rfl) (fun _ _ _ h => h) (Or.inl ⟨by kernel_rfl, fun w hSw => ?_⟩) hc7 ?_
        · obtain ⟨e1, e2, e3, e4, e5, e6, e7⟩ := hSw; go_simp
        simp only [Act.put, List.getElem_toArray, List.getElem_cons_succ, List.getElem_cons_zero, List.setIfInBounds_toArray, List.set_cons_zero, List.set_cons_succ]
        refine wpAnyH_take (i := 41) (v := .pointer (some ⟨g8, o8 + i * 2, none⟩)) rfl (by kernel_rfl) (by kernel_rfl) (by kernel_rfl) (fun _ _ _ h => h) (Or.inl ⟨by kernel_rfl, fun w hSw => ?_⟩) hc7 ?_
        · obtain ⟨e1, e2, e3, e4, e5, e6, e7⟩ := hSw; go_simp
        simp only [Act.put, List.getElem_toArray, List.getElem_cons_succ, List.getElem_cons_zero, List.setIfInBounds_toArray, List.set_cons_zero, List.set_cons_succ]
        refine wpAnyH_take (i := 42) (v := .agg #[.int .i64 d1, .int .i64 d2]) rfl (by kernel_rfl) (by kernel_rfl) (by kernel_rfl) (fun _ _ _ h => h) (Or.inl ⟨by kernel_rfl, fun w hSw => ?_⟩) hc7 ?_
        · obtain ⟨e1, e2, e3, e4, e5, e6, e7⟩ := hSw; go_simp
        simp only [Act.put, List.getElem_toArray, List.getElem_cons_succ, List.getElem_cons_zero, List.setIfInBounds_toArray, List.set_cons_zero, List.set_cons_succ]
        refine wpAnyH_ready (rs := [37]) (by kernel_rfl) (by simp) ?_
        refine AllReadyH.cons rfl (fun K hK => ?_) AllReadyH.nil
        go_simp
        refine (H9K.out (d1, d2) HDd.out _ Q7.out).mono ?_
        rintro e V8 ⟨b3, m3, e3, rfl, Q8⟩
        have hc8 := HC9.out _ Q8.out.1.2
        refine hK.out _ _ hc8 (fun _ => ?_)
        clear hK K
        refine wpAnyH_ready (rs := [43]) (by kernel_rfl) (by simp) ?_
        refine AllReadyH.cons rfl (fun K hK => ?_) AllReadyH.nil
        go_simp
        refine (H9Kr.out (d1, d2) _ _ _ _ Q8.out).mono ?_
        rintro e V9 ⟨b4, m4, e4, rfl, Q9⟩
        have hc9 := HC9.out _ Q9.out.1.2
        refine hK.out _ _ hc9 (fun _ => ?_)
        clear hK K
        refine wpAnyH_ready (rs := [44]) (by kernel_rfl) (by simp) ?_
        refine AllReadyH.cons rfl (fun K hK => ?_) AllReadyH.nil
        go_simp
        refine (H9S.out _ _ _ _ _ _ _ _ Q9.out).mono ?_
        rintro e Va ⟨rfl, Qa⟩
        have hca := HC9.out _ Qa.out.2
        refine hK.out _ _ hca (fun _ => ?_)
        clear hK K
        refine wpAnyH_take (i := 45) (v := .bool false) rfl (by kernel_rfl) (by kernel_rfl) (by kernel_rfl) (fun _ _ _ h => h) (Or.inl ⟨by kernel_rfl, fun w hSw => ?_⟩) hca ?_
        · obtain ⟨e1, e2, e3, e4, e5, e6, e7⟩ := hSw; go_simp
        simp only [Act.put, List.getElem_toArray, List.getElem_cons_succ, List.getElem_cons_zero, List.setIfInBounds_toArray, List.set_cons_zero, List.set_cons_succ]
        refine wpAnyH_take (i := 46) (v := .bool false) rfl (by kernel_rfl) (by kernel_rfl) (by kernel_rfl) (fun _ _ _ h => h) (Or.inl ⟨by kernel_rfl, fun w hSw => ?_⟩) hca ?_
        · obtain ⟨e1, e2, e3, e4, e5, e6, e7⟩ := hSw; go_simp
        simp only [Act.put, List.getElem_toArray, List.getElem_cons_succ, List.getElem_cons_zero, List.setIfInBounds_toArray, List.set_cons_zero, List.set_cons_succ]
        refine wpAnyH_done (by kernel_rfl) ?_ _
        clear HTh hc2 hc4 hc5 hc6 hc7 hc8 hc9 hca
        have C0 : ∀ mm, (Va.drewN mm).cell? ⟨pb, 0, none⟩ = some (.int .i64 p1) := fun mm => by have := HPB.out Va Qa.out.2; show Va.cell? _ = _; simp [World.cell?, this]
        have C1 : ∀ mm, (Va.drewN mm).cell? ⟨pb, 1, none⟩ = some (.int .i64 p2) := fun mm => by have := HPB.out Va Qa.out.2; show Va.cell? _ = _; simp [World.cell?, this]
        have C2 : ∀ mm, (Va.drewN mm).cell? ⟨w.heap.size, 1, none⟩ = some (.slice (some ⟨gs, os, none⟩) ns sc) := fun mm => (HC9.out Va Qa.out.2).2.1
        have C3 : ∀ mm, (Va.drewN mm).cell? ⟨gs, os + kn * 5 + 2, none⟩ = some (.int .i64 p1) := fun mm => (HSC.out Va (HB8.out Va (HK9.out Va Qa.out.2))).1
        have C4 : ∀ mm, (Va.drewN mm).cell? ⟨gs, os + kn * 5 + 3, none⟩ = some (.int .i64 p2) := fun mm => (HSC.out Va (HB8.out Va (HK9.out Va Qa.out.2))).2.1
        have C5 : ∀ mm, (Va.drewN mm).cell? ⟨gs, os + kn * 5 + 4, none⟩ = some (.string pk) := fun mm => (HSC.out Va (HB8.out Va (HK9.out Va Qa.out.2))).2.2
        go_wp2_with fail
        go_quiet (fail)
        go_wp2_with fail
        go_roundw
        case rel => exact ⟨i + 1, by have := HIL.out; omega, by go_num, hid (by
          have hb := ((Far.refl Va).drewN nq).below
          exact ⟨(Qa.out.1.below hb).mono (fun j hj => by rw [HP9.out]; exact Or.inl hj), HK9.out _ (Qa.out.2.trans (KP.below hb Qa.out.1.lt))⟩)⟩
        case measure => have := HIL.out; simp [intOf]; omega
    · have hb1 : decide ((i : Int) < (n8 : Int)) = false := by simp; omega
      have S6 : Hid (TP wr t l P0 ∧ KP P0 W0 wr) := hid ⟨S5.out.1.mono (fun j hj => by rw [HP8.out]; exact Or.inl hj), HB8.out _ S5.out.2⟩
      clear S5
      go_wp2_with fail
      go_loopw [13] (fun iv wr2 => ∃ k : Nat, k ≤ n ∧ iv = .int .i64 k ∧ Hid (TP wr2 t l P0 ∧ KP P0 W0 wr2)) (fun i _ => n - (intOf i).toNat)
      case atStart => exact ⟨0, by omega, rfl, S6⟩
      case round =>
        clear S6
        obtain ⟨k, hk, rfl, S6⟩ := hrel
        obtain ⟨f0, f1, f2, f3, f4⟩ := HC0.out wr S6.out.2
        by_cases hkn : k < n
        · have hb1 : decide ((k : Int) < (n : Int)) = true := by simp [hkn]
          obtain ⟨⟨⟨i1, i2⟩, tm, bb, pp, ky⟩, hm⟩ : ∃ m, l[k]? = some m := ⟨_, List.getElem?_eq_getElem (by have := (HR.out W0 (KP.refl _ _)).mv.len; omega)⟩
          obtain ⟨bb1, bb2⟩ := bb
          obtain ⟨pp1, pp2⟩ := pp
          have hmd : Dw (i1, i2) := (HLG.out.2.1 _ (List.mem_of_getElem? hm)).1
          obtain ⟨g, o, rfl, _, _⟩ := (HR.out W0 (KP.refl _ _)).mv.look hm
          have HCk : Hid (∀ V, KP P0 W0 V → (V.cell? ⟨w.heap.size, 0, none⟩ = some (.slice (some ⟨g, o, none⟩) n lc) ∧ V.cell? ⟨w.heap.size, 1, none⟩ = some (.slice sa ns sc) ∧ V.cell? ⟨w.heap.size, 2, none⟩ = some (.slice ka nk kc) ∧ V.cell? ⟨w.heap.size + 1, 0, none⟩ = some (.int .i64 o1) ∧ V.cell? ⟨w.heap.size + 1, 1, none⟩ = some (.int .i64 o2) ∧ V.cell? ⟨g, o + k * 8, none⟩ = some (.int .i64 i1) ∧ V.cell? ⟨g, o + k * 8 + 1, none⟩ = some (.int .i64 i2))) := hid (fun V hV => by
            obtain ⟨c0, c1, c2, c3, c4⟩ := HC0.out V hV
            obtain ⟨g', o', e', _, hlk⟩ := (HR.out V hV).mv.look hm
            cases e'
            exact ⟨c0, c1, c2, c3, c4, (hlk V rfl).1, (hlk V rfl).2.1⟩)
          have hnlc : n ≤ lc := (HR.out W0 (KP.refl _ _)).mv.cap
          obtain ⟨T3, hT3⟩ : ∃ T3, T3 = tookB l (i1, i2) := ⟨_, rfl⟩
          have hTT : decide (((i1, i2) : Dt) ∈ tkL l) = tookB l ((i1, i2) : Dt) := by
            cases ht : tookB l ((i1, i2) : Dt) with
            | true => exact decide_eq_true ((tkL_mem l _).2 (tookB_iff.1 ht))
            | false => exact decide_eq_false (fun h => by have := tookB_iff.2 ((tkL_mem l _).1 h); rw [ht] at this; cases this)
          have HTo : Calls Try.prog 18 #[.pointer (some ⟨t, 0, none⟩), .agg #[.int .i64 i1, .int .i64 i2]] wr.drew fun e V => e = .returned (.bool T3) ∧ Hid (TP V t l P0 ∧ KP P0 W0 V) := (took_tp (i1, i2) S6.out.1.drew hmd).mono (fun e V g => ⟨by rw [g.1, hT3], hid ⟨g.2.1, S6.out.2.drew.trans g.2.2⟩⟩)
          have HIn : Hid (∀ V, (TP V t l P0 ∧ KP P0 W0 V) → Calls Try.prog 22 #[.slice ka nk kc, .agg #[.int .i64 i1, .int .i64 i2]] V fun e V' => e = .returned (.bool T3) ∧ Hid (TP V' t l P0 ∧ KP P0 W0 V')) := hid (fun V h => (in_any _ _ _ _ (i1, i2) V (HR.out V h.2).tk HNK.out).mono (fun e V' g => ⟨by rw [g.1, hT3, hTT], hid ⟨h.1.below g.2.below, h.2.trans (KP.below g.2.below h.1.lt)⟩⟩))
          have hc0 := HCk.out wr.drew S6.out.2.drew
          clear hm hmd hT3 hTT
          go_wp2_with fail
          refine wp_region_held_drew (S := fun w' => w'.cell? ⟨w.heap.size, 0, none⟩ = some (.slice (some ⟨g, o, none⟩) n lc) ∧ w'.cell? ⟨w.heap.size, 1, none⟩ = some (.slice sa ns sc) ∧ w'.cell? ⟨w.heap.size, 2, none⟩ = some (.slice ka nk kc) ∧ w'.cell? ⟨w.heap.size + 1, 0, none⟩ = some (.int .i64 o1) ∧ w'.cell? ⟨w.heap.size + 1, 1, none⟩ = some (.int .i64 o2) ∧ w'.cell? ⟨g, o + k * 8, none⟩ = some (.int .i64 i1) ∧ w'.cell? ⟨g, o + k * 8 + 1, none⟩ = some (.int .i64 i2)) hmxo hc0 ?_
          intro _
          refine wpAnyH_take (i := 0) (v := .pointer (some ⟨t, 0, none⟩)) rfl (by kernel_rfl) (by kernel_rfl) (by kernel_rfl) (fun _ _ _ h => h) (Or.inl ⟨by kernel_rfl, fun w hSw => ?_⟩) hc0 ?_
          · obtain ⟨e1, e2, e3, e4, e5, e6, e7⟩ := hSw; go_simp
          simp only [Act.put, List.getElem_toArray, List.getElem_cons_succ, List.getElem_cons_zero, List.setIfInBounds_toArray, List.set_cons_zero, List.set_cons_succ]
          refine wpAnyH_take (i := 1) (v := .pointer (some ⟨w.heap.size, 0, none⟩)) rfl (by kernel_rfl) (by kernel_rfl) (by kernel_rfl) (fun _ _ _ h => h) (Or.inl ⟨by kernel_rfl, fun w hSw => ?_⟩) hc0 ?_
          · obtain ⟨e1, e2, e3, e4, e5, e6, e7⟩ := hSw; go_simp
          simp only [Act.put, List.getElem_toArray, List.getElem_cons_succ, List.getElem_cons_zero, List.setIfInBounds_toArray, List.set_cons_zero, List.set_cons_succ]
          refine wpAnyH_take (i := 2) (v := .slice (some ⟨g, o, none⟩) n lc) rfl (by kernel_rfl) (by kernel_rfl) (by kernel_rfl) (fun _ _ _ h => h) (Or.inl ⟨by kernel_rfl, fun w hSw => ?_⟩) hc0 ?_
          · obtain ⟨e1, e2, e3, e4, e5, e6, e7⟩ := hSw; go_simp
          simp only [Act.put, List.getElem_toArray, List.getElem_cons_succ, List.getElem_cons_zero, List.setIfInBounds_toArray, List.set_cons_zero, List.set_cons_succ]
          refine wpAnyH_take (i := 3) (v := .int .i64 (k : Int)) rfl (by kernel_rfl) (by kernel_rfl) (by kernel_rfl) (fun _ _ _ h => h) (Or.inl ⟨by kernel_rfl, fun w hSw => ?_⟩) hc0 ?_
          · obtain ⟨e1, e2, e3, e4, e5, e6, e7⟩ := hSw; go_simp
          simp only [Act.put, List.getElem_toArray, List.getElem_cons_succ, List.getElem_cons_zero, List.setIfInBounds_toArray, List.set_cons_zero, List.set_cons_succ]
          refine wpAnyH_take (i := 4) (v := .pointer (some ⟨g, o + k * 8, none⟩)) rfl (by kernel_rfl) (by kernel_rfl) (by kernel_rfl) (fun _ _ _ h => h) (Or.inl ⟨by kernel_rfl, fun w hSw => ?_⟩) hc0 ?_
          · obtain ⟨e1, e2, e3, e4, e5, e6, e7⟩ := hSw; go_simp
          simp only [Act.put, List.getElem_toArray, List.getElem_cons_succ, List.getElem_cons_zero, List.setIfInBounds_toArray, List.set_cons_zero, List.set_cons_succ]
          refine wpAnyH_take (i := 5) (v := .pointer (some ⟨g, o + k * 8, none⟩)) rfl (by kernel_rfl) (by kernel_rfl) (by kernel_rfl) (fun _ _ _ h => h) (Or.inl ⟨by kernel_rfl, fun w hSw => ?_⟩) hc0 ?_
          · obtain ⟨e1, e2, e3, e4, e5, e6, e7⟩ := hSw; go_simp
          simp only [Act.put, List.getElem_toArray, List.getElem_cons_succ, List.getElem_cons_zero, List.setIfInBounds_toArray, List.set_cons_zero, List.set_cons_succ]
          refine wpAnyH_take (i := 6) (v := .agg #[.int .i64 i1, .int .i64 i2]) rfl (by kernel_rfl) (by kernel_rfl) (by kernel_rfl) (fun _ _ _ h => h) (Or.inl ⟨by kernel_rfl, fun w hSw => ?_⟩) hc0 ?_
          · obtain ⟨e1, e2, e3, e4, e5, e6, e7⟩ := hSw; go_simp
          simp only [Act.put, List.getElem_toArray, List.getElem_cons_succ, List.getElem_cons_zero, List.setIfInBounds_toArray, List.set_cons_zero, List.set_cons_succ]
          refine wpAnyH_take (i := 8) (v := .pointer (some ⟨w.heap.size, 2, none⟩)) rfl (by kernel_rfl) (by kernel_rfl) (by kernel_rfl) (fun _ _ _ h => h) (Or.inl ⟨by kernel_rfl, fun w hSw => ?_⟩) hc0 ?_
          · obtain ⟨e1, e2, e3, e4, e5, e6, e7⟩ := hSw; go_simp
          simp only [Act.put, List.getElem_toArray, List.getElem_cons_succ, List.getElem_cons_zero, List.setIfInBounds_toArray, List.set_cons_zero, List.set_cons_succ]
          refine wpAnyH_take (i := 9) (v := .slice ka nk kc) rfl (by kernel_rfl) (by kernel_rfl) (by kernel_rfl) (fun _ _ _ h => h) (Or.inl ⟨by kernel_rfl, fun w hSw => ?_⟩) hc0 ?_
          · obtain ⟨e1, e2, e3, e4, e5, e6, e7⟩ := hSw; go_simp
          simp only [Act.put, List.getElem_toArray, List.getElem_cons_succ, List.getElem_cons_zero, List.setIfInBounds_toArray, List.set_cons_zero, List.set_cons_succ]
          refine wpAnyH_take (i := 10) (v := .pointer (some ⟨w.heap.size, 0, none⟩)) rfl (by kernel_rfl) (by kernel_rfl) (by kernel_rfl) (fun _ _ _ h => h) (Or.inl ⟨by kernel_rfl, fun w hSw => ?_⟩) hc0 ?_
          · obtain ⟨e1, e2, e3, e4, e5, e6, e7⟩ := hSw; go_simp
          simp only [Act.put, List.getElem_toArray, List.getElem_cons_succ, List.getElem_cons_zero, List.setIfInBounds_toArray, List.set_cons_zero, List.set_cons_succ]
          refine wpAnyH_take (i := 11) (v := .slice (some ⟨g, o, none⟩) n lc) rfl (by kernel_rfl) (by kernel_rfl) (by kernel_rfl) (fun _ _ _ h => h) (Or.inl ⟨by kernel_rfl, fun w hSw => ?_⟩) hc0 ?_
          · obtain ⟨e1, e2, e3, e4, e5, e6, e7⟩ := hSw; go_simp
          simp only [Act.put, List.getElem_toArray, List.getElem_cons_succ, List.getElem_cons_zero, List.setIfInBounds_toArray, List.set_cons_zero, List.set_cons_succ]
          refine wpAnyH_take (i := 12) (v := .int .i64 (k : Int)) rfl (by kernel_rfl) (by kernel_rfl) (by kernel_rfl) (fun _ _ _ h => h) (Or.inl ⟨by kernel_rfl, fun w hSw => ?_⟩) hc0 ?_
          · obtain ⟨e1, e2, e3, e4, e5, e6, e7⟩ := hSw; go_simp
          simp only [Act.put, List.getElem_toArray, List.getElem_cons_succ, List.getElem_cons_zero, List.setIfInBounds_toArray, List.set_cons_zero, List.set_cons_succ]
          refine wpAnyH_take (i := 13) (v := .pointer (some ⟨g, o + k * 8, none⟩)) rfl (by kernel_rfl) (by kernel_rfl) (by kernel_rfl) (fun _ _ _ h => h) (Or.inl ⟨by kernel_rfl, fun w hSw => ?_⟩) hc0 ?_
          · obtain ⟨e1, e2, e3, e4, e5, e6, e7⟩ := hSw; go_simp
          simp only [Act.put, List.getElem_toArray, List.getElem_cons_succ, List.getElem_cons_zero, List.setIfInBounds_toArray, List.set_cons_zero, List.set_cons_succ]
          refine wpAnyH_take (i := 14) (v := .pointer (some ⟨g, o + k * 8, none⟩)) rfl (by kernel_rfl) (by kernel_rfl) (by kernel_rfl) (fun _ _ _ h => h) (Or.inl ⟨by kernel_rfl, fun w hSw => ?_⟩) hc0 ?_
          · obtain ⟨e1, e2, e3, e4, e5, e6, e7⟩ := hSw; go_simp
          simp only [Act.put, List.getElem_toArray, List.getElem_cons_succ, List.getElem_cons_zero, List.setIfInBounds_toArray, List.set_cons_zero, List.set_cons_succ]
          refine wpAnyH_take (i := 15) (v := .agg #[.int .i64 i1, .int .i64 i2]) rfl (by kernel_rfl) (by kernel_rfl) (by kernel_rfl) (fun _ _ _ h => h) (Or.inl ⟨by kernel_rfl, fun w hSw => ?_⟩) hc0 ?_
          · obtain ⟨e1, e2, e3, e4, e5, e6, e7⟩ := hSw; go_simp
          simp only [Act.put, List.getElem_toArray, List.getElem_cons_succ, List.getElem_cons_zero, List.setIfInBounds_toArray, List.set_cons_zero, List.set_cons_succ]
          refine wpAnyH_ready (rs := [7]) (by kernel_rfl) (by simp) ?_
          refine AllReadyH.cons rfl (fun K hK => ?_) AllReadyH.nil
          go_simp
          refine (HTo).mono ?_
          rintro e V1 ⟨rfl, Q1⟩
          have hc1 := HCk.out _ Q1.out.2
          refine hK.out _ _ hc1 (fun _ => ?_)
          clear hK K
          refine wpAnyH_ready (rs := [16]) (by kernel_rfl) (by simp) ?_
          refine AllReadyH.cons rfl (fun K hK => ?_) AllReadyH.nil
          go_simp
          refine (HIn.out _ Q1.out).mono ?_
          rintro e V2 ⟨rfl, Q2⟩
          have hc2 := HCk.out _ Q2.out.2
          refine hK.out _ _ hc2 (fun _ => ?_)
          clear hK K
          refine wpAnyH_take (i := 17) (v := .bool false) rfl (by kernel_rfl) (by kernel_rfl) (by kernel_rfl) (fun _ _ _ h => h) (Or.inl ⟨by kernel_rfl, fun w hSw => ?_⟩) hc2 ?_
          · obtain ⟨e1, e2, e3, e4, e5, e6, e7⟩ := hSw; go_simp
          simp only [Act.put, List.getElem_toArray, List.getElem_cons_succ, List.getElem_cons_zero, List.setIfInBounds_toArray, List.set_cons_zero, List.set_cons_succ]
          refine wpAnyH_done (by kernel_rfl) ?_ _
          clear HTo hc0 hc1 hc2 f0 f1 f2 f3 f4
          go_wp2_with fail
          go_roundw
          case rel => exact ⟨k + 1, by omega, by go_num, Q2⟩
          case measure => simp [intOf]; omega
        · have hb1 : decide ((k : Int) < (n : Int)) = false := by simp; omega
          obtain ⟨T3, hT3⟩ : ∃ T3, T3 = tookB l (o1, o2) := ⟨_, rfl⟩
          have hTT : decide (((o1, o2) : Dt) ∈ tkL l) = tookB l ((o1, o2) : Dt) := by
            cases ht : tookB l ((o1, o2) : Dt) with
            | true => exact decide_eq_true ((tkL_mem l _).2 (tookB_iff.1 ht))
            | false => exact decide_eq_false (fun h => by have := tookB_iff.2 ((tkL_mem l _).1 h); rw [ht] at this; cases this)
          have HIn : Calls Try.prog 22 #[.slice ka nk kc, .agg #[.int .i64 o1, .int .i64 o2]] wr.drew fun e V => e = .returned (.bool T3) ∧ Hid (TP V t l P0 ∧ KP P0 W0 V) := (in_any _ _ _ _ (o1, o2) wr.drew (HR.out wr.drew S6.out.2.drew).tk HNK.out).mono (fun e V g => ⟨by rw [g.1, hT3, hTT], hid ⟨S6.out.1.drew.below g.2.below, S6.out.2.drew.trans (KP.below g.2.below S6.out.1.drew.lt)⟩⟩)
          have HTo : Hid (∀ V, (TP V t l P0 ∧ KP P0 W0 V) → Calls Try.prog 18 #[.pointer (some ⟨t, 0, none⟩), .agg #[.int .i64 o1, .int .i64 o2]] V fun e V' => e = .returned (.bool T3) ∧ Hid (TP V' t l P0 ∧ KP P0 W0 V')) := hid (fun V h => (took_tp (o1, o2) h.1 HDo.out).mono (fun e V' g => ⟨by rw [g.1, hT3], hid ⟨g.2.1, h.2.trans g.2.2⟩⟩))
          have hc0 := HC0.out wr.drew S6.out.2.drew
          clear hT3 hTT
          go_wp2_with fail
          refine wp_region_held_drew (S := fun w' => w'.cell? ⟨w.heap.size, 0, none⟩ = some (.slice la n lc) ∧ w'.cell? ⟨w.heap.size, 1, none⟩ = some (.slice sa ns sc) ∧ w'.cell? ⟨w.heap.size, 2, none⟩ = some (.slice ka nk kc) ∧ w'.cell? ⟨w.heap.size + 1, 0, none⟩ = some (.int .i64 o1) ∧ w'.cell? ⟨w.heap.size + 1, 1, none⟩ = some (.int .i64 o2)) hmxo hc0 ?_
          intro _
          refine wpAnyH_take (i := 0) (v := .pointer (some ⟨w.heap.size, 2, none⟩)) rfl (by kernel_rfl) (by kernel_rfl) (by kernel_rfl) (fun _ _ _ h => h) (Or.inl ⟨by kernel_rfl, fun w hSw => ?_⟩) hc0 ?_
          · obtain ⟨e1, e2, e3, e4, e5⟩ := hSw; go_simp
          simp only [Act.put, List.getElem_toArray, List.getElem_cons_succ, List.getElem_cons_zero, List.setIfInBounds_toArray, List.set_cons_zero, List.set_cons_succ]
          refine wpAnyH_take (i := 1) (v := .slice ka nk kc) rfl (by kernel_rfl) (by kernel_rfl) (by kernel_rfl) (fun _ _ _ h => h) (Or.inl ⟨by kernel_rfl, fun w hSw => ?_⟩) hc0 ?_
          · obtain ⟨e1, e2, e3, e4, e5⟩ := hSw; go_simp
          simp only [Act.put, List.getElem_toArray, List.getElem_cons_succ, List.getElem_cons_zero, List.setIfInBounds_toArray, List.set_cons_zero, List.set_cons_succ]
          refine wpAnyH_take (i := 2) (v := .agg #[.int .i64 o1, .int .i64 o2]) rfl (by kernel_rfl) (by kernel_rfl) (by kernel_rfl) (fun _ _ _ h => h) (Or.inl ⟨by kernel_rfl, fun w hSw => ?_⟩) hc0 ?_
          · obtain ⟨e1, e2, e3, e4, e5⟩ := hSw; go_simp
          simp only [Act.put, List.getElem_toArray, List.getElem_cons_succ, List.getElem_cons_zero, List.setIfInBounds_toArray, List.set_cons_zero, List.set_cons_succ]
          refine wpAnyH_take (i := 4) (v := .pointer (some ⟨t, 0, none⟩)) rfl (by kernel_rfl) (by kernel_rfl) (by kernel_rfl) (fun _ _ _ h => h) (Or.inl ⟨by kernel_rfl, fun w hSw => ?_⟩) hc0 ?_
          · obtain ⟨e1, e2, e3, e4, e5⟩ := hSw; go_simp
          simp only [Act.put, List.getElem_toArray, List.getElem_cons_succ, List.getElem_cons_zero, List.setIfInBounds_toArray, List.set_cons_zero, List.set_cons_succ]
          refine wpAnyH_take (i := 5) (v := .agg #[.int .i64 o1, .int .i64 o2]) rfl (by kernel_rfl) (by kernel_rfl) (by kernel_rfl) (fun _ _ _ h => h) (Or.inl ⟨by kernel_rfl, fun w hSw => ?_⟩) hc0 ?_
          · obtain ⟨e1, e2, e3, e4, e5⟩ := hSw; go_simp
          simp only [Act.put, List.getElem_toArray, List.getElem_cons_succ, List.getElem_cons_zero, List.setIfInBounds_toArray, List.set_cons_zero, List.set_cons_succ]
          refine wpAnyH_ready (rs := [3]) (by kernel_rfl) (by simp) ?_
          refine AllReadyH.cons rfl (fun K hK => ?_) AllReadyH.nil
          go_simp
          refine (HIn).mono ?_
          rintro e V1 ⟨rfl, Q1⟩
          have hc1 := HC0.out _ Q1.out.2
          refine hK.out _ _ hc1 (fun _ => ?_)
          clear hK K
          refine wpAnyH_ready (rs := [6]) (by kernel_rfl) (by simp) ?_
          refine AllReadyH.cons rfl (fun K hK => ?_) AllReadyH.nil
          go_simp
          refine (HTo.out _ Q1.out).mono ?_
          rintro e V2 ⟨rfl, Q2⟩
          have hc2 := HC0.out _ Q2.out.2
          refine hK.out _ _ hc2 (fun _ => ?_)
          clear hK K
          refine wpAnyH_take (i := 7) (v := .bool true) rfl (by kernel_rfl) (by kernel_rfl) (by kernel_rfl) (fun _ _ _ h => h) (Or.inl ⟨by kernel_rfl, fun w hSw => ?_⟩) hc2 ?_
          · obtain ⟨e1, e2, e3, e4, e5⟩ := hSw; go_simp
          simp only [Act.put, List.getElem_toArray, List.getElem_cons_succ, List.getElem_cons_zero, List.setIfInBounds_toArray, List.set_cons_zero, List.set_cons_succ]
          refine wpAnyH_take (i := 8) (v := .bool true) rfl (by kernel_rfl) (by kernel_rfl) (by kernel_rfl) (fun _ _ _ h => h) (Or.inl ⟨by kernel_rfl, fun w hSw => ?_⟩) hc2 ?_
          · obtain ⟨e1, e2, e3, e4, e5⟩ := hSw; go_simp
          simp only [Act.put, List.getElem_toArray, List.getElem_cons_succ, List.getElem_cons_zero, List.setIfInBounds_toArray, List.set_cons_zero, List.set_cons_succ]
          refine wpAnyH_done (by kernel_rfl) ?_ _
          clear HIn hc0 hc1 hc2 f0 f1 f2 f3 f4
          go_wp2
          go_ret
          exact ⟨rfl, Q2.out.1.mono (fun j hj => by rw [HP0.out]; exact Or.inl hj), HBw.out.trans (Q2.out.2.mono (fun j hj => by rw [HP0.out]; exact Or.inl hj))⟩
end Go.Proofs.Ytplcohjpchfkkaa
