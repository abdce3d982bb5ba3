/- The first look. -/
import Derived.Test.YtnmdcdphpcpojaaGreatDoorTrAwake
import Derived.BigQuiet
import Derived.Deep.RegionHeld
import Derived.Sort.AtCall
set_option linter.unusedVariables false
set_option linter.unusedSimpArgs false
namespace Go.Proofs.YtnmdcdphpcpojaaGreatDoor
open Go.RowKit

set_option maxRecDepth 100000 in
set_option maxHeartbeats 4000000 in
theorem olawake_any (m : Int) (w : World) (hm : w.cell? ⟨0, 0, none⟩ = some (.int .i64 m)) (h0 : 0 < w.heap.size) : Calls Tryz.prog 9 #[] w fun e w' => e = .returned (.bool true) ∧ Below w.heap.size w w' := by
  have hmxo : Tryz.prog.follows .mixedOrders = true := by kernel_rfl
  have mixed := mixed
  obtain ⟨t, ht⟩ : ∃ t, t = w.heap.size := ⟨_, rfl⟩
  have HN := (new_tp w).mono (R' := fun e w' => e = .returned (.pointer (some ⟨t, 0, none⟩)) ∧ Hid (TP w' t [] (fun j => j < w.heap.size) ∧ Below w.heap.size w w')) (fun e w' h => by rw [ht]; exact ⟨h.1, hid h.2⟩)
  clear ht
  go_enter Tryz.func9, Tryz.ntmps9
  go_upto_region 4 with (go_at_call 27; refine HN.mono ?_; rintro e X ⟨rfl, HX⟩)
  clear HN
  obtain ⟨X2, hX2⟩ : ∃ X2, X2 = (X.alloc (.cells #[.int .i64 1, .int .i64 1] 24)).alloc (.cells #[.int .i64 1, .int .i64 2] 24) := ⟨_, rfl⟩
  rw [← hX2]
  obtain ⟨qa, hqa⟩ : ∃ qa, qa = X.heap.size := ⟨_, rfl⟩
  have hz2 : X2.heap.size = qa + 2 := by rw [hX2, hqa]; simp
  have hb2 : Below X.heap.size X X2 := by rw [hX2]; exact ((Below.refl _ X).alloc (Nat.le_refl _) _).alloc (by simp) _
  have ba : X2.heap[qa]? = some (.cells #[.int .i64 1, .int .i64 1] 24 (0, 0)) := by rw [hX2, hqa]; exact (Below.heap_alloc _ _ _ (by simp)).trans (World.alloc_heap_new X _)
  have bb : X2.heap[qa + 1]? = some (.cells #[.int .i64 1, .int .i64 2] 24 (0, 0)) := by
    rw [hX2, hqa]
    have := World.alloc_heap_new (X.alloc (.cells #[.int .i64 1, .int .i64 1] 24)) (.cells #[.int .i64 1, .int .i64 2] 24)
    rw [World.size_alloc] at this
    exact this
  obtain ⟨Q, hQ⟩ : ∃ Q : Nat → Prop, Q = (fun j => j < w.heap.size ∨ (qa ≤ j ∧ j < qa + 2)) := ⟨_, rfl⟩
  have HC : Hid (∀ V, KP Q X2 V → V.cell? ⟨qa, 0, none⟩ = some (.int .i64 1) ∧ V.cell? ⟨qa, 1, none⟩ = some (.int .i64 1) ∧ V.cell? ⟨qa + 1, 0, none⟩ = some (.int .i64 1) ∧ V.cell? ⟨qa + 1, 1, none⟩ = some (.int .i64 2)) := hid (fun V hV => by
    have e0 := (hV.keep qa (by rw [hQ]; exact Or.inr ⟨by omega, by omega⟩)).trans ba
    have e1 := (hV.keep (qa + 1) (by rw [hQ]; exact Or.inr ⟨by omega, by omega⟩)).trans bb
    exact ⟨by rw [Lib.cell_of_heap e0]; rfl, by rw [Lib.cell_of_heap e0]; rfl, by rw [Lib.cell_of_heap e1]; rfl, by rw [Lib.cell_of_heap e1]; rfl⟩)
  have S2 : Hid (TP X2.drew t [] Q ∧ KP Q X2 X2.drew) := hid ⟨(HX.out.1.turn (V := X2) (Q := Q) hb2.size (fun j hj _ => hb2.block j hj) (fun j hj => by
    rw [hQ] at hj
    rcases hj with hj | hj
    · exact Or.inl hj
    · exact Or.inr ⟨by omega, by omega⟩)).drew, (KP.refl Q X2).drew⟩
  have HE : Hid (∀ V, KP Q X2 V → Below w.heap.size w V) := hid (fun V hV => by
    have k1 : KP (fun j => j < w.heap.size) X2 V := hV.mono (fun j hj => by rw [hQ]; exact Or.inl hj)
    exact HX.out.2.trans ((hb2.mono HX.out.2.size).trans k1.bel))
  have HQ : Hid (∀ j, Q j → j < qa + 2) := hid (fun j hj => by
    rw [hQ] at hj
    rcases hj with hj | hj
    · have := HX.out.2.size; omega
    · omega)
  have HQW : Hid (∀ j, j < w.heap.size → Q j) := hid (fun j hj => by rw [hQ]; exact Or.inl hj)
  have HQA : Hid (Q qa ∧ Q (qa + 1)) := hid (by rw [hQ]; exact ⟨Or.inr ⟨by omega, by omega⟩, Or.inr ⟨by omega, by omega⟩⟩)
  have HRo : Hid (∀ W l, (TP W t l Q ∧ KP Q X2 W) → Calls Tryz.prog 12 #[] W fun e W' => e = .returned (.agg #[.int .i64 0, .int .i64 (-1)]) ∧ Hid (TP W' t l Q ∧ KP Q X2 W')) := hid (fun W l h => (root_any W).mono (fun e W' g => ⟨g.1, hid (tp_far h (fun j hj => hj) g.2)⟩))
  have HM1 : Hid (∀ W, (TP W t [] Q ∧ KP Q X2 W) → Calls Tryz.prog 28 #[.pointer (some ⟨t, 0, none⟩), .agg #[.int .i64 1, .int .i64 1], .int .i64 1, .agg #[.int .i64 1, .int .i64 1], .agg #[.int .i64 0, .int .i64 (-1)], .string ⟨#[110]⟩] W fun e W' => e = .returned (.int .i64 0) ∧ Hid (TP W' t [awA] Q ∧ KP Q X2 W')) := hid (fun W h => by
    have := move_tp awA h.1 ⟨⟨rfl, rfl⟩, ⟨rfl, rfl⟩, ⟨rfl, rfl⟩⟩ (by decide)
    rw [aw_1.1, aw_1.2] at this
    exact this.mono (fun e W' g => ⟨g.1, hid ⟨g.2.1, h.2.trans g.2.2⟩⟩))
  have HM2 : Hid (∀ W, (TP W t [awA] Q ∧ KP Q X2 W) → Calls Tryz.prog 28 #[.pointer (some ⟨t, 0, none⟩), .agg #[.int .i64 1, .int .i64 2], .int .i64 2, .agg #[.int .i64 1, .int .i64 2], .agg #[.int .i64 1, .int .i64 1], .string ⟨#[110]⟩] W fun e W' => e = .returned (.int .i64 0) ∧ Hid (TP W' t [awA, awB] Q ∧ KP Q X2 W')) := hid (fun W h => by
    have := move_tp awB h.1 ⟨⟨rfl, rfl⟩, ⟨rfl, rfl⟩, ⟨rfl, rfl⟩⟩ (by decide)
    rw [aw_2.1, aw_2.2] at this
    exact this.mono (fun e W' g => ⟨g.1, hid ⟨g.2.1, h.2.trans g.2.2⟩⟩))
  have hS0 := HC.out _ S2.out.2
  have HB1 : Hid (qa + 1 = X.heap.size + 1) := hid (by rw [hqa])
  have HQE := hid hqa
  rw [← hqa]
  clear hX2 hQ hz2 hb2 ba bb HX hqa
  refine wp_region_held_drew (S := fun w' => w'.cell? ⟨qa, 0, none⟩ = some (.int .i64 1) ∧ w'.cell? ⟨qa, 1, none⟩ = some (.int .i64 1) ∧ w'.cell? ⟨qa + 1, 0, none⟩ = some (.int .i64 1) ∧ w'.cell? ⟨qa + 1, 1, none⟩ = some (.int .i64 2)) hmxo hS0 ?_
  intro _
  refine wpAnyH_take (i := 0) (v := .pointer (some ⟨t, 0, none⟩)) rfl (by kernel_rfl) (by kernel_rfl) (by kernel_rfl) (fun _ _ _ h => h) (Or.inl ⟨by kernel_rfl, fun w hSw => ?_⟩) hS0 ?_
  · obtain ⟨e1, e2, e3, e4⟩ := hSw; go_simp
  simp only [Act.put, List.getElem_toArray, List.getElem_cons_succ, List.getElem_cons_zero, List.setIfInBounds_toArray, List.set_cons_zero, List.set_cons_succ]
  refine wpAnyH_take (i := 1) (v := .agg #[.int .i64 1, .int .i64 1]) rfl (by kernel_rfl) (by kernel_rfl) (by kernel_rfl) (fun _ _ _ h => h) (Or.inl ⟨by kernel_rfl, fun w hSw => ?_⟩) hS0 ?_
  · obtain ⟨e1, e2, e3, e4⟩ := hSw; go_simp
  simp only [Act.put, List.getElem_toArray, List.getElem_cons_succ, List.getElem_cons_zero, List.setIfInBounds_toArray, List.set_cons_zero, List.set_cons_succ]
  refine wpAnyH_take (i := 2) (v := .agg #[.int .i64 1, .int .i64 1]) rfl (by kernel_rfl) (by kernel_rfl) (by kernel_rfl) (fun _ _ _ h => h) (Or.inl ⟨by kernel_rfl, fun w hSw => ?_⟩) hS0 ?_
  · obtain ⟨e1, e2, e3, e4⟩ := hSw; go_simp
  simp only [Act.put, List.getElem_toArray, List.getElem_cons_succ, List.getElem_cons_zero, List.setIfInBounds_toArray, List.set_cons_zero, List.set_cons_succ]
  refine wpAnyH_ready (rs := [3]) (by kernel_rfl) (by simp) ?_
  refine AllReadyH.cons rfl (fun K hK => ?_) AllReadyH.nil
  go_simp
  refine (HRo.out _ _ S2.out).mono ?_
  rintro e Y1 ⟨rfl, S3⟩
  have hS3 := HC.out _ S3.out.2
  refine hK.out _ _ hS3 (fun _ => ?_)
  clear hK K
  refine wpAnyH_ready (rs := [4]) (by kernel_rfl) (by simp) ?_
  refine AllReadyH.cons rfl (fun K hK => ?_) AllReadyH.nil
  go_simp
  refine (HM1.out _ S3.out).mono ?_
  rintro e Y2 ⟨rfl, S4⟩
  have hS4 := HC.out _ S4.out.2
  refine hK.out _ _ hS4 (fun _ => ?_)
  clear hK K
  refine wpAnyH_done (by kernel_rfl) ?_ _
  clear HRo HM1 hS0 hS3 S2 S3
  obtain ⟨e1, e2, e3, e4⟩ := hS4
  go_upto_region 6 with (go_at_call 28; refine (HM2.out _ S4.out).mono ?_; rintro e Y3 ⟨rfl, S5⟩)
  clear HM2 S4 e1 e2 e3 e4
  obtain ⟨x0, hx0⟩ : ∃ x0, x0 = Y3.heap.size := ⟨_, rfl⟩
  have HT1 : Calls Tryz.prog 25 #[] Y3 fun e Y4 => e = .returned (.pointer (some ⟨x0, 0, none⟩)) ∧ Hid (TM Y4 x0 [] ∧ Below Y3.heap.size Y3 Y4) := (new_tm Y3).mono (fun e Y4 g => by rw [hx0]; exact ⟨g.1, hid g.2⟩)
  have HT2 : ∀ Y4, (TM Y4 x0 [] ∧ Below Y3.heap.size Y3 Y4) → Calls Tryz.prog 26 #[.pointer (some ⟨x0, 0, none⟩), .agg #[.int .i64 1, .int .i64 3], .agg #[.int .i64 0, .int .i64 0], .int .i64 1, .int .i64 121] Y4 fun e Y5 => e = .returned (.int .i64 0) ∧ Hid (TM Y5 x0 oaT ∧ FrW x0 Y4 Y5 ∧ Below Y3.heap.size Y3 Y4) := fun Y4 h => by
    have := insert_tm h.1 (by decide) (1, 3) (0, 0) 1 121 ⟨rfl, rfl⟩ ⟨rfl, rfl⟩ ⟨by decide, by decide⟩
    rw [oa1] at this
    exact this.mono (fun e Y5 g => ⟨g.1, hid ⟨g.2.1, g.2.2, h.2⟩⟩)
  have HX0 := hid hx0
  clear hx0
  go_upto_region 8 with (first
    | (go_at_call 25; refine HT1.mono ?_; rintro e Y4 ⟨rfl, S6⟩)
    | (go_at_call 26; refine (HT2 _ S6.out).mono ?_; rintro e Y5 ⟨rfl, S7⟩))
  clear HT1 HT2 S6
  obtain ⟨R, hR⟩ : ∃ R : Nat → Prop, R = (fun j => Q j ∨ (x0 ≤ j ∧ j < Y5.heap.size)) := ⟨_, rfl⟩
  have hold : ∀ j, j < x0 → Y5.heap[j]? = Y3.heap[j]? := fun j hj => by
    obtain ⟨_, f1, f2⟩ := S7.out
    have h3 := HX0.out
    exact (f1.block j (by have := f2.size; omega) (Or.inl hj)).trans (f2.block j (by omega))
  have hz5 : x0 ≤ Y5.heap.size := by
    obtain ⟨_, f1, f2⟩ := S7.out
    have h3 := HX0.out
    have := f1.size
    have := f2.size
    omega
  have hT5 : TP Y5 t [awA, awB] R := S5.out.1.turn (by rw [← HX0.out]; exact hz5) (fun j hj _ => hold j (by rw [HX0.out]; exact hj)) (fun j hj => by
    rw [hR] at hj
    rcases hj with hj | hj
    · exact Or.inl hj
    · exact Or.inr ⟨by rw [← HX0.out]; exact hj.1, hj.2⟩)
  have hK35 : KP Q Y3 Y5 := by
    obtain ⟨_, f1, f2⟩ := S7.out
    exact ⟨by rw [← HX0.out]; exact hz5, fun j hj => hold j (by rw [HX0.out]; exact S5.out.1.lt j hj), (Sm.b f2).trans ⟨f1.os, f1.tape, f1.output⟩⟩
  have HKX : Hid (KP Q X2 Y5) := hid (S5.out.2.trans hK35)
  have HRQ : Hid (∀ j, Q j → R j) := hid (fun j hj => by rw [hR]; exact Or.inl hj)
  have HS : Hid (∀ V, KP R Y5 V → V.cell? ⟨qa + 1, 0, none⟩ = some (.int .i64 1) ∧ V.cell? ⟨qa + 1, 1, none⟩ = some (.int .i64 2)) := hid (fun V hV => by
    obtain ⟨_, _, e3, e4⟩ := HC.out V (HKX.out.trans (hV.mono HRQ.out))
    exact ⟨e3, e4⟩)
  have HTM : Hid (∀ V, KP R Y5 V → TM V x0 oaT) := hid (fun V hV => S7.out.1.held (fun j h1 h2 => hV.keep j (by rw [hR]; exact Or.inr ⟨h1, h2⟩)))
  have HRl : Hid (∀ j, R j → j < Y5.heap.size) := hid hT5.lt
  have J0 : Hid (TP Y5.drew t [awA, awB] R ∧ KP R Y5 Y5.drew) := hid ⟨hT5.drew, (KP.refl R Y5).drew⟩
  have HRo0 : Hid (∀ V, (TP V t [awA, awB] R ∧ KP R Y5 V) → Calls Tryz.prog 12 #[] V fun e V' => e = .returned (.agg #[.int .i64 0, .int .i64 (-1)]) ∧ (V'.cell? ⟨qa + 1, 0, none⟩ = some (.int .i64 1) ∧ V'.cell? ⟨qa + 1, 1, none⟩ = some (.int .i64 2)) ∧ Hid (TP V' t [awA, awB] R ∧ KP R Y5 V')) := hid (fun V h => (root_any V).mono (fun e V' g => by
    have := tp_far h (fun j hj => hj) g.2
    exact ⟨g.1, HS.out _ this.2, hid this⟩))
  have HRo1 : Hid (∀ V mb n G, (TP V t [awA, awB] (fun j => R j ∨ j = mb) ∧ KP R Y5 V ∧ PMc V mb n G) → Calls Tryz.prog 12 #[] V fun e V' => e = .returned (.agg #[.int .i64 0, .int .i64 (-1)]) ∧ (V'.cell? ⟨qa + 1, 0, none⟩ = some (.int .i64 1) ∧ V'.cell? ⟨qa + 1, 1, none⟩ = some (.int .i64 2)) ∧ Hid (TP V' t [awA, awB] (fun j => R j ∨ j = mb) ∧ KP R Y5 V' ∧ PMc V' mb n G)) := hid (fun V mb n G h => (root_any V).mono (fun e V' g => by
    have := tp_far ⟨h.1, h.2.1⟩ (fun j hj => Or.inl hj) g.2
    exact ⟨g.1, HS.out _ this.2, hid ⟨this.1, this.2, h.2.2.same (g.2.below.block _ h.2.2.lt)⟩⟩))
  have HMk : Hid (∀ V, (TP V t [awA, awB] R ∧ KP R Y5 V) → (TP (V.alloc (.map #[] 0)) t [awA, awB] (fun j => R j ∨ j = V.heap.size) ∧ KP R Y5 (V.alloc (.map #[] 0)) ∧ PMc (V.alloc (.map #[] 0)) V.heap.size 0 (fun _ => none)) ∧ ((V.alloc (.map #[] 0)).cell? ⟨qa + 1, 0, none⟩ = some (.int .i64 1) ∧ (V.alloc (.map #[] 0)).cell? ⟨qa + 1, 1, none⟩ = some (.int .i64 2))) := hid (fun V h => by
    have hk : KP R Y5 (V.alloc (.map #[] 0)) := h.2.trans (KP.below ((Below.refl _ V).alloc (Nat.le_refl _) _) h.1.lt)
    exact ⟨⟨h.1.alloc _, hk, PMc.made V⟩, HS.out _ hk⟩)
  have HIn : Hid (∀ V mb, (TP V t [awA, awB] (fun j => R j ∨ j = mb) ∧ KP R Y5 V ∧ PMc V mb 0 (fun _ => none)) → Y5.heap.size ≤ mb → ∃ V', (Instr.mapUpdate 29 (.map (some mb)) (.agg #[.int .i64 1, .int .i64 2]) (.pointer (some ⟨x0, 0, none⟩))).run Tryz.prog V = .ok () V' ∧ (V'.cell? ⟨qa + 1, 0, none⟩ = some (.int .i64 1) ∧ V'.cell? ⟨qa + 1, 1, none⟩ = some (.int .i64 2)) ∧ Hid (TP V' t [awA, awB] (fun j => R j ∨ j = mb) ∧ KP R Y5 V' ∧ PMc V' mb (0 + 1) (fun e => if e = (1, 2) then some x0 else none))) := hid (fun V mb h hmb => by
    obtain ⟨V', h1, h2, h3⟩ := h.2.2.putT (d := (1, 2)) ⟨rfl, rfl⟩ x0 (by unfold maxLen; omega)
    have hk : KP R V V' := ⟨h3.size, fun j hj => h3.block j (h.1.lt j (Or.inl hj)) (fun e => by cases e; have := HRl.out _ hj; omega), Sm.g h3⟩
    have hk2 := h.2.1.trans hk
    refine ⟨V', h1, HS.out _ hk2, hid ⟨h.1.turn h3.size (fun j hj hn => h3.block j hj (fun e => by cases e; exact hn (Or.inr rfl))) (fun j hj => Or.inl hj), hk2, h2⟩⟩)
  have HUn : Hid (∀ V mb, (TP V t [awA, awB] (fun j => R j ∨ j = mb) ∧ KP R Y5 V ∧ PMc V mb (0 + 1) (fun e => if e = (1, 2) then some x0 else none)) → Calls Tryz.prog 15 #[.pointer (some ⟨t, 0, none⟩), .map (some mb), .agg #[.int .i64 0, .int .i64 (-1)]] V fun e V' => ∃ a c, e = .returned (.slice a 2 c) ∧ (V'.cell? ⟨qa + 1, 0, none⟩ = some (.int .i64 1) ∧ V'.cell? ⟨qa + 1, 1, none⟩ = some (.int .i64 2)) ∧ Hid (LnS V' a 2 c oaL ∧ Below w.heap.size w V')) := hid (fun V mb h => by
    have hx : XP (fun j => R j ∨ j = mb) V (.map (some mb)) oaσ := XP.of h.2.2 (Or.inr rfl) (T := fun _ => oaT) (fun d g hd hg => by
      by_cases e : d = (1, 2)
      · rw [if_pos e] at hg
        cases hg
        refine ⟨by decide, ?_, fun V' hV' => HTM.out V' (h.2.1.trans (hV'.mono (fun j hj => Or.inl hj)))⟩
        unfold oaσ
        rw [if_pos e, oa2]
      · rw [if_neg e] at hg
        cases hg) (fun d hd hg => by
      by_cases e : d = (1, 2)
      · rw [if_pos e] at hg; cases hg
      · unfold oaσ; rw [if_neg e])
    have := under_any t [awA, awB] (some mb) oaσ (fun j => R j ∨ j = mb) (0, -1) V h.1 hx ⟨rfl, rfl⟩
    rw [oa7] at this
    refine this.mono ?_
    rintro e V' ⟨v, rfl, ho, _, hk⟩
    obtain ⟨a, c, rfl, hL⟩ := own_lns ho
    have hk2 := h.2.1.trans (hk.mono (fun j hj => Or.inl hj))
    exact ⟨a, c, rfl, HS.out _ hk2, hid ⟨hL, HE.out _ (HKX.out.trans (hk2.mono HRQ.out))⟩⟩)
  have hmk := @run_makeMap Tryz.prog
  have hS0 := HS.out _ J0.out.2
  have HMB0 : Hid (∀ V, KP R Y5 V → Y5.heap.size ≤ V.heap.size) := hid (fun V h => h.size)
  clear hR hold hz5 hT5 hK35 S5 HC HQ HQW HQA HB1 HQE
  refine wp_region_held_drew (S := fun w' => w'.cell? ⟨qa + 1, 0, none⟩ = some (.int .i64 1) ∧ w'.cell? ⟨qa + 1, 1, none⟩ = some (.int .i64 2)) hmxo hS0 ?_
  intro _
  obtain ⟨Yd, hYd⟩ : ∃ Yd, Yd = Y5.drew := ⟨_, rfl⟩
  rw [← hYd] at hS0 J0 ⊢
  clear hYd
  refine wpAnyH_take (i := 0) (v := .pointer (some ⟨t, 0, none⟩)) rfl (by kernel_rfl) (by kernel_rfl) (by kernel_rfl) (fun _ _ _ h => h) (Or.inl ⟨by kernel_rfl, fun w hSw => ?_⟩) hS0 ?_
  · obtain ⟨e1, e2⟩ := hSw; go_simp
  simp only [Act.put, List.getElem_toArray, List.getElem_cons_succ, List.getElem_cons_zero, List.setIfInBounds_toArray, List.set_cons_zero, List.set_cons_succ]
  refine wpAnyH_take (i := 2) (v := .agg #[.int .i64 1, .int .i64 2]) rfl (by kernel_rfl) (by kernel_rfl) (by kernel_rfl) (fun _ _ _ h => h) (Or.inl ⟨by kernel_rfl, fun w hSw => ?_⟩) hS0 ?_
  · obtain ⟨e1, e2⟩ := hSw; go_simp
  simp only [Act.put, List.getElem_toArray, List.getElem_cons_succ, List.getElem_cons_zero, List.setIfInBounds_toArray, List.set_cons_zero, List.set_cons_succ]
  refine wpAnyH_take (i := 3) (v := .pointer (some ⟨x0, 0, none⟩)) rfl (by kernel_rfl) (by kernel_rfl) (by kernel_rfl) (fun _ _ _ h => h) (Or.inl ⟨by kernel_rfl, fun w hSw => ?_⟩) hS0 ?_
  · obtain ⟨e1, e2⟩ := hSw; go_simp
  simp only [Act.put, List.getElem_toArray, List.getElem_cons_succ, List.getElem_cons_zero, List.setIfInBounds_toArray, List.set_cons_zero, List.set_cons_succ]
  refine wpAnyH_ready (rs := [1, 6]) (by kernel_rfl) (by simp) ?_
  refine AllReadyH.cons rfl (fun K hK => ?_) (AllReadyH.cons rfl (fun K hK => ?_) AllReadyH.nil)
  · go_simp
    obtain ⟨M1, M1S⟩ := HMk.out _ J0.out
    have M1H := hid M1
    obtain ⟨mb, hmb⟩ : ∃ mb, mb = (Yd).heap.size := ⟨_, rfl⟩
    have HMB := hid hmb
    have HMG : Hid (Y5.heap.size ≤ mb) := hid (by rw [hmb]; exact HMB0.out _ J0.out.2)
    refine hK.out _ _ M1S (fun _ => ?_)
    clear hK K
    rw [← hmb] at M1 ⊢
    clear hmb M1H
    have M1J := hid M1
    clear M1
    refine wpAnyH_ready (rs := [4, 6]) (by kernel_rfl) (by simp) ?_
    refine AllReadyH.cons rfl (fun K hK => ?_) (AllReadyH.cons rfl (fun K hK => ?_) AllReadyH.nil)
    · obtain ⟨I2V, I2r, I2S, I2J⟩ := HIn.out _ mb M1J.out HMG.out
      go_simp
      refine hK.out _ _ I2S (fun _ => ?_)
      clear hK K
      refine wpAnyH_take (i := 5) (v := .map (some mb)) rfl (by kernel_rfl) (by kernel_rfl) (by kernel_rfl) (fun _ _ _ h => h) (Or.inl ⟨by kernel_rfl, fun w hSw => ?_⟩) I2S ?_
      · obtain ⟨e1, e2⟩ := hSw; go_simp
      simp only [Act.put, List.getElem_toArray, List.getElem_cons_succ, List.getElem_cons_zero, List.setIfInBounds_toArray, List.set_cons_zero, List.set_cons_succ]
      refine wpAnyH_ready (rs := [6]) (by kernel_rfl) (by simp) ?_
      refine AllReadyH.cons rfl (fun K hK => ?_) AllReadyH.nil
      go_simp
      refine (HRo1.out _ mb _ _ I2J.out).mono ?_
      rintro e N3V ⟨rfl, N3S, N3J⟩
      refine hK.out _ _ N3S (fun _ => ?_)
      clear hK K
      refine wpAnyH_ready (rs := [7]) (by kernel_rfl) (by simp) ?_
      refine AllReadyH.cons rfl (fun K hK => ?_) AllReadyH.nil
      go_simp
      refine (HUn.out _ mb N3J.out).mono ?_
      rintro e V8 ⟨a, c, rfl, V8S, V8J⟩
      refine hK.out _ _ V8S (fun _ => ?_)
      clear hK K
      refine wpAnyH_take (i := 8) (v := .slice a 2 c) rfl (by kernel_rfl) (by kernel_rfl) (by kernel_rfl) (fun _ _ _ h => h) (Or.inl ⟨by kernel_rfl, fun w hSw => ?_⟩) V8S ?_
      · obtain ⟨e1, e2⟩ := hSw; go_simp
      simp only [Act.put, List.getElem_toArray, List.getElem_cons_succ, List.getElem_cons_zero, List.setIfInBounds_toArray, List.set_cons_zero, List.set_cons_succ]
      refine wpAnyH_done (by kernel_rfl) ?_ _
      obtain ⟨hL8, hB8⟩ := V8J.out
      have hm8 : V8.cell? ⟨0, 0, none⟩ = some (.int .i64 m) := by rw [hB8.cell (by simpa using h0)]; exact hm
      have hz8 : 0 < V8.heap.size := by have := hB8.size; omega
      have HSH := hid (show Calls Tryz.prog 18 #[.slice a 2 c] V8 (fun e V9 => e = .returned (.string ⟨#[45, 32, 10, 32, 32, 45, 32, 121, 10]⟩) ∧ Below V8.heap.size V8 V9) from by
        have := show_any a 2 c oaL m V8 hL8 (by intro x hx; simp [oaL] at hx; rcases hx with rfl | rfl <;> simp) (by omega) hm8 hz8
        rw [oa8] at this
        exact this)
      have HB8 := hid hB8
      have HL8 := hid hL8
      have HRD1 : Hid (∀ V, Below w.heap.size w V → Calls Tryz.prog 20 #[.string ⟨#[45, 32, 10, 32, 32, 45, 32, 121, 10]⟩] V fun e V' => ∃ a2 c2, e = .returned (.tuple #[.slice a2 2 c2, .int .i64 0]) ∧ Hid (LnS V' a2 2 c2 [⟨(0, 0), 0, []⟩, ⟨(0, 0), 1, [121]⟩] ∧ Below V.heap.size V V')) := hid (fun V hV => by
        have := read_any [45, 32, 10, 32, 32, 45, 32, 121, 10] m V (by decide) (by rw [hV.cell (by simpa using h0)]; exact hm) (by have := hV.size; omega)
        rw [oa11.1, oa11.2] at this
        refine this.mono ?_
        rintro e V' ⟨v, rfl, ho, hb⟩
        obtain ⟨a2, c2, rfl, hL⟩ := own_lns ho
        exact ⟨a2, c2, rfl, hid ⟨hL, hb⟩⟩)
      have HRD2 : Hid (∀ V, Below w.heap.size w V → Calls Tryz.prog 20 #[.string ⟨#[32, 32, 45, 32, 121, 10]⟩] V fun e V' => ∃ a3 c3, e = .returned (.tuple #[.slice a3 0 c3, .int .i64 11]) ∧ Hid (Below V.heap.size V V')) := hid (fun V hV => by
        have := read_any [32, 32, 45, 32, 121, 10] m V (by decide) (by rw [hV.cell (by simpa using h0)]; exact hm) (by have := hV.size; omega)
        rw [oa12.1, oa12.2] at this
        refine this.mono ?_
        rintro e V' ⟨v, rfl, ho, hb⟩
        obtain ⟨a2, c2, rfl, hL⟩ := own_lns ho
        exact ⟨a2, c2, rfl, hid hb⟩)
      clear hL8 hB8 hm8 hz8
      go_upto_region 10 with (go_at_call 18; refine HSH.out.mono ?_; rintro e V9 ⟨rfl, hb9⟩)
      have HB9 := hid (HB8.out.trans (hb9.mono HB8.out.size))
      have HL9 := hid (HL8.out.below hb9)
      clear hb9
      go_upto_region 11 with (go_at_call 20; refine (HRD1.out _ HB9.out).mono ?_; rintro e Va ⟨a2, c2, rfl, S10⟩)
      have HBa := hid (HB9.out.trans (S10.out.2.mono HB9.out.size))
      have HLa := hid (HL9.out.below S10.out.2)
      go_upto_region 12 with (go_at_call 20; refine (HRD2.out _ HBa.out).mono ?_; rintro e Vb ⟨a3, c3, rfl, S11⟩)
      have HBb := hid (HBa.out.trans (S11.out.mono HBa.out.size))
      obtain ⟨g1, o1, rfl, hg1, hc1⟩ := (HLa.out.below S11.out).at_ (by decide)
      have k1 := hc1 1 (by decide) 2 (.int .i64 1) rfl
      obtain ⟨g2, o2, rfl, hg2, hc2⟩ := (S10.out.1.below S11.out).at_ (by decide)
      have k2 := hc2 1 (by decide) 3 (.string ⟨#[121]⟩) rfl
      clear hc1 hc2
      go_wp2
      go_ret
      exact ⟨rfl, HBb.out⟩
    · go_simp
      refine (HRo1.out _ mb _ _ M1J.out).mono ?_
      rintro e N2V ⟨rfl, N2S, N2J⟩
      refine hK.out _ _ N2S (fun _ => ?_)
      clear hK K
      refine wpAnyH_ready (rs := [4]) (by kernel_rfl) (by simp) ?_
      refine AllReadyH.cons rfl (fun K hK => ?_) AllReadyH.nil
      obtain ⟨I3V, I3r, I3S, I3J⟩ := HIn.out _ mb N2J.out HMG.out
      go_simp
      refine hK.out _ _ I3S (fun _ => ?_)
      clear hK K
      refine wpAnyH_take (i := 5) (v := .map (some mb)) rfl (by kernel_rfl) (by kernel_rfl) (by kernel_rfl) (fun _ _ _ h => h) (Or.inl ⟨by kernel_rfl, fun w hSw => ?_⟩) I3S ?_
      · obtain ⟨e1, e2⟩ := hSw; go_simp
      simp only [Act.put, List.getElem_toArray, List.getElem_cons_succ, List.getElem_cons_zero, List.setIfInBounds_toArray, List.set_cons_zero, List.set_cons_succ]
      refine wpAnyH_ready (rs := [7]) (by kernel_rfl) (by simp) ?_
      refine AllReadyH.cons rfl (fun K hK => ?_) AllReadyH.nil
      go_simp
      refine (HUn.out _ mb I3J.out).mono ?_
      rintro e V8 ⟨a, c, rfl, V8S, V8J⟩
      refine hK.out _ _ V8S (fun _ => ?_)
      clear hK K
      refine wpAnyH_take (i := 8) (v := .slice a 2 c) rfl (by kernel_rfl) (by kernel_rfl) (by kernel_rfl) (fun _ _ _ h => h) (Or.inl ⟨by kernel_rfl, fun w hSw => ?_⟩) V8S ?_
      · obtain ⟨e1, e2⟩ := hSw; go_simp
      simp only [Act.put, List.getElem_toArray, List.getElem_cons_succ, List.getElem_cons_zero, List.setIfInBounds_toArray, List.set_cons_zero, List.set_cons_succ]
      refine wpAnyH_done (by kernel_rfl) ?_ _
      obtain ⟨hL8, hB8⟩ := V8J.out
      have hm8 : V8.cell? ⟨0, 0, none⟩ = some (.int .i64 m) := by rw [hB8.cell (by simpa using h0)]; exact hm
      have hz8 : 0 < V8.heap.size := by have := hB8.size; omega
      have HSH := hid (show Calls Tryz.prog 18 #[.slice a 2 c] V8 (fun e V9 => e = .returned (.string ⟨#[45, 32, 10, 32, 32, 45, 32, 121, 10]⟩) ∧ Below V8.heap.size V8 V9) from by
        have := show_any a 2 c oaL m V8 hL8 (by intro x hx; simp [oaL] at hx; rcases hx with rfl | rfl <;> simp) (by omega) hm8 hz8
        rw [oa8] at this
        exact this)
      have HB8 := hid hB8
      have HL8 := hid hL8
      have HRD1 : Hid (∀ V, Below w.heap.size w V → Calls Tryz.prog 20 #[.string ⟨#[45, 32, 10, 32, 32, 45, 32, 121, 10]⟩] V fun e V' => ∃ a2 c2, e = .returned (.tuple #[.slice a2 2 c2, .int .i64 0]) ∧ Hid (LnS V' a2 2 c2 [⟨(0, 0), 0, []⟩, ⟨(0, 0), 1, [121]⟩] ∧ Below V.heap.size V V')) := hid (fun V hV => by
        have := read_any [45, 32, 10, 32, 32, 45, 32, 121, 10] m V (by decide) (by rw [hV.cell (by simpa using h0)]; exact hm) (by have := hV.size; omega)
        rw [oa11.1, oa11.2] at this
        refine this.mono ?_
        rintro e V' ⟨v, rfl, ho, hb⟩
        obtain ⟨a2, c2, rfl, hL⟩ := own_lns ho
        exact ⟨a2, c2, rfl, hid ⟨hL, hb⟩⟩)
      have HRD2 : Hid (∀ V, Below w.heap.size w V → Calls Tryz.prog 20 #[.string ⟨#[32, 32, 45, 32, 121, 10]⟩] V fun e V' => ∃ a3 c3, e = .returned (.tuple #[.slice a3 0 c3, .int .i64 11]) ∧ Hid (Below V.heap.size V V')) := hid (fun V hV => by
        have := read_any [32, 32, 45, 32, 121, 10] m V (by decide) (by rw [hV.cell (by simpa using h0)]; exact hm) (by have := hV.size; omega)
        rw [oa12.1, oa12.2] at this
        refine this.mono ?_
        rintro e V' ⟨v, rfl, ho, hb⟩
        obtain ⟨a2, c2, rfl, hL⟩ := own_lns ho
        exact ⟨a2, c2, rfl, hid hb⟩)
      clear hL8 hB8 hm8 hz8
      go_upto_region 10 with (go_at_call 18; refine HSH.out.mono ?_; rintro e V9 ⟨rfl, hb9⟩)
      have HB9 := hid (HB8.out.trans (hb9.mono HB8.out.size))
      have HL9 := hid (HL8.out.below hb9)
      clear hb9
      go_upto_region 11 with (go_at_call 20; refine (HRD1.out _ HB9.out).mono ?_; rintro e Va ⟨a2, c2, rfl, S10⟩)
      have HBa := hid (HB9.out.trans (S10.out.2.mono HB9.out.size))
      have HLa := hid (HL9.out.below S10.out.2)
      go_upto_region 12 with (go_at_call 20; refine (HRD2.out _ HBa.out).mono ?_; rintro e Vb ⟨a3, c3, rfl, S11⟩)
      have HBb := hid (HBa.out.trans (S11.out.mono HBa.out.size))
      obtain ⟨g1, o1, rfl, hg1, hc1⟩ := (HLa.out.below S11.out).at_ (by decide)
      have k1 := hc1 1 (by decide) 2 (.int .i64 1) rfl
      obtain ⟨g2, o2, rfl, hg2, hc2⟩ := (S10.out.1.below S11.out).at_ (by decide)
      have k2 := hc2 1 (by decide) 3 (.string ⟨#[121]⟩) rfl
      clear hc1 hc2
      go_wp2
      go_ret
      exact ⟨rfl, HBb.out⟩
  · go_simp
    refine (HRo0.out _ J0.out).mono ?_
    rintro e N1V ⟨rfl, N1S, N1J⟩
    refine hK.out _ _ N1S (fun _ => ?_)
    clear hK K
    refine wpAnyH_ready (rs := [1]) (by kernel_rfl) (by simp) ?_
    refine AllReadyH.cons rfl (fun K hK => ?_) AllReadyH.nil
    go_simp
    obtain ⟨M2, M2S⟩ := HMk.out _ N1J.out
    have M2H := hid M2
    obtain ⟨mb, hmb⟩ : ∃ mb, mb = (N1V).heap.size := ⟨_, rfl⟩
    have HMB := hid hmb
    have HMG : Hid (Y5.heap.size ≤ mb) := hid (by rw [hmb]; exact HMB0.out _ N1J.out.2)
    refine hK.out _ _ M2S (fun _ => ?_)
    clear hK K
    rw [← hmb] at M2 ⊢
    clear hmb M2H
    have M2J := hid M2
    clear M2
    refine wpAnyH_ready (rs := [4]) (by kernel_rfl) (by simp) ?_
    refine AllReadyH.cons rfl (fun K hK => ?_) AllReadyH.nil
    obtain ⟨I3V, I3r, I3S, I3J⟩ := HIn.out _ mb M2J.out HMG.out
    go_simp
    refine hK.out _ _ I3S (fun _ => ?_)
    clear hK K
    refine wpAnyH_take (i := 5) (v := .map (some mb)) rfl (by kernel_rfl) (by kernel_rfl) (by kernel_rfl) (fun _ _ _ h => h) (Or.inl ⟨by kernel_rfl, fun w hSw => ?_⟩) I3S ?_
    · obtain ⟨e1, e2⟩ := hSw; go_simp
    simp only [Act.put, List.getElem_toArray, List.getElem_cons_succ, List.getElem_cons_zero, List.setIfInBounds_toArray, List.set_cons_zero, List.set_cons_succ]
    refine wpAnyH_ready (rs := [7]) (by kernel_rfl) (by simp) ?_
    refine AllReadyH.cons rfl (fun K hK => ?_) AllReadyH.nil
    go_simp
    refine (HUn.out _ mb I3J.out).mono ?_
    rintro e V8 ⟨a, c, rfl, V8S, V8J⟩
    refine hK.out _ _ V8S (fun _ => ?_)
    clear hK K
    refine wpAnyH_take (i := 8) (v := .slice a 2 c) rfl (by kernel_rfl) (by kernel_rfl) (by kernel_rfl) (fun _ _ _ h => h) (Or.inl ⟨by kernel_rfl, fun w hSw => ?_⟩) V8S ?_
    · obtain ⟨e1, e2⟩ := hSw; go_simp
    simp only [Act.put, List.getElem_toArray, List.getElem_cons_succ, List.getElem_cons_zero, List.setIfInBounds_toArray, List.set_cons_zero, List.set_cons_succ]
    refine wpAnyH_done (by kernel_rfl) ?_ _
    obtain ⟨hL8, hB8⟩ := V8J.out
    have hm8 : V8.cell? ⟨0, 0, none⟩ = some (.int .i64 m) := by rw [hB8.cell (by simpa using h0)]; exact hm
    have hz8 : 0 < V8.heap.size := by have := hB8.size; omega
    have HSH := hid (show Calls Tryz.prog 18 #[.slice a 2 c] V8 (fun e V9 => e = .returned (.string ⟨#[45, 32, 10, 32, 32, 45, 32, 121, 10]⟩) ∧ Below V8.heap.size V8 V9) from by
      have := show_any a 2 c oaL m V8 hL8 (by intro x hx; simp [oaL] at hx; rcases hx with rfl | rfl <;> simp) (by omega) hm8 hz8
      rw [oa8] at this
      exact this)
    have HB8 := hid hB8
    have HL8 := hid hL8
    have HRD1 : Hid (∀ V, Below w.heap.size w V → Calls Tryz.prog 20 #[.string ⟨#[45, 32, 10, 32, 32, 45, 32, 121, 10]⟩] V fun e V' => ∃ a2 c2, e = .returned (.tuple #[.slice a2 2 c2, .int .i64 0]) ∧ Hid (LnS V' a2 2 c2 [⟨(0, 0), 0, []⟩, ⟨(0, 0), 1, [121]⟩] ∧ Below V.heap.size V V')) := hid (fun V hV => by
      have := read_any [45, 32, 10, 32, 32, 45, 32, 121, 10] m V (by decide) (by rw [hV.cell (by simpa using h0)]; exact hm) (by have := hV.size; omega)
      rw [oa11.1, oa11.2] at this
      refine this.mono ?_
      rintro e V' ⟨v, rfl, ho, hb⟩
      obtain ⟨a2, c2, rfl, hL⟩ := own_lns ho
      exact ⟨a2, c2, rfl, hid ⟨hL, hb⟩⟩)
    have HRD2 : Hid (∀ V, Below w.heap.size w V → Calls Tryz.prog 20 #[.string ⟨#[32, 32, 45, 32, 121, 10]⟩] V fun e V' => ∃ a3 c3, e = .returned (.tuple #[.slice a3 0 c3, .int .i64 11]) ∧ Hid (Below V.heap.size V V')) := hid (fun V hV => by
      have := read_any [32, 32, 45, 32, 121, 10] m V (by decide) (by rw [hV.cell (by simpa using h0)]; exact hm) (by have := hV.size; omega)
      rw [oa12.1, oa12.2] at this
      refine this.mono ?_
      rintro e V' ⟨v, rfl, ho, hb⟩
      obtain ⟨a2, c2, rfl, hL⟩ := own_lns ho
      exact ⟨a2, c2, rfl, hid hb⟩)
    clear hL8 hB8 hm8 hz8
    go_upto_region 10 with (go_at_call 18; refine HSH.out.mono ?_; rintro e V9 ⟨rfl, hb9⟩)
    have HB9 := hid (HB8.out.trans (hb9.mono HB8.out.size))
    have HL9 := hid (HL8.out.below hb9)
    clear hb9
    go_upto_region 11 with (go_at_call 20; refine (HRD1.out _ HB9.out).mono ?_; rintro e Va ⟨a2, c2, rfl, S10⟩)
    have HBa := hid (HB9.out.trans (S10.out.2.mono HB9.out.size))
    have HLa := hid (HL9.out.below S10.out.2)
    go_upto_region 12 with (go_at_call 20; refine (HRD2.out _ HBa.out).mono ?_; rintro e Vb ⟨a3, c3, rfl, S11⟩)
    have HBb := hid (HBa.out.trans (S11.out.mono HBa.out.size))
    obtain ⟨g1, o1, rfl, hg1, hc1⟩ := (HLa.out.below S11.out).at_ (by decide)
    have k1 := hc1 1 (by decide) 2 (.int .i64 1) rfl
    obtain ⟨g2, o2, rfl, hg2, hc2⟩ := (S10.out.1.below S11.out).at_ (by decide)
    have k2 := hc2 1 (by decide) 3 (.string ⟨#[121]⟩) rfl
    clear hc1 hc2
    go_wp2
    go_ret
    exact ⟨rfl, HBb.out⟩
end Go.Proofs.YtnmdcdphpcpojaaGreatDoor
