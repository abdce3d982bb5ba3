/- Lines that came in; a text that came in; the wrap of this layer's statements. -/
import Derived.Test.YtnmdcdphpcpojaaGreatDoorTrAwk
import Derived.Test.YtnmdcdphpcpojaaGreatDoorMMap
import Derived.Sort.AtCall
import Derived.BigQuiet
import Derived.Deep.RegionHeld
import Derived.Test.YtnmdcdphpcpojaaGreatDoorTrMath
import Derived.ProofKit
import Derived.OpenShut
import Derived.Deep.SlicePairs
import Derived.Lib.SmallJoins
import Derived.Test.YtnmdcdphpcpojaaGreatDoorRows
import Derived.Test.YtnmdcdphpcpojaaGreatDoorOlSmall
import Derived.HandedShaped
namespace Go.Proofs.YtnmdcdphpcpojaaGreatDoor
section
set_option linter.unusedVariables false
open Go.RowKit

def oaT : List Cr := [⟨(1, 3), (0, 0), true, 121, true⟩]
def oaσ (d : Dt) : List UInt8 := if d = (1, 2) then [121] else []
def oaL : List Ln := [⟨(1, 1), 0, []⟩, ⟨(1, 2), 1, [121]⟩]

theorem oa1 : insP [] (1, 3) (0, 0) 1 121 = (0, oaT) := by simp [insP, mayI, oaT]
theorem oa2 : strB (seenC oaT) = [121] := by decide +kernel
theorem oa3 : kidD (run [awA, awB]) (0, -1) = [(1, 1)] := by decide +kernel
theorem oa4 : kidD (run [awA, awB]) (1, 1) = [(1, 2)] := by decide +kernel
theorem oa5 : kidD (run [awA, awB]) (1, 2) = [] := by decide +kernel
theorem oa6 : (run [awA, awB]).length = 2 := by decide +kernel
theorem oa7 : undL (run [awA, awB]) oaσ (0, -1) = oaL := by
  unfold undL
  rw [oa6]
  simp [undF, oa3, oa4, oa5, undLn, oaL, oaσ]
theorem oa8 : showL oaL = [45, 32, 10, 32, 32, 45, 32, 121, 10] := by decide +kernel
theorem oa9 : rdR [45, 32, 10, 32, 32, 45, 32, 121, 10] = some [(0, []), (1, [121])] := by decide +kernel
theorem oa10 : rdR [32, 32, 45, 32, 121, 10] = none := by decide +kernel
theorem oa11 : rdM [45, 32, 10, 32, 32, 45, 32, 121, 10] = [⟨(0, 0), 0, []⟩, ⟨(0, 0), 1, [121]⟩] ∧ rdE [45, 32, 10, 32, 32, 45, 32, 121, 10] = 0 := by
  unfold rdM rdE
  rw [oa9]
  exact ⟨rfl, rfl⟩
theorem oa12 : rdM [32, 32, 45, 32, 121, 10] = [] ∧ rdE [32, 32, 45, 32, 121, 10] = 11 := by
  unfold rdM rdE
  rw [oa10]
  exact ⟨rfl, rfl⟩
end

section
set_option linter.unusedVariables false
set_option linter.unusedSimpArgs false
open Go.RowKit

theorem tp_far {W W' : World} {t : Nat} {l : List Mv} {P Q : Nat → Prop} {X4 : World} (h : TP W t l P ∧ KP Q X4 W) (hq : ∀ j, Q j → P j) (hf : Far W W') : TP W' t l P ∧ KP Q X4 W' :=
  ⟨h.1.below hf.below, h.2.trans (KP.below hf.below (fun j hj => h.1.lt j (hq j hj)))⟩
end

section
set_option linter.unusedVariables false
set_option linter.unusedSimpArgs false
open Go.RowKit

set_option maxRecDepth 100000 in
set_option maxHeartbeats 4000000 in
theorem olawake_any (m : Int) (w : World) (hm : w.cell? ⟨0, 0, none⟩ = some (.int .i64 m)) (h0 : 0 < w.heap.size) : Calls Tryz.prog 9 #[] w fun e w' => e = .returned (.bool true) ∧ Below w.heap.size w w' := by
  have hmxo : Tryz.prog.follows .mixedOrders = true := by kernel_rfl
  have mixed := mixed
  obtain ⟨t, ht⟩ : ∃ t, t = w.heap.size := ⟨_, rfl⟩
  have HN := (new_tp w).mono (R' := fun e w' => e = .returned (.pointer (some ⟨t, 0, none⟩)) ∧ Hid (TP w' t [] (fun j => j < w.heap.size) ∧ Below w.heap.size w w')) (fun e w' h => by rw [ht]; exact ⟨h.1, hid h.2⟩)
  clear ht
  go_enter Tryz.func9, Tryz.ntmps9
  go_upto_region 4 with (go_at_call 27; refine HN.mono ?_; rintro e X ⟨rfl, HX⟩)
  clear HN
  obtain ⟨X2, hX2⟩ : ∃ X2, X2 = (X.alloc (.cells #[.int .i64 1, .int .i64 1] 24)).alloc (.cells #[.int .i64 1, .int .i64 2] 24) := ⟨_, rfl⟩
  rw [← hX2]
  obtain ⟨qa, hqa⟩ : ∃ qa, qa = X.heap.size := ⟨_, rfl⟩
  have hz2 : X2.heap.size = qa + 2 := by rw [hX2, hqa]; simp
  have hb2 : Below X.heap.size X X2 := by rw [hX2]; exact ((Below.refl _ X).alloc (Nat.le_refl _) _).alloc (by simp) _
  have ba : X2.heap[qa]? = some (.cells #[.int .i64 1, .int .i64 1] 24 (0, 0)) := by rw [hX2, hqa]; exact (Below.heap_alloc _ _ _ (by simp)).trans (World.alloc_heap_new X _)
  have bb : X2.heap[qa + 1]? = some (.cells #[.int .i64 1, .int .i64 2] 24 (0, 0)) := by
    rw [hX2, hqa]
    have := World.alloc_heap_new (X.alloc (.cells #[.int .i64 1, .int .i64 1] 24)) (.cells #[.int .i64 1, .int .i64 2] 24)
    rw [World.size_alloc] at this
    exact this
  obtain ⟨Q, hQ⟩ : ∃ Q : Nat → Prop, Q = (fun j => j < w.heap.size ∨ (qa ≤ j ∧ j < qa + 2)) := ⟨_, rfl⟩
  have HC : Hid (∀ V, KP Q X2 V → V.cell? ⟨qa, 0, none⟩ = some (.int .i64 1) ∧ V.cell? ⟨qa, 1, none⟩ = some (.int .i64 1) ∧ V.cell? ⟨qa + 1, 0, none⟩ = some (.int .i64 1) ∧ V.cell? ⟨qa + 1, 1, none⟩ = some (.int .i64 2)) := hid (fun V hV => by
    have e0 := (hV.keep qa (by rw [hQ]; exact Or.inr ⟨by omega, by omega⟩)).trans ba
    have e1 := (hV.keep (qa + 1) (by rw [hQ]; exact Or.inr ⟨by omega, by omega⟩)).trans bb
    exact ⟨by rw [Lib.cell_of_heap e0]; rfl, by rw [Lib.cell_of_heap e0]; rfl, by rw [Lib.cell_of_heap e1]; rfl, by rw [Lib.cell_of_heap e1]; rfl⟩)
  have S2 : Hid (TP X2.drew t [] Q ∧ KP Q X2 X2.drew) := hid ⟨(HX.out.1.turn (V := X2) (Q := Q) hb2.size (fun j hj _ => hb2.block j hj) (fun j hj => by
    rw [hQ] at hj
    rcases hj with hj | hj
    · exact Or.inl hj
    · exact Or.inr ⟨by omega, by omega⟩)).drew, (KP.refl Q X2).drew⟩
  have HE : Hid (∀ V, KP Q X2 V → Below w.heap.size w V) := hid (fun V hV => by
    have k1 : KP (fun j => j < w.heap.size) X2 V := hV.mono (fun j hj => by rw [hQ]; exact Or.inl hj)
    exact HX.out.2.trans ((hb2.mono HX.out.2.size).trans k1.bel))
  have HQ : Hid (∀ j, Q j → j < qa + 2) := hid (fun j hj => by
    rw [hQ] at hj
    rcases hj with hj | hj
    · have := HX.out.2.size; omega
    · omega)
  have HQW : Hid (∀ j, j < w.heap.size → Q j) := hid (fun j hj => by rw [hQ]; exact Or.inl hj)
  have HQA : Hid (Q qa ∧ Q (qa + 1)) := hid (by rw [hQ]; exact ⟨Or.inr ⟨by omega, by omega⟩, Or.inr ⟨by omega, by omega⟩⟩)
  have HRo : Hid (∀ W l, (TP W t l Q ∧ KP Q X2 W) → Calls Tryz.prog 12 #[] W fun e W' => e = .returned (.agg #[.int .i64 0, .int .i64 (-1)]) ∧ Hid (TP W' t l Q ∧ KP Q X2 W')) := hid (fun W l h => (root_any W).mono (fun e W' g => ⟨g.1, hid (tp_far h (fun j hj => hj) g.2)⟩))
  have HM1 : Hid (∀ W, (TP W t [] Q ∧ KP Q X2 W) → Calls Tryz.prog 28 #[.pointer (some ⟨t, 0, none⟩), .agg #[.int .i64 1, .int .i64 1], .int .i64 1, .agg #[.int .i64 1, .int .i64 1], .agg #[.int .i64 0, .int .i64 (-1)], .string ⟨#[110]⟩] W fun e W' => e = .returned (.int .i64 0) ∧ Hid (TP W' t [awA] Q ∧ KP Q X2 W')) := hid (fun W h => by
    have := move_tp awA h.1 ⟨⟨rfl, rfl⟩, ⟨rfl, rfl⟩, ⟨rfl, rfl⟩⟩ (by decide)
    rw [aw_1.1, aw_1.2] at this
    exact this.mono (fun e W' g => ⟨g.1, hid ⟨g.2.1, h.2.trans g.2.2⟩⟩))
  have HM2 : Hid (∀ W, (TP W t [awA] Q ∧ KP Q X2 W) → Calls Tryz.prog 28 #[.pointer (some ⟨t, 0, none⟩), .agg #[.int .i64 1, .int .i64 2], .int .i64 2, .agg #[.int .i64 1, .int .i64 2], .agg #[.int .i64 1, .int .i64 1], .string ⟨#[110]⟩] W fun e W' => e = .returned (.int .i64 0) ∧ Hid (TP W' t [awA, awB] Q ∧ KP Q X2 W')) := hid (fun W h => by
    have := move_tp awB h.1 ⟨⟨rfl, rfl⟩, ⟨rfl, rfl⟩, ⟨rfl, rfl⟩⟩ (by decide)
    rw [aw_2.1, aw_2.2] at this
    exact this.mono (fun e W' g => ⟨g.1, hid ⟨g.2.1, h.2.trans g.2.2⟩⟩))
  have hS0 := HC.out _ S2.out.2
  have HB1 : Hid (qa + 1 = X.heap.size + 1) := hid (by rw [hqa])
  have HQE := hid hqa
  rw [← hqa]
  clear hX2 hQ hz2 hb2 ba bb HX hqa
  refine wp_region_held_drew (S := fun w' => w'.cell? ⟨qa, 0, none⟩ = some (.int .i64 1) ∧ w'.cell? ⟨qa, 1, none⟩ = some (.int .i64 1) ∧ w'.cell? ⟨qa + 1, 0, none⟩ = some (.int .i64 1) ∧ w'.cell? ⟨qa + 1, 1, none⟩ = some (.int .i64 2)) hmxo hS0 ?_
  intro _
  refine wpAnyH_take (i := 0) (v := .pointer (some ⟨t, 0, none⟩)) rfl (by kernel_rfl) (by kernel_rfl) (by kernel_rfl) (fun _ _ _ h => h) (Or.inl ⟨by kernel_rfl, fun w hSw => ?_⟩) hS0 ?_
  · obtain ⟨e1, e2, e3, e4⟩ := hSw; go_simp
  simp only [Act.put, List.getElem_toArray, List.getElem_cons_succ, List.getElem_cons_zero, List.setIfInBounds_toArray, List.set_cons_zero, List.set_cons_succ]
  refine wpAnyH_take (i := 1) (v := .agg #[.int .i64 1, .int .i64 1]) rfl (by kernel_rfl) (by kernel_rfl) (by kernel_rfl) (fun _ _ _ h => h) (Or.inl ⟨by kernel_rfl, fun w hSw => ?_⟩) hS0 ?_
  · obtain ⟨e1, e2, e3, e4⟩ := hSw; go_simp
  simp only [Act.put, List.getElem_toArray, List.getElem_cons_succ, List.getElem_cons_zero, List.setIfInBounds_toArray, List.set_cons_zero, List.set_cons_succ]
  refine wpAnyH_take (i := 2) (v := .agg #[.int .i64 1, .int .i64 1]) rfl (by kernel_rfl) (by kernel_rfl) (by kernel_rfl) (fun _ _ _ h => h) (Or.inl ⟨by kernel_rfl, fun w hSw => ?_⟩) hS0 ?_
  · obtain ⟨e1, e2, e3, e4⟩ := hSw; go_simp
  simp only [Act.put, List.getElem_toArray, List.getElem_cons_succ, List.getElem_cons_zero, List.setIfInBounds_toArray, List.set_cons_zero, List.set_cons_succ]
  refine wpAnyH_ready (rs := [3]) (by kernel_rfl) (by simp) ?_
  refine AllReadyH.cons rfl (fun K hK => ?_) AllReadyH.nil
  go_simp
  refine (HRo.out _ _ S2.out).mono ?_
  rintro e Y1 ⟨rfl, S3⟩
  have hS3 := HC.out _ S3.out.2
  refine hK.out _ _ hS3 (fun _ => ?_)
  clear hK K
  refine wpAnyH_ready (rs := [4]) (by kernel_rfl) (by simp) ?_
  refine AllReadyH.cons rfl (fun K hK => ?_) AllReadyH.nil
  go_simp
  refine (HM1.out _ S3.out).mono ?_
  rintro e Y2 ⟨rfl, S4⟩
  have hS4 := HC.out _ S4.out.2
  refine hK.out _ _ hS4 (fun _ => ?_)
  clear hK K
  refine wpAnyH_done (by kernel_rfl) ?_ _
  clear HRo HM1 hS0 hS3 S2 S3
  obtain ⟨e1, e2, e3, e4⟩ := hS4
  go_upto_region 6 with (go_at_call 28; refine (HM2.out _ S4.out).mono ?_; rintro e Y3 ⟨rfl, S5⟩)
  clear HM2 S4 e1 e2 e3 e4
  obtain ⟨x0, hx0⟩ : ∃ x0, x0 = Y3.heap.size := ⟨_, rfl⟩
  have HT1 : Calls Tryz.prog 25 #[] Y3 fun e Y4 => e = .returned (.pointer (some ⟨x0, 0, none⟩)) ∧ Hid (TM Y4 x0 [] ∧ Below Y3.heap.size Y3 Y4) := (new_tm Y3).mono (fun e Y4 g => by rw [hx0]; exact ⟨g.1, hid g.2⟩)
  have HT2 : ∀ Y4, (TM Y4 x0 [] ∧ Below Y3.heap.size Y3 Y4) → Calls Tryz.prog 26 #[.pointer (some ⟨x0, 0, none⟩), .agg #[.int .i64 1, .int .i64 3], .agg #[.int .i64 0, .int .i64 0], .int .i64 1, .int .i64 121] Y4 fun e Y5 => e = .returned (.int .i64 0) ∧ Hid (TM Y5 x0 oaT ∧ FrW x0 Y4 Y5 ∧ Below Y3.heap.size Y3 Y4) := fun Y4 h => by
    have := insert_tm h.1 (by decide) (1, 3) (0, 0) 1 121 ⟨rfl, rfl⟩ ⟨rfl, rfl⟩ ⟨by decide, by decide⟩
    rw [oa1] at this
    exact this.mono (fun e Y5 g => ⟨g.1, hid ⟨g.2.1, g.2.2, h.2⟩⟩)
  have HX0 := hid hx0
  clear hx0
  go_upto_region 8 with (first
    | (go_at_call 25; refine HT1.mono ?_; rintro e Y4 ⟨rfl, S6⟩)
    | (go_at_call 26; refine (HT2 _ S6.out).mono ?_; rintro e Y5 ⟨rfl, S7⟩))
  clear HT1 HT2 S6
  obtain ⟨R, hR⟩ : ∃ R : Nat → Prop, R = (fun j => Q j ∨ (x0 ≤ j ∧ j < Y5.heap.size)) := ⟨_, rfl⟩
  have hold : ∀ j, j < x0 → Y5.heap[j]? = Y3.heap[j]? := fun j hj => by
    obtain ⟨_, f1, f2⟩ := S7.out
    have h3 := HX0.out
    exact (f1.block j (by have := f2.size; omega) (Or.inl hj)).trans (f2.block j (by omega))
  have hz5 : x0 ≤ Y5.heap.size := by
    obtain ⟨_, f1, f2⟩ := S7.out
    have h3 := HX0.out
    have := f1.size
    have := f2.size
    omega
  have hT5 : TP Y5 t [awA, awB] R := S5.out.1.turn (by rw [← HX0.out]; exact hz5) (fun j hj _ => hold j (by rw [HX0.out]; exact hj)) (fun j hj => by
    rw [hR] at hj
    rcases hj with hj | hj
    · exact Or.inl hj
    · exact Or.inr ⟨by rw [← HX0.out]; exact hj.1, hj.2⟩)
  have hK35 : KP Q Y3 Y5 := by
    obtain ⟨_, f1, f2⟩ := S7.out
    exact ⟨by rw [← HX0.out]; exact hz5, fun j hj => hold j (by rw [HX0.out]; exact S5.out.1.lt j hj), (Sm.b f2).trans ⟨f1.os, f1.tape, f1.output⟩⟩
  have HKX : Hid (KP Q X2 Y5) := hid (S5.out.2.trans hK35)
  have HRQ : Hid (∀ j, Q j → R j) := hid (fun j hj => by rw [hR]; exact Or.inl hj)
  have HS : Hid (∀ V, KP R Y5 V → V.cell? ⟨qa + 1, 0, none⟩ = some (.int .i64 1) ∧ V.cell? ⟨qa + 1, 1, none⟩ = some (.int .i64 2)) := hid (fun V hV => by
    obtain ⟨_, _, e3, e4⟩ := HC.out V (HKX.out.trans (hV.mono HRQ.out))
    exact ⟨e3, e4⟩)
  have HTM : Hid (∀ V, KP R Y5 V → TM V x0 oaT) := hid (fun V hV => S7.out.1.held (fun j h1 h2 => hV.keep j (by rw [hR]; exact Or.inr ⟨h1, h2⟩)))
  have HRl : Hid (∀ j, R j → j < Y5.heap.size) := hid hT5.lt
  have J0 : Hid (TP Y5.drew t [awA, awB] R ∧ KP R Y5 Y5.drew) := hid ⟨hT5.drew, (KP.refl R Y5).drew⟩
  have HRo0 : Hid (∀ V, (TP V t [awA, awB] R ∧ KP R Y5 V) → Calls Tryz.prog 12 #[] V fun e V' => e = .returned (.agg #[.int .i64 0, .int .i64 (-1)]) ∧ (V'.cell? ⟨qa + 1, 0, none⟩ = some (.int .i64 1) ∧ V'.cell? ⟨qa + 1, 1, none⟩ = some (.int .i64 2)) ∧ Hid (TP V' t [awA, awB] R ∧ KP R Y5 V')) := hid (fun V h => (root_any V).mono (fun e V' g => by
    have := tp_far h (fun j hj => hj) g.2
    exact ⟨g.1, HS.out _ this.2, hid this⟩))
  have HRo1 : Hid (∀ V mb n G, (TP V t [awA, awB] (fun j => R j ∨ j = mb) ∧ KP R Y5 V ∧ PMc V mb n G) → Calls Tryz.prog 12 #[] V fun e V' => e = .returned (.agg #[.int .i64 0, .int .i64 (-1)]) ∧ (V'.cell? ⟨qa + 1, 0, none⟩ = some (.int .i64 1) ∧ V'.cell? ⟨qa + 1, 1, none⟩ = some (.int .i64 2)) ∧ Hid (TP V' t [awA, awB] (fun j => R j ∨ j = mb) ∧ KP R Y5 V' ∧ PMc V' mb n G)) := hid (fun V mb n G h => (root_any V).mono (fun e V' g => by
    have := tp_far ⟨h.1, h.2.1⟩ (fun j hj => Or.inl hj) g.2
    exact ⟨g.1, HS.out _ this.2, hid ⟨this.1, this.2, h.2.2.same (g.2.below.block _ h.2.2.lt)⟩⟩))
  have HMk : Hid (∀ V, (TP V t [awA, awB] R ∧ KP R Y5 V) → (TP (V.alloc (.map #[] 0)) t [awA, awB] (fun j => R j ∨ j = V.heap.size) ∧ KP R Y5 (V.alloc (.map #[] 0)) ∧ PMc (V.alloc (.map #[] 0)) V.heap.size 0 (fun _ => none)) ∧ ((V.alloc (.map #[] 0)).cell? ⟨qa + 1, 0, none⟩ = some (.int .i64 1) ∧ (V.alloc (.map #[] 0)).cell? ⟨qa + 1, 1, none⟩ = some (.int .i64 2))) := hid (fun V h => by
    have hk : KP R Y5 (V.alloc (.map #[] 0)) := h.2.trans (KP.below ((Below.refl _ V).alloc (Nat.le_refl _) _) h.1.lt)
    exact ⟨⟨h.1.alloc _, hk, PMc.made V⟩, HS.out _ hk⟩)
  have HIn : Hid (∀ V mb, (TP V t [awA, awB] (fun j => R j ∨ j = mb) ∧ KP R Y5 V ∧ PMc V mb 0 (fun _ => none)) → Y5.heap.size ≤ mb → ∃ V', (Instr.mapUpdate 29 (.map (some mb)) (.agg #[.int .i64 1, .int .i64 2]) (.pointer (some ⟨x0, 0, none⟩))).run Tryz.prog V = .ok () V' ∧ (V'.cell? ⟨qa + 1, 0, none⟩ = some (.int .i64 1) ∧ V'.cell? ⟨qa + 1, 1, none⟩ = some (.int .i64 2)) ∧ Hid (TP V' t [awA, awB] (fun j => R j ∨ j = mb) ∧ KP R Y5 V' ∧ PMc V' mb (0 + 1) (fun e => if e = (1, 2) then some x0 else none))) := hid (fun V mb h hmb => by
    obtain ⟨V', h1, h2, h3⟩ := h.2.2.putT (d := (1, 2)) ⟨rfl, rfl⟩ x0 (by unfold maxLen; omega)
    have hk : KP R V V' := ⟨h3.size, fun j hj => h3.block j (h.1.lt j (Or.inl hj)) (fun e => by cases e; have := HRl.out _ hj; omega), Sm.g h3⟩
    have hk2 := h.2.1.trans hk
    refine ⟨V', h1, HS.out _ hk2, hid ⟨h.1.turn h3.size (fun j hj hn => h3.block j hj (fun e => by cases e; exact hn (Or.inr rfl))) (fun j hj => Or.inl hj), hk2, h2⟩⟩)
  have HUn : Hid (∀ V mb, (TP V t [awA, awB] (fun j => R j ∨ j = mb) ∧ KP R Y5 V ∧ PMc V mb (0 + 1) (fun e => if e = (1, 2) then some x0 else none)) → Calls Tryz.prog 15 #[.pointer (some ⟨t, 0, none⟩), .map (some mb), .agg #[.int .i64 0, .int .i64 (-1)]] V fun e V' => ∃ a c, e = .returned (.slice a 2 c) ∧ (V'.cell? ⟨qa + 1, 0, none⟩ = some (.int .i64 1) ∧ V'.cell? ⟨qa + 1, 1, none⟩ = some (.int .i64 2)) ∧ Hid (LnS V' a 2 c oaL ∧ Below w.heap.size w V')) := hid (fun V mb h => by
    have hx : XP (fun j => R j ∨ j = mb) V (.map (some mb)) oaσ := XP.of h.2.2 (Or.inr rfl) (T := fun _ => oaT) (fun d g hd hg => by
      by_cases e : d = (1, 2)
      · rw [if_pos e] at hg
        cases hg
        refine ⟨by decide, ?_, fun V' hV' => HTM.out V' (h.2.1.trans (hV'.mono (fun j hj => Or.inl hj)))⟩
        unfold oaσ
        rw [if_pos e, oa2]
      · rw [if_neg e] at hg
        cases hg) (fun d hd hg => by
      by_cases e : d = (1, 2)
      · rw [if_pos e] at hg; cases hg
      · unfold oaσ; rw [if_neg e])
    have := under_any t [awA, awB] (some mb) oaσ (fun j => R j ∨ j = mb) (0, -1) V h.1 hx ⟨rfl, rfl⟩
    rw [oa7] at this
    refine this.mono ?_
    rintro e V' ⟨v, rfl, ho, _, hk⟩
    obtain ⟨a, c, rfl, hL⟩ := own_lns ho
    have hk2 := h.2.1.trans (hk.mono (fun j hj => Or.inl hj))
    exact ⟨a, c, rfl, HS.out _ hk2, hid ⟨hL, HE.out _ (HKX.out.trans (hk2.mono HRQ.out))⟩⟩)
  have hmk := @run_makeMap Tryz.prog
  have hS0 := HS.out _ J0.out.2
  have HMB0 : Hid (∀ V, KP R Y5 V → Y5.heap.size ≤ V.heap.size) := hid (fun V h => h.size)
  clear hR hold hz5 hT5 hK35 S5 HC HQ HQW HQA HB1 HQE
  refine wp_region_held_drew (S := fun w' => w'.cell? ⟨qa + 1, 0, none⟩ = some (.int .i64 1) ∧ w'.cell? ⟨qa + 1, 1, none⟩ = some (.int .i64 2)) hmxo hS0 ?_
  intro _
  obtain ⟨Yd, hYd⟩ : ∃ Yd, Yd = Y5.drew := ⟨_, rfl⟩
  rw [← hYd] at hS0 J0 ⊢
  clear hYd
  refine wpAnyH_take (i := 0) (v := .pointer (some ⟨t, 0, none⟩)) rfl (by kernel_rfl) (by kernel_rfl) (by kernel_rfl) (fun _ _ _ h => h) (Or.inl ⟨by kernel_rfl, fun w hSw => ?_⟩) hS0 ?_
  · obtain ⟨e1, e2⟩ := hSw; go_simp
  simp only [Act.put, List.getElem_toArray, List.getElem_cons_succ, List.getElem_cons_zero, List.setIfInBounds_toArray, List.set_cons_zero, List.set_cons_succ]
  refine wpAnyH_take (i := 2) (v := .agg #[.int .i64 1, .int .i64 2]) rfl (by kernel_rfl) (by kernel_rfl) (by kernel_rfl) (fun _ _ _ h => h) (Or.inl ⟨by kernel_rfl, fun w hSw => ?_⟩) hS0 ?_
  · obtain ⟨e1, e2⟩ := hSw; go_simp
  simp only [Act.put, List.getElem_toArray, List.getElem_cons_succ, List.getElem_cons_zero, List.setIfInBounds_toArray, List.set_cons_zero, List.set_cons_succ]
  refine wpAnyH_take (i := 3) (v := .pointer (some ⟨x0, 0, none⟩)) rfl (by kernel_rfl) (by kernel_rfl) (by kernel_rfl) (fun _ _ _ h => h) (Or.inl ⟨by kernel_rfl, fun w hSw => ?_⟩) hS0 ?_
  · obtain ⟨e1, e2⟩ := hSw; go_simp
  simp only [Act.put, List.getElem_toArray, List.getElem_cons_succ, List.getElem_cons_zero, List.setIfInBounds_toArray, List.set_cons_zero, List.set_cons_succ]
  refine wpAnyH_ready (rs := [1, 6]) (by kernel_rfl) (by simp) ?_
  refine AllReadyH.cons rfl (fun K hK => ?_) (AllReadyH.cons rfl (fun K hK => ?_) AllReadyH.nil)
  · go_simp
    obtain ⟨M1, M1S⟩ := HMk.out _ J0.out
    have M1H := hid M1
    obtain ⟨mb, hmb⟩ : ∃ mb, mb = (Yd).heap.size := ⟨_, rfl⟩
    have HMB := hid hmb
    have HMG : Hid (Y5.heap.size ≤ mb) := hid (by rw [hmb]; exact HMB0.out _ J0.out.2)
    refine hK.out _ _ M1S (fun _ => ?_)
    clear hK K
    rw [← hmb] at M1 ⊢
    clear hmb M1H
    have M1J := hid M1
    clear M1
    refine wpAnyH_ready (rs := [4, 6]) (by kernel_rfl) (by simp) ?_
    refine AllReadyH.cons rfl (fun K hK => ?_) (AllReadyH.cons rfl (fun K hK => ?_) AllReadyH.nil)
    · obtain ⟨I2V, I2r, I2S, I2J⟩ := HIn.out _ mb M1J.out HMG.out
      go_simp
      refine hK.out _ _ I2S (fun _ => ?_)
      clear hK K
      refine wpAnyH_take (i := 5) (v := .map (some mb)) rfl (by kernel_rfl) (by kernel_rfl) (by kernel_rfl) (fun _ _ _ h => h) (Or.inl ⟨by kernel_rfl, fun w hSw => ?_⟩) I2S ?_
      · obtain ⟨e1, e2⟩ := hSw; go_simp
      simp only [Act.put, List.getElem_toArray, List.getElem_cons_succ, List.getElem_cons_zero, List.setIfInBounds_toArray, List.set_cons_zero, List.set_cons_succ]
      refine wpAnyH_ready (rs := [6]) (by kernel_rfl) (by simp) ?_
      refine AllReadyH.cons rfl (fun K hK => ?_) AllReadyH.nil
      go_simp
      refine (HRo1.out _ mb _ _ I2J.out).mono ?_
      rintro e N3V ⟨rfl, N3S, N3J⟩
      refine hK.out _ _ N3S (fun _ => ?_)
      clear hK K
      refine wpAnyH_ready (rs := [7]) (by kernel_rfl) (by simp) ?_
      refine AllReadyH.cons rfl (fun K hK => ?_) AllReadyH.nil
      go_simp
      refine (HUn.out _ mb N3J.out).mono ?_
      rintro e V8 ⟨a, c, rfl, V8S, V8J⟩
      refine hK.out _ _ V8S (fun _ => ?_)
      clear hK K
      refine wpAnyH_take (i := 8) (v := .slice a 2 c) rfl (by kernel_rfl) (by kernel_rfl) (by kernel_rfl) (fun _ _ _ h => h) (Or.inl ⟨by kernel_rfl, fun w hSw => ?_⟩) V8S ?_
      · obtain ⟨e1, e2⟩ := hSw; go_simp
      simp only [Act.put, List.getElem_toArray, List.getElem_cons_succ, List.getElem_cons_zero, List.setIfInBounds_toArray, List.set_cons_zero, List.set_cons_succ]
      refine wpAnyH_done (by kernel_rfl) ?_ _
      obtain ⟨hL8, hB8⟩ := V8J.out
      have hm8 : V8.cell? ⟨0, 0, none⟩ = some (.int .i64 m) := by rw [hB8.cell (by simpa using h0)]; exact hm
      have hz8 : 0 < V8.heap.size := by have := hB8.size; omega
      have HSH := hid (show Calls Tryz.prog 18 #[.slice a 2 c] V8 (fun e V9 => e = .returned (.string ⟨#[45, 32, 10, 32, 32, 45, 32, 121, 10]⟩) ∧ Below V8.heap.size V8 V9) from by
        have := show_any a 2 c oaL m V8 hL8 (by intro x hx; simp [oaL] at hx; rcases hx with rfl | rfl <;> simp) (by omega) hm8 hz8
        rw [oa8] at this
        exact this)
      have HB8 := hid hB8
      have HL8 := hid hL8
      have HRD1 : Hid (∀ V, Below w.heap.size w V → Calls Tryz.prog 20 #[.string ⟨#[45, 32, 10, 32, 32, 45, 32, 121, 10]⟩] V fun e V' => ∃ a2 c2, e = .returned (.tuple #[.slice a2 2 c2, .int .i64 0]) ∧ Hid (LnS V' a2 2 c2 [⟨(0, 0), 0, []⟩, ⟨(0, 0), 1, [121]⟩] ∧ Below V.heap.size V V')) := hid (fun V hV => by
        have := read_any [45, 32, 10, 32, 32, 45, 32, 121, 10] m V (by decide) (by rw [hV.cell (by simpa using h0)]; exact hm) (by have := hV.size; omega)
        rw [oa11.1, oa11.2] at this
        refine this.mono ?_
        rintro e V' ⟨v, rfl, ho, hb⟩
        obtain ⟨a2, c2, rfl, hL⟩ := own_lns ho
        exact ⟨a2, c2, rfl, hid ⟨hL, hb⟩⟩)
      have HRD2 : Hid (∀ V, Below w.heap.size w V → Calls Tryz.prog 20 #[.string ⟨#[32, 32, 45, 32, 121, 10]⟩] V fun e V' => ∃ a3 c3, e = .returned (.tuple #[.slice a3 0 c3, .int .i64 11]) ∧ Hid (Below V.heap.size V V')) := hid (fun V hV => by
        have := read_any [32, 32, 45, 32, 121, 10] m V (by decide) (by rw [hV.cell (by simpa using h0)]; exact hm) (by have := hV.size; omega)
        rw [oa12.1, oa12.2] at this
        refine this.mono ?_
        rintro e V' ⟨v, rfl, ho, hb⟩
        obtain ⟨a2, c2, rfl, hL⟩ := own_lns ho
        exact ⟨a2, c2, rfl, hid hb⟩)
      clear hL8 hB8 hm8 hz8
      go_upto_region 10 with (go_at_call 18; refine HSH.out.mono ?_; rintro e V9 ⟨rfl, hb9⟩)
      have HB9 := hid (HB8.out.trans (hb9.mono HB8.out.size))
      have HL9 := hid (HL8.out.below hb9)
      clear hb9
      go_upto_region 11 with (go_at_call 20; refine (HRD1.out _ HB9.out).mono ?_; rintro e Va ⟨a2, c2, rfl, S10⟩)
      have HBa := hid (HB9.out.trans (S10.out.2.mono HB9.out.size))
      have HLa := hid (HL9.out.below S10.out.2)
      go_upto_region 12 with (go_at_call 20; refine (HRD2.out _ HBa.out).mono ?_; rintro e Vb ⟨a3, c3, rfl, S11⟩)
      have HBb := hid (HBa.out.trans (S11.out.mono HBa.out.size))
      obtain ⟨g1, o1, rfl, hg1, hc1⟩ := (HLa.out.below S11.out).at_ (by decide)
      have k1 := hc1 1 (by decide) 2 (.int .i64 1) rfl
      obtain ⟨g2, o2, rfl, hg2, hc2⟩ := (S10.out.1.below S11.out).at_ (by decide)
      have k2 := hc2 1 (by decide) 3 (.string ⟨#[121]⟩) rfl
      clear hc1 hc2
      go_wp2
      go_ret
      exact ⟨rfl, HBb.out⟩
    · go_simp
      refine (HRo1.out _ mb _ _ M1J.out).mono ?_
      rintro e N2V ⟨rfl, N2S, N2J⟩
      refine hK.out _ _ N2S (fun _ => ?_)
      clear hK K
      refine wpAnyH_ready (rs := [4]) (by kernel_rfl) (by simp) ?_
      refine AllReadyH.cons rfl (fun K hK => ?_) AllReadyH.nil
      obtain ⟨I3V, I3r, I3S, I3J⟩ := HIn.out _ mb N2J.out HMG.out
      go_simp
      refine hK.out _ _ I3S (fun _ => ?_)
      clear hK K
      refine wpAnyH_take (i := 5) (v := .map (some mb)) rfl (by kernel_rfl) (by kernel_rfl) (by kernel_rfl) (fun _ _ _ h => h) (Or.inl ⟨by kernel_rfl, fun w hSw => ?_⟩) I3S ?_
      · obtain ⟨e1, e2⟩ := hSw; go_simp
      simp only [Act.put, List.getElem_toArray, List.getElem_cons_succ, List.getElem_cons_zero, List.setIfInBounds_toArray, List.set_cons_zero, List.set_cons_succ]
      refine wpAnyH_ready (rs := [7]) (by kernel_rfl) (by simp) ?_
      refine AllReadyH.cons rfl (fun K hK => ?_) AllReadyH.nil
      go_simp
      refine (HUn.out _ mb I3J.out).mono ?_
      rintro e V8 ⟨a, c, rfl, V8S, V8J⟩
      refine hK.out _ _ V8S (fun _ => ?_)
      clear hK K
      refine wpAnyH_take (i := 8) (v := .slice a 2 c) rfl (by kernel_rfl) (by kernel_rfl) (by kernel_rfl) (fun _ _ _ h => h) (Or.inl ⟨by kernel_rfl, fun w hSw => ?_⟩) V8S ?_
      · obtain ⟨e1, e2⟩ := hSw; go_simp
      simp only [Act.put, List.getElem_toArray, List.getElem_cons_succ, List.getElem_cons_zero, List.setIfInBounds_toArray, List.set_cons_zero, List.set_cons_succ]
      refine wpAnyH_done (by kernel_rfl) ?_ _
      obtain ⟨hL8, hB8⟩ := V8J.out
      have hm8 : V8.cell? ⟨0, 0, none⟩ = some (.int .i64 m) := by rw [hB8.cell (by simpa using h0)]; exact hm
      have hz8 : 0 < V8.heap.size := by have := hB8.size; omega
      have HSH := hid (show Calls Tryz.prog 18 #[.slice a 2 c] V8 (fun e V9 => e = .returned (.string ⟨#[45, 32, 10, 32, 32, 45, 32, 121, 10]⟩) ∧ Below V8.heap.size V8 V9) from by
        have := show_any a 2 c oaL m V8 hL8 (by intro x hx; simp [oaL] at hx; rcases hx with rfl | rfl <;> simp) (by omega) hm8 hz8
        rw [oa8] at this
        exact this)
      have HB8 := hid hB8
      have HL8 := hid hL8
      have HRD1 : Hid (∀ V, Below w.heap.size w V → Calls Tryz.prog 20 #[.string ⟨#[45, 32, 10, 32, 32, 45, 32, 121, 10]⟩] V fun e V' => ∃ a2 c2, e = .returned (.tuple #[.slice a2 2 c2, .int .i64 0]) ∧ Hid (LnS V' a2 2 c2 [⟨(0, 0), 0, []⟩, ⟨(0, 0), 1, [121]⟩] ∧ Below V.heap.size V V')) := hid (fun V hV => by
        have := read_any [45, 32, 10, 32, 32, 45, 32, 121, 10] m V (by decide) (by rw [hV.cell (by simpa using h0)]; exact hm) (by have := hV.size; omega)
        rw [oa11.1, oa11.2] at this
        refine this.mono ?_
        rintro e V' ⟨v, rfl, ho, hb⟩
        obtain ⟨a2, c2, rfl, hL⟩ := own_lns ho
        exact ⟨a2, c2, rfl, hid ⟨hL, hb⟩⟩)
      have HRD2 : Hid (∀ V, Below w.heap.size w V → Calls Tryz.prog 20 #[.string ⟨#[32, 32, 45, 32, 121, 10]⟩] V fun e V' => ∃ a3 c3, e = .returned (.tuple #[.slice a3 0 c3, .int .i64 11]) ∧ Hid (Below V.heap.size V V')) := hid (fun V hV => by
        have := read_any [32, 32, 45, 32, 121, 10] m V (by decide) (by rw [hV.cell (by simpa using h0)]; exact hm) (by have := hV.size; omega)
        rw [oa12.1, oa12.2] at this
        refine this.mono ?_
        rintro e V' ⟨v, rfl, ho, hb⟩
        obtain ⟨a2, c2, rfl, hL⟩ := own_lns ho
        exact ⟨a2, c2, rfl, hid hb⟩)
      clear hL8 hB8 hm8 hz8
      go_upto_region 10 with (go_at_call 18; refine HSH.out.mono ?_; rintro e V9 ⟨rfl, hb9⟩)
      have HB9 := hid (HB8.out.trans (hb9.mono HB8.out.size))
      have HL9 := hid (HL8.out.below hb9)
      clear hb9
      go_upto_region 11 with (go_at_call 20; refine (HRD1.out _ HB9.out).mono ?_; rintro e Va ⟨a2, c2, rfl, S10⟩)
      have HBa := hid (HB9.out.trans (S10.out.2.mono HB9.out.size))
      have HLa := hid (HL9.out.below S10.out.2)
      go_upto_region 12 with (go_at_call 20; refine (HRD2.out _ HBa.out).mono ?_; rintro e Vb ⟨a3, c3, rfl, S11⟩)
      have HBb := hid (HBa.out.trans (S11.out.mono HBa.out.size))
      obtain ⟨g1, o1, rfl, hg1, hc1⟩ := (HLa.out.below S11.out).at_ (by decide)
      have k1 := hc1 1 (by decide) 2 (.int .i64 1) rfl
      obtain ⟨g2, o2, rfl, hg2, hc2⟩ := (S10.out.1.below S11.out).at_ (by decide)
      have k2 := hc2 1 (by decide) 3 (.string ⟨#[121]⟩) rfl
      clear hc1 hc2
      go_wp2
      go_ret
      exact ⟨rfl, HBb.out⟩
  · go_simp
    refine (HRo0.out _ J0.out).mono ?_
    rintro e N1V ⟨rfl, N1S, N1J⟩
    refine hK.out _ _ N1S (fun _ => ?_)
    clear hK K
    refine wpAnyH_ready (rs := [1]) (by kernel_rfl) (by simp) ?_
    refine AllReadyH.cons rfl (fun K hK => ?_) AllReadyH.nil
    go_simp
    obtain ⟨M2, M2S⟩ := HMk.out _ N1J.out
    have M2H := hid M2
    obtain ⟨mb, hmb⟩ : ∃ mb, mb = (N1V).heap.size := ⟨_, rfl⟩
    have HMB := hid hmb
    have HMG : Hid (Y5.heap.size ≤ mb) := hid (by rw [hmb]; exact HMB0.out _ N1J.out.2)
    refine hK.out _ _ M2S (fun _ => ?_)
    clear hK K
    rw [← hmb] at M2 ⊢
    clear hmb M2H
    have M2J := hid M2
    clear M2
    refine wpAnyH_ready (rs := [4]) (by kernel_rfl) (by simp) ?_
    refine AllReadyH.cons rfl (fun K hK => ?_) AllReadyH.nil
    obtain ⟨I3V, I3r, I3S, I3J⟩ := HIn.out _ mb M2J.out HMG.out
    go_simp
    refine hK.out _ _ I3S (fun _ => ?_)
    clear hK K
    refine wpAnyH_take (i := 5) (v := .map (some mb)) rfl (by kernel_rfl) (by kernel_rfl) (by kernel_rfl) (fun _ _ _ h => h) (Or.inl ⟨by kernel_rfl, fun w hSw => ?_⟩) I3S ?_
    · obtain ⟨e1, e2⟩ := hSw; go_simp
    simp only [Act.put, List.getElem_toArray, List.getElem_cons_succ, List.getElem_cons_zero, List.setIfInBounds_toArray, List.set_cons_zero, List.set_cons_succ]
    refine wpAnyH_ready (rs := [7]) (by kernel_rfl) (by simp) ?_
    refine AllReadyH.cons rfl (fun K hK => ?_) AllReadyH.nil
    go_simp
    refine (HUn.out _ mb I3J.out).mono ?_
    rintro e V8 ⟨a, c, rfl, V8S, V8J⟩
    refine hK.out _ _ V8S (fun _ => ?_)
    clear hK K
    refine wpAnyH_take (i := 8) (v := .slice a 2 c) rfl (by kernel_rfl) (by kernel_rfl) (by kernel_rfl) (fun _ _ _ h => h) (Or.inl ⟨by kernel_rfl, fun w hSw => ?_⟩) V8S ?_
    · obtain ⟨e1, e2⟩ := hSw; go_simp
    simp only [Act.put, List.getElem_toArray, List.getElem_cons_succ, List.getElem_cons_zero, List.setIfInBounds_toArray, List.set_cons_zero, List.set_cons_succ]
    refine wpAnyH_done (by kernel_rfl) ?_ _
    obtain ⟨hL8, hB8⟩ := V8J.out
    have hm8 : V8.cell? ⟨0, 0, none⟩ = some (.int .i64 m) := by rw [hB8.cell (by simpa using h0)]; exact hm
    have hz8 : 0 < V8.heap.size := by have := hB8.size; omega
    have HSH := hid (show Calls Tryz.prog 18 #[.slice a 2 c] V8 (fun e V9 => e = .returned (.string ⟨#[45, 32, 10, 32, 32, 45, 32, 121, 10]⟩) ∧ Below V8.heap.size V8 V9) from by
      have := show_any a 2 c oaL m V8 hL8 (by intro x hx; simp [oaL] at hx; rcases hx with rfl | rfl <;> simp) (by omega) hm8 hz8
      rw [oa8] at this
      exact this)
    have HB8 := hid hB8
    have HL8 := hid hL8
    have HRD1 : Hid (∀ V, Below w.heap.size w V → Calls Tryz.prog 20 #[.string ⟨#[45, 32, 10, 32, 32, 45, 32, 121, 10]⟩] V fun e V' => ∃ a2 c2, e = .returned (.tuple #[.slice a2 2 c2, .int .i64 0]) ∧ Hid (LnS V' a2 2 c2 [⟨(0, 0), 0, []⟩, ⟨(0, 0), 1, [121]⟩] ∧ Below V.heap.size V V')) := hid (fun V hV => by
      have := read_any [45, 32, 10, 32, 32, 45, 32, 121, 10] m V (by decide) (by rw [hV.cell (by simpa using h0)]; exact hm) (by have := hV.size; omega)
      rw [oa11.1, oa11.2] at this
      refine this.mono ?_
      rintro e V' ⟨v, rfl, ho, hb⟩
      obtain ⟨a2, c2, rfl, hL⟩ := own_lns ho
      exact ⟨a2, c2, rfl, hid ⟨hL, hb⟩⟩)
    have HRD2 : Hid (∀ V, Below w.heap.size w V → Calls Tryz.prog 20 #[.string ⟨#[32, 32, 45, 32, 121, 10]⟩] V fun e V' => ∃ a3 c3, e = .returned (.tuple #[.slice a3 0 c3, .int .i64 11]) ∧ Hid (Below V.heap.size V V')) := hid (fun V hV => by
      have := read_any [32, 32, 45, 32, 121, 10] m V (by decide) (by rw [hV.cell (by simpa using h0)]; exact hm) (by have := hV.size; omega)
      rw [oa12.1, oa12.2] at this
      refine this.mono ?_
      rintro e V' ⟨v, rfl, ho, hb⟩
      obtain ⟨a2, c2, rfl, hL⟩ := own_lns ho
      exact ⟨a2, c2, rfl, hid hb⟩)
    clear hL8 hB8 hm8 hz8
    go_upto_region 10 with (go_at_call 18; refine HSH.out.mono ?_; rintro e V9 ⟨rfl, hb9⟩)
    have HB9 := hid (HB8.out.trans (hb9.mono HB8.out.size))
    have HL9 := hid (HL8.out.below hb9)
    clear hb9
    go_upto_region 11 with (go_at_call 20; refine (HRD1.out _ HB9.out).mono ?_; rintro e Va ⟨a2, c2, rfl, S10⟩)
    have HBa := hid (HB9.out.trans (S10.out.2.mono HB9.out.size))
    have HLa := hid (HL9.out.below S10.out.2)
    go_upto_region 12 with (go_at_call 20; refine (HRD2.out _ HBa.out).mono ?_; rintro e Vb ⟨a3, c3, rfl, S11⟩)
    have HBb := hid (HBa.out.trans (S11.out.mono HBa.out.size))
    obtain ⟨g1, o1, rfl, hg1, hc1⟩ := (HLa.out.below S11.out).at_ (by decide)
    have k1 := hc1 1 (by decide) 2 (.int .i64 1) rfl
    obtain ⟨g2, o2, rfl, hg2, hc2⟩ := (S10.out.1.below S11.out).at_ (by decide)
    have k2 := hc2 1 (by decide) 3 (.string ⟨#[121]⟩) rfl
    clear hc1 hc2
    go_wp2
    go_ret
    exact ⟨rfl, HBb.out⟩
end

section
set_option linter.unusedVariables false
set_option linter.unusedSimpArgs false
open Go.RowKit Go.Shelf

set_option maxRecDepth 100000 in
set_option maxHeartbeats 4000000 in
theorem shows_walk (a : Option Addr) (n c : Nat) (L : List Ln) (m : Int) (w : World) (h : LnS w a n c L) (hf : ∀ y ∈ L, y.Fits) (hm : w.cell? ⟨0, 0, none⟩ = some (.int .i64 m)) (h0 : 0 < w.heap.size) :
    Calls Tryz.prog 4 #[.slice a n c] w fun e w' => e = .returned (.bool true) ∧ Below w.heap.size w w' := by
  have HL := hid h.len
  have HS := hid h
  have HF := hid hf
  have HAW := hid (olawake_any m w hm h0)
  have HM := hid hm
  clear h hf
  go_enter Tryz.func4, Tryz.ntmps4
  go_upto_region 4 with (go_at_call 9; refine HAW.out.mono ?_; rintro e W1 ⟨rfl, hB1⟩)
  have HB1 := hid hB1
  have HSH := hid (shallow_any a n c L W1 (HS.out.below hB1) HF.out)
  clear hB1
  obtain ⟨ok, hok⟩ : ∃ ok, ok = shB L := ⟨_, rfl⟩
  rw [← hok] at HSH
  have HOK := hid hok
  clear hok
  go_upto_region 5 with (go_at_call 17; refine HSH.out.mono ?_; rintro e W1 ⟨rfl, rfl⟩)
  cases ok with
  | false =>
    go_wp2
    go_ret
    exact ⟨rfl, HB1.out⟩
  | true =>
    obtain ⟨hall, hn100⟩ := shB_yes HOK.out.symm
    have hn : n ≤ 100 := by rw [← HL.out]; exact hn100
    have hm1 : W1.cell? ⟨0, 0, none⟩ = some (.int .i64 m) := by rw [HB1.out.cell (by simpa using h0)]; exact hm
    have hz1 : 0 < W1.heap.size := by have := HB1.out.size; omega
    obtain ⟨st, hst⟩ : ∃ st, st = sB (showL L) := ⟨_, rfl⟩
    have H1 := hid (show_any a n c L m W1 (HS.out.below HB1.out) (fun y hy => ⟨(HF.out y hy).d.1, by have := (hall y hy).2; omega, by have := (hall y hy).1; omega⟩) (by omega) hm1 hz1)
    have H2 : Hid (∀ V, Below W1.heap.size W1 V → Calls Tryz.prog 19 #[.slice a n c] V fun e V' => e = .returned (.string st) ∧ Hid (Below W1.heap.size W1 V')) := hid (fun V hV => by
      have := rshow_any a n c L V ((HS.out.below HB1.out).below hV) (fun y hy => ⟨(HF.out y hy).d.1, (hall y hy).2, (hall y hy).1⟩) hn
      rw [← hst] at this
      exact this.mono (fun e V' g => ⟨g.1, hid (hV.trans (g.2.mono hV.size))⟩))
    rw [← hst] at H1
    clear hall hn100 hst hm1 hm
    go_wp2_with (first
      | (go_at_call 18; refine H1.out.mono ?_; rintro e W2 ⟨rfl, hB2⟩; have HB2 := hid hB2; clear hB2)
      | (go_at_call 19; refine (H2.out _ HB2.out).mono ?_; rintro e W3 ⟨rfl, HB3⟩))
    go_ret
    exact ⟨by simp, HB1.out.trans (HB3.out.mono HB1.out.size)⟩
end

section
set_option linter.unusedVariables false
open Go.RowKit

def Mv.cells (x : Mv) : List Value := [.int .i64 x.id.1, .int .i64 x.id.2, .int .i64 x.time, .int .i64 x.block.1, .int .i64 x.block.2, .int .i64 x.parent.1, .int .i64 x.parent.2, .string x.key]

def T64 (n : Int) : Prop := -9223372036854775808 ≤ n ∧ n ≤ 9223372036854775807
theorem t64_wf {n : Int} (h : (Lit.int .i64 n).wf = true) : T64 n := by
  simp [Lit.wf] at h
  unfold T64
  exact h

structure Mv.Fits (x : Mv) : Prop where
  id : Dw x.id
  time : T64 x.time
  block : Dw x.block
  parent : Dw x.parent
  key : x.key.data.size ≤ maxLen

theorem tadd_none (g o k : Nat) : (⟨g, o, none⟩ : Addr).add k = ⟨g, o + k, none⟩ := by unfold Addr.add; split <;> simp_all

section
open Go.ChangeShapes Go.WideShapes
variable {H : Type} {enc : TypeId × Value → H} {P : Program} {w : World} {base : Nat} {spare : Nat → Bool} {held : Bool}

end
end

section
set_option linter.unusedVariables false
open Go.RowKit

section
open Go.ChangeShapes Go.WideShapes
variable {H : Type} {enc : TypeId × Value → H} {P : Program} {w : World} {base : Nat} {spare : Nat → Bool} {held : Bool}

theorem open_lnl {tM tDot tInt tStr : TypeId} {fs : Array Field} {g0 g1 : Field} {L : List Value} {fuel : Nat} {x : DataW H × List MemPlace}
    (hO : P.underlying tM = some (.struct fs)) (hF : fs.toList.map (fun f => (f.type, f.offset)) = [(tDot, 0), (tInt, 2), (tStr, 3)])
    (hD : P.underlying tDot = some (.struct #[g0, g1])) (hg : g0.type = tInt ∧ g0.offset = 0 ∧ g1.type = tInt ∧ g1.offset = 1)
    (hI : P.underlying tInt = some (.int .i64)) (hS : P.underlying tStr = some .string) (cO : P.cellsOf tM = 4) (cD : P.cellsOf tDot = 2) (cI : P.cellsOf tInt = 1) (cS : P.cellsOf tStr = 1)
    (hf : DataW.trod enc P w base spare held fuel tM L = some x) :
    ∃ m : Ln, L = m.cells ∧ m.Fits := by
  obtain ⟨xs, n, _, hx, hl, hlen, hq⟩ := DataW.trod_struct hO hf
  have F := fun i t o hi => fld (enc := enc) (w := w) (base := base) (spare := spare) (held := held) hF hlen hq i (t := t) (o := o) hi
  obtain ⟨y0, f0, _⟩ := F 0 _ _ rfl
  obtain ⟨y1, f1, _⟩ := F 1 _ _ rfl
  obtain ⟨y4, f4, _⟩ := F 2 _ _ rfl
  rw [cI] at f1
  rw [cD] at f0
  rw [cS] at f4
  obtain ⟨a0, s0, e0, u0, v0, _⟩ := dot_part hD hg hI cI f0
  obtain ⟨z1, e1, _, u1⟩ := DataW.trod_int hI f1
  obtain ⟨k, e4, _, u4⟩ := DataW.trod_string hS f4
  refine ⟨⟨(a0, s0), z1, k.data.toList⟩, ?_, ⟨⟨u0, v0⟩, t64_wf u1, by simpa [maxLen] using u4⟩⟩
  have p0 := part_two e0
  have p1 := part_one e1
  have p4 := part_one e4
  rw [cO] at hl
  apply List.ext_getElem?
  intro i
  match i with
  | 0 => exact p0.1
  | 1 => exact p0.2
  | 2 => exact p1
  | 3 => exact p4
  | i + 4 => rw [List.getElem?_eq_none (by omega), List.getElem?_eq_none (by simp [Ln.cells])]
end

theorem cellsLn : Tryz.prog.cellsOf 54 = 4 := by kernel_rfl
theorem olcells9 : Tryz.prog.cellsOf 9 = 1 := by kernel_rfl

set_option maxRecDepth 100000 in
theorem open_lns {H : Type} {enc : TypeId × Value → H} {W : World} {a : Option Addr} {len cap : Nat} {d : DataW H} {p : List MemPlace} (h : DataW.Trod enc Tryz.prog W 0 (fun _ => true) true 43 (.slice a len cap) d p) :
    ∃ L, LnS W a len cap L ∧ ∀ m ∈ L, m.Fits := by
  obtain ⟨fuel, hf⟩ := h
  rcases Go.Deep.open_slice Tryz.underlying43 hf with ⟨hcs, _⟩ | ⟨x, l, c, m, n, D, Pl, hcs, _, hl, hm, hmm, _, hx⟩
  · simp [Value.cells] at hcs
    obtain ⟨rfl, rfl, rfl⟩ := hcs
    exact ⟨[], ⟨rfl, Nat.le_refl _, Nat.zero_le _, fun _ => ⟨rfl, rfl⟩, fun h => absurd h (by omega)⟩, fun x hx => by simp at hx⟩
  · simp [Value.cells] at hcs
    obtain ⟨rfl, rfl, rfl⟩ := hcs
    have hlm : len ≤ m := by rw [hmm]; split <;> omega
    have each : ∀ i, i < m → ∃ y : Ln, (∀ j u, y.cells[j]? = some u → W.cell? ((x.add (i * 4)).add j) = some u) ∧ y.Fits := by
      intro i hi
      obtain ⟨cs, h1, h2⟩ := hx i hi
      rw [cellsLn] at h1
      obtain ⟨_, hlen, hcell⟩ := World.cells?_some h1
      obtain ⟨y, rfl, hfit⟩ := open_lnl Tryz.underlying54 rfl Tryz.underlying24 ⟨rfl, rfl, rfl, rfl⟩ Tryz.underlying3 Tryz.underlying9 cellsLn dotCells intCells olcells9 h2
      refine ⟨y, fun j u hj => ?_, hfit⟩
      have hj8 : j < 4 := by
        rcases Nat.lt_or_ge j 4 with h' | h'
        · exact h'
        · rw [List.getElem?_eq_none (by simpa [Ln.cells] using h')] at hj; cases hj
      have := hcell j hj8
      rw [this]
      exact hj
    haveI : Inhabited Ln := ⟨⟨(0, 0), 0, []⟩⟩
    obtain ⟨q, hq⟩ := Go.Deep.choose_lt each
    refine ⟨(List.range len).map q, ⟨by simp, hl, hm, (fun e => by cases e), fun hp => ?_⟩, fun y hy => ?_⟩
    · obtain ⟨g, o, sp⟩ := x
      have h0 := (hq 0 (by omega)).1 0 (.int .i64 (q 0).b.1) rfl
      have hs : sp = none := by simpa [Addr.add] using World.cell?_spot h0
      subst hs
      refine ⟨g, o, rfl, by have := cell_in h0; simpa [Addr.add] using this, fun i hi j u hj => ?_⟩
      have hil : i < len := by simpa using hi
      have hi' := (hq i (by omega)).1
      rw [List.getElem_map, List.getElem_range] at hj
      have := hi' j u hj
      rw [tadd_none, tadd_none] at this
      exact this
    · obtain ⟨i, hi, rfl⟩ := List.mem_map.1 hy
      exact (hq i (by have := List.mem_range.1 hi; omega)).2

/-- The plain wrap, with the listed variables and the world's shape. -/
theorem ol_wrap {H : Type} {enc : TypeId × Value → H} {C : Checked} {os : Os} {f : FuncId} {fn : Func} {s : ChangeSpec} {laid : List (String × DataW Unit)}
    (own : ownKnob C.prog.godebug = Option.none) (started : os.Started) (noInit : C.prog.inits.idxOf? f = Option.none) (hfn : C.prog.funcs[f]? = some fn)
    (witness : ∃ (w : World) (tape : Tape) (i : Input), w.os = os ∧ (w.forCall tape i).Shaped C.prog ∧ i.vars = [] ∧ Input.okWide C.prog (w.forCall tape i) .any w.heap.size f i ∧
      ((s.pre enc C.prog fn [] false (w.forCall tape i).memory i.args ∧ laidMetH C.prog laid (w.forCall tape i).memory) ∧ sizedMet enc C.prog fn (OpenSpec.ofChange s) false (w.forCall tape i).memory i.args) ∧ ({} : Assume).holds C.prog (lone (Frame.enter C.prog f i.args .normal) [] (w.forCall tape i)))
    (contract : ∀ (W : World) (base : Nat) (args : Array Value) (ds gs : List (DataW H)) (before : List MemPlace),
      (∀ (j : Nat) t v, fn.params[j]? = some t → args[j]? = some v → Value.okWide C.prog W .any base t v) →
      DataW.Whole enc C.prog fn.params.toList s.vars false W args.toList ds gs before → W.ShapedOpen C.prog →
      Calls C.prog f args W fun e W' => ∃ v, e = .returned v ∧ s.post enc C.prog fn false true false false W args v W') :
    ReturnsInHanded {} C os f .any (fun w args => (s.pre enc C.prog fn [] false w args ∧ laidMetH C.prog laid w) ∧ sizedMet enc C.prog fn (OpenSpec.ofChange s) false w args) (s.post enc C.prog fn false true false false) := by
  refine returnsInHanded_of_calls own started noInit witness ?_
  rintro w tape i _ hsh _ ⟨_, _, _, fn', hfn', _, _, _, _, hval⟩ ⟨⟨⟨ds, gs, before, hw, _⟩, _⟩, _⟩ _
  obtain rfl : fn' = fn := Option.some.inj (hfn'.symm.trans hfn)
  exact (contract (w.forCall tape i) w.heap.size i.args ds gs before hval (DataW.Whole.of_heap (w' := w.forCall tape i) (by rfl) hw) hsh).mono fun e W' ⟨v, he, hp⟩ => by
    subst he
    exact ChangeSpec.post_blind hp
end
end Go.Proofs.YtnmdcdphpcpojaaGreatDoor
