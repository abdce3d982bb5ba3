/- The tree in memory, in one form. No function of the program. -/
import Derived.Test.YtnmdcdphpcpojaaGreatDoorTrDo
import Derived.Test.YtnmdcdphpcpojaaGreatDoorTrCmp
import Derived.Laws.AppendOwn
import Derived.Laws.OwnMore
import Derived.Test.YtnmdcdphpcpojaaGreatDoorMKeys
import Derived.Maps.OwnSet
import Derived.Sort.KeysCollected
import Derived.Test.YtnmdcdphpcpojaaGreatDoorOParts
namespace Go.Proofs.YtnmdcdphpcpojaaGreatDoor
section
set_option linter.unusedVariables false
set_option linter.unusedSimpArgs false
open Go.RowKit

theorem KB.trans2 {w V X : World} {B : Nat → Prop} {t : Nat} (h1 : KB w V B t) (h2 : KB V X (Bn w V B) t) : KB w X B t :=
  ⟨Nat.le_trans h1.size h2.size, fun j hj hB hjt => (h2.keep j (Nat.lt_of_lt_of_le hj h1.size) (fun h => by
    rcases h with h | h
    · exact hB h
    · omega) hjt).trans (h1.keep j hj hB hjt), h1.sm.trans h2.sm⟩

/-- What is there behind it. -/
def undS (S : List Sp) (b : Dt) (tk : Bool) (o : Option Pl) : List Sp := if tk then back S b o else S

set_option maxRecDepth 100000 in
set_option maxHeartbeats 8000000 in
theorem undo_any (t g : Nat) (lg fd dn pl kd : Value) (S : List Sp) (B : Nat → Prop) (m : Mv) (T : Bool) (o : Option Pl) (w : World) (hnd : (S.map Sp.b).Nodup) (hT : TB w t lg fd dn pl kd) (hS : SB w pl kd S B) (hE : EN w g m T (o.getD pl0)) (hBt : ¬ B t) (hBg : ¬ B g) (hBs : ∀ j, B j → j < w.heap.size) (hW : Ws S) (hdw : ∀ x ∈ S, Dw x.b) (hdb : Dw m.block) (hdo : ∀ q, o = some q → Dw q.1 ∧ q.1 ≠ (0, 0)) (hlen : S.length < 1000000) :
    Calls Tryz.prog 99 #[.pointer (some ⟨t, 3, none⟩), .pointer (some ⟨g, 0, none⟩)] w fun e w' => e = .returned (.tuple #[]) ∧ ∃ pl' kd', TB w' t lg fd dn pl' kd' ∧ SB w' pl' kd' (undS S m.block T o) (Bn w w' B) ∧ EN w' g m T (o.getD pl0) ∧ KB w w' B t := by
  have htw : t < w.heap.size := (Array.getElem?_eq_some_iff.1 hT).1
  have hgw : g < w.heap.size := (Array.getElem?_eq_some_iff.1 hE).1
  have htg : t ≠ g := fun e => by
    unfold TB at hT
    unfold EN at hE
    rw [e, hE] at hT
    simp at hT
  obtain ⟨⟨i1, i2⟩, tm, ⟨b1, b2⟩, ⟨p1, p2⟩, ky⟩ := m
  have hmxo : Tryz.prog.follows .mixedOrders = true := by kernel_rfl
  obtain ⟨q1, q2, qk, hq⟩ : ∃ q1 q2 qk, o.getD pl0 = ((q1, q2), qk) := ⟨_, _, _, rfl⟩
  rw [hq] at hE ⊢
  have HC : ∀ V : World, EN V g ⟨(i1, i2), tm, (b1, b2), (p1, p2), ky⟩ T ((q1, q2), qk) → (V.cell? ⟨g, 3, none⟩ = some (.int .i64 b1) ∧ V.cell? ⟨g, 4, none⟩ = some (.int .i64 b2) ∧ V.cell? ⟨g, 8, none⟩ = some (.bool T) ∧ V.cell? ⟨g, 9, none⟩ = some (.int .i64 q1) ∧ V.cell? ⟨g, 10, none⟩ = some (.int .i64 q2) ∧ V.cell? ⟨g, 11, none⟩ = some (.string qk)) := fun V h => by
    unfold EN at h
    exact ⟨by simp [World.cell?, h], by simp [World.cell?, h], by simp [World.cell?, h], by simp [World.cell?, h], by simp [World.cell?, h], by simp [World.cell?, h]⟩
  have HCw := HC w hE
  have HO : Hid (o.isSome = true → undS S (b1, b2) true o = lift S (b1, b2) ++ [⟨(b1, b2), (q1, q2), qk⟩]) := hid (fun h => by
    obtain ⟨q, hq'⟩ := Option.isSome_iff_exists.1 h
    subst hq'
    have e7 : q = ((q1, q2), qk) := hq
    unfold undS back
    rw [if_pos rfl, e7])
  have HO2 : Hid (o.isSome = false → undS S (b1, b2) true o = lift S (b1, b2) ∧ q1 = 0 ∧ q2 = 0 ∧ qk = ⟨#[]⟩) := hid (fun h => by
    cases o with
    | some q => cases h
    | none =>
      have e7 : pl0 = ((q1, q2), qk) := hq
      unfold pl0 at e7
      simp only [Prod.mk.injEq] at e7
      exact ⟨rfl, e7.1.1.symm, e7.1.2.symm, e7.2.symm⟩)
  have HO3 : Hid (o.isSome = true → (q1, q2) ≠ (0, 0) ∧ Dw (q1, q2)) := hid (fun h => by
    obtain ⟨q, hq'⟩ := Option.isSome_iff_exists.1 h
    have := hdo q hq'
    subst hq'
    have e7 : q = ((q1, q2), qk) := hq
    rw [e7] at this
    exact ⟨this.2, this.1⟩)
  cases T with
  | false =>
    obtain ⟨x3, x4, x8, x9, x10, x11⟩ := HCw
    have hfin : Hid (∃ pl' kd', TB w t lg fd dn pl' kd' ∧ SB w pl' kd' (undS S (b1, b2) false o) (Bn w w B) ∧ EN w g ⟨(i1, i2), tm, (b1, b2), (p1, p2), ky⟩ false ((q1, q2), qk) ∧ KB w w B t) := hid ⟨pl, kd, hT, hS.mono (fun j h => Or.inl h), hE, ⟨Nat.le_refl _, fun _ _ _ _ => rfl, Sm.refl _⟩⟩
    clear hT hS hE hnd hW hdw HC HO HO2 HO3 hq hdo
    go_enter Tryz.func99, Tryz.ntmps99
    go_wp2
    refine bodyPost_ret (results_none rfl _ _ _) rfl ?_
    exact ⟨rfl, hfin.out⟩
  | true =>
    have HR1 : Calls Tryz.prog 122 #[.pointer (some ⟨t, 3, none⟩), .agg #[.int .i64 b1, .int .i64 b2]] w fun e W3 => e = .returned (.tuple #[]) ∧ (W3.cell? ⟨g, 3, none⟩ = some (.int .i64 b1) ∧ W3.cell? ⟨g, 4, none⟩ = some (.int .i64 b2) ∧ W3.cell? ⟨g, 8, none⟩ = some (.bool true) ∧ W3.cell? ⟨g, 9, none⟩ = some (.int .i64 q1) ∧ W3.cell? ⟨g, 10, none⟩ = some (.int .i64 q2) ∧ W3.cell? ⟨g, 11, none⟩ = some (.string qk)) ∧ (W3.drew.cell? ⟨g, 3, none⟩ = some (.int .i64 b1) ∧ W3.drew.cell? ⟨g, 4, none⟩ = some (.int .i64 b2) ∧ W3.drew.cell? ⟨g, 8, none⟩ = some (.bool true) ∧ W3.drew.cell? ⟨g, 9, none⟩ = some (.int .i64 q1) ∧ W3.drew.cell? ⟨g, 10, none⟩ = some (.int .i64 q2) ∧ W3.drew.cell? ⟨g, 11, none⟩ = some (.string qk)) ∧ Hid (∃ pl' kd', TB W3 t lg fd dn pl' kd' ∧ SB W3 pl' kd' (lift S (b1, b2)) (Bn w W3 B) ∧ EN W3 g ⟨(i1, i2), tm, (b1, b2), (p1, p2), ky⟩ true ((q1, q2), qk) ∧ KB w W3 B t) ∧ (Hid (o.isSome = true) →
        Calls Tryz.prog 123 #[.pointer (some ⟨t, 3, none⟩), .agg #[.int .i64 b1, .int .i64 b2], .agg #[.int .i64 q1, .int .i64 q2, .string qk]] W3.drew fun e W4 => e = .returned (.tuple #[]) ∧ (W4.cell? ⟨g, 3, none⟩ = some (.int .i64 b1) ∧ W4.cell? ⟨g, 4, none⟩ = some (.int .i64 b2) ∧ W4.cell? ⟨g, 8, none⟩ = some (.bool true) ∧ W4.cell? ⟨g, 9, none⟩ = some (.int .i64 q1) ∧ W4.cell? ⟨g, 10, none⟩ = some (.int .i64 q2) ∧ W4.cell? ⟨g, 11, none⟩ = some (.string qk)) ∧ Hid (∃ pl' kd', TB W4 t lg fd dn pl' kd' ∧ SB W4 pl' kd' (lift S (b1, b2) ++ [⟨(b1, b2), (q1, q2), qk⟩]) (Bn w W4 B) ∧ EN W4 g ⟨(i1, i2), tm, (b1, b2), (p1, p2), ky⟩ true ((q1, q2), qk) ∧ KB w W4 B t)) := by
      refine (lift_any t lg fd dn pl kd S B (b1, b2) w hT hS hBt hBs hnd hdw hW hdb (by omega)).mono ?_
      rintro e W3 ⟨rfl, pl3, kd3, hT3, hS3, hK3⟩
      have hE3 : EN W3 g ⟨(i1, i2), tm, (b1, b2), (p1, p2), ky⟩ true ((q1, q2), qk) := (hK3.keep g hgw hBg (Ne.symm htg)).trans hE
      have hE3d : EN W3.drew g ⟨(i1, i2), tm, (b1, b2), (p1, p2), ky⟩ true ((q1, q2), qk) := hE3
      refine ⟨rfl, HC W3 hE3, HC W3.drew hE3d, hid ⟨pl3, kd3, hT3, hS3, hE3, hK3⟩, fun hsm => ?_⟩
      obtain ⟨_, hdq⟩ := HO3.out hsm.out
      have hzc : w.heap.size ≤ W3.drew.heap.size := hK3.size
      have hS3d : SB W3.drew pl3 kd3 (lift S (b1, b2)) (Bn w W3.drew B) := hS3.kept (w' := W3.drew) (fun j hj => rfl)
      have hK3d : KB w W3.drew B t := ⟨hK3.size, hK3.keep, hK3.sm⟩
      have hll : (lift S (b1, b2)).length ≤ S.length := List.length_filter_le _ _
      refine (lay_any t lg fd dn pl3 kd3 (lift S (b1, b2)) (Bn w W3.drew B) ⟨(b1, b2), (q1, q2), qk⟩ W3.drew hT3 hS3d (Bn.not hBt htw) (Bn.lt hBs hzc) (put_nodup hnd ⟨(b1, b2), (q1, q2), qk⟩) (fun x hx => hdw x (lift_mem.1 hx).1) hdb hdq (by omega)).mono ?_
      rintro e W4 ⟨rfl, pl4, kd4, hT4, hS4, hK4⟩
      have hE4 : EN W4 g ⟨(i1, i2), tm, (b1, b2), (p1, p2), ky⟩ true ((q1, q2), qk) := (hK4.keep g (by omega) (Bn.not hBg hgw) (Ne.symm htg)).trans hE3d
      exact ⟨rfl, HC W4 hE4, hid ⟨pl4, kd4, hT4, hS4.mono (Bn.trans hzc hK4.size), hE4, hK3d.trans2 hK4⟩⟩
    obtain ⟨x3, x4, x8, x9, x10, x11⟩ := HCw
    clear hT hS hE hnd hW hdw HC hq hdo
    cases hso : o.isSome with
    | false =>
      obtain ⟨h1, rfl, rfl, rfl⟩ := HO2.out hso
      have H1 := hid h1
      clear HO HO2 HO3 h1
      go_enter Tryz.func99, Tryz.ntmps99
      go_wp2_with (go_at_call 122; refine HR1.mono ?_; rintro e W3 ⟨rfl, HC3, HC3d, HN3, HY⟩; obtain ⟨x3, x4, x8, x9, x10, x11⟩ := HC3)
      first
        | (refine bodyPost_end (results_none rfl _ _ _) rfl ?_; obtain ⟨pl', kd', g1, g2, g3, g4⟩ := HN3.out; exact ⟨rfl, pl', kd', g1, by rw [H1.out]; exact g2, g3, g4⟩)
        | (refine bodyPost_ret (results_none rfl _ _ _) rfl ?_; obtain ⟨pl', kd', g1, g2, g3, g4⟩ := HN3.out; exact ⟨rfl, pl', kd', g1, by rw [H1.out]; exact g2, g3, g4⟩)
    | true =>
      have hnz : Hid (o.isSome = true) := hid hso
      obtain ⟨hne, _⟩ := HO3.out hso
      clear HO2 HO3 hso
      by_cases hx1 : q1 = 0
      · subst hx1
        have hx2 : (q2 == 0) = false := by
          rw [beq_eq_false_iff_ne]
          intro e; exact hne (by rw [e])
        have hx3 : ¬ q2 = 0 := by intro e; exact hne (by rw [e])
        clear hne
        go_enter Tryz.func99, Tryz.ntmps99
        go_wp2_with (go_at_call 122; refine HR1.mono ?_; rintro e W3 ⟨rfl, HC3, HC3d, HN3, HY⟩; obtain ⟨x3, x4, x8, x9, x10, x11⟩ := HC3)
        refine wp_region_held_drew (S := fun w' => w'.cell? ⟨g, 3, none⟩ = some (.int .i64 b1) ∧ w'.cell? ⟨g, 4, none⟩ = some (.int .i64 b2) ∧ w'.cell? ⟨g, 8, none⟩ = some (.bool true) ∧ w'.cell? ⟨g, 9, none⟩ = some (.int .i64 0) ∧ w'.cell? ⟨g, 10, none⟩ = some (.int .i64 q2) ∧ w'.cell? ⟨g, 11, none⟩ = some (.string qk)) hmxo HC3d ?_
        intro _
        refine wpAnyH_take (i := 0) (v := .pointer (some ⟨t, 3, none⟩)) rfl (by kernel_rfl) (by kernel_rfl) (by kernel_rfl) (fun _ _ _ h => h) (Or.inl ⟨by kernel_rfl, fun w hSw => ?_⟩) HC3d ?_
        · obtain ⟨x3, x4, x8, x9, x10, x11⟩ := hSw; go_simp
        simp only [Act.put, List.getElem_toArray, List.getElem_cons_succ, List.getElem_cons_zero, List.setIfInBounds_toArray, List.set_cons_zero, List.set_cons_succ]
        refine wpAnyH_take (i := 1) (v := .pointer (some ⟨g, 0, none⟩)) rfl (by kernel_rfl) (by kernel_rfl) (by kernel_rfl) (fun _ _ _ h => h) (Or.inl ⟨by kernel_rfl, fun w hSw => ?_⟩) HC3d ?_
        · obtain ⟨x3, x4, x8, x9, x10, x11⟩ := hSw; go_simp
        simp only [Act.put, List.getElem_toArray, List.getElem_cons_succ, List.getElem_cons_zero, List.setIfInBounds_toArray, List.set_cons_zero, List.set_cons_succ]
        refine wpAnyH_take (i := 2) (v := .pointer (some ⟨g, 0, none⟩)) rfl (by kernel_rfl) (by kernel_rfl) (by kernel_rfl) (fun _ _ _ h => h) (Or.inl ⟨by kernel_rfl, fun w hSw => ?_⟩) HC3d ?_
        · obtain ⟨x3, x4, x8, x9, x10, x11⟩ := hSw; go_simp
        simp only [Act.put, List.getElem_toArray, List.getElem_cons_succ, List.getElem_cons_zero, List.setIfInBounds_toArray, List.set_cons_zero, List.set_cons_succ]
        refine wpAnyH_take (i := 3) (v := .pointer (some ⟨g, 0, none⟩)) rfl (by kernel_rfl) (by kernel_rfl) (by kernel_rfl) (fun _ _ _ h => h) (Or.inl ⟨by kernel_rfl, fun w hSw => ?_⟩) HC3d ?_
        · obtain ⟨x3, x4, x8, x9, x10, x11⟩ := hSw; go_simp
        simp only [Act.put, List.getElem_toArray, List.getElem_cons_succ, List.getElem_cons_zero, List.setIfInBounds_toArray, List.set_cons_zero, List.set_cons_succ]
        refine wpAnyH_take (i := 4) (v := .pointer (some ⟨g, 3, none⟩)) rfl (by kernel_rfl) (by kernel_rfl) (by kernel_rfl) (fun _ _ _ h => h) (Or.inl ⟨by kernel_rfl, fun w hSw => ?_⟩) HC3d ?_
        · obtain ⟨x3, x4, x8, x9, x10, x11⟩ := hSw; go_simp
        simp only [Act.put, List.getElem_toArray, List.getElem_cons_succ, List.getElem_cons_zero, List.setIfInBounds_toArray, List.set_cons_zero, List.set_cons_succ]
        refine wpAnyH_take (i := 5) (v := .agg #[.int .i64 b1, .int .i64 b2]) rfl (by kernel_rfl) (by kernel_rfl) (by kernel_rfl) (fun _ _ _ h => h) (Or.inl ⟨by kernel_rfl, fun w hSw => ?_⟩) HC3d ?_
        · obtain ⟨x3, x4, x8, x9, x10, x11⟩ := hSw; go_simp
        simp only [Act.put, List.getElem_toArray, List.getElem_cons_succ, List.getElem_cons_zero, List.setIfInBounds_toArray, List.set_cons_zero, List.set_cons_succ]
        refine wpAnyH_take (i := 6) (v := .pointer (some ⟨g, 0, none⟩)) rfl (by kernel_rfl) (by kernel_rfl) (by kernel_rfl) (fun _ _ _ h => h) (Or.inl ⟨by kernel_rfl, fun w hSw => ?_⟩) HC3d ?_
        · obtain ⟨x3, x4, x8, x9, x10, x11⟩ := hSw; go_simp
        simp only [Act.put, List.getElem_toArray, List.getElem_cons_succ, List.getElem_cons_zero, List.setIfInBounds_toArray, List.set_cons_zero, List.set_cons_succ]
        refine wpAnyH_take (i := 7) (v := .pointer (some ⟨g, 0, none⟩)) rfl (by kernel_rfl) (by kernel_rfl) (by kernel_rfl) (fun _ _ _ h => h) (Or.inl ⟨by kernel_rfl, fun w hSw => ?_⟩) HC3d ?_
        · obtain ⟨x3, x4, x8, x9, x10, x11⟩ := hSw; go_simp
        simp only [Act.put, List.getElem_toArray, List.getElem_cons_succ, List.getElem_cons_zero, List.setIfInBounds_toArray, List.set_cons_zero, List.set_cons_succ]
        refine wpAnyH_take (i := 8) (v := .pointer (some ⟨g, 9, none⟩)) rfl (by kernel_rfl) (by kernel_rfl) (by kernel_rfl) (fun _ _ _ h => h) (Or.inl ⟨by kernel_rfl, fun w hSw => ?_⟩) HC3d ?_
        · obtain ⟨x3, x4, x8, x9, x10, x11⟩ := hSw; go_simp
        simp only [Act.put, List.getElem_toArray, List.getElem_cons_succ, List.getElem_cons_zero, List.setIfInBounds_toArray, List.set_cons_zero, List.set_cons_succ]
        refine wpAnyH_take (i := 9) (v := .agg #[.int .i64 0, .int .i64 q2, .string qk]) rfl (by kernel_rfl) (by kernel_rfl) (by kernel_rfl) (fun _ _ _ h => h) (Or.inl ⟨by kernel_rfl, fun w hSw => ?_⟩) HC3d ?_
        · obtain ⟨x3, x4, x8, x9, x10, x11⟩ := hSw; go_simp
        simp only [Act.put, List.getElem_toArray, List.getElem_cons_succ, List.getElem_cons_zero, List.setIfInBounds_toArray, List.set_cons_zero, List.set_cons_succ]
        refine wpAnyH_ready (rs := [10]) (by kernel_rfl) (by simp) ?_
        refine AllReadyH.cons rfl (fun K hK => ?_) AllReadyH.nil
        go_simp
        refine (HY hnz).mono ?_
        rintro e W4 ⟨rfl, S4, hfin⟩
        refine hK.out _ _ S4 (fun _ => ?_)
        clear hK K
        refine wpAnyH_done (by kernel_rfl) ?_ _
        go_wp2
        refine bodyPost_end (results_none rfl _ _ _) rfl ?_
        obtain ⟨pl', kd', g1, g2, g3, g4⟩ := hfin.out
        exact ⟨rfl, pl', kd', g1, by rw [HO.out hnz.out]; exact g2, g3, g4⟩
      · have hx2 : (q1 == 0) = false := by simpa using hx1
        clear hne
        go_enter Tryz.func99, Tryz.ntmps99
        go_wp2_with (go_at_call 122; refine HR1.mono ?_; rintro e W3 ⟨rfl, HC3, HC3d, HN3, HY⟩; obtain ⟨x3, x4, x8, x9, x10, x11⟩ := HC3)
        refine wp_region_held_drew (S := fun w' => w'.cell? ⟨g, 3, none⟩ = some (.int .i64 b1) ∧ w'.cell? ⟨g, 4, none⟩ = some (.int .i64 b2) ∧ w'.cell? ⟨g, 8, none⟩ = some (.bool true) ∧ w'.cell? ⟨g, 9, none⟩ = some (.int .i64 q1) ∧ w'.cell? ⟨g, 10, none⟩ = some (.int .i64 q2) ∧ w'.cell? ⟨g, 11, none⟩ = some (.string qk)) hmxo HC3d ?_
        intro _
        refine wpAnyH_take (i := 0) (v := .pointer (some ⟨t, 3, none⟩)) rfl (by kernel_rfl) (by kernel_rfl) (by kernel_rfl) (fun _ _ _ h => h) (Or.inl ⟨by kernel_rfl, fun w hSw => ?_⟩) HC3d ?_
        · obtain ⟨x3, x4, x8, x9, x10, x11⟩ := hSw; go_simp
        simp only [Act.put, List.getElem_toArray, List.getElem_cons_succ, List.getElem_cons_zero, List.setIfInBounds_toArray, List.set_cons_zero, List.set_cons_succ]
        refine wpAnyH_take (i := 1) (v := .pointer (some ⟨g, 0, none⟩)) rfl (by kernel_rfl) (by kernel_rfl) (by kernel_rfl) (fun _ _ _ h => h) (Or.inl ⟨by kernel_rfl, fun w hSw => ?_⟩) HC3d ?_
        · obtain ⟨x3, x4, x8, x9, x10, x11⟩ := hSw; go_simp
        simp only [Act.put, List.getElem_toArray, List.getElem_cons_succ, List.getElem_cons_zero, List.setIfInBounds_toArray, List.set_cons_zero, List.set_cons_succ]
        refine wpAnyH_take (i := 2) (v := .pointer (some ⟨g, 0, none⟩)) rfl (by kernel_rfl) (by kernel_rfl) (by kernel_rfl) (fun _ _ _ h => h) (Or.inl ⟨by kernel_rfl, fun w hSw => ?_⟩) HC3d ?_
        · obtain ⟨x3, x4, x8, x9, x10, x11⟩ := hSw; go_simp
        simp only [Act.put, List.getElem_toArray, List.getElem_cons_succ, List.getElem_cons_zero, List.setIfInBounds_toArray, List.set_cons_zero, List.set_cons_succ]
        refine wpAnyH_take (i := 3) (v := .pointer (some ⟨g, 0, none⟩)) rfl (by kernel_rfl) (by kernel_rfl) (by kernel_rfl) (fun _ _ _ h => h) (Or.inl ⟨by kernel_rfl, fun w hSw => ?_⟩) HC3d ?_
        · obtain ⟨x3, x4, x8, x9, x10, x11⟩ := hSw; go_simp
        simp only [Act.put, List.getElem_toArray, List.getElem_cons_succ, List.getElem_cons_zero, List.setIfInBounds_toArray, List.set_cons_zero, List.set_cons_succ]
        refine wpAnyH_take (i := 4) (v := .pointer (some ⟨g, 3, none⟩)) rfl (by kernel_rfl) (by kernel_rfl) (by kernel_rfl) (fun _ _ _ h => h) (Or.inl ⟨by kernel_rfl, fun w hSw => ?_⟩) HC3d ?_
        · obtain ⟨x3, x4, x8, x9, x10, x11⟩ := hSw; go_simp
        simp only [Act.put, List.getElem_toArray, List.getElem_cons_succ, List.getElem_cons_zero, List.setIfInBounds_toArray, List.set_cons_zero, List.set_cons_succ]
        refine wpAnyH_take (i := 5) (v := .agg #[.int .i64 b1, .int .i64 b2]) rfl (by kernel_rfl) (by kernel_rfl) (by kernel_rfl) (fun _ _ _ h => h) (Or.inl ⟨by kernel_rfl, fun w hSw => ?_⟩) HC3d ?_
        · obtain ⟨x3, x4, x8, x9, x10, x11⟩ := hSw; go_simp
        simp only [Act.put, List.getElem_toArray, List.getElem_cons_succ, List.getElem_cons_zero, List.setIfInBounds_toArray, List.set_cons_zero, List.set_cons_succ]
        refine wpAnyH_take (i := 6) (v := .pointer (some ⟨g, 0, none⟩)) rfl (by kernel_rfl) (by kernel_rfl) (by kernel_rfl) (fun _ _ _ h => h) (Or.inl ⟨by kernel_rfl, fun w hSw => ?_⟩) HC3d ?_
        · obtain ⟨x3, x4, x8, x9, x10, x11⟩ := hSw; go_simp
        simp only [Act.put, List.getElem_toArray, List.getElem_cons_succ, List.getElem_cons_zero, List.setIfInBounds_toArray, List.set_cons_zero, List.set_cons_succ]
        refine wpAnyH_take (i := 7) (v := .pointer (some ⟨g, 0, none⟩)) rfl (by kernel_rfl) (by kernel_rfl) (by kernel_rfl) (fun _ _ _ h => h) (Or.inl ⟨by kernel_rfl, fun w hSw => ?_⟩) HC3d ?_
        · obtain ⟨x3, x4, x8, x9, x10, x11⟩ := hSw; go_simp
        simp only [Act.put, List.getElem_toArray, List.getElem_cons_succ, List.getElem_cons_zero, List.setIfInBounds_toArray, List.set_cons_zero, List.set_cons_succ]
        refine wpAnyH_take (i := 8) (v := .pointer (some ⟨g, 9, none⟩)) rfl (by kernel_rfl) (by kernel_rfl) (by kernel_rfl) (fun _ _ _ h => h) (Or.inl ⟨by kernel_rfl, fun w hSw => ?_⟩) HC3d ?_
        · obtain ⟨x3, x4, x8, x9, x10, x11⟩ := hSw; go_simp
        simp only [Act.put, List.getElem_toArray, List.getElem_cons_succ, List.getElem_cons_zero, List.setIfInBounds_toArray, List.set_cons_zero, List.set_cons_succ]
        refine wpAnyH_take (i := 9) (v := .agg #[.int .i64 q1, .int .i64 q2, .string qk]) rfl (by kernel_rfl) (by kernel_rfl) (by kernel_rfl) (fun _ _ _ h => h) (Or.inl ⟨by kernel_rfl, fun w hSw => ?_⟩) HC3d ?_
        · obtain ⟨x3, x4, x8, x9, x10, x11⟩ := hSw; go_simp
        simp only [Act.put, List.getElem_toArray, List.getElem_cons_succ, List.getElem_cons_zero, List.setIfInBounds_toArray, List.set_cons_zero, List.set_cons_succ]
        refine wpAnyH_ready (rs := [10]) (by kernel_rfl) (by simp) ?_
        refine AllReadyH.cons rfl (fun K hK => ?_) AllReadyH.nil
        go_simp
        refine (HY hnz).mono ?_
        rintro e W4 ⟨rfl, S4, hfin⟩
        refine hK.out _ _ S4 (fun _ => ?_)
        clear hK K
        refine wpAnyH_done (by kernel_rfl) ?_ _
        go_wp2
        refine bodyPost_end (results_none rfl _ _ _) rfl ?_
        obtain ⟨pl', kd', g1, g2, g3, g4⟩ := hfin.out
        exact ⟨rfl, pl', kd', g1, by rw [HO.out hnz.out]; exact g2, g3, g4⟩
end

section
set_option linter.unusedVariables false
set_option linter.unusedSimpArgs false
open Go.RowKit

/-- A pointer to a block. -/
abbrev pvF (g : Nat) : Value := .pointer (some ⟨g, 0, none⟩)
def prow (gs : List Nat) : List Value := gs.map pvF

/-- A row of entries: their blocks, their moves. -/
structure ER (w : World) (gs : List Nat) (l : List Mv) : Prop where
  len : gs.length = l.length
  at_ : ∀ (i : Nat) (g : Nat) (m : Mv), gs[i]? = some g → l[i]? = some m → EnT w g m

theorem ER.below {w w' : World} {gs : List Nat} {l : List Mv} (h : ER w gs l) (hb : Below w.heap.size w w') : ER w' gs l := ⟨h.len, fun i g d h1 h2 => (h.at_ i g d h1 h2).below hb⟩

/-- A slice that holds pointers. -/
structure PP (w : World) (a : Option Addr) (n c : Nat) (gs : List Nat) : Prop where
  len : gs.length = n
  cap : n ≤ c
  max : c ≤ maxLen
  at_ : 0 < n → ∃ g o, a = some ⟨g, o, none⟩ ∧ g < w.heap.size ∧ ∀ i (hi : i < gs.length), w.cell? ⟨g, o + i, none⟩ = some (pvF gs[i])

theorem PP.below {w w' : World} {a : Option Addr} {n c : Nat} {gs : List Nat} (h : PP w a n c gs) (hb : Below w.heap.size w w') : PP w' a n c gs :=
  ⟨h.len, h.cap, h.max, fun hp => by
    obtain ⟨g, o, e, hg, hx⟩ := h.at_ hp
    exact ⟨g, o, e, Nat.lt_of_lt_of_le hg hb.size, fun i hi => (hb.cell hg).trans (hx i hi)⟩⟩

theorem own_pp {w : World} {base n : Nat} {v : Value} {gs : List Nat} (h : w.ownsRow base 136 1 v n (prow gs)) : ∃ a c, v = .slice a n c ∧ PP w a n c gs := by
  have hl : gs.length = n := by have := h.1; simpa [prow] using this
  rcases h.2 with ⟨rfl, rfl⟩ | ⟨g, cap, cur, rfl, hb, hg, hn, hc, hs, ht⟩
  · exact ⟨none, 0, rfl, hl, Nat.le_refl _, Nat.zero_le _, fun hp => absurd hp (by omega)⟩
  · refine ⟨_, _, rfl, hl, hn, hc, fun _ => ⟨g, 0, rfl, (Array.getElem?_eq_some_iff.1 hg).1, fun i hi => ?_⟩⟩
    rw [Nat.zero_add, World.ownsRow.cellAt h i (by omega)]
    simp [prow, List.getElem?_eq_getElem hi]

theorem turn_ne {a b : Mv} (h : a.id ≠ b.id) : turnI a b ≠ 0 := by
  unfold turnI orI cmpi ordI
  by_cases h1 : a.time < b.time
  · simp [h1]
  · by_cases h2 : b.time < a.time
    · simp [h1, h2]
    · cases h3 : dl a.id b.id
      · have h4 := dl_total h h3
        simp [h1, h2, h4]
      · simp [h1, h2]

set_option maxRecDepth 100000 in
set_option maxHeartbeats 2000000 in
theorem trsearch_any (a : Option Addr) (n c : Nat) (gs : List Nat) (l : List Mv) (gc : Nat) (y : Mv) (w : World) (hs : PP w a n c gs) (hr : ER w gs l) (hy : EnT w gc y) (hn : n ≤ 1000000) (ha : Srt mvl l) (hf : ∀ m ∈ l, m.id ≠ y.id) :
    Calls Tryz.prog 97 #[.slice a n c, pvF gc, .func (.func 98) #[] #[]] w fun e w' => e = .returned (.tuple #[.int .i64 (rkL mvl l y : Nat), .bool false]) ∧ Below w.heap.size w w' := by
  have HL := hid hs.len
  have HR := hid hr.len
  have HA := hid ha
  have HF := hid hf
  obtain ⟨K, hK⟩ : ∃ K, K = rkL mvl l y := ⟨_, rfl⟩
  have hKn : K ≤ n := by rw [hK]; have := rk_le mvl l y; have := HL.out; have := HR.out; omega
  rw [← hK]
  have HK := hid hK
  clear ha hf hK
  go_enter Tryz.func97, Tryz.ntmps97
  go_wp2
  go_loopw [9, 10] (fun i j wr => ∃ lo hi : Nat, i = .int .i64 lo ∧ j = .int .i64 hi ∧ lo ≤ K ∧ K ≤ hi ∧ hi ≤ n ∧ Hid (Below w.heap.size w wr)) (fun i j _ => (intOf j).toNat - (intOf i).toNat)
  case atStart => exact ⟨0, n, rfl, rfl, by omega, by omega, by omega, hid (Below.refl _ _)⟩
  case round =>
    obtain ⟨lo, hi, rfl, rfl, hlK, hKh, hin, hW⟩ := hrel
    have hyr := hy.below hW.out
    by_cases hlt : lo < hi
    · have hmn : (lo + hi) / 2 < gs.length := by have := HL.out; omega
      obtain ⟨g, o, rfl, hg, hcell⟩ := (hs.below hW.out).at_ (by omega)
      have hc0 := hcell ((lo + hi) / 2) hmn
      have hmd : (lo + hi) / 2 < l.length := by have := HR.out; omega
      have hlk := List.getElem?_eq_getElem hmd
      have hid0 := (hr.below hW.out).at_ _ _ _ (List.getElem?_eq_getElem hmn) hlk
      have hcmp := rk_lt mvl_lin HA.out y hlk
      rw [← HK.out] at hcmp
      generalize l[(lo + hi) / 2] = d at hlk hid0 hcmp
      generalize gs[(lo + hi) / 2] = gm at hc0 hid0
      have hG := turn_any gm gc d y wr hid0 hyr
      have hT := turn_lt d y
      rw [hcmp] at hT
      obtain ⟨T, hTe⟩ : ∃ T, T = turnI d y := ⟨_, rfl⟩
      rw [← hTe] at hG hT
      clear hs hr hcell hid0 hyr hlk hcmp hTe
      have hl := HL.out
      by_cases hmK : (lo + hi) / 2 < K
      · rw [decide_eq_true hmK] at hT
        go_wp2_with (first | (go_at_call 98; refine hG.mono ?_; rintro e w1 ⟨rfl, hF1⟩))
        go_roundw
        case rel => exact ⟨(lo + hi) / 2 + 1, hi, by rw [show ((lo : Int) + (hi : Int)) / 2 + 1 = (((lo + hi) / 2 + 1 : Nat) : Int) by omega], rfl, by omega, hKh, hin, hid (hW.out.trans (hF1.mono hW.out.size))⟩
        case measure => simp [intOf]; omega
      · rw [decide_eq_false hmK] at hT
        go_wp2_with (first | (go_at_call 98; refine hG.mono ?_; rintro e w1 ⟨rfl, hF1⟩))
        go_roundw
        case rel => exact ⟨lo, (lo + hi) / 2, rfl, by rw [show ((lo : Int) + (hi : Int)) / 2 = (((lo + hi) / 2 : Nat) : Int) by omega], hlK, by omega, by omega, hid (hW.out.trans (hF1.mono hW.out.size))⟩
        case measure => simp [intOf]; omega
    · obtain rfl : hi = K := by omega
      obtain rfl : lo = hi := by omega
      by_cases hln : lo < n
      · have hmn : lo < gs.length := by have := HL.out; omega
        obtain ⟨g, o, rfl, hg, hcell⟩ := (hs.below hW.out).at_ (by omega)
        have hc0 := hcell lo hmn
        have hmd : lo < l.length := by have := HR.out; omega
        have hid0 := (hr.below hW.out).at_ _ _ _ (List.getElem?_eq_getElem hmn) (List.getElem?_eq_getElem hmd)
        have hne := turn_ne (HF.out _ (List.getElem_mem hmd))
        generalize l[lo] = d at hid0 hne
        generalize gs[lo] = gm at hc0 hid0
        have hG := turn_any gm gc d y wr hid0 hyr
        obtain ⟨T, hTe⟩ : ∃ T, T = turnI d y := ⟨_, rfl⟩
        rw [← hTe] at hG hne
        have hTb : (T == 0) = false := by simpa using hne
        clear hs hr hcell hid0 hyr hTe hne
        go_wp2_with (first | (go_at_call 98; refine hG.mono ?_; rintro e w1 ⟨rfl, hF1⟩))
        go_ret2
        exact ⟨rfl, hW.out.trans (hF1.mono hW.out.size)⟩
      · obtain rfl : lo = n := by omega
        clear hs
        go_wp2_with fail
        go_ret2
        exact ⟨rfl, hW.out⟩
end

section
open Go.RowKit Go.Sort Go.Maps

/-- A pointer to a block, or none. -/
def pvo : Option Nat → Value
  | none => .pointer none
  | some g => .pointer (some ⟨g, 0, none⟩)
def pz : Option Nat → DataW Unit
  | none => .lit (.int .i64 (-1))
  | some g => .lit (.int .i64 (g : Int))
/-- How such a one reads, as an element of a map: as a number. -/
def pR (v : Value) : Option (DataW Unit × List MemPlace) :=
  match v with
  | .pointer none => some (pz none, [])
  | .pointer (some ⟨g, 0, none⟩) => some (pz (some g), [])
  | _ => none

theorem pR_mk (o : Option Nat) : pR (pvo o) = some (pz o, []) := by cases o <;> rfl

theorem pz_inj {o p : Option Nat} (h : pz o = pz p) : o = p := by
  cases o <;> cases p
  · rfl
  · simp [pz] at h
  · simp [pz] at h
  · simp [pz] at h; congr 1; omega

theorem pR_inv {v : Value} {o : Option Nat} {ps : List MemPlace} (h : pR v = some (pz o, ps)) : v = pvo o := by
  unfold pR at h
  split at h
  · have h1 : pz none = pz o := by simpa using congrArg Prod.fst (Option.some.inj h)
    rw [← pz_inj h1]; rfl
  · rename_i g
    have h1 : pz (some g) = pz o := by simpa using congrArg Prod.fst (Option.some.inj h)
    rw [← pz_inj h1]; rfl
  · cases h

/-- Block b is a map of at most n dots to blocks, that tells G. -/
def PM (w : World) (b n : Nat) (G : Dt → Option Nat) : Prop := ∃ D : DataW Unit, w.ownsMap Tryz.prog 24 pR b n D ∧ ∀ d, Dw d → Maps.has D (kl d) = (G d).isSome ∧ D.atKey (kl d) (pz none) = pz (G d)

theorem zeroPtr (w : World) : (zeroValue 136).run Tryz.prog w = .ok (pvo none) w := Tryz.zeroValue136 w

theorem PM.made (w : World) : PM (w.alloc (.map #[] 0)) w.heap.size 0 (fun _ => none) := ⟨_, World.ownsMap_made _ _ _ _, fun _ _ => ⟨rfl, rfl⟩⟩

theorem PM.lt {w : World} {b n : Nat} {G : Dt → Option Nat} (h : PM w b n G) : b < w.heap.size := by
  obtain ⟨D, ho, _⟩ := h
  exact ho.lt

theorem PM.same {w w' : World} {b n : Nat} {G : Dt → Option Nat} (h : PM w b n G) (hs : w'.heap[b]? = w.heap[b]?) : PM w' b n G := by
  obtain ⟨D, ⟨es, clock, h1, h2⟩, hT⟩ := h
  exact ⟨D, ⟨es, clock, by rw [hs]; exact h1, h2⟩, hT⟩

theorem PM.look {w : World} {b n : Nat} {G : Dt → Option Nat} (h : PM w b n G) {d : Dt} (hd : Dw d) : (Instr.lookup 132 (.map (some b)) (dv d) false).run Tryz.prog w = .ok (pvo (G d)) w := by
  obtain ⟨D, ho, hT⟩ := h
  obtain ⟨v, ps, hr, hv⟩ := ho.lookup law Tryz.underlying132 (zeroPtr w) (pR_mk none) (keyOf_dot hd)
  rw [(hT d hd).2] at hv
  rw [hr, pR_inv hv]

theorem PM.put {w : World} {b n : Nat} {G : Dt → Option Nat} (h : PM w b n G) {d : Dt} (hd : Dw d) (g : Nat) (hn : n < maxLen) : ∃ w', (Instr.mapUpdate 132 (.map (some b)) (dv d) (pvF g)).run Tryz.prog w = .ok () w' ∧ PM w' b (n + 1) (fun e => if e = d then some g else G e) ∧ w.grownBy w' (some b) := by
  obtain ⟨D, ho, hT⟩ := h
  obtain ⟨w', hr, ho', hg⟩ := ho.update law Tryz.underlying132 hn (keyOf_dot hd) (pR_mk (some g))
  refine ⟨w', hr, ⟨_, ho', fun e he => ?_⟩, hg⟩
  by_cases hea : e = d
  · subst hea
    simp only [if_true]
    exact ⟨by rw [has_put_same ho.isMap (kl_isKey _)]; rfl, atKey_put_same ho.isMap (kl_isKey _) _ _⟩
  · have hne : kl e ≠ kl d := fun h' => hea (kl_inj he hd h')
    simp only [hea, if_false]
    exact ⟨by rw [has_put_other hne]; exact (hT e he).1, by rw [atKey_put_other hne]; exact (hT e he).2⟩

theorem nodup_kl11 : ∀ {S : List Dt}, S.Nodup → Dws S → (S.map kl).Nodup
  | [], _, _ => List.nodup_nil
  | x :: r, h, hw => by
    obtain ⟨h1, h2⟩ := List.nodup_cons.1 h
    refine List.nodup_cons.2 ⟨fun hm => ?_, nodup_kl11 h2 (fun d hd => hw d (List.mem_cons_of_mem _ hd))⟩
    obtain ⟨d, hd, e⟩ := List.mem_map.1 hm
    exact h1 (kl_inj (hw d (List.mem_cons_of_mem _ hd)) (hw x (List.mem_cons_self ..)) e ▸ hd)

/-- How many entries: as many as there are dots. -/
theorem PM.size {w : World} {b n : Nat} {G : Dt → Option Nat} (h : PM w b n G) {S : List Dt} (hS : S.Nodup) (hw : Dws S) (hm : ∀ d, Dw d → ((G d).isSome = true ↔ d ∈ S)) : ∃ D, w.ownsMap Tryz.prog 24 pR b n D ∧ Maps.size D = S.length := by
  obtain ⟨D, hown, hT⟩ := h
  refine ⟨D, hown, ?_⟩
  obtain ⟨es, hD, hpw, _⟩ := hown.entries law
  obtain ⟨es', hD', hko⟩ := hown.keysOf
  obtain rfl : es = es' := by rw [hD] at hD'; simpa using hD'
  subst hD
  have hp : (es.map Prod.fst).Perm (S.map kl) := by
    refine (List.perm_ext_iff_of_nodup ?_ ?_).2 fun x => ?_
    · exact List.pairwise_map.2 hpw
    · exact nodup_kl11 hS hw
    · constructor
      · intro hx
        obtain ⟨p, hp, rfl⟩ := List.mem_map.1 hx
        obtain ⟨v, hv⟩ := hko p hp
        obtain ⟨d, _, hdw, hk⟩ := keyOf_dot_inv hv
        have hh : Maps.has (.map es) (kl d) = true := List.any_eq_true.2 ⟨p, hp, by rw [hk]; exact WideAt.sameKey_self (kl_isKey d)⟩
        rw [(hT d hdw).1] at hh
        exact List.mem_map.2 ⟨d, (hm d hdw).1 hh, hk.symm⟩
      · intro hx
        obtain ⟨d, hd, rfl⟩ := List.mem_map.1 hx
        have hh := (hm d (hw d hd)).2 hd
        rw [← (hT d (hw d hd)).1] at hh
        obtain ⟨p, hp, hs⟩ := List.any_eq_true.1 hh
        exact List.mem_map.2 ⟨p, hp, WideAt.sameKey_eq hs⟩
  have := hp.length_eq
  simpa [Maps.size] using this
end

section
set_option linter.unusedVariables false

theorem run_succ {l : List Mv} {k : Nat} {m : Mv} (h : l[k]? = some m) : run (l.take (k + 1)) = step (run (l.take k)) m := by
  have hk := (List.getElem?_eq_some_iff.1 h).1
  rw [List.take_succ_eq_append_getElem hk, (List.getElem?_eq_some_iff.1 h).2, run_snoc]

/-- One more leaves those ahead of it as they are. -/
theorem ins_take {l : List Mv} {m : Mv} {j : Nat} (hj : j ≤ rkL mvl l m) : (insL mvl l m).take j = l.take j := by
  have h1 := rk_le mvl l m
  unfold insL
  rw [List.take_append_of_le_length (by rw [List.length_take]; omega), List.take_take, Nat.min_eq_left hj]

theorem ins_len {l : List Mv} {m : Mv} : (insL mvl l m).length = l.length + 1 := by
  rw [(ins_perm mvl l m).length_eq]
  rfl

theorem Mvs.take {l : List Mv} (h : Mvs l) (k : Nat) : Mvs (l.take k) := fun m hm => h m (List.mem_of_mem_take hm)

theorem Lg.tk {l : List Mv} (h : Lg l) (k : Nat) : ∃ r, Tk (run (l.take k)) r := run_tk _ (h.may.take k)

/-- A move is done upon a row that tells the state. -/
theorem do_perm {l : List Mv} (h : Lg l) {k : Nat} {m : Mv} (hm : l[k]? = some m) {S : List Sp} (hp : S.Perm (run (l.take k))) : takes S m = takes (run (l.take k)) m ∧ lk S m.block = lk (run (l.take k)) m.block ∧ (step S m).Perm (run (l.take (k + 1))) := by
  obtain ⟨r, hr⟩ := h.tk k
  have hs := hr.perm hp.symm
  refine ⟨takes_perm hs hp m, lk_perm hs.nd hp _, ?_⟩
  rw [run_succ hm]
  exact step_perm hs hp m

/-- A move that took effect is undone. -/
theorem undo_perm {l : List Mv} (h : Lg l) {k : Nat} {m : Mv} (hm : l[k]? = some m) {S : List Sp} (hp : S.Perm (run (l.take (k + 1)))) (ht : takes (run (l.take k)) m = true) : (back S m.block (lk (run (l.take k)) m.block)).Perm (run (l.take k)) := by
  obtain ⟨r, hr⟩ := h.tk k
  rw [run_succ hm] at hp
  unfold step at hp
  rw [if_pos ht] at hp
  exact (back_perm hp m.block _).trans (back_put hr.nd m.sp)

/-- One that didn't. -/
theorem undo_no {l : List Mv} {k : Nat} {m : Mv} (hm : l[k]? = some m) {S : List Sp} (hp : S.Perm (run (l.take (k + 1)))) (ht : takes (run (l.take k)) m = false) : S.Perm (run (l.take k)) := by
  rw [run_succ hm] at hp
  unfold step at hp
  rw [if_neg (by rw [ht]; simp)] at hp
  exact hp

/-- What lay somewhere ahead of a move lies under something that is no Dot{}. -/
theorem was_nz {S : List Sp} {r : Dt → Nat} (h : Tk S r) {b : Dt} {q : Pl} (hq : lk S b = some q) : q.1 ≠ (0, 0) := by
  obtain ⟨s, hs, rfl, rfl⟩ := lk_some hq
  intro e
  have e' : s.p = (0, 0) := e
  rcases h.par s hs with h1 | ⟨s', hs', h1⟩
  · rw [e'] at h1
    rcases h1 with h1 | h1 <;> cases h1
  · exact (h.nz s' hs').1 (h1.trans e')
end

section
set_option linter.unusedVariables false
open Go.RowKit

theorem fold_mem : ∀ (l : List Mv) (S : List Sp) (s : Sp), s ∈ l.foldl step S → s ∈ S ∨ ∃ m ∈ l, s = m.sp
  | [], S, s, h => Or.inl h
  | m :: l, S, s, h => by
    rcases fold_mem l (step S m) s h with h | ⟨m', hm', e⟩
    · unfold step at h
      split at h
      · rcases put_mem.1 h with ⟨h, _⟩ | h
        · exact Or.inl h
        · exact Or.inr ⟨m, by simp, h⟩
      · exact Or.inl h
    · exact Or.inr ⟨m', List.mem_cons_of_mem _ hm', e⟩

theorem run_mem {l : List Mv} {s : Sp} (h : s ∈ run l) : ∃ m ∈ l, s = m.sp := by
  rcases fold_mem l [] s h with h | h
  · simp at h
  · exact h

theorem fold_len : ∀ (l : List Mv) (S : List Sp), (l.foldl step S).length ≤ S.length + l.length
  | [], S => by simp
  | m :: l, S => by
    have h := fold_len l (step S m)
    have h2 : (step S m).length ≤ S.length + 1 := by
      unfold step
      split
      · unfold put
        rw [List.length_append]
        have := List.length_filter_le (fun x => decide (x.b ≠ m.sp.b)) S
        simp at this ⊢
        omega
      · omega
    simp only [List.foldl_cons, List.length_cons]
    omega

theorem run_len (l : List Mv) : (run l).length ≤ l.length := by
  have := fold_len l []
  unfold run
  simpa using this

/-- The tree: its moves l, in order, the first k of them done; S: what comes of these, in whatever order. fl: what is found; B: the state's blocks; A: all of its blocks. -/
structure TR (w : World) (t : Nat) (l : List Mv) (k : Nat) (gs : List Nat) (S : List Sp) (lg fd pl kd : Value) (fl : List (Mv × Nat)) (B A : Nat → Prop) : Prop where
  tb : TB w t lg fd (.int .i64 (k : Int)) pl kd
  row : w.ownsRow 0 136 1 lg gs.length (prow gs)
  len : gs.length = l.length
  nd : gs.Nodup
  en : ∀ (i g : Nat) (m : Mv), gs[i]? = some g → l[i]? = some m → ∃ tk o, EN w g m tk (Option.getD o pl0) ∧ (i < k → tk = takes (run (l.take i)) m ∧ o = lk (run (l.take i)) m.block)
  le : k ≤ l.length
  sb : SB w pl kd S B
  perm : S.Perm (run (l.take k))
  log : Lg l
  dw : ∀ m ∈ l, Dw m.id ∧ Dw m.block ∧ Dw m.parent
  bs : ∀ j, B j → j < w.heap.size
  bt : ¬ B t
  bg : ∀ g ∈ gs, ¬ B g
  bl : ∀ j, lg.ownBlock = some j → ¬ B j
  fnd : (fd = .map none ∧ fl = []) ∨ ∃ fm G, fd = .map (some fm) ∧ ¬ B fm ∧ A fm ∧ PM w fm fl.length G ∧ (∀ x ∈ fl, G x.1.id = some x.2) ∧ (∀ d, (G d).isSome = true → ∃ x ∈ fl, x.1.id = d)
  small : l.length ≤ 1000
  ab : ∀ j, B j → A j
  at_ : A t
  ag : ∀ g ∈ gs, A g
  al : ∀ j, lg.ownBlock = some j → A j
  as_ : ∀ j, A j → j < w.heap.size

theorem erow_kept {w w' : World} {v : Value} {n : Nat} {xs : List Value} (h : w.ownsRow 0 136 1 v n xs) (hk : ∀ j, v.ownBlock = some j → w'.heap[j]? = w.heap[j]?) : w'.ownsRow 0 136 1 v n xs := by
  refine ⟨h.1, ?_⟩
  rcases h.2 with h' | ⟨g, cap, cur, e, hb, hg, hn, hc, hs, ht⟩
  · exact Or.inl h'
  · exact Or.inr ⟨g, cap, cur, e, hb, (hk g (by rw [e]; rfl)).trans hg, hn, hc, hs, ht⟩

theorem TR.same {w w' : World} {t : Nat} {l : List Mv} {k : Nat} {gs : List Nat} {S : List Sp} {lg fd pl kd : Value} {fl : List (Mv × Nat)} {B A : Nat → Prop} (h : TR w t l k gs S lg fd pl kd fl B A) (hz : w.heap.size ≤ w'.heap.size) (hk : ∀ j, A j → w'.heap[j]? = w.heap[j]?) : TR w' t l k gs S lg fd pl kd fl B A := by
  refine ⟨(hk t h.at_).trans h.tb, erow_kept h.row (fun j hj => hk j (h.al j hj)), h.len, h.nd, fun i g m h1 h2 => ?_, h.le, h.sb.kept (fun j hj => hk j (h.ab j hj)), h.perm, h.log, h.dw, fun j hj => Nat.lt_of_lt_of_le (h.bs j hj) hz, h.bt, h.bg, h.bl, ?_, h.small, h.ab, h.at_, h.ag, h.al, fun j hj => Nat.lt_of_lt_of_le (h.as_ j hj) hz⟩
  · obtain ⟨tk, o, h3, h4⟩ := h.en i g m h1 h2
    exact ⟨tk, o, (hk g (h.ag g (List.mem_of_getElem? h1))).trans h3, h4⟩
  · rcases h.fnd with h1 | ⟨fm, G, h1, h2, h3, h4, h5⟩
    · exact Or.inl h1
    · exact Or.inr ⟨fm, G, h1, h2, h3, h4.same (hk fm h3), h5⟩

theorem TR.tk {w : World} {t : Nat} {l : List Mv} {k : Nat} {gs : List Nat} {S : List Sp} {lg fd pl kd : Value} {fl : List (Mv × Nat)} {B A : Nat → Prop} (h : TR w t l k gs S lg fd pl kd fl B A) : ∃ r, Tk S r := by
  obtain ⟨r, hr⟩ := h.log.tk k
  exact ⟨r, hr.perm h.perm.symm⟩

theorem TR.spots {w : World} {t : Nat} {l : List Mv} {k : Nat} {gs : List Nat} {S : List Sp} {lg fd pl kd : Value} {fl : List (Mv × Nat)} {B A : Nat → Prop} (h : TR w t l k gs S lg fd pl kd fl B A) : Ws S ∧ (∀ x ∈ S, Dw x.b) ∧ S.length ≤ 1000 := by
  have hm : ∀ x ∈ S, ∃ m ∈ l, x = m.sp := fun x hx => by
    obtain ⟨m, hm, e⟩ := run_mem (h.perm.mem_iff.1 hx)
    exact ⟨m, List.mem_of_mem_take hm, e⟩
  refine ⟨fun x hx => ?_, fun x hx => ?_, ?_⟩
  · obtain ⟨m, hm, rfl⟩ := hm x hx
    exact (h.dw m hm).2.2
  · obtain ⟨m, hm, rfl⟩ := hm x hx
    exact (h.dw m hm).2.1
  · rw [h.perm.length_eq]
    have := run_len (l.take k)
    have h2 := h.small
    rw [List.length_take] at this
    omega

/-- One more is done: the state's blocks are its own and what is new. -/
theorem TR.next {w w' : World} {t : Nat} {l : List Mv} {k : Nat} {gs : List Nat} {S : List Sp} {lg fd pl kd pl' kd' : Value} {fl : List (Mv × Nat)} {B A : Nat → Prop} (h : TR w t l k gs S lg fd pl kd fl B A) {g : Nat} {m : Mv} (hg : gs[k]? = some g) (hm : l[k]? = some m)
    (hT : TB w' t lg fd (.int .i64 (k : Int)) pl' kd') (hS : SB w' pl' kd' (step S m) (Bn w w' B)) (hE : EN w' g m (takes S m) ((lk S m.block).getD pl0)) (hK : KB w w' (fun j => B j ∨ j = g) t) :
    TR (w'.setCell ⟨t, 2, none⟩ (.int .i64 ((k + 1 : Nat) : Int))) t l (k + 1) gs (step S m) lg fd pl' kd' fl (Bn w w' B) (Bn w w' A) := by
  have hz := hK.size
  have hgs := grownBy_setCell w' t 2 (.int .i64 ((k + 1 : Nat) : Int))
  obtain ⟨d1, d2, d3⟩ := do_perm h.log hm h.perm
  have hkl : k < l.length := (List.getElem?_eq_some_iff.1 hm).1
  have htw : t < w.heap.size := h.as_ t h.at_
  have keep : ∀ j, j < w.heap.size → ¬ B j → j ≠ g → j ≠ t → (w'.setCell ⟨t, 2, none⟩ (.int .i64 ((k + 1 : Nat) : Int))).heap[j]? = w.heap[j]? := fun j hj hB hjg hjt =>
    (hgs.block j (by omega) (by simpa using hjt)).trans (hK.keep j hj (fun e => by rcases e with e | e; exact hB e; exact hjg e) hjt)
  have hes : ∀ j (x : Mv) tk q, EN w j x tk q → j ≠ t := fun j x tk q he e => by
    have h1 := h.tb
    unfold TB at h1
    unfold EN at he
    rw [← e, he] at h1
    simp at h1
  have hgt : g ≠ t := by
    obtain ⟨tk, o, h3, _⟩ := h.en k g m hg hm
    exact hes g m tk _ h3
  have hBt' : ¬ Bn w w' B t := Bn.not h.bt htw
  have hlb : ∀ j, lg.ownBlock = some j → j ≠ g ∧ j ≠ t := fun j hj => by
    rcases h.row.2 with ⟨e, _⟩ | ⟨g', cap, cur, e, hb, hgg, hn, hc, hs, ht⟩
    · rw [e] at hj; simp [Value.ownBlock] at hj
    · rw [e] at hj
      simp only [Value.ownBlock, Option.some.injEq] at hj
      subst hj
      obtain ⟨tk, o, h3, _⟩ := h.en k g m hg hm
      refine ⟨fun e2 => ?_, fun e2 => ?_⟩
      · unfold EN at h3
        rw [← e2, hgg] at h3
        simp at h3
      · have h1 := h.tb
        unfold TB at h1
        rw [← e2, hgg] at h1
        simp at h1
  refine ⟨?_, erow_kept h.row (fun j hj => keep j (h.as_ j (h.al j hj)) (h.bl j hj) (hlb j hj).1 (hlb j hj).2), h.len, h.nd, fun i g' m' h1 h2 => ?_, by omega, hS.kept (fun j hj => hgs.block j (Bn.lt h.bs hz j hj) (by simp; exact fun e => hBt' (e ▸ hj))), d3, h.log, h.dw, fun j hj => Nat.lt_of_lt_of_le (Bn.lt h.bs hz j hj) hgs.size, hBt', fun x hx => Bn.not (h.bg x hx) (h.as_ x (h.ag x hx)), fun j hj => Bn.not (h.bl j hj) (h.as_ j (h.al j hj)), ?_, h.small, fun j hj => hj.imp (h.ab j) id, Or.inl h.at_, fun x hx => Or.inl (h.ag x hx), fun j hj => Or.inl (h.al j hj), fun j hj => Nat.lt_of_lt_of_le (Bn.lt h.as_ hz j hj) hgs.size⟩
  · have h2 := set_blk (j := 2) hT (.int .i64 ((k + 1 : Nat) : Int))
    unfold TB
    simpa using h2
  · obtain ⟨tk, o, h3, h4⟩ := h.en i g' m' h1 h2
    by_cases hik : i = k
    · subst hik
      obtain rfl : g = g' := by rw [hg] at h1; exact Option.some.inj h1
      obtain rfl : m = m' := by rw [hm] at h2; exact Option.some.inj h2
      exact ⟨takes S m, lk S m.block, (hgs.block g (by have := h.as_ g (h.ag g (List.mem_of_getElem? hg)); omega) (by simpa using hgt)).trans hE, fun _ => ⟨d1, d2⟩⟩
    · have hgg : g' ≠ g := fun e => hik (by
        subst e
        exact (List.getElem?_inj (List.getElem?_eq_some_iff.1 h1).1 h.nd).1 (h1.trans hg.symm))
      exact ⟨tk, o, (keep g' (h.as_ g' (h.ag g' (List.mem_of_getElem? h1))) (h.bg g' (List.mem_of_getElem? h1)) hgg (hes g' m' tk _ h3)).trans h3, fun hi => h4 (by omega)⟩
  · rcases h.fnd with h1 | ⟨fm, G, h1, h2, h3, h4, h5, h6⟩
    · exact Or.inl h1
    · refine Or.inr ⟨fm, G, h1, Bn.not h2 h4.lt, Or.inl h3, h4.same (keep fm h4.lt h2 (fun e => ?_) (fun e => ?_)), h5, h6⟩
      · obtain ⟨tk, o, h7, _⟩ := h.en k g m hg hm
        obtain ⟨D, ho, _⟩ := h4
        exact map_cells ho h7 e.symm
      · obtain ⟨D, ho, _⟩ := h4
        exact map_cells ho h.tb e.symm
end
end Go.Proofs.YtnmdcdphpcpojaaGreatDoor
