/- undo: what was there ahead of a move is brought back. -/
import Derived.Test.YtplcohjpchfkkaaTrDo
set_option linter.unusedVariables false
set_option linter.unusedSimpArgs false
namespace Go.Proofs.Ytplcohjpchfkkaa
open Go.RowKit

theorem KB.trans2 {w V X : World} {B : Nat → Prop} {t : Nat} (h1 : KB w V B t) (h2 : KB V X (Bn w V B) t) : KB w X B t :=
  ⟨Nat.le_trans h1.size h2.size, fun j hj hB hjt => (h2.keep j (Nat.lt_of_lt_of_le hj h1.size) (fun h => by
    rcases h with h | h
    · exact hB h
    · omega) hjt).trans (h1.keep j hj hB hjt), h1.sm.trans h2.sm⟩

/-- What is there behind it. -/
def undS (S : List Sp) (b : Dt) (tk : Bool) (o : Option Pl) : List Sp := if tk then back S b o else S

set_option maxRecDepth 100000 in
set_option maxHeartbeats 8000000 in
theorem undo_any (t g : Nat) (lg fd dn pl kd : Value) (S : List Sp) (B : Nat → Prop) (m : Mv) (T : Bool) (o : Option Pl) (w : World) (hnd : (S.map Sp.b).Nodup) (hT : TB w t lg fd dn pl kd) (hS : SB w pl kd S B) (hE : EN w g m T (o.getD pl0)) (hBt : ¬ B t) (hBg : ¬ B g) (hBs : ∀ j, B j → j < w.heap.size) (hW : Ws S) (hdw : ∀ x ∈ S, Dw x.b) (hdb : Dw m.block) (hdo : ∀ q, o = some q → Dw q.1 ∧ q.1 ≠ (0, 0)) (hlen : S.length < 1000000) :
    Calls Try.prog 55 #[.pointer (some ⟨t, 3, none⟩), .pointer (some ⟨g, 0, none⟩)] w fun e w' => e = .returned (.tuple #[]) ∧ ∃ pl' kd', TB w' t lg fd dn pl' kd' ∧ SB w' pl' kd' (undS S m.block T o) (Bn w w' B) ∧ EN w' g m T (o.getD pl0) ∧ KB w w' B t := by
  have htw : t < w.heap.size := (Array.getElem?_eq_some_iff.1 hT).1
  have hgw : g < w.heap.size := (Array.getElem?_eq_some_iff.1 hE).1
  have htg : t ≠ g := fun e => by
    unfold TB at hT
    unfold EN at hE
    rw [e, hE] at hT
    simp at hT
  obtain ⟨⟨i1, i2⟩, tm, ⟨b1, b2⟩, ⟨p1, p2⟩, ky⟩ := m
  have hmxo : Try.prog.follows .mixedOrders = true := by kernel_rfl
  obtain ⟨q1, q2, qk, hq⟩ : ∃ q1 q2 qk, o.getD pl0 = ((q1, q2), qk) := ⟨_, _, _, rfl⟩
  rw [hq] at hE ⊢
  have HC : ∀ V : World, EN V g ⟨(i1, i2), tm, (b1, b2), (p1, p2), ky⟩ T ((q1, q2), qk) → (V.cell? ⟨g, 3, none⟩ = some (.int .i64 b1) ∧ V.cell? ⟨g, 4, none⟩ = some (.int .i64 b2) ∧ V.cell? ⟨g, 8, none⟩ = some (.bool T) ∧ V.cell? ⟨g, 9, none⟩ = some (.int .i64 q1) ∧ V.cell? ⟨g, 10, none⟩ = some (.int .i64 q2) ∧ V.cell? ⟨g, 11, none⟩ = some (.string qk)) := fun V h => by
    unfold EN at h
    exact ⟨by simp [World.cell?, h], by simp [World.cell?, h], by simp [World.cell?, h], by simp [World.cell?, h], by simp [World.cell?, h], by simp [World.cell?, h]⟩
  have HCw := HC w hE
  have HO : Hid (o.isSome = true → undS S (b1, b2) true o = lift S (b1, b2) ++ [⟨(b1, b2), (q1, q2), qk⟩]) := hid (fun h => by
    obtain ⟨q, hq'⟩ := Option.isSome_iff_exists.1 h
    subst hq'
    have e7 : q = ((q1, q2), qk) := hq
    unfold undS back
    rw [if_pos rfl, e7])
  have HO2 : Hid (o.isSome = false → undS S (b1, b2) true o = lift S (b1, b2) ∧ q1 = 0 ∧ q2 = 0 ∧ qk = ⟨#[]⟩) := hid (fun h => by
    cases o with
    | some q => cases h
    | none =>
      have e7 : pl0 = ((q1, q2), qk) := hq
      unfold pl0 at e7
      simp only [Prod.mk.injEq] at e7
      exact ⟨rfl, e7.1.1.symm, e7.1.2.symm, e7.2.symm⟩)
  have HO3 : Hid (o.isSome = true → (q1, q2) ≠ (0, 0) ∧ Dw (q1, q2)) := hid (fun h => by
    obtain ⟨q, hq'⟩ := Option.isSome_iff_exists.1 h
    have := hdo q hq'
    subst hq'
    have e7 : q = ((q1, q2), qk) := hq
    rw [e7] at this
    exact ⟨this.2, this.1⟩)
  cases T with
  | false =>
    obtain ⟨x3, x4, x8, x9, x10, x11⟩ := HCw
    have hfin : Hid (∃ pl' kd', TB w t lg fd dn pl' kd' ∧ SB w pl' kd' (undS S (b1, b2) false o) (Bn w w B) ∧ EN w g ⟨(i1, i2), tm, (b1, b2), (p1, p2), ky⟩ false ((q1, q2), qk) ∧ KB w w B t) := hid ⟨pl, kd, hT, hS.mono (fun j h => Or.inl h), hE, ⟨Nat.le_refl _, fun _ _ _ _ => rfl, Sm.refl _⟩⟩
    clear hT hS hE hnd hW hdw HC HO HO2 HO3 hq hdo
    go_enter Try.func55, Try.ntmps55
    go_wp2
    refine bodyPost_ret (results_none rfl _ _ _) rfl ?_
    exact ⟨rfl, hfin.out⟩
  | true =>
    have HR1 : Calls Try.prog 74 #[.pointer (some ⟨t, 3, none⟩), .agg #[.int .i64 b1, .int .i64 b2]] w fun e W3 => e = .returned (.tuple #[]) ∧ (W3.cell? ⟨g, 3, none⟩ = some (.int .i64 b1) ∧ W3.cell? ⟨g, 4, none⟩ = some (.int .i64 b2) ∧ W3.cell? ⟨g, 8, none⟩ = some (.bool true) ∧ W3.cell? ⟨g, 9, none⟩ = some (.int .i64 q1) ∧ W3.cell? ⟨g, 10, none⟩ = some (.int .i64 q2) ∧ W3.cell? ⟨g, 11, none⟩ = some (.string qk)) ∧ (W3.drew.cell? ⟨g, 3, none⟩ = some (.int .i64 b1) ∧ W3.drew.cell? ⟨g, 4, none⟩ = some (.int .i64 b2) ∧ W3.drew.cell? ⟨g, 8, none⟩ = some (.bool true) ∧ W3.drew.cell? ⟨g, 9, none⟩ = some (.int .i64 q1) ∧ W3.drew.cell? ⟨g, 10, none⟩ = some (.int .i64 q2) ∧ W3.drew.cell? ⟨g, 11, none⟩ = some (.string qk)) ∧ Hid (∃ pl' kd', TB W3 t lg fd dn pl' kd' ∧ SB W3 pl' kd' (lift S (b1, b2)) (Bn w W3 B) ∧ EN W3 g ⟨(i1, i2), tm, (b1, b2), (p1, p2), ky⟩ true ((q1, q2), qk) ∧ KB w W3 B t) ∧ (Hid (o.isSome = true) →
        Calls Try.prog 75 #[.pointer (some ⟨t, 3, none⟩), .agg #[.int .i64 b1, .int .i64 b2], .agg #[.int .i64 q1, .int .i64 q2, .string qk]] W3.drew fun e W4 => e = .returned (.tuple #[]) ∧ (W4.cell? ⟨g, 3, none⟩ = some (.int .i64 b1) ∧ W4.cell? ⟨g, 4, none⟩ = some (.int .i64 b2) ∧ W4.cell? ⟨g, 8, none⟩ = some (.bool true) ∧ W4.cell? ⟨g, 9, none⟩ = some (.int .i64 q1) ∧ W4.cell? ⟨g, 10, none⟩ = some (.int .i64 q2) ∧ W4.cell? ⟨g, 11, none⟩ = some (.string qk)) ∧ Hid (∃ pl' kd', TB W4 t lg fd dn pl' kd' ∧ SB W4 pl' kd' (lift S (b1, b2) ++ [⟨(b1, b2), (q1, q2), qk⟩]) (Bn w W4 B) ∧ EN W4 g ⟨(i1, i2), tm, (b1, b2), (p1, p2), ky⟩ true ((q1, q2), qk) ∧ KB w W4 B t)) := by
      refine (lift_any t lg fd dn pl kd S B (b1, b2) w hT hS hBt hBs hnd hdw hW hdb (by omega)).mono ?_
      rintro e W3 ⟨rfl, pl3, kd3, hT3, hS3, hK3⟩
      have hE3 : EN W3 g ⟨(i1, i2), tm, (b1, b2), (p1, p2), ky⟩ true ((q1, q2), qk) := (hK3.keep g hgw hBg (Ne.symm htg)).trans hE
      have hE3d : EN W3.drew g ⟨(i1, i2), tm, (b1, b2), (p1, p2), ky⟩ true ((q1, q2), qk) := hE3
      refine ⟨rfl, HC W3 hE3, HC W3.drew hE3d, hid ⟨pl3, kd3, hT3, hS3, hE3, hK3⟩, fun hsm => ?_⟩
      obtain ⟨_, hdq⟩ := HO3.out hsm.out
      have hzc : w.heap.size ≤ W3.drew.heap.size := hK3.size
      have hS3d : SB W3.drew pl3 kd3 (lift S (b1, b2)) (Bn w W3.drew B) := hS3.kept (w' := W3.drew) (fun j hj => rfl)
      have hK3d : KB w W3.drew B t := ⟨hK3.size, hK3.keep, hK3.sm⟩
      have hll : (lift S (b1, b2)).length ≤ S.length := List.length_filter_le _ _
      refine (lay_any t lg fd dn pl3 kd3 (lift S (b1, b2)) (Bn w W3.drew B) ⟨(b1, b2), (q1, q2), qk⟩ W3.drew hT3 hS3d (Bn.not hBt htw) (Bn.lt hBs hzc) (put_nodup hnd ⟨(b1, b2), (q1, q2), qk⟩) (fun x hx => hdw x (lift_mem.1 hx).1) hdb hdq (by omega)).mono ?_
      rintro e W4 ⟨rfl, pl4, kd4, hT4, hS4, hK4⟩
      have hE4 : EN W4 g ⟨(i1, i2), tm, (b1, b2), (p1, p2), ky⟩ true ((q1, q2), qk) := (hK4.keep g (by omega) (Bn.not hBg hgw) (Ne.symm htg)).trans hE3d
      exact ⟨rfl, HC W4 hE4, hid ⟨pl4, kd4, hT4, hS4.mono (Bn.trans hzc hK4.size), hE4, hK3d.trans2 hK4⟩⟩
    obtain ⟨x3, x4, x8, x9, x10, x11⟩ := HCw
    clear hT hS hE hnd hW hdw HC hq hdo
    cases hso : o.isSome with
    | false =>
      obtain ⟨h1, rfl, rfl, rfl⟩ := HO2.out hso
      have H1 := hid h1
      clear HO HO2 HO3 h1
      go_enter Try.func55, Try.ntmps55
      go_wp2_with (go_at_call 74; refine HR1.mono ?_; rintro e W3 ⟨rfl, HC3, HC3d, HN3, HY⟩; obtain ⟨x3, x4, x8, x9, x10, x11⟩ := HC3)
      first
        | (refine bodyPost_end (results_none rfl _ _ _) rfl ?_; obtain ⟨pl', kd', g1, g2, g3, g4⟩ := HN3.out; exact ⟨rfl, pl', kd', g1, by rw [H1.out]; exact g2, g3, g4⟩)
        | (refine bodyPost_ret (results_none rfl _ _ _) rfl ?_; obtain ⟨pl', kd', g1, g2, g3, g4⟩ := HN3.out; exact ⟨rfl, pl', kd', g1, by rw [H1.out]; exact g2, g3, g4⟩)
    | true =>
      have hnz : Hid (o.isSome = true) := hid hso
      obtain ⟨hne, _⟩ := HO3.out hso
      clear HO2 HO3 hso
      by_cases hx1 : q1 = 0
      · subst hx1
        have hx2 : (q2 == 0) = false := by
          rw [beq_eq_false_iff_ne]
          intro e; exact hne (by rw [e])
        have hx3 : ¬ q2 = 0 := by intro e; exact hne (by rw [e])
        clear hne
        go_enter Try.func55, Try.ntmps55
        go_wp2_with (go_at_call 74; refine HR1.mono ?_; rintro e W3 ⟨rfl, HC3, HC3d, HN3, HY⟩; obtain ⟨x3, x4, x8, x9, x10, x11⟩ := HC3)
        refine wp_region_held_drew (S := fun w' => w'.cell? ⟨g, 3, none⟩ = some (.int .i64 b1) ∧ w'.cell? ⟨g, 4, none⟩ = some (.int .i64 b2) ∧ w'.cell? ⟨g, 8, none⟩ = some (.bool true) ∧ w'.cell? ⟨g, 9, none⟩ = some (.int .i64 0) ∧ w'.cell? ⟨g, 10, none⟩ = some (.int .i64 q2) ∧ w'.cell? ⟨g, 11, none⟩ = some (.string qk)) hmxo HC3d ?_
        intro _
        refine wpAnyH_take (i := 0) (v := .pointer (some ⟨t, 3, none⟩)) rfl (by kernel_rfl) (by kernel_rfl) (by kernel_rfl) (fun _ _ _ h => h) (Or.inl ⟨by kernel_rfl, fun w hSw => ?_⟩) HC3d ?_
        · obtain ⟨x3, x4, x8, x9, x10, x11⟩ := hSw; go_simp
        simp only [Act.put, List.getElem_toArray, List.getElem_cons_succ, List.getElem_cons_zero, List.setIfInBounds_toArray, List.set_cons_zero, List.set_cons_succ]
        refine wpAnyH_take (i := 1) (v := .pointer (some ⟨g, 0, none⟩)) rfl (by kernel_rfl) (by kernel_rfl) (by kernel_rfl) (fun _ _ _ h => h) (Or.inl ⟨by kernel_rfl, fun w hSw => ?_⟩) HC3d ?_
        · obtain ⟨x3, x4, x8, x9, x10, x11⟩ := hSw; go_simp
        simp only [Act.put, List.getElem_toArray, List.getElem_cons_succ, List.getElem_cons_zero, List.setIfInBounds_toArray, List.set_cons_zero, List.set_cons_succ]
        refine wpAnyH_take (i := 2) (v := .pointer (some ⟨g, 0, none⟩)) rfl (by kernel_rfl) (by kernel_rfl) (by kernel_rfl) (fun _ _ _ h => h) (Or.inl ⟨by kernel_rfl, fun w hSw => ?_⟩) HC3d ?_
        · obtain ⟨x3, x4, x8, x9, x10, x11⟩ := hSw; go_simp
        simp only [Act.put, List.getElem_toArray, List.getElem_cons_succ, List.getElem_cons_zero, List.setIfInBounds_toArray, List.set_cons_zero, List.set_cons_succ]
        refine wpAnyH_take (i := 3) (v := .pointer (some ⟨g, 0, none⟩)) rfl (by kernel_rfl) (by kernel_rfl) (by kernel_rfl) (fun _ _ _ h => h) (Or.inl ⟨by kernel_rfl, fun w hSw => ?_⟩) HC3d ?_
        · obtain ⟨x3, x4, x8, x9, x10, x11⟩ := hSw; go_simp
        simp only [Act.put, List.getElem_toArray, List.getElem_cons_succ, List.getElem_cons_zero, List.setIfInBounds_toArray, List.set_cons_zero, List.set_cons_succ]
        refine wpAnyH_take (i := 4) (v := .pointer (some ⟨g, 3, none⟩)) rfl (by kernel_rfl) (by kernel_rfl) (by kernel_rfl) (fun _ _ _ h => h) (Or.inl ⟨by kernel_rfl, fun w hSw => ?_⟩) HC3d ?_
        · obtain ⟨x3, x4, x8, x9, x10, x11⟩ := hSw; go_simp
        simp only [Act.put, List.getElem_toArray, List.getElem_cons_succ, List.getElem_cons_zero, List.setIfInBounds_toArray, List.set_cons_zero, List.set_cons_succ]
        refine wpAnyH_take (i := 5) (v := .agg #[.int .i64 b1, .int .i64 b2]) rfl (by kernel_rfl) (by kernel_rfl) (by kernel_rfl) (fun _ _ _ h => h) (Or.inl ⟨by kernel_rfl, fun w hSw => ?_⟩) HC3d ?_
        · obtain ⟨x3, x4, x8, x9, x10, x11⟩ := hSw; go_simp
        simp only [Act.put, List.getElem_toArray, List.getElem_cons_succ, List.getElem_cons_zero, List.setIfInBounds_toArray, List.set_cons_zero, List.set_cons_succ]
        refine wpAnyH_take (i := 6) (v := .pointer (some ⟨g, 0, none⟩)) rfl (by kernel_rfl) (by kernel_rfl) (by kernel_rfl) (fun _ _ _ h => h) (Or.inl ⟨by kernel_rfl, fun w hSw => ?_⟩) HC3d ?_
        · obtain ⟨x3, x4, x8, x9, x10, x11⟩ := hSw; go_simp
        simp only [Act.put, List.getElem_toArray, List.getElem_cons_succ, List.getElem_cons_zero, List.setIfInBounds_toArray, List.set_cons_zero, List.set_cons_succ]
        refine wpAnyH_take (i := 7) (v := .pointer (some ⟨g, 0, none⟩)) rfl (by kernel_rfl) (by kernel_rfl) (by kernel_rfl) (fun _ _ _ h => h) (Or.inl ⟨by kernel_rfl, fun w hSw => ?_⟩) HC3d ?_
        · obtain ⟨x3, x4, x8, x9, x10, x11⟩ := hSw; go_simp
        simp only [Act.put, List.getElem_toArray, List.getElem_cons_succ, List.getElem_cons_zero, List.setIfInBounds_toArray, List.set_cons_zero, List.set_cons_succ]
        refine wpAnyH_take (i := 8) (v := .pointer (some ⟨g, 9, none⟩)) rfl (by kernel_rfl) (by kernel_rfl) (by kernel_rfl) (fun _ _ _ h => h) (Or.inl ⟨by kernel_rfl, fun w hSw => ?_⟩) HC3d ?_
        · obtain ⟨x3, x4, x8, x9, x10, x11⟩ := hSw; go_simp
        simp only [Act.put, List.getElem_toArray, List.getElem_cons_succ, List.getElem_cons_zero, List.setIfInBounds_toArray, List.set_cons_zero, List.set_cons_succ]
        refine wpAnyH_take (i := 9) (v := .agg #[.int .i64 0, .int .i64 q2, .string qk]) rfl (by kernel_rfl) (by kernel_rfl) (by kernel_rfl) (fun _ _ _ h => h) (Or.inl ⟨by kernel_rfl, fun w hSw => ?_⟩) HC3d ?_
        · obtain ⟨x3, x4, x8, x9, x10, x11⟩ := hSw; go_simp
        simp only [Act.put, List.getElem_toArray, List.getElem_cons_succ, List.getElem_cons_zero, List.setIfInBounds_toArray, List.set_cons_zero, List.set_cons_succ]
        refine wpAnyH_ready (rs := [10]) (by kernel_rfl) (by simp) ?_
        refine AllReadyH.cons rfl (fun K hK => ?_) AllReadyH.nil
        go_simp
        refine (HY hnz).mono ?_
        rintro e W4 ⟨rfl, S4, hfin⟩
        refine hK.out _ _ S4 (fun _ => ?_)
        clear hK K
        refine wpAnyH_done (by kernel_rfl) ?_ _
        go_wp2
        refine bodyPost_end (results_none rfl _ _ _) rfl ?_
        obtain ⟨pl', kd', g1, g2, g3, g4⟩ := hfin.out
        exact ⟨rfl, pl', kd', g1, by rw [HO.out hnz.out]; exact g2, g3, g4⟩
      · have hx2 : (q1 == 0) = false := by simpa using hx1
        clear hne
        go_enter Try.func55, Try.ntmps55
        go_wp2_with (go_at_call 74; refine HR1.mono ?_; rintro e W3 ⟨rfl, HC3, HC3d, HN3, HY⟩; obtain ⟨x3, x4, x8, x9, x10, x11⟩ := HC3)
        refine wp_region_held_drew (S := fun w' => w'.cell? ⟨g, 3, none⟩ = some (.int .i64 b1) ∧ w'.cell? ⟨g, 4, none⟩ = some (.int .i64 b2) ∧ w'.cell? ⟨g, 8, none⟩ = some (.bool true) ∧ w'.cell? ⟨g, 9, none⟩ = some (.int .i64 q1) ∧ w'.cell? ⟨g, 10, none⟩ = some (.int .i64 q2) ∧ w'.cell? ⟨g, 11, none⟩ = some (.string qk)) hmxo HC3d ?_
        intro _
        refine wpAnyH_take (i := 0) (v := .pointer (some ⟨t, 3, none⟩)) rfl (by kernel_rfl) (by kernel_rfl) (by kernel_rfl) (fun _ _ _ h => h) (Or.inl ⟨by kernel_rfl, fun w hSw => ?_⟩) HC3d ?_
        · obtain ⟨x3, x4, x8, x9, x10, x11⟩ := hSw; go_simp
        simp only [Act.put, List.getElem_toArray, List.getElem_cons_succ, List.getElem_cons_zero, List.setIfInBounds_toArray, List.set_cons_zero, List.set_cons_succ]
        refine wpAnyH_take (i := 1) (v := .pointer (some ⟨g, 0, none⟩)) rfl (by kernel_rfl) (by kernel_rfl) (by kernel_rfl) (fun _ _ _ h => h) (Or.inl ⟨by kernel_rfl, fun w hSw => ?_⟩) HC3d ?_
        · obtain ⟨x3, x4, x8, x9, x10, x11⟩ := hSw; go_simp
        simp only [Act.put, List.getElem_toArray, List.getElem_cons_succ, List.getElem_cons_zero, List.setIfInBounds_toArray, List.set_cons_zero, List.set_cons_succ]
        refine wpAnyH_take (i := 2) (v := .pointer (some ⟨g, 0, none⟩)) rfl (by kernel_rfl) (by kernel_rfl) (by kernel_rfl) (fun _ _ _ h => h) (Or.inl ⟨by kernel_rfl, fun w hSw => ?_⟩) HC3d ?_
        · obtain ⟨x3, x4, x8, x9, x10, x11⟩ := hSw; go_simp
        simp only [Act.put, List.getElem_toArray, List.getElem_cons_succ, List.getElem_cons_zero, List.setIfInBounds_toArray, List.set_cons_zero, List.set_cons_succ]
        refine wpAnyH_take (i := 3) (v := .pointer (some ⟨g, 0, none⟩)) rfl (by kernel_rfl) (by kernel_rfl) (by kernel_rfl) (fun _ _ _ h => h) (Or.inl ⟨by kernel_rfl, fun w hSw => ?_⟩) HC3d ?_
        · obtain ⟨x3, x4, x8, x9, x10, x11⟩ := hSw; go_simp
        simp only [Act.put, List.getElem_toArray, List.getElem_cons_succ, List.getElem_cons_zero, List.setIfInBounds_toArray, List.set_cons_zero, List.set_cons_succ]
        refine wpAnyH_take (i := 4) (v := .pointer (some ⟨g, 3, none⟩)) rfl (by kernel_rfl) (by kernel_rfl) (by kernel_rfl) (fun _ _ _ h => h) (Or.inl ⟨by kernel_rfl, fun w hSw => ?_⟩) HC3d ?_
        · obtain ⟨x3, x4, x8, x9, x10, x11⟩ := hSw; go_simp
        simp only [Act.put, List.getElem_toArray, List.getElem_cons_succ, List.getElem_cons_zero, List.setIfInBounds_toArray, List.set_cons_zero, List.set_cons_succ]
        refine wpAnyH_take (i := 5) (v := .agg #[.int .i64 b1, .int .i64 b2]) rfl (by kernel_rfl) (by kernel_rfl) (by kernel_rfl) (fun _ _ _ h => h) (Or.inl ⟨by kernel_rfl, fun w hSw => ?_⟩) HC3d ?_
        · obtain ⟨x3, x4, x8, x9, x10, x11⟩ := hSw; go_simp
        simp only [Act.put, List.getElem_toArray, List.getElem_cons_succ, List.getElem_cons_zero, List.setIfInBounds_toArray, List.set_cons_zero, List.set_cons_succ]
        refine wpAnyH_take (i := 6) (v := .pointer (some ⟨g, 0, none⟩)) rfl (by kernel_rfl) (by kernel_rfl) (by kernel_rfl) (fun _ _ _ h => h) (Or.inl ⟨by kernel_rfl, fun w hSw => ?_⟩) HC3d ?_
        · obtain ⟨x3, x4, x8, x9, x10, x11⟩ := hSw; go_simp
        simp only [Act.put, List.getElem_toArray, List.getElem_cons_succ, List.getElem_cons_zero, List.setIfInBounds_toArray, List.set_cons_zero, List.set_cons_succ]
        refine wpAnyH_take (i := 7) (v := .pointer (some ⟨g, 0, none⟩)) rfl (by kernel_rfl) (by kernel_rfl) (by kernel_rfl) (fun _ _ _ h => h) (Or.inl ⟨by kernel_rfl, fun w hSw => ?_⟩) HC3d ?_
        · obtain ⟨x3, x4, x8, x9, x10, x11⟩ := hSw; go_simp
        simp only [Act.put, List.getElem_toArray, List.getElem_cons_succ, List.getElem_cons_zero, List.setIfInBounds_toArray, List.set_cons_zero, List.set_cons_succ]
        refine wpAnyH_take (i := 8) (v := .pointer (some ⟨g, 9, none⟩)) rfl (by kernel_rfl) (by kernel_rfl) (by kernel_rfl) (fun _ _ _ h => h) (Or.inl ⟨by kernel_rfl, fun w hSw => ?_⟩) HC3d ?_
        · obtain ⟨x3, x4, x8, x9, x10, x11⟩ := hSw; go_simp
        simp only [Act.put, List.getElem_toArray, List.getElem_cons_succ, List.getElem_cons_zero, List.setIfInBounds_toArray, List.set_cons_zero, List.set_cons_succ]
        refine wpAnyH_take (i := 9) (v := .agg #[.int .i64 q1, .int .i64 q2, .string qk]) rfl (by kernel_rfl) (by kernel_rfl) (by kernel_rfl) (fun _ _ _ h => h) (Or.inl ⟨by kernel_rfl, fun w hSw => ?_⟩) HC3d ?_
        · obtain ⟨x3, x4, x8, x9, x10, x11⟩ := hSw; go_simp
        simp only [Act.put, List.getElem_toArray, List.getElem_cons_succ, List.getElem_cons_zero, List.setIfInBounds_toArray, List.set_cons_zero, List.set_cons_succ]
        refine wpAnyH_ready (rs := [10]) (by kernel_rfl) (by simp) ?_
        refine AllReadyH.cons rfl (fun K hK => ?_) AllReadyH.nil
        go_simp
        refine (HY hnz).mono ?_
        rintro e W4 ⟨rfl, S4, hfin⟩
        refine hK.out _ _ S4 (fun _ => ?_)
        clear hK K
        refine wpAnyH_done (by kernel_rfl) ?_ _
        go_wp2
        refine bodyPost_end (results_none rfl _ _ _) rfl ?_
        obtain ⟨pl', kd', g1, g2, g3, g4⟩ := hfin.out
        exact ⟨rfl, pl', kd', g1, by rw [HO.out hnz.out]; exact g2, g3, g4⟩
end Go.Proofs.Ytplcohjpchfkkaa
