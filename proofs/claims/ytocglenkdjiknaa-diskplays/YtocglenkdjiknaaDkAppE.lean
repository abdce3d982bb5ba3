/- Append: what is there in the end. -/
import Derived.Test.YtocglenkdjiknaaDkSho
namespace Go.Proofs.Ytocglenkdjiknaa
section
set_option linter.unusedVariables false
set_option linter.unusedSimpArgs false
open Go.RowKit Go.Sort Go.Maps

theorem may_nm (t : Nm) (w : World) (ht : t.length ≤ maxLen) (b : Bool) (hb : mayB t = b) : Calls Try.prog 31 #[encStr t] w fun e w' => e = .returned (.bool b) ∧ w = w' := by
  have := may_any ⟨t.toArray⟩ w (by show t.toArray.size ≤ _; simpa using ht)
  rw [← hb]
  exact this
theorem mayB_len {t : Nm} (h : mayB t = true) : t.length ≤ 32 := by
  unfold mayB at h
  simp at h
  exact h.1.2

set_option maxRecDepth 100000 in
set_option maxHeartbeats 4000000 in
theorem rename1_any (d : Nat) (n : Nm) (pt : Option Nat) (t : Nm) (D : Dk) (P : Nat → Prop) (w : World) (h : DK w d D P) (hoff : D.off = false) (xd xn xt : Nat) (hxd : w.heap[xd]? = some (.cells #[.pointer (some ⟨d, 0, none⟩)] 24 (0, 0))) (hxn : w.heap[xn]? = some (.cells #[encStr n] 9 (0, 0))) (hxt : w.heap[xt]? = some (.cells #[encStr t] 9 (0, 0))) (hp : ∀ p, pt = some p → p ≤ 9223372036854775807) (hn : n.length ≤ maxLen) (hpt : P xt) (htl : t.length ≤ maxLen) :
    Calls Try.prog 35 #[pv pt, .pointer (some ⟨xt, 0, none⟩), .pointer (some ⟨xd, 0, none⟩), .pointer (some ⟨xn, 0, none⟩)] w fun e w' => ∃ x : Nat, e = .returned (.int .i64 (x : Int)) ∧ x = (eRen n t pt D.F).2 ∧ DK w' d ⟨D.room, false, D.due, (eRen n t pt D.F).1⟩ P ∧ KP w w' P := by
  have hDK := h
  obtain ⟨m, cv, S, A, hD, hc, hF, hP⟩ := h
  have S0 : w.drew.cell? ⟨xd, 0, none⟩ = some (.pointer (some ⟨d, 0, none⟩)) ∧ w.drew.cell? ⟨d, 1, none⟩ = some (.map (some m)) ∧ w.drew.cell? ⟨xn, 0, none⟩ = some (encStr n) := ⟨cell_blk (w := w.drew) hxd rfl, cell_blk (w := w.drew) hD.blk rfl, cell_blk (w := w.drew) hxn rfl⟩
  obtain ⟨room, off, due, F⟩ := D
  simp only at hoff hD hc hF ⊢
  subst hoff
  have hmxo : Try.prog.follows .mixedOrders = true := by kernel_rfl
  have t0 : w.cell? ⟨xt, 0, none⟩ = some (encStr t) := cell_blk hxt rfl
  cases hm : mayB t with
  | false =>
    have R := hid (hDK.none0 rfl (e := 61) (x := eRen n t pt F) (by unfold eRen; rw [hm]; rfl))
    have hmy := hid (may_nm t w htl false hm)
    clear hDK hD hc hF hxd hxn hxt
    go_enter Try.func35, Try.ntmps35
    go_wp2_with (go_at_call 31; refine hmy.out.mono ?_; rintro e w1 ⟨rfl, rfl⟩)
    go_ret
    exact ⟨61, rfl, R.out.1, R.out.2.1, R.out.2.2⟩
  | true =>
  have hmy := hid (may_nm t w htl true hm)
  cases hl : lk S n with
  | none =>
    have hlk := look_run hD.drew.map hn hl
    have hlF := lk_F (D := ⟨room, false, due, F⟩) hF n hl
    have R := hid (hDK.none rfl (e := 70) (x := eRen n t pt F) (by unfold eRen; rw [hm, hlF]; rfl))
    simp only [Option.map_none, pvo] at hlk
    clear hDK hD hc hF hl hlF hxd hxn hxt
    go_enter Try.func35, Try.ntmps35
    go_wp2_with (go_at_call 31; refine hmy.out.mono ?_; rintro e w1 ⟨rfl, rfl⟩)
    refine wp_region_held_drew (S := fun w' => w'.cell? ⟨xd, 0, none⟩ = some (.pointer (some ⟨d, 0, none⟩)) ∧ w'.cell? ⟨d, 1, none⟩ = some (.map (some m)) ∧ w'.cell? ⟨xn, 0, none⟩ = some (encStr n)) hmxo S0 ?_
    intro _
    refine wpAnyH_take (i := 0) (v := .pointer (some ⟨d, 0, none⟩)) rfl (by kernel_rfl) (by kernel_rfl) (by kernel_rfl) (fun _ _ _ h => h) (Or.inl ⟨by kernel_rfl, fun w hSw => ?_⟩) S0 ?_
    · obtain ⟨e1, e2, e3⟩ := hSw; go_simp
    simp only [Act.put, List.getElem_toArray, List.getElem_cons_succ, List.getElem_cons_zero, List.setIfInBounds_toArray, List.set_cons_zero, List.set_cons_succ]
    refine wpAnyH_take (i := 1) (v := .pointer (some ⟨d, 0, none⟩)) rfl (by kernel_rfl) (by kernel_rfl) (by kernel_rfl) (fun _ _ _ h => h) (Or.inl ⟨by kernel_rfl, fun w hSw => ?_⟩) S0 ?_
    · obtain ⟨e1, e2, e3⟩ := hSw; go_simp
    simp only [Act.put, List.getElem_toArray, List.getElem_cons_succ, List.getElem_cons_zero, List.setIfInBounds_toArray, List.set_cons_zero, List.set_cons_succ]
    refine wpAnyH_take (i := 2) (v := .pointer (some ⟨d, 1, none⟩)) rfl (by kernel_rfl) (by kernel_rfl) (by kernel_rfl) (fun _ _ _ h => h) (Or.inl ⟨by kernel_rfl, fun w hSw => ?_⟩) S0 ?_
    · obtain ⟨e1, e2, e3⟩ := hSw; go_simp
    simp only [Act.put, List.getElem_toArray, List.getElem_cons_succ, List.getElem_cons_zero, List.setIfInBounds_toArray, List.set_cons_zero, List.set_cons_succ]
    refine wpAnyH_take (i := 3) (v := .map (some m)) rfl (by kernel_rfl) (by kernel_rfl) (by kernel_rfl) (fun _ _ _ h => h) (Or.inl ⟨by kernel_rfl, fun w hSw => ?_⟩) S0 ?_
    · obtain ⟨e1, e2, e3⟩ := hSw; go_simp
    simp only [Act.put, List.getElem_toArray, List.getElem_cons_succ, List.getElem_cons_zero, List.setIfInBounds_toArray, List.set_cons_zero, List.set_cons_succ]
    refine wpAnyH_take (i := 4) (v := encStr n) rfl (by kernel_rfl) (by kernel_rfl) (by kernel_rfl) (fun _ _ _ h => h) (Or.inl ⟨by kernel_rfl, fun w hSw => ?_⟩) S0 ?_
    · obtain ⟨e1, e2, e3⟩ := hSw; go_simp
    simp only [Act.put, List.getElem_toArray, List.getElem_cons_succ, List.getElem_cons_zero, List.setIfInBounds_toArray, List.set_cons_zero, List.set_cons_succ]
    refine wpAnyH_ready (rs := [5]) (by kernel_rfl) (by simp) ?_
    refine AllReadyH.cons rfl (fun K hK => ?_) AllReadyH.nil
    go_simp
    refine hK.out _ _ S0 (fun _ => ?_)
    clear hK K
    try simp only [Act.put, List.getElem_toArray, List.getElem_cons_succ, List.getElem_cons_zero, List.setIfInBounds_toArray, List.set_cons_zero, List.set_cons_succ]
    refine wpAnyH_take (i := 6) (v := .pointer none) rfl (by kernel_rfl) (by kernel_rfl) (by kernel_rfl) (fun _ _ _ h => h) (Or.inl ⟨by kernel_rfl, fun w hSw => ?_⟩) S0 ?_
    · obtain ⟨e1, e2, e3⟩ := hSw; go_simp
    simp only [Act.put, List.getElem_toArray, List.getElem_cons_succ, List.getElem_cons_zero, List.setIfInBounds_toArray, List.set_cons_zero, List.set_cons_succ]
    refine wpAnyH_done (by kernel_rfl) ?_ _
    go_wp2
    go_ret
    exact ⟨70, rfl, R.out⟩
  | some f =>
    have hlk := look_run hD.drew.map hn hl
    have hlF := lk_F (D := ⟨room, false, due, F⟩) hF n hl
    simp only [Option.map_some, pvo] at hlk
    by_cases hz : pt = some 0
    · subst hz
      have R := hid (hDK.none rfl (e := 0) (x := eRen n t (some 0) F) (by unfold eRen; rw [hm, hlF]; rfl))
      simp only [pv]
      clear hDK hD hc hF hl hlF hxd hxn hxt
      go_enter Try.func35, Try.ntmps35
      go_wp2_with (go_at_call 31; refine hmy.out.mono ?_; rintro e w1 ⟨rfl, rfl⟩)
      refine wp_region_held_drew (S := fun w' => w'.cell? ⟨xd, 0, none⟩ = some (.pointer (some ⟨d, 0, none⟩)) ∧ w'.cell? ⟨d, 1, none⟩ = some (.map (some m)) ∧ w'.cell? ⟨xn, 0, none⟩ = some (encStr n)) hmxo S0 ?_
      intro _
      refine wpAnyH_take (i := 0) (v := .pointer (some ⟨d, 0, none⟩)) rfl (by kernel_rfl) (by kernel_rfl) (by kernel_rfl) (fun _ _ _ h => h) (Or.inl ⟨by kernel_rfl, fun w hSw => ?_⟩) S0 ?_
      · obtain ⟨e1, e2, e3⟩ := hSw; go_simp
      simp only [Act.put, List.getElem_toArray, List.getElem_cons_succ, List.getElem_cons_zero, List.setIfInBounds_toArray, List.set_cons_zero, List.set_cons_succ]
      refine wpAnyH_take (i := 1) (v := .pointer (some ⟨d, 0, none⟩)) rfl (by kernel_rfl) (by kernel_rfl) (by kernel_rfl) (fun _ _ _ h => h) (Or.inl ⟨by kernel_rfl, fun w hSw => ?_⟩) S0 ?_
      · obtain ⟨e1, e2, e3⟩ := hSw; go_simp
      simp only [Act.put, List.getElem_toArray, List.getElem_cons_succ, List.getElem_cons_zero, List.setIfInBounds_toArray, List.set_cons_zero, List.set_cons_succ]
      refine wpAnyH_take (i := 2) (v := .pointer (some ⟨d, 1, none⟩)) rfl (by kernel_rfl) (by kernel_rfl) (by kernel_rfl) (fun _ _ _ h => h) (Or.inl ⟨by kernel_rfl, fun w hSw => ?_⟩) S0 ?_
      · obtain ⟨e1, e2, e3⟩ := hSw; go_simp
      simp only [Act.put, List.getElem_toArray, List.getElem_cons_succ, List.getElem_cons_zero, List.setIfInBounds_toArray, List.set_cons_zero, List.set_cons_succ]
      refine wpAnyH_take (i := 3) (v := .map (some m)) rfl (by kernel_rfl) (by kernel_rfl) (by kernel_rfl) (fun _ _ _ h => h) (Or.inl ⟨by kernel_rfl, fun w hSw => ?_⟩) S0 ?_
      · obtain ⟨e1, e2, e3⟩ := hSw; go_simp
      simp only [Act.put, List.getElem_toArray, List.getElem_cons_succ, List.getElem_cons_zero, List.setIfInBounds_toArray, List.set_cons_zero, List.set_cons_succ]
      refine wpAnyH_take (i := 4) (v := encStr n) rfl (by kernel_rfl) (by kernel_rfl) (by kernel_rfl) (fun _ _ _ h => h) (Or.inl ⟨by kernel_rfl, fun w hSw => ?_⟩) S0 ?_
      · obtain ⟨e1, e2, e3⟩ := hSw; go_simp
      simp only [Act.put, List.getElem_toArray, List.getElem_cons_succ, List.getElem_cons_zero, List.setIfInBounds_toArray, List.set_cons_zero, List.set_cons_succ]
      refine wpAnyH_ready (rs := [5]) (by kernel_rfl) (by simp) ?_
      refine AllReadyH.cons rfl (fun K hK => ?_) AllReadyH.nil
      go_simp
      refine hK.out _ _ S0 (fun _ => ?_)
      clear hK K
      try simp only [Act.put, List.getElem_toArray, List.getElem_cons_succ, List.getElem_cons_zero, List.setIfInBounds_toArray, List.set_cons_zero, List.set_cons_succ]
      refine wpAnyH_take (i := 6) (v := .pointer (some ⟨f.g, 0, none⟩)) rfl (by kernel_rfl) (by kernel_rfl) (by kernel_rfl) (fun _ _ _ h => h) (Or.inl ⟨by kernel_rfl, fun w hSw => ?_⟩) S0 ?_
      · obtain ⟨e1, e2, e3⟩ := hSw; go_simp
      simp only [Act.put, List.getElem_toArray, List.getElem_cons_succ, List.getElem_cons_zero, List.setIfInBounds_toArray, List.set_cons_zero, List.set_cons_succ]
      refine wpAnyH_done (by kernel_rfl) ?_ _
      go_wp2
      go_ret
      exact ⟨0, rfl, R.out⟩
    · have htl2 := mayB_len hm
      obtain ⟨w2, hdel, hM, ht⟩ := hD.drew.drew.map.rem (w := w.drew.drew) (n := n) hD.asc hn 0
      have hg := hD.drew.drew.gone (w' := w2) n hM ht.grown
      have hB : DB w2 d m cv room false (wo S n) (put (wo S n) t f) A := by
        refine ⟨hg.1.blk, hM, (hD.drew.drew.files.moved hl t).mapped hD.drew.drew.map ht.grown, hg.1.asc, by have := hg.1.few; omega, ?_, ?_, hD.small, fun k x e => ?_, hD.own, hg.1.lt⟩
        · have h1 := len_wo1 hD.asc hl
          have h2 := hD.few
          rw [len_put t f hg.1.asc]
          split <;> omega
        · have h1 := sm_wo (fun f : Fi => f.b.length) n hD.asc
          have h2 := sm_put (fun f : Fi => f.b.length) t f hg.1.asc
          have h3 := hD.fits
          rw [hl] at h1
          simp only [at_] at h1
          omega
        · rw [lk_put] at e
          split at e
          · rename_i e'
            rw [e']; exact htl2
          · exact hg.1.nice k x e
      have hnm := hid (name_any d m cv room false (wo S n) A t f w2 hB htl2)
      have hend : ∀ w3 : World, DA w3 d m cv room false (put (wo S n) t f) A → KA w2 w3 A A → DK w3 d ⟨room, false, due, (eRen n t pt F).1⟩ P ∧ KP w w3 P := fun w3 h3 k3 =>
        DK.of (due := due) (F := (eRen n t pt F).1) hc hP (hg.2.drew.drew.trans k3) h3 (by unfold eRen; rw [hm, hlF]; simp only [Option.map_some]; rw [if_neg (by decide), if_neg hz, put_mp, wo_mp, hF])
      have HE := hid hend
      have R2 : Hid (0 = (eRen n t pt F).2) := hid (by unfold eRen; rw [hm, hlF]; simp only [Option.map_some]; rw [if_neg (by decide), if_neg hz])
      have S4 : w.drew.drew.cell? ⟨xd, 0, none⟩ = some (.pointer (some ⟨d, 0, none⟩)) ∧ w.drew.drew.cell? ⟨d, 1, none⟩ = some (.map (some m)) ∧ w.drew.drew.cell? ⟨xn, 0, none⟩ = some (encStr n) := ⟨cell_blk (w := w.drew.drew) hxd rfl, cell_blk (w := w.drew.drew) hD.blk rfl, cell_blk (w := w.drew.drew) hxn rfl⟩
      have hxd2 : w2.cell? ⟨xd, 0, none⟩ = some (.pointer (some ⟨d, 0, none⟩)) ∧ w2.cell? ⟨d, 1, none⟩ = some (.map (some m)) ∧ w2.cell? ⟨xn, 0, none⟩ = some (encStr n) :=
        ⟨cell_blk ((ht.grown.block xd (Array.getElem?_eq_some_iff.1 hxd).1 (fun e => map_ne hD.map hxd (by simpa using e))).trans hxd) rfl, cell_blk hg.1.blk rfl, cell_blk ((ht.grown.block xn (Array.getElem?_eq_some_iff.1 hxn).1 (fun e => map_ne hD.map hxn (by simpa using e))).trans hxn) rfl⟩
      have hxt2 : w2.cell? ⟨xt, 0, none⟩ = some (encStr t) := cell_blk ((ht.grown.block xt (Array.getElem?_eq_some_iff.1 hxt).1 (fun e => map_ne hD.map hxt (by simpa using e))).trans hxt) rfl
      have hxd3 := hxd2.1
      obtain ⟨q, hq, hq0⟩ : ∃ q : Int, pv pt = .int .i64 q ∧ q ≠ 0 := by
        cases pt with
        | none => exact ⟨-1, rfl, by omega⟩
        | some p => exact ⟨p, rfl, fun e => hz (by rw [show p = 0 by omega])⟩
      rw [hq]
      clear hDK hD hc hF hl hlF hxd hxn hxt hg ht hM hq hB hend
      go_enter Try.func35, Try.ntmps35
      go_wp2_with (go_at_call 31; refine hmy.out.mono ?_; rintro e w1 ⟨rfl, rfl⟩)
      refine wp_region_held_drew (S := fun w' => w'.cell? ⟨xd, 0, none⟩ = some (.pointer (some ⟨d, 0, none⟩)) ∧ w'.cell? ⟨d, 1, none⟩ = some (.map (some m)) ∧ w'.cell? ⟨xn, 0, none⟩ = some (encStr n)) hmxo S0 ?_
      intro _
      refine wpAnyH_take (i := 0) (v := .pointer (some ⟨d, 0, none⟩)) rfl (by kernel_rfl) (by kernel_rfl) (by kernel_rfl) (fun _ _ _ h => h) (Or.inl ⟨by kernel_rfl, fun w hSw => ?_⟩) S0 ?_
      · obtain ⟨e1, e2, e3⟩ := hSw; go_simp
      simp only [Act.put, List.getElem_toArray, List.getElem_cons_succ, List.getElem_cons_zero, List.setIfInBounds_toArray, List.set_cons_zero, List.set_cons_succ]
      refine wpAnyH_take (i := 1) (v := .pointer (some ⟨d, 0, none⟩)) rfl (by kernel_rfl) (by kernel_rfl) (by kernel_rfl) (fun _ _ _ h => h) (Or.inl ⟨by kernel_rfl, fun w hSw => ?_⟩) S0 ?_
      · obtain ⟨e1, e2, e3⟩ := hSw; go_simp
      simp only [Act.put, List.getElem_toArray, List.getElem_cons_succ, List.getElem_cons_zero, List.setIfInBounds_toArray, List.set_cons_zero, List.set_cons_succ]
      refine wpAnyH_take (i := 2) (v := .pointer (some ⟨d, 1, none⟩)) rfl (by kernel_rfl) (by kernel_rfl) (by kernel_rfl) (fun _ _ _ h => h) (Or.inl ⟨by kernel_rfl, fun w hSw => ?_⟩) S0 ?_
      · obtain ⟨e1, e2, e3⟩ := hSw; go_simp
      simp only [Act.put, List.getElem_toArray, List.getElem_cons_succ, List.getElem_cons_zero, List.setIfInBounds_toArray, List.set_cons_zero, List.set_cons_succ]
      refine wpAnyH_take (i := 3) (v := .map (some m)) rfl (by kernel_rfl) (by kernel_rfl) (by kernel_rfl) (fun _ _ _ h => h) (Or.inl ⟨by kernel_rfl, fun w hSw => ?_⟩) S0 ?_
      · obtain ⟨e1, e2, e3⟩ := hSw; go_simp
      simp only [Act.put, List.getElem_toArray, List.getElem_cons_succ, List.getElem_cons_zero, List.setIfInBounds_toArray, List.set_cons_zero, List.set_cons_succ]
      refine wpAnyH_take (i := 4) (v := encStr n) rfl (by kernel_rfl) (by kernel_rfl) (by kernel_rfl) (fun _ _ _ h => h) (Or.inl ⟨by kernel_rfl, fun w hSw => ?_⟩) S0 ?_
      · obtain ⟨e1, e2, e3⟩ := hSw; go_simp
      simp only [Act.put, List.getElem_toArray, List.getElem_cons_succ, List.getElem_cons_zero, List.setIfInBounds_toArray, List.set_cons_zero, List.set_cons_succ]
      refine wpAnyH_ready (rs := [5]) (by kernel_rfl) (by simp) ?_
      refine AllReadyH.cons rfl (fun K hK => ?_) AllReadyH.nil
      go_simp
      refine hK.out _ _ S0 (fun _ => ?_)
      clear hK K
      try simp only [Act.put, List.getElem_toArray, List.getElem_cons_succ, List.getElem_cons_zero, List.setIfInBounds_toArray, List.set_cons_zero, List.set_cons_succ]
      refine wpAnyH_take (i := 6) (v := .pointer (some ⟨f.g, 0, none⟩)) rfl (by kernel_rfl) (by kernel_rfl) (by kernel_rfl) (fun _ _ _ h => h) (Or.inl ⟨by kernel_rfl, fun w hSw => ?_⟩) S0 ?_
      · obtain ⟨e1, e2, e3⟩ := hSw; go_simp
      simp only [Act.put, List.getElem_toArray, List.getElem_cons_succ, List.getElem_cons_zero, List.setIfInBounds_toArray, List.set_cons_zero, List.set_cons_succ]
      refine wpAnyH_done (by kernel_rfl) ?_ _
      go_wp2_with fail
      refine wp_region_held_drew (S := fun w' => w'.cell? ⟨xd, 0, none⟩ = some (.pointer (some ⟨d, 0, none⟩)) ∧ w'.cell? ⟨d, 1, none⟩ = some (.map (some m)) ∧ w'.cell? ⟨xn, 0, none⟩ = some (encStr n)) hmxo S4 ?_
      intro _
      refine wpAnyH_take (i := 0) (v := .pointer (some ⟨d, 0, none⟩)) rfl (by kernel_rfl) (by kernel_rfl) (by kernel_rfl) (fun _ _ _ h => h) (Or.inl ⟨by kernel_rfl, fun w hSw => ?_⟩) S4 ?_
      · obtain ⟨e1, e2, e3⟩ := hSw; go_simp
      simp only [Act.put, List.getElem_toArray, List.getElem_cons_succ, List.getElem_cons_zero, List.setIfInBounds_toArray, List.set_cons_zero, List.set_cons_succ]
      refine wpAnyH_take (i := 1) (v := .pointer (some ⟨d, 0, none⟩)) rfl (by kernel_rfl) (by kernel_rfl) (by kernel_rfl) (fun _ _ _ h => h) (Or.inl ⟨by kernel_rfl, fun w hSw => ?_⟩) S4 ?_
      · obtain ⟨e1, e2, e3⟩ := hSw; go_simp
      simp only [Act.put, List.getElem_toArray, List.getElem_cons_succ, List.getElem_cons_zero, List.setIfInBounds_toArray, List.set_cons_zero, List.set_cons_succ]
      refine wpAnyH_take (i := 2) (v := .pointer (some ⟨d, 1, none⟩)) rfl (by kernel_rfl) (by kernel_rfl) (by kernel_rfl) (fun _ _ _ h => h) (Or.inl ⟨by kernel_rfl, fun w hSw => ?_⟩) S4 ?_
      · obtain ⟨e1, e2, e3⟩ := hSw; go_simp
      simp only [Act.put, List.getElem_toArray, List.getElem_cons_succ, List.getElem_cons_zero, List.setIfInBounds_toArray, List.set_cons_zero, List.set_cons_succ]
      refine wpAnyH_take (i := 3) (v := .map (some m)) rfl (by kernel_rfl) (by kernel_rfl) (by kernel_rfl) (fun _ _ _ h => h) (Or.inl ⟨by kernel_rfl, fun w hSw => ?_⟩) S4 ?_
      · obtain ⟨e1, e2, e3⟩ := hSw; go_simp
      simp only [Act.put, List.getElem_toArray, List.getElem_cons_succ, List.getElem_cons_zero, List.setIfInBounds_toArray, List.set_cons_zero, List.set_cons_succ]
      refine wpAnyH_take (i := 4) (v := encStr n) rfl (by kernel_rfl) (by kernel_rfl) (by kernel_rfl) (fun _ _ _ h => h) (Or.inl ⟨by kernel_rfl, fun w hSw => ?_⟩) S4 ?_
      · obtain ⟨e1, e2, e3⟩ := hSw; go_simp
      simp only [Act.put, List.getElem_toArray, List.getElem_cons_succ, List.getElem_cons_zero, List.setIfInBounds_toArray, List.set_cons_zero, List.set_cons_succ]
      refine wpAnyH_ready (rs := [5]) (by kernel_rfl) (by simp) ?_
      refine AllReadyH.cons rfl (fun K hK => ?_) AllReadyH.nil
      go_simp
      refine hK.out _ _ hxd2 (fun _ => ?_)
      clear hK K
      refine wpAnyH_done (by kernel_rfl) ?_ _
      go_wp2_with (go_at_call 36; refine hnm.out.mono ?_; rintro e w3 ⟨rfl, q1, q2⟩; have R := hid (HE.out w3 q1 q2); clear q1 q2)
      go_ret
      exact ⟨0, rfl, R2.out, R.out⟩
end

section
set_option linter.unusedVariables false
set_option linter.unusedSimpArgs false
open Go.RowKit Go.Sort Go.Maps

theorem app_end {d m : Nat} {cv : Value} {room : Nat} {due : Option (Nat × Nat × Nat)} {n : Nm} {L : List Int} {pt : Option Nat} {F : List (Nm × Fl)} {P A A6 : Nat → Prop} {w w6 w7 : World} {S6 : List (Nm × Fi)} {f : Fi} {k : Nat} {a' : Option Addr} {c' : Nat}
    (hc : CT w cv due A P) (hP : ∀ j, P j → j < w.heap.size ∧ ¬ A j) (h6 : DA w6 d m cv room false S6 A6) (hka : KA w w6 A A6) (hf : lk S6 n = some f) (hfl : f.fl = fz (lk F n)) (hput : ∀ f', mp Fi.fl (put S6 n f') = put F n f'.fl) (hsum : sm (fun f => f.b.length) S6 = sm Fl.n F) (hfit : sm Fl.n F + L.length ≤ room)
    (hmay : mayB n = true) (hno : ¬ (room - sm Fl.n F < L.length ∨ (lk F n = none ∧ 100 ≤ F.length))) (hkk : k = min (pt.getD L.length) L.length) (hL : Bts L)
    (q1 : w7.ownsRow 0 5 1 (.slice a' (f.b.length + k) c') (f.b.length + k) (f.b.map (Value.int .u8) ++ (L.take k).map (Value.int .u8))) (q2 : w6.drew.grownBy w7 f.v.ownBlock) (q3 : (Value.slice a' (f.b.length + k) c').ownBlock = f.v.ownBlock ∨ (Value.slice a' (f.b.length + k) c').ownBlock = some w6.drew.heap.size) :
    0 = (eApp room n L pt F).2 ∧ DK (w7.setCell ⟨f.g, 0, none⟩ (.slice a' (f.b.length + k) c')) d ⟨room, false, due, (eApp room n L pt F).1⟩ P ∧ KP w (w7.setCell ⟨f.g, 0, none⟩ (.slice a' (f.b.length + k) c')) P := by
  have hz : w6.heap.size ≤ w7.heap.size := q2.size
  have hgl := h6.lt _ (h6.files.own n f hf).1
  have hgv := h6.files.gv hf hf
  have g7 : w7.heap[f.g]? = some (.cells #[f.v, .int .i64 (f.s : Int)] 68 (0, 0)) := (q2.block f.g hgl (fun e => hgv e.symm)).trans (h6.files.file n f hf)
  have hlen : (f.b ++ L.take k).length = f.b.length + k := by rw [List.length_append, List.length_take]; omega
  have hof := h6.files.ok n f hf
  have hu := h6.upd (w' := w7.setCell ⟨f.g, 0, none⟩ (.slice a' (f.b.length + k) c')) hf ⟨f.b ++ L.take k, f.s, f.g, .slice a' (f.b.length + k) c'⟩ rfl (by simp; exact hz)
    (fun j hj h1 h2 => (Below.heap_setCell _ _ _ _ h1).trans (q2.block j hj (fun e => h2 e.symm)))
    (by rw [set_blk (i := 0) _ g7]; simp)
    (by
      have q1' : w7.ownsRow 0 5 1 (.slice a' (f.b.length + k) c') (f.b ++ L.take k).length ((f.b ++ L.take k).map (Value.int .u8)) := by rw [hlen, List.map_append]; exact q1
      refine row_kept5 q1' (fun i hi => Below.heap_setCell _ _ _ _ (fun e => ?_))
      rcases q3 with h | h
      · exact hgv (by rw [← h, hi]; exact congrArg some e)
      · rw [hi] at h
        have e1 := Option.some.inj h
        have e2 : i = f.g := e
        have e3 : w6.drew.heap.size = w6.heap.size := rfl
        omega)
    (fun i hi => by
      rcases q3 with h | h
      · exact Or.inl (by rw [← h]; exact hi)
      · have hi' : (Value.slice a' (f.b.length + k) c').ownBlock = some i := hi
        rw [hi'] at h
        have e1 := Option.some.inj h
        exact Or.inr (Nat.le_of_eq e1.symm))
    ⟨hof.1.app (fun x hx => hL x (List.mem_of_mem_take hx)), by rw [hlen]; have := hof.2; simp; omega⟩
    (by
      show sm (fun f : Fi => f.b.length) S6 + (f.b ++ L.take k).length ≤ room + f.b.length
      rw [hlen, hsum]
      omega)
    ⟨q2.os, q2.tape, q2.output⟩
  have hx : eApp room n L pt F = (put F n ⟨f.b ++ L.take k, f.s⟩, 0) := by
    unfold eApp
    rw [if_neg (by rw [hmay]; decide), if_neg hno, ← hfl]
    have : L.take (pt.getD L.length) = L.take k := by
      rw [hkk]
      cases pt with
      | none => simp
      | some p =>
        simp only [Option.getD_some]
        by_cases h : p ≤ L.length
        · rw [show min p L.length = p by omega]
        · rw [show min p L.length = L.length by omega, List.take_of_length_le (Nat.le_refl _), List.take_of_length_le (by omega)]
    rw [this]
    rfl
  rw [hx]
  refine ⟨rfl, DK.of hc hP (hka.trans hu.2) hu.1 ?_⟩
  exact hput _
end
end Go.Proofs.Ytocglenkdjiknaa
