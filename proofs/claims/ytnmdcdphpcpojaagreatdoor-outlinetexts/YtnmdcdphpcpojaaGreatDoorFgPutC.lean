/- Insert: a character that may be put in. -/
import Derived.Test.YtnmdcdphpcpojaaGreatDoorFgNil
import Derived.Deep.RegionWith
import Derived.Deep.RegionHeld
set_option linter.unusedVariables false
namespace Go.Proofs.YtnmdcdphpcpojaaGreatDoor
open Go.RowKit Go.Maps
open Go.Sort (grow)

set_option maxRecDepth 100000 in
set_option maxHeartbeats 4000000 in
theorem ins_left (t : Nat) (T : List Cr) (G : Dt → Option Nat) (R : Dt → Bool → Value) (id at_ : Dt) (ch : Int) (w : World) (h : TX w t T G G T.length R) (hid0 : Dw id) (hat : Dw at_) (hm : mayI id at_ 0 = true) (hf : ¬ ∃ c ∈ T, c.id = id) (hn : T.length ≤ 100000) (h0 : at_ ≠ (0, 0)) (hnd : nodes T at_) :
    Calls Tryz.prog 26 #[.pointer (some ⟨t, 0, none⟩), dv id, dv at_, .int .i64 0, .int .i64 ch] w fun e w' => e = .returned (.int .i64 0) ∧ ∃ G' R', TX w' t (T ++ [⟨id, at_, false, ch, true⟩]) G' G' (T.length + 1) R' ∧ FrW t w w' := by
  have mixed := mixed
  obtain ⟨k0, k1, k2, k3, hA⟩ := two_dots w id at_
  obtain ⟨W, hW⟩ : ∃ W, W = (w.alloc (.cells #[.int .i64 id.1, .int .i64 id.2] 24)).alloc (.cells #[.int .i64 at_.1, .int .i64 at_.2] 24) := ⟨_, rfl⟩
  rw [← hW] at k0 k1 k2 k3 hA
  have hWl : w.heap.size + 1 < W.heap.size := by rw [hW]; simp
  have hnz : id ≠ (0, 0) := by
    intro e
    rw [e] at hm
    simp [mayI] at hm
  have hfr : ∀ x ∈ T, x.id ≠ id := fun x hx e => hf ⟨x, hx, e⟩
  have hg : G id = none := by
    cases e : G id with
    | none => rfl
    | some g => exact absurd ((h.gd id hid0).1 (by rw [e]; rfl)) hf
  obtain ⟨ca, hca, hcae⟩ : ∃ c ∈ T, c.id = at_ := by
    rcases hnd with e | h'
    · exact absurd e h0
    · exact h'
  obtain ⟨ga, hga0, htga, _⟩ := h.ch ca hca
  rw [hcae] at hga0
  have hga : Hid (aboveV t G at_ = .pointer (some ⟨ga, 0, none⟩)) := hid (by unfold aboveV; rw [if_neg h0, hga0]; rfl)
  have hspot : Hid (spotOf t G at_ = (ga, 4)) := hid (by unfold spotOf; rw [if_neg h0, hga0]; rfl)
  have hM := fgmay_any id at_ 0 W
  rw [hm] at hM
  have hX := hid h
  obtain ⟨fm, hc, ⟨om, rfl⟩, hlk⟩ := h.found
  have htl := h.lt
  have HLK := hid hlk
  clear h hlk
  go_enter Tryz.func26, Tryz.ntmps26
  go_upto_region 1 with fail
  rw [← hW]
  clear hW
  go_upto_region 3 with (first
    | (go_at_call 57; refine hM.mono ?_; rintro e w1 ⟨rfl, hF1⟩))
  have hA1 := below2 hA hF1.below
  have x0 := (hF1.below.cell (p := ⟨w.heap.size, 0, none⟩) (by show w.heap.size < W.heap.size; omega)).trans k0
  have x1 := (hF1.below.cell (p := ⟨w.heap.size, 1, none⟩) (by show w.heap.size < W.heap.size; omega)).trans k1
  have x2 := (hF1.below.cell (p := ⟨w.heap.size + 1, 0, none⟩) (by show w.heap.size + 1 < W.heap.size; omega)).trans k2
  have x3 := (hF1.below.cell (p := ⟨w.heap.size + 1, 1, none⟩) (by show w.heap.size + 1 < W.heap.size; omega)).trans k3
  have hw1l : w.heap.size + 1 < w1.heap.size := Nat.lt_of_lt_of_le hWl hF1.below.size
  clear k0 k1 k2 k3 hM hWl hA hF1
  haveI : Nonempty (Wb w1) := ⟨⟨w1, Below.refl _ _⟩⟩
  have y0 := fun p : Wb w1 => (p.h.cell (p := ⟨w.heap.size, 0, none⟩) (by show w.heap.size < w1.heap.size; omega)).trans x0
  have y1 := fun p : Wb w1 => (p.h.cell (p := ⟨w.heap.size, 1, none⟩) (by show w.heap.size < w1.heap.size; omega)).trans x1
  have yt := fun p : Wb w1 => ((below2 hA1 p.h).cell (p := ⟨t, 0, none⟩) htl).trans hc
  have yl := fun p : Wb w1 => HLK.out p.u (below2 hA1 p.h) id hid0
  rw [hg] at yl
  have yl' : ∀ p : Wb w1, (Instr.lookup 120 (.map om) (.agg #[.int .i64 id.1, .int .i64 id.2]) false).run Tryz.prog p.u = .ok (.pointer none) p.u := yl
  clear yl hg
  refine wp_region_below mixed (by kernel_rfl) ?_
  repeat (go_big_quiet_step (fail))
  refine wpQuiet_nil ?_
  intro _ hw'
  obtain ⟨p, hw''⟩ := hw'
  subst hw''
  have hA2 := below2 hA1 p.h
  have z0 := (p.h.cell (p := ⟨w.heap.size, 0, none⟩) (by show w.heap.size < w1.heap.size; omega)).trans x0
  have z1 := (p.h.cell (p := ⟨w.heap.size, 1, none⟩) (by show w.heap.size < w1.heap.size; omega)).trans x1
  have z2 := (p.h.cell (p := ⟨w.heap.size + 1, 0, none⟩) (by show w.heap.size + 1 < w1.heap.size; omega)).trans x2
  have z3 := (p.h.cell (p := ⟨w.heap.size + 1, 1, none⟩) (by show w.heap.size + 1 < w1.heap.size; omega)).trans x3
  have hw2l : w.heap.size + 1 < p.u.heap.size := Nat.lt_of_lt_of_le hw1l p.h.size
  have hAb : Calls Tryz.prog 58 #[.pointer (some ⟨t, 0, none⟩), .agg #[.int .i64 at_.1, .int .i64 at_.2]] p.u fun e w' => e = .returned (.pointer (some ⟨ga, 0, none⟩)) ∧ RowKit.Below p.u.heap.size p.u w' := by
    have := above_any t T G T.length R at_ p.u (hX.out.below hA2) hat
    rw [hga.out] at this
    exact this
  clear yl' y0 y1 yt x0 x1 x2 x3 this
  generalize p.u = w2 at *
  go_upto_region 8 with (first
    | (go_at_call 58; refine hAb.mono ?_; rintro e w3 ⟨rfl, hB3⟩))
  have hA3 := below2 hA2 hB3
  have v0 := (hB3.cell (p := ⟨w.heap.size, 0, none⟩) (by show w.heap.size < w2.heap.size; omega)).trans z0
  have v1 := (hB3.cell (p := ⟨w.heap.size, 1, none⟩) (by show w.heap.size < w2.heap.size; omega)).trans z1
  have hw3l : w.heap.size + 1 < w3.heap.size := Nat.lt_of_lt_of_le hw2l hB3.size
  have hc3 := (hA3.cell (p := ⟨t, 0, none⟩) htl).trans hc
  have hX3 := hid (hX.out.below hA3)
  clear z0 z1 z2 z3 hAb hX HLK hc
  have hfz3 : w3.frozen? ⟨t, 0, none⟩ = false := by
    obtain ⟨fm, h1, _⟩ := hX3.out.tb
    simp [World.frozen?, h1]
  obtain ⟨mb, rfl, htm, hPM3, hb3⟩ : ∃ mb, om = some mb ∧ t < mb ∧ PMc w3 mb T.length G ∧ w3.heap[t]? = some (.cells (txCells (.map (some mb)) (R (0, 0) false) (R (0, 0) true)) 126 (0, 0)) := by
    obtain ⟨fm, h1, h2⟩ := hX3.out.tb
    have hfm : fm = .map om := by
      have := hc3
      simp [World.cell?, h1, txCells] at this
      exact this
    rcases h2 with ⟨e, _⟩ | ⟨mb, e, k1, k2⟩
    · rw [e] at hca
      simp at hca
    · rw [hfm] at e
      simp at e
      exact ⟨mb, e, k1, k2, by rw [h1, hfm, e]⟩
  have hX4 := hX3
  have hPM4 := hid hPM3
  have hb4 := hid hb3
  have u0 := v0
  have u1 := v1
  have HF4 : Hid (FrW t w w3) := hid (FrW.of_below hA3)
  have hw4l := hw3l
  clear hX3 hPM3 hb3 v0 v1 hw3l hA3 hA2 hA1 hB3
  have hmn := map_some mb
  generalize w3 = w4 at *
  go_upto_region 11 with fail
  have hA5 : RowKit.Below w4.heap.size w4 (w4.alloc (.cells #[.int .i64 id.1, .int .i64 id.2, .int .i64 ch, .bool true, .slice none 0 0, .slice none 0 0] 124)) := ((Far.refl w4).alloc _).below
  have hgc5 : (w4.alloc (.cells #[.int .i64 id.1, .int .i64 id.2, .int .i64 ch, .bool true, .slice none 0 0, .slice none 0 0] 124)).heap[w4.heap.size]? = some (.cells ((⟨id, at_, false, ch, true⟩ : Cr).cells (.slice none 0 0) (.slice none 0 0)) 124 (0, 0)) := (MapKept.heap_alloc w4 _).1
  generalize w4.alloc (.cells #[.int .i64 id.1, .int .i64 id.2, .int .i64 ch, .bool true, .slice none 0 0, .slice none 0 0] 124) = w5 at *
  obtain ⟨gc, hgce⟩ : ∃ gc, w4.heap.size = gc := ⟨_, rfl⟩
  have htgc : t < gc := by have := hX4.out.lt; omega
  have hmb5 : mb < w5.heap.size := Nat.lt_of_lt_of_le hPM4.out.lt hA5.size
  rw [hgce] at hgc5 ⊢
  have hX5 := hid (hX4.out.below hA5)
  have hPM5 : PMc w5 mb T.length G := hPM4.out.same (hA5.block _ hPM4.out.lt)
  have hb5 := (hA5.block t hX4.out.lt).trans hb4.out
  have s0 := (hA5.cell (p := ⟨w.heap.size, 0, none⟩) (by show w.heap.size < w4.heap.size; omega)).trans u0
  have s1 := (hA5.cell (p := ⟨w.heap.size, 1, none⟩) (by show w.heap.size < w4.heap.size; omega)).trans u1
  have s2 : w5.cell? ⟨t, 0, none⟩ = some (.map (some mb)) := by simp [World.cell?, hb5, txCells]
  obtain ⟨w6, hrun, hPM6, hg6⟩ := (hPM5.same (w' := w5.drew) rfl).put hid0 gc (by unfold maxLen; omega)
  have hrun' : (Instr.mapUpdate 120 (.map (some mb)) (.agg #[.int .i64 id.1, .int .i64 id.2]) (.pointer (some ⟨gc, 0, none⟩))).run Tryz.prog w5.drew = .ok () w6 := hrun
  clear hrun
  go_region
  have hg56 := (grownBy_drew1 w5 (some mb)).trans hg6
  obtain ⟨hT6, ht6⟩ := hX5.out.told hb5 htm hPM5 hg56 hPM6
  have hgcm : gc ≠ mb := by have := hPM4.out.lt; omega
  have hgc6 := (hg56.block gc (Array.getElem?_eq_some_iff.1 hgc5).1 (fun e => hgcm (by simpa using e))).trans hgc5
  obtain ⟨gs, hgs, hown⟩ := hT6.rows at_ false hnd
  obtain ⟨ra, rc, hRv, hpp⟩ := own_ppc hown
  have hcr := hT6.cr hgs
  obtain ⟨ga', hga', _, hblk6⟩ := hT6.ch ca hca
  obtain rfl : ga = ga' := by rw [hcae, hga0] at hga'; simpa using hga'
  rw [hcae] at hblk6
  have hcb : w6.drew.cell? ⟨ga, 4, none⟩ = some (.slice ra (kids T at_ false).length rc) := by
    rw [← hRv]
    show w6.cell? ⟨ga, 4, none⟩ = _
    simp [World.cell?, hblk6, Cr.cells]
  have hneb : (R at_ false).ownBlock ≠ some ga := fun e => by
    obtain ⟨cur, hc⟩ := own_block hown e
    rw [hblk6] at hc
    simp at hc
  have hidc : IdAt w6.drew gc id := ⟨by show w6.cell? _ = _; simp [World.cell?, hgc6, Cr.cells], by show w6.cell? _ = _; simp [World.cell?, hgc6, Cr.cells]⟩
  have hkl := kids_len T at_ false
  have hsz6 : t ≤ w6.drew.heap.size := Nat.le_of_lt hT6.lt
  have hAm := among_any t (R at_ false) (kids T at_ false).length gs (kids T at_ false) gc id w6.drew hown (hcr.below ((Far.refl w6).drew).below) hidc (by omega) hsz6 (kids_up T at_ false)
  rw [hRv] at hAm hneb
  have hfin : ∀ (w7 : World) (q cq : Nat), w7.ownsRow t 128 1 (.slice (some ⟨q, 0, none⟩) ((kids T at_ false).length + 1) cq) ((kids T at_ false).length + 1) (prowc (gs.take (aheadOf (kids T at_ false) id) ++ [gc] ++ gs.drop (aheadOf (kids T at_ false) id))) → w6.drew.grownBy w7 (Value.slice ra (kids T at_ false).length rc).ownBlock → ((Value.slice ra (kids T at_ false).length rc).ownBlock = some q ∨ w6.drew.heap.size ≤ q) →
      ∃ G' R', TX (w7.setCell ⟨ga, 4, none⟩ (.slice (some ⟨q, 0, none⟩) ((kids T at_ false).length + 1) cq)) t (T ++ [⟨id, at_, false, ch, true⟩]) G' G' (T.length + 1) R' ∧ FrW t w (w7.setCell ⟨ga, 4, none⟩ (.slice (some ⟨q, 0, none⟩) ((kids T at_ false).length + 1) cq)) := fun w7 q cq ho7 hg7 hq7 => by
    rw [← hRv] at hg7 hq7
    have hg67 := (grownBy_drew1 w6 (R at_ false).ownBlock).trans hg7
    have hf := TX.more (c := ⟨id, at_, false, ch, true⟩) hT6 hnz hid0 hfr hnd (fun e => absurd e h0) ⟨_, mb, ht6.trans hb5, rfl, htm, hPM6⟩ hgc6 htgc hgs hg67 ho7 rfl hq7
    have hsp : spotOf t G (Cr.at_ ⟨id, at_, false, ch, true⟩) = (ga, 4) := hspot.out
    rw [hsp] at hf
    refine ⟨_, _, hf, ?_⟩
    have f1 : FrW t w4 w5 := FrW.of_below hA5
    have f2 : FrW t w5 w6 := FrW.of_grown hg56 (fun k hk => by
      cases hk
      refine ⟨Nat.le_of_lt htm, fun cs ty hc => ?_⟩
      obtain ⟨D, ⟨es, clock, h1, _⟩, _⟩ := hPM5
      rw [h1] at hc
      cases hc)
    have f3 : FrW t w6 w7 := FrW.of_grown hg67 (fun k hk => by
      refine ⟨(World.ownsRow.lt hown k hk).1, fun cs ty hc => ?_⟩
      obtain ⟨cur, hc'⟩ := own_block hown hk
      rw [hc'] at hc
      simp at hc
      exact Or.inr (Or.inr hc.2.symm))
    have hb7 : w7.heap[ga]? = w6.heap[ga]? := hg67.block ga (Array.getElem?_eq_some_iff.1 hblk6).1 (fun e => by
      obtain ⟨cur, hc⟩ := own_block hown e.symm
      rw [hblk6] at hc
      simp at hc)
    have f4 : FrW t w7 (w7.setCell ⟨ga, 4, none⟩ (.slice (some ⟨q, 0, none⟩) ((kids T at_ false).length + 1) cq)) := FrW.of_grown (fgrown_set _ _ _ _) (fun k hk => by
      cases hk
      refine ⟨Nat.le_of_lt htga, fun cs ty hc => ?_⟩
      rw [hb7, hblk6] at hc
      simp at hc
      exact Or.inl hc.2.symm)
    exact (((HF4.out.trans f1).trans f2).trans f3).trans f4
  have HFIN := hid hfin
  have hS7 : ∀ w7, w6.drew.grownBy w7 (Value.slice ra (kids T at_ false).length rc).ownBlock → w7.cell? ⟨ga, 4, none⟩ = some (.slice ra (kids T at_ false).length rc) ∧ w7.frozen? ⟨ga, 4, none⟩ = false := fun w7 hg7 => by
    have hb7 : w7.heap[ga]? = w6.heap[ga]? := hg7.block ga (Array.getElem?_eq_some_iff.1 hblk6).1 (fun e => hneb e.symm)
    refine ⟨?_, by simp [World.frozen?, hb7, hblk6]⟩
    rw [← hcb]
    exact World.cell?_of_block hb7
  clear hfin hgs hown hpp hcr hidc hgc6 hgc5 hT6 ht6 hb5 hPM5 hX5 hPM6 hg6 hg56 hRv hblk6 s0 s1 s2 hrun' hA5 hkl
  generalize (kids T at_ false).length = rn at *
  generalize prowc (gs.take (aheadOf (kids T at_ false) id) ++ [gc] ++ gs.drop (aheadOf (kids T at_ false) id)) = xr at *
  go_upto_region 12 with fail
  go_region_with (first
    | (go_at_call 59; refine hAm.mono ?_; rintro e w7 ⟨q, cq, rfl, ho7, hg7, hq7⟩; obtain ⟨ck7, fz7⟩ := hS7 w7 hg7))
  all_goals
    (go_wp2
     go_ret
     obtain ⟨G', R', r1, r2⟩ := HFIN.out w7 q cq ho7 hg7 hq7
     exact ⟨rfl, G', R', r1, r2⟩)

set_option maxRecDepth 100000 in
set_option maxHeartbeats 4000000 in
theorem ins_right (t : Nat) (T : List Cr) (G : Dt → Option Nat) (R : Dt → Bool → Value) (id at_ : Dt) (ch : Int) (w : World) (h : TX w t T G G T.length R) (hid0 : Dw id) (hat : Dw at_) (hm : mayI id at_ 1 = true) (hf : ¬ ∃ c ∈ T, c.id = id) (hn : T.length ≤ 100000) (h0 : at_ ≠ (0, 0)) (hnd : nodes T at_) :
    Calls Tryz.prog 26 #[.pointer (some ⟨t, 0, none⟩), dv id, dv at_, .int .i64 1, .int .i64 ch] w fun e w' => e = .returned (.int .i64 0) ∧ ∃ G' R', TX w' t (T ++ [⟨id, at_, true, ch, true⟩]) G' G' (T.length + 1) R' ∧ FrW t w w' := by
  have mixed := mixed
  obtain ⟨k0, k1, k2, k3, hA⟩ := two_dots w id at_
  obtain ⟨W, hW⟩ : ∃ W, W = (w.alloc (.cells #[.int .i64 id.1, .int .i64 id.2] 24)).alloc (.cells #[.int .i64 at_.1, .int .i64 at_.2] 24) := ⟨_, rfl⟩
  rw [← hW] at k0 k1 k2 k3 hA
  have hWl : w.heap.size + 1 < W.heap.size := by rw [hW]; simp
  have hnz : id ≠ (0, 0) := by
    intro e
    rw [e] at hm
    simp [mayI] at hm
  have hfr : ∀ x ∈ T, x.id ≠ id := fun x hx e => hf ⟨x, hx, e⟩
  have hg : G id = none := by
    cases e : G id with
    | none => rfl
    | some g => exact absurd ((h.gd id hid0).1 (by rw [e]; rfl)) hf
  obtain ⟨ca, hca, hcae⟩ : ∃ c ∈ T, c.id = at_ := by
    rcases hnd with e | h'
    · exact absurd e h0
    · exact h'
  obtain ⟨ga, hga0, htga, _⟩ := h.ch ca hca
  rw [hcae] at hga0
  have hga : Hid (aboveV t G at_ = .pointer (some ⟨ga, 0, none⟩)) := hid (by unfold aboveV; rw [if_neg h0, hga0]; rfl)
  have hspot : Hid (spotOf t G at_ = (ga, 4)) := hid (by unfold spotOf; rw [if_neg h0, hga0]; rfl)
  have hM := fgmay_any id at_ 1 W
  rw [hm] at hM
  have hX := hid h
  obtain ⟨fm, hc, ⟨om, rfl⟩, hlk⟩ := h.found
  have htl := h.lt
  have HLK := hid hlk
  clear h hlk
  go_enter Tryz.func26, Tryz.ntmps26
  go_upto_region 1 with fail
  rw [← hW]
  clear hW
  go_upto_region 3 with (first
    | (go_at_call 57; refine hM.mono ?_; rintro e w1 ⟨rfl, hF1⟩))
  have hA1 := below2 hA hF1.below
  have x0 := (hF1.below.cell (p := ⟨w.heap.size, 0, none⟩) (by show w.heap.size < W.heap.size; omega)).trans k0
  have x1 := (hF1.below.cell (p := ⟨w.heap.size, 1, none⟩) (by show w.heap.size < W.heap.size; omega)).trans k1
  have x2 := (hF1.below.cell (p := ⟨w.heap.size + 1, 0, none⟩) (by show w.heap.size + 1 < W.heap.size; omega)).trans k2
  have x3 := (hF1.below.cell (p := ⟨w.heap.size + 1, 1, none⟩) (by show w.heap.size + 1 < W.heap.size; omega)).trans k3
  have hw1l : w.heap.size + 1 < w1.heap.size := Nat.lt_of_lt_of_le hWl hF1.below.size
  clear k0 k1 k2 k3 hM hWl hA hF1
  haveI : Nonempty (Wb w1) := ⟨⟨w1, Below.refl _ _⟩⟩
  have y0 := fun p : Wb w1 => (p.h.cell (p := ⟨w.heap.size, 0, none⟩) (by show w.heap.size < w1.heap.size; omega)).trans x0
  have y1 := fun p : Wb w1 => (p.h.cell (p := ⟨w.heap.size, 1, none⟩) (by show w.heap.size < w1.heap.size; omega)).trans x1
  have yt := fun p : Wb w1 => ((below2 hA1 p.h).cell (p := ⟨t, 0, none⟩) htl).trans hc
  have yl := fun p : Wb w1 => HLK.out p.u (below2 hA1 p.h) id hid0
  rw [hg] at yl
  have yl' : ∀ p : Wb w1, (Instr.lookup 120 (.map om) (.agg #[.int .i64 id.1, .int .i64 id.2]) false).run Tryz.prog p.u = .ok (.pointer none) p.u := yl
  clear yl hg
  refine wp_region_below mixed (by kernel_rfl) ?_
  repeat (go_big_quiet_step (fail))
  refine wpQuiet_nil ?_
  intro _ hw'
  obtain ⟨p, hw''⟩ := hw'
  subst hw''
  have hA2 := below2 hA1 p.h
  have z0 := (p.h.cell (p := ⟨w.heap.size, 0, none⟩) (by show w.heap.size < w1.heap.size; omega)).trans x0
  have z1 := (p.h.cell (p := ⟨w.heap.size, 1, none⟩) (by show w.heap.size < w1.heap.size; omega)).trans x1
  have z2 := (p.h.cell (p := ⟨w.heap.size + 1, 0, none⟩) (by show w.heap.size + 1 < w1.heap.size; omega)).trans x2
  have z3 := (p.h.cell (p := ⟨w.heap.size + 1, 1, none⟩) (by show w.heap.size + 1 < w1.heap.size; omega)).trans x3
  have hw2l : w.heap.size + 1 < p.u.heap.size := Nat.lt_of_lt_of_le hw1l p.h.size
  have hAb : Calls Tryz.prog 58 #[.pointer (some ⟨t, 0, none⟩), .agg #[.int .i64 at_.1, .int .i64 at_.2]] p.u fun e w' => e = .returned (.pointer (some ⟨ga, 0, none⟩)) ∧ RowKit.Below p.u.heap.size p.u w' := by
    have := above_any t T G T.length R at_ p.u (hX.out.below hA2) hat
    rw [hga.out] at this
    exact this
  clear yl' y0 y1 yt x0 x1 x2 x3 this
  generalize p.u = w2 at *
  go_upto_region 8 with (first
    | (go_at_call 58; refine hAb.mono ?_; rintro e w3 ⟨rfl, hB3⟩))
  have hA3 := below2 hA2 hB3
  have v0 := (hB3.cell (p := ⟨w.heap.size, 0, none⟩) (by show w.heap.size < w2.heap.size; omega)).trans z0
  have v1 := (hB3.cell (p := ⟨w.heap.size, 1, none⟩) (by show w.heap.size < w2.heap.size; omega)).trans z1
  have hw3l : w.heap.size + 1 < w3.heap.size := Nat.lt_of_lt_of_le hw2l hB3.size
  have hc3 := (hA3.cell (p := ⟨t, 0, none⟩) htl).trans hc
  have hX3 := hid (hX.out.below hA3)
  clear z0 z1 z2 z3 hAb hX HLK hc
  have hfz3 : w3.frozen? ⟨t, 0, none⟩ = false := by
    obtain ⟨fm, h1, _⟩ := hX3.out.tb
    simp [World.frozen?, h1]
  obtain ⟨mb, rfl, htm, hPM3, hb3⟩ : ∃ mb, om = some mb ∧ t < mb ∧ PMc w3 mb T.length G ∧ w3.heap[t]? = some (.cells (txCells (.map (some mb)) (R (0, 0) false) (R (0, 0) true)) 126 (0, 0)) := by
    obtain ⟨fm, h1, h2⟩ := hX3.out.tb
    have hfm : fm = .map om := by
      have := hc3
      simp [World.cell?, h1, txCells] at this
      exact this
    rcases h2 with ⟨e, _⟩ | ⟨mb, e, k1, k2⟩
    · rw [e] at hca
      simp at hca
    · rw [hfm] at e
      simp at e
      exact ⟨mb, e, k1, k2, by rw [h1, hfm, e]⟩
  have hX4 := hX3
  have hPM4 := hid hPM3
  have hb4 := hid hb3
  have u0 := v0
  have u1 := v1
  have HF4 : Hid (FrW t w w3) := hid (FrW.of_below hA3)
  have hw4l := hw3l
  clear hX3 hPM3 hb3 v0 v1 hw3l hA3 hA2 hA1 hB3
  have hmn := map_some mb
  generalize w3 = w4 at *
  go_upto_region 11 with fail
  have hA5 : RowKit.Below w4.heap.size w4 (w4.alloc (.cells #[.int .i64 id.1, .int .i64 id.2, .int .i64 ch, .bool true, .slice none 0 0, .slice none 0 0] 124)) := ((Far.refl w4).alloc _).below
  have hgc5 : (w4.alloc (.cells #[.int .i64 id.1, .int .i64 id.2, .int .i64 ch, .bool true, .slice none 0 0, .slice none 0 0] 124)).heap[w4.heap.size]? = some (.cells ((⟨id, at_, true, ch, true⟩ : Cr).cells (.slice none 0 0) (.slice none 0 0)) 124 (0, 0)) := (MapKept.heap_alloc w4 _).1
  generalize w4.alloc (.cells #[.int .i64 id.1, .int .i64 id.2, .int .i64 ch, .bool true, .slice none 0 0, .slice none 0 0] 124) = w5 at *
  obtain ⟨gc, hgce⟩ : ∃ gc, w4.heap.size = gc := ⟨_, rfl⟩
  have htgc : t < gc := by have := hX4.out.lt; omega
  have hmb5 : mb < w5.heap.size := Nat.lt_of_lt_of_le hPM4.out.lt hA5.size
  rw [hgce] at hgc5 ⊢
  have hX5 := hid (hX4.out.below hA5)
  have hPM5 : PMc w5 mb T.length G := hPM4.out.same (hA5.block _ hPM4.out.lt)
  have hb5 := (hA5.block t hX4.out.lt).trans hb4.out
  have s0 := (hA5.cell (p := ⟨w.heap.size, 0, none⟩) (by show w.heap.size < w4.heap.size; omega)).trans u0
  have s1 := (hA5.cell (p := ⟨w.heap.size, 1, none⟩) (by show w.heap.size < w4.heap.size; omega)).trans u1
  have s2 : w5.cell? ⟨t, 0, none⟩ = some (.map (some mb)) := by simp [World.cell?, hb5, txCells]
  obtain ⟨w6, hrun, hPM6, hg6⟩ := (hPM5.same (w' := w5.drew) rfl).put hid0 gc (by unfold maxLen; omega)
  have hrun' : (Instr.mapUpdate 120 (.map (some mb)) (.agg #[.int .i64 id.1, .int .i64 id.2]) (.pointer (some ⟨gc, 0, none⟩))).run Tryz.prog w5.drew = .ok () w6 := hrun
  clear hrun
  go_region
  have hg56 := (grownBy_drew1 w5 (some mb)).trans hg6
  obtain ⟨hT6, ht6⟩ := hX5.out.told hb5 htm hPM5 hg56 hPM6
  have hgcm : gc ≠ mb := by have := hPM4.out.lt; omega
  have hgc6 := (hg56.block gc (Array.getElem?_eq_some_iff.1 hgc5).1 (fun e => hgcm (by simpa using e))).trans hgc5
  obtain ⟨gs, hgs, hown⟩ := hT6.rows at_ true hnd
  obtain ⟨ra, rc, hRv, hpp⟩ := own_ppc hown
  have hcr := hT6.cr hgs
  obtain ⟨ga', hga', _, hblk6⟩ := hT6.ch ca hca
  obtain rfl : ga = ga' := by rw [hcae, hga0] at hga'; simpa using hga'
  rw [hcae] at hblk6
  have hcb : w6.drew.cell? ⟨ga, 5, none⟩ = some (.slice ra (kids T at_ true).length rc) := by
    rw [← hRv]
    show w6.cell? ⟨ga, 5, none⟩ = _
    simp [World.cell?, hblk6, Cr.cells]
  have hneb : (R at_ true).ownBlock ≠ some ga := fun e => by
    obtain ⟨cur, hc⟩ := own_block hown e
    rw [hblk6] at hc
    simp at hc
  have hidc : IdAt w6.drew gc id := ⟨by show w6.cell? _ = _; simp [World.cell?, hgc6, Cr.cells], by show w6.cell? _ = _; simp [World.cell?, hgc6, Cr.cells]⟩
  have hkl := kids_len T at_ true
  have hsz6 : t ≤ w6.drew.heap.size := Nat.le_of_lt hT6.lt
  have hAm := among_any t (R at_ true) (kids T at_ true).length gs (kids T at_ true) gc id w6.drew hown (hcr.below ((Far.refl w6).drew).below) hidc (by omega) hsz6 (kids_up T at_ true)
  rw [hRv] at hAm hneb
  have hfin : ∀ (w7 : World) (q cq : Nat), w7.ownsRow t 128 1 (.slice (some ⟨q, 0, none⟩) ((kids T at_ true).length + 1) cq) ((kids T at_ true).length + 1) (prowc (gs.take (aheadOf (kids T at_ true) id) ++ [gc] ++ gs.drop (aheadOf (kids T at_ true) id))) → w6.drew.grownBy w7 (Value.slice ra (kids T at_ true).length rc).ownBlock → ((Value.slice ra (kids T at_ true).length rc).ownBlock = some q ∨ w6.drew.heap.size ≤ q) →
      ∃ G' R', TX (w7.setCell ⟨ga, 5, none⟩ (.slice (some ⟨q, 0, none⟩) ((kids T at_ true).length + 1) cq)) t (T ++ [⟨id, at_, true, ch, true⟩]) G' G' (T.length + 1) R' ∧ FrW t w (w7.setCell ⟨ga, 5, none⟩ (.slice (some ⟨q, 0, none⟩) ((kids T at_ true).length + 1) cq)) := fun w7 q cq ho7 hg7 hq7 => by
    rw [← hRv] at hg7 hq7
    have hg67 := (grownBy_drew1 w6 (R at_ true).ownBlock).trans hg7
    have hf := TX.more (c := ⟨id, at_, true, ch, true⟩) hT6 hnz hid0 hfr hnd (fun e => absurd e h0) ⟨_, mb, ht6.trans hb5, rfl, htm, hPM6⟩ hgc6 htgc hgs hg67 ho7 rfl hq7
    have hsp : spotOf t G (Cr.at_ ⟨id, at_, true, ch, true⟩) = (ga, 4) := hspot.out
    rw [hsp] at hf
    refine ⟨_, _, hf, ?_⟩
    have f1 : FrW t w4 w5 := FrW.of_below hA5
    have f2 : FrW t w5 w6 := FrW.of_grown hg56 (fun k hk => by
      cases hk
      refine ⟨Nat.le_of_lt htm, fun cs ty hc => ?_⟩
      obtain ⟨D, ⟨es, clock, h1, _⟩, _⟩ := hPM5
      rw [h1] at hc
      cases hc)
    have f3 : FrW t w6 w7 := FrW.of_grown hg67 (fun k hk => by
      refine ⟨(World.ownsRow.lt hown k hk).1, fun cs ty hc => ?_⟩
      obtain ⟨cur, hc'⟩ := own_block hown hk
      rw [hc'] at hc
      simp at hc
      exact Or.inr (Or.inr hc.2.symm))
    have hb7 : w7.heap[ga]? = w6.heap[ga]? := hg67.block ga (Array.getElem?_eq_some_iff.1 hblk6).1 (fun e => by
      obtain ⟨cur, hc⟩ := own_block hown e.symm
      rw [hblk6] at hc
      simp at hc)
    have f4 : FrW t w7 (w7.setCell ⟨ga, 5, none⟩ (.slice (some ⟨q, 0, none⟩) ((kids T at_ true).length + 1) cq)) := FrW.of_grown (fgrown_set _ _ _ _) (fun k hk => by
      cases hk
      refine ⟨Nat.le_of_lt htga, fun cs ty hc => ?_⟩
      rw [hb7, hblk6] at hc
      simp at hc
      exact Or.inl hc.2.symm)
    exact (((HF4.out.trans f1).trans f2).trans f3).trans f4
  have HFIN := hid hfin
  have hS7 : ∀ w7, w6.drew.grownBy w7 (Value.slice ra (kids T at_ true).length rc).ownBlock → w7.cell? ⟨ga, 5, none⟩ = some (.slice ra (kids T at_ true).length rc) ∧ w7.frozen? ⟨ga, 5, none⟩ = false := fun w7 hg7 => by
    have hb7 : w7.heap[ga]? = w6.heap[ga]? := hg7.block ga (Array.getElem?_eq_some_iff.1 hblk6).1 (fun e => hneb e.symm)
    refine ⟨?_, by simp [World.frozen?, hb7, hblk6]⟩
    rw [← hcb]
    exact World.cell?_of_block hb7
  clear hfin hgs hown hpp hcr hidc hgc6 hgc5 hT6 ht6 hb5 hPM5 hX5 hPM6 hg6 hg56 hRv hblk6 s0 s1 s2 hrun' hA5 hkl
  generalize (kids T at_ true).length = rn at *
  generalize prowc (gs.take (aheadOf (kids T at_ true) id) ++ [gc] ++ gs.drop (aheadOf (kids T at_ true) id)) = xr at *
  go_upto_region 12 with fail
  go_region_with (first
    | (go_at_call 59; refine hAm.mono ?_; rintro e w7 ⟨q, cq, rfl, ho7, hg7, hq7⟩; obtain ⟨ck7, fz7⟩ := hS7 w7 hg7))
  all_goals
    (go_wp2
     go_ret
     obtain ⟨G', R', r1, r2⟩ := HFIN.out w7 q cq ho7 hg7 hq7
     exact ⟨rfl, G', R', r1, r2⟩)

set_option maxRecDepth 100000 in
set_option maxHeartbeats 4000000 in
theorem ins_root (t : Nat) (T : List Cr) (G : Dt → Option Nat) (R : Dt → Bool → Value) (id at_ : Dt) (ch : Int) (w : World) (h : TX w t T G G T.length R) (hid0 : Dw id) (hat : Dw at_) (hm : mayI id at_ 1 = true) (hf : ¬ ∃ c ∈ T, c.id = id) (hn : T.length ≤ 100000) (h0 : at_ = (0, 0)) :
    Calls Tryz.prog 26 #[.pointer (some ⟨t, 0, none⟩), dv id, dv at_, .int .i64 1, .int .i64 ch] w fun e w' => e = .returned (.int .i64 0) ∧ ∃ G' R', TX w' t (T ++ [⟨id, at_, true, ch, true⟩]) G' G' (T.length + 1) R' ∧ FrW t w w' := by
  have mixed := mixed
  obtain ⟨k0, k1, k2, k3, hA⟩ := two_dots w id at_
  obtain ⟨W, hW⟩ : ∃ W, W = (w.alloc (.cells #[.int .i64 id.1, .int .i64 id.2] 24)).alloc (.cells #[.int .i64 at_.1, .int .i64 at_.2] 24) := ⟨_, rfl⟩
  rw [← hW] at k0 k1 k2 k3 hA
  have hWl : w.heap.size + 1 < W.heap.size := by rw [hW]; simp
  have hnz : id ≠ (0, 0) := by
    intro e
    rw [e] at hm
    simp [mayI] at hm
  have hfr : ∀ x ∈ T, x.id ≠ id := fun x hx e => hf ⟨x, hx, e⟩
  have hg : G id = none := by
    cases e : G id with
    | none => rfl
    | some g => exact absurd ((h.gd id hid0).1 (by rw [e]; rfl)) hf
  have hnd : nodes T at_ := Or.inl h0
  have hga : Hid (aboveV t G at_ = .pointer (some ⟨t, 1, none⟩)) := hid (by unfold aboveV; rw [if_pos h0])
  have hspot : Hid (spotOf t G at_ = (t, 5)) := hid (by unfold spotOf; rw [if_pos h0])
  have H0 := hid h0
  clear h0
  have hM := fgmay_any id at_ 1 W
  rw [hm] at hM
  have hX := hid h
  obtain ⟨fm, hc, ⟨om, rfl⟩, hlk⟩ := h.found
  have htl := h.lt
  have HLK := hid hlk
  clear h hlk
  go_enter Tryz.func26, Tryz.ntmps26
  go_upto_region 1 with fail
  rw [← hW]
  clear hW
  go_upto_region 3 with (first
    | (go_at_call 57; refine hM.mono ?_; rintro e w1 ⟨rfl, hF1⟩))
  have hA1 := below2 hA hF1.below
  have x0 := (hF1.below.cell (p := ⟨w.heap.size, 0, none⟩) (by show w.heap.size < W.heap.size; omega)).trans k0
  have x1 := (hF1.below.cell (p := ⟨w.heap.size, 1, none⟩) (by show w.heap.size < W.heap.size; omega)).trans k1
  have x2 := (hF1.below.cell (p := ⟨w.heap.size + 1, 0, none⟩) (by show w.heap.size + 1 < W.heap.size; omega)).trans k2
  have x3 := (hF1.below.cell (p := ⟨w.heap.size + 1, 1, none⟩) (by show w.heap.size + 1 < W.heap.size; omega)).trans k3
  have hw1l : w.heap.size + 1 < w1.heap.size := Nat.lt_of_lt_of_le hWl hF1.below.size
  clear k0 k1 k2 k3 hM hWl hA hF1
  haveI : Nonempty (Wb w1) := ⟨⟨w1, Below.refl _ _⟩⟩
  have y0 := fun p : Wb w1 => (p.h.cell (p := ⟨w.heap.size, 0, none⟩) (by show w.heap.size < w1.heap.size; omega)).trans x0
  have y1 := fun p : Wb w1 => (p.h.cell (p := ⟨w.heap.size, 1, none⟩) (by show w.heap.size < w1.heap.size; omega)).trans x1
  have yt := fun p : Wb w1 => ((below2 hA1 p.h).cell (p := ⟨t, 0, none⟩) htl).trans hc
  have yl := fun p : Wb w1 => HLK.out p.u (below2 hA1 p.h) id hid0
  rw [hg] at yl
  have yl' : ∀ p : Wb w1, (Instr.lookup 120 (.map om) (.agg #[.int .i64 id.1, .int .i64 id.2]) false).run Tryz.prog p.u = .ok (.pointer none) p.u := yl
  clear yl hg
  refine wp_region_below mixed (by kernel_rfl) ?_
  repeat (go_big_quiet_step (fail))
  refine wpQuiet_nil ?_
  intro _ hw'
  obtain ⟨p, hw''⟩ := hw'
  subst hw''
  have hA2 := below2 hA1 p.h
  have z0 := (p.h.cell (p := ⟨w.heap.size, 0, none⟩) (by show w.heap.size < w1.heap.size; omega)).trans x0
  have z1 := (p.h.cell (p := ⟨w.heap.size, 1, none⟩) (by show w.heap.size < w1.heap.size; omega)).trans x1
  have z2 := (p.h.cell (p := ⟨w.heap.size + 1, 0, none⟩) (by show w.heap.size + 1 < w1.heap.size; omega)).trans x2
  have z3 := (p.h.cell (p := ⟨w.heap.size + 1, 1, none⟩) (by show w.heap.size + 1 < w1.heap.size; omega)).trans x3
  have hw2l : w.heap.size + 1 < p.u.heap.size := Nat.lt_of_lt_of_le hw1l p.h.size
  have hAb : Calls Tryz.prog 58 #[.pointer (some ⟨t, 0, none⟩), .agg #[.int .i64 at_.1, .int .i64 at_.2]] p.u fun e w' => e = .returned (.pointer (some ⟨t, 1, none⟩)) ∧ RowKit.Below p.u.heap.size p.u w' := by
    have := above_any t T G T.length R at_ p.u (hX.out.below hA2) hat
    rw [hga.out] at this
    exact this
  clear yl' y0 y1 yt x0 x1 x2 x3 this
  generalize p.u = w2 at *
  go_upto_region 8 with (first
    | (go_at_call 58; refine hAb.mono ?_; rintro e w3 ⟨rfl, hB3⟩))
  have hA3 := below2 hA2 hB3
  have v0 := (hB3.cell (p := ⟨w.heap.size, 0, none⟩) (by show w.heap.size < w2.heap.size; omega)).trans z0
  have v1 := (hB3.cell (p := ⟨w.heap.size, 1, none⟩) (by show w.heap.size < w2.heap.size; omega)).trans z1
  have hw3l : w.heap.size + 1 < w3.heap.size := Nat.lt_of_lt_of_le hw2l hB3.size
  have hc3 := (hA3.cell (p := ⟨t, 0, none⟩) htl).trans hc
  have hX3 := hid (hX.out.below hA3)
  clear z0 z1 z2 z3 hAb hX HLK hc
  have hfz3 : w3.frozen? ⟨t, 0, none⟩ = false := by
    obtain ⟨fm, h1, _⟩ := hX3.out.tb
    simp [World.frozen?, h1]
  cases om with
  | none =>
    have hT0 : T = [] := by
      obtain ⟨fm, h1, h2⟩ := hX3.out.tb
      rcases h2 with ⟨e, _⟩ | ⟨mb, e, _⟩
      · exact e
      · simp [World.cell?, h1, txCells, e] at hc3
    have hXn : TX w3 t [] G G 0 R := by
      have := hX3.out
      rw [hT0] at this
      exact this
    obtain ⟨m1, m2, m3, m4⟩ := hXn.mapped
    have hX4 : Hid (TX ((w3.alloc (.map #[] 0)).setCell ⟨t, 0, none⟩ (.map (some w3.heap.size))) t T G G T.length R) := hid (by rw [hT0]; exact m1)
    have hPM4 : Hid (PMc ((w3.alloc (.map #[] 0)).setCell ⟨t, 0, none⟩ (.map (some w3.heap.size))) w3.heap.size T.length G) := hid (by rw [hT0]; exact m4)
    have hb4 := hid m3
    have htm : t < w3.heap.size := hXn.lt
    have HF4 := hid ((FrW.of_below hA3 : FrW t w w3).trans m2)
    have hAA : RowKit.Below w3.heap.size w3 (w3.alloc (.map #[] 0)) := ((Far.refl w3).alloc _).below
    have u0 : ((w3.alloc (.map #[] 0)).setCell ⟨t, 0, none⟩ (.map (some w3.heap.size))).cell? ⟨w.heap.size, 0, none⟩ = some (.int .i64 id.1) := (World.cell?_of_block (fset_other (by show w.heap.size ≠ t; omega) _)).trans ((hAA.cell (p := ⟨w.heap.size, 0, none⟩) (by show w.heap.size < w3.heap.size; omega)).trans v0)
    have u1 : ((w3.alloc (.map #[] 0)).setCell ⟨t, 0, none⟩ (.map (some w3.heap.size))).cell? ⟨w.heap.size, 1, none⟩ = some (.int .i64 id.2) := (World.cell?_of_block (fset_other (by show w.heap.size ≠ t; omega) _)).trans ((hAA.cell (p := ⟨w.heap.size, 1, none⟩) (by show w.heap.size < w3.heap.size; omega)).trans v1)
    have hw4l : w.heap.size + 1 < ((w3.alloc (.map #[] 0)).setCell ⟨t, 0, none⟩ (.map (some w3.heap.size))).heap.size := by
      have e : ((w3.alloc (.map #[] 0)).setCell ⟨t, 0, none⟩ (.map (some w3.heap.size))).heap.size = w3.heap.size + 1 := by simp [World.setCell]
      omega
    have hmn := map_none
    have hmk := @run_makeMap Tryz.prog
    clear m1 m2 m3 m4 hXn hX3 v0 v1 hA3 hA2 hA1 hB3 hAA hT0
    go_upto_region 10 with fail
    have hcm : (w3.alloc (.map #[] 0)).setCell ⟨t, 0, none⟩ (.map (some w3.heap.size)) = (w3.setCell ⟨t, 0, none⟩ (.map (some w3.heap.size))).alloc (.map #[] 0) := by go_simp
    rw [← hcm]
    clear hcm
    generalize (w3.alloc (.map #[] 0)).setCell ⟨t, 0, none⟩ (.map (some w3.heap.size)) = w4 at *
    clear hc3 hfz3 hmk hmn hw3l hw2l hw1l
    generalize w3.heap.size = mb at *
    go_upto_region 11 with fail
    have hA5 : RowKit.Below w4.heap.size w4 (w4.alloc (.cells #[.int .i64 id.1, .int .i64 id.2, .int .i64 ch, .bool true, .slice none 0 0, .slice none 0 0] 124)) := ((Far.refl w4).alloc _).below
    have hgc5 : (w4.alloc (.cells #[.int .i64 id.1, .int .i64 id.2, .int .i64 ch, .bool true, .slice none 0 0, .slice none 0 0] 124)).heap[w4.heap.size]? = some (.cells ((⟨id, at_, true, ch, true⟩ : Cr).cells (.slice none 0 0) (.slice none 0 0)) 124 (0, 0)) := (MapKept.heap_alloc w4 _).1
    generalize w4.alloc (.cells #[.int .i64 id.1, .int .i64 id.2, .int .i64 ch, .bool true, .slice none 0 0, .slice none 0 0] 124) = w5 at *
    obtain ⟨gc, hgce⟩ : ∃ gc, w4.heap.size = gc := ⟨_, rfl⟩
    have htgc : t < gc := by have := hX4.out.lt; omega
    have hmb5 : mb < w5.heap.size := Nat.lt_of_lt_of_le hPM4.out.lt hA5.size
    rw [hgce] at hgc5 ⊢
    have hX5 := hid (hX4.out.below hA5)
    have hPM5 : PMc w5 mb T.length G := hPM4.out.same (hA5.block _ hPM4.out.lt)
    have hb5 := (hA5.block t hX4.out.lt).trans hb4.out
    have s0 := (hA5.cell (p := ⟨w.heap.size, 0, none⟩) (by show w.heap.size < w4.heap.size; omega)).trans u0
    have s1 := (hA5.cell (p := ⟨w.heap.size, 1, none⟩) (by show w.heap.size < w4.heap.size; omega)).trans u1
    have s2 : w5.cell? ⟨t, 0, none⟩ = some (.map (some mb)) := by simp [World.cell?, hb5, txCells]
    obtain ⟨w6, hrun, hPM6, hg6⟩ := (hPM5.same (w' := w5.drew) rfl).put hid0 gc (by unfold maxLen; omega)
    have hrun' : (Instr.mapUpdate 120 (.map (some mb)) (.agg #[.int .i64 id.1, .int .i64 id.2]) (.pointer (some ⟨gc, 0, none⟩))).run Tryz.prog w5.drew = .ok () w6 := hrun
    clear hrun
    go_region
    have hg56 := (grownBy_drew1 w5 (some mb)).trans hg6
    obtain ⟨hT6, ht6⟩ := hX5.out.told hb5 htm hPM5 hg56 hPM6
    have hgcm : gc ≠ mb := by have := hPM4.out.lt; omega
    have hgc6 := (hg56.block gc (Array.getElem?_eq_some_iff.1 hgc5).1 (fun e => hgcm (by simpa using e))).trans hgc5
    obtain ⟨gs, hgs, hown⟩ := hT6.rows at_ true hnd
    obtain ⟨ra, rc, hRv, hpp⟩ := own_ppc hown
    have hcr := hT6.cr hgs
    obtain ⟨fm6, hblk6, _⟩ := hT6.tb
    rw [← H0.out] at hblk6
    have hcb : w6.drew.cell? ⟨t, 6, none⟩ = some (.slice ra (kids T at_ true).length rc) := by
      rw [← hRv]
      show w6.cell? ⟨t, 6, none⟩ = _
      simp [World.cell?, hblk6, txCells]
    have hneb : (R at_ true).ownBlock ≠ some t := fun e => by
      obtain ⟨cur, hc⟩ := own_block hown e
      rw [hblk6] at hc
      simp at hc
    have hidc : IdAt w6.drew gc id := ⟨by show w6.cell? _ = _; simp [World.cell?, hgc6, Cr.cells], by show w6.cell? _ = _; simp [World.cell?, hgc6, Cr.cells]⟩
    have hkl := kids_len T at_ true
    have hsz6 : t ≤ w6.drew.heap.size := Nat.le_of_lt hT6.lt
    have hAm := among_any t (R at_ true) (kids T at_ true).length gs (kids T at_ true) gc id w6.drew hown (hcr.below ((Far.refl w6).drew).below) hidc (by omega) hsz6 (kids_up T at_ true)
    rw [hRv] at hAm hneb
    have hfin : ∀ (w7 : World) (q cq : Nat), w7.ownsRow t 128 1 (.slice (some ⟨q, 0, none⟩) ((kids T at_ true).length + 1) cq) ((kids T at_ true).length + 1) (prowc (gs.take (aheadOf (kids T at_ true) id) ++ [gc] ++ gs.drop (aheadOf (kids T at_ true) id))) → w6.drew.grownBy w7 (Value.slice ra (kids T at_ true).length rc).ownBlock → ((Value.slice ra (kids T at_ true).length rc).ownBlock = some q ∨ w6.drew.heap.size ≤ q) →
        ∃ G' R', TX (w7.setCell ⟨t, 6, none⟩ (.slice (some ⟨q, 0, none⟩) ((kids T at_ true).length + 1) cq)) t (T ++ [⟨id, at_, true, ch, true⟩]) G' G' (T.length + 1) R' ∧ FrW t w (w7.setCell ⟨t, 6, none⟩ (.slice (some ⟨q, 0, none⟩) ((kids T at_ true).length + 1) cq)) := fun w7 q cq ho7 hg7 hq7 => by
      rw [← hRv] at hg7 hq7
      have hg67 := (grownBy_drew1 w6 (R at_ true).ownBlock).trans hg7
      have hf := TX.more (c := ⟨id, at_, true, ch, true⟩) hT6 hnz hid0 hfr hnd (fun _ => rfl) ⟨_, mb, ht6.trans hb5, rfl, htm, hPM6⟩ hgc6 htgc hgs hg67 ho7 rfl hq7
      have hsp : spotOf t G (Cr.at_ ⟨id, at_, true, ch, true⟩) = (t, 5) := hspot.out
      rw [hsp] at hf
      refine ⟨_, _, hf, ?_⟩
      have f1 : FrW t w4 w5 := FrW.of_below hA5
      have f2 : FrW t w5 w6 := FrW.of_grown hg56 (fun k hk => by
        cases hk
        refine ⟨Nat.le_of_lt htm, fun cs ty hc => ?_⟩
        obtain ⟨D, ⟨es, clock, h1, _⟩, _⟩ := hPM5
        rw [h1] at hc
        cases hc)
      have f3 : FrW t w6 w7 := FrW.of_grown hg67 (fun k hk => by
        refine ⟨(World.ownsRow.lt hown k hk).1, fun cs ty hc => ?_⟩
        obtain ⟨cur, hc'⟩ := own_block hown hk
        rw [hc'] at hc
        simp at hc
        exact Or.inr (Or.inr hc.2.symm))
      have hb7 : w7.heap[t]? = w6.heap[t]? := hg67.block t (Array.getElem?_eq_some_iff.1 hblk6).1 (fun e => by
        obtain ⟨cur, hc⟩ := own_block hown e.symm
        rw [hblk6] at hc
        simp at hc)
      have f4 : FrW t w7 (w7.setCell ⟨t, 6, none⟩ (.slice (some ⟨q, 0, none⟩) ((kids T at_ true).length + 1) cq)) := FrW.of_grown (fgrown_set _ _ _ _) (fun k hk => by
        cases hk
        refine ⟨Nat.le_refl _, fun cs ty hc => ?_⟩
        rw [hb7, hblk6] at hc
        simp at hc
        exact Or.inr (Or.inl hc.2.symm))
      exact (((HF4.out.trans f1).trans f2).trans f3).trans f4
    have HFIN := hid hfin
    have hS7 : ∀ w7, w6.drew.grownBy w7 (Value.slice ra (kids T at_ true).length rc).ownBlock → w7.cell? ⟨t, 6, none⟩ = some (.slice ra (kids T at_ true).length rc) ∧ w7.frozen? ⟨t, 6, none⟩ = false := fun w7 hg7 => by
      have hb7 : w7.heap[t]? = w6.heap[t]? := hg7.block t (Array.getElem?_eq_some_iff.1 hblk6).1 (fun e => hneb e.symm)
      refine ⟨?_, by simp [World.frozen?, hb7, hblk6]⟩
      rw [← hcb]
      exact World.cell?_of_block hb7
    clear hfin hgs hown hpp hcr hidc hgc6 hgc5 hT6 ht6 hb5 hPM5 hX5 hPM6 hg6 hg56 hRv hblk6 s0 s1 s2 hrun' hA5 hkl
    generalize (kids T at_ true).length = rn at *
    generalize prowc (gs.take (aheadOf (kids T at_ true) id) ++ [gc] ++ gs.drop (aheadOf (kids T at_ true) id)) = xr at *
    go_upto_region 12 with fail
    go_region_with (first
      | (go_at_call 59; refine hAm.mono ?_; rintro e w7 ⟨q, cq, rfl, ho7, hg7, hq7⟩; obtain ⟨ck7, fz7⟩ := hS7 w7 hg7))
    all_goals
      (go_wp2
       go_ret
       obtain ⟨G', R', r1, r2⟩ := HFIN.out w7 q cq ho7 hg7 hq7
       exact ⟨rfl, G', R', r1, r2⟩)
  | some mb =>
    obtain ⟨htm, hPM3, hb3⟩ : t < mb ∧ PMc w3 mb T.length G ∧ w3.heap[t]? = some (.cells (txCells (.map (some mb)) (R (0, 0) false) (R (0, 0) true)) 126 (0, 0)) := by
      obtain ⟨fm, h1, h2⟩ := hX3.out.tb
      have hfm : fm = .map (some mb) := by
        have := hc3
        simp [World.cell?, h1, txCells] at this
        exact this
      rcases h2 with ⟨_, e⟩ | ⟨mb', e, k1, k2⟩
      · rw [hfm] at e
        cases e
      · rw [hfm] at e
        simp at e
        subst e
        exact ⟨k1, k2, by rw [h1, hfm]⟩
    have hX4 := hX3
    have hPM4 := hid hPM3
    have hb4 := hid hb3
    have u0 := v0
    have u1 := v1
    have HF4 : Hid (FrW t w w3) := hid (FrW.of_below hA3)
    have hw4l := hw3l
    clear hX3 hPM3 hb3 v0 v1 hw3l hA3 hA2 hA1 hB3
    have hmn := map_some mb
    generalize w3 = w4 at *
    go_upto_region 11 with fail
    have hA5 : RowKit.Below w4.heap.size w4 (w4.alloc (.cells #[.int .i64 id.1, .int .i64 id.2, .int .i64 ch, .bool true, .slice none 0 0, .slice none 0 0] 124)) := ((Far.refl w4).alloc _).below
    have hgc5 : (w4.alloc (.cells #[.int .i64 id.1, .int .i64 id.2, .int .i64 ch, .bool true, .slice none 0 0, .slice none 0 0] 124)).heap[w4.heap.size]? = some (.cells ((⟨id, at_, true, ch, true⟩ : Cr).cells (.slice none 0 0) (.slice none 0 0)) 124 (0, 0)) := (MapKept.heap_alloc w4 _).1
    generalize w4.alloc (.cells #[.int .i64 id.1, .int .i64 id.2, .int .i64 ch, .bool true, .slice none 0 0, .slice none 0 0] 124) = w5 at *
    obtain ⟨gc, hgce⟩ : ∃ gc, w4.heap.size = gc := ⟨_, rfl⟩
    have htgc : t < gc := by have := hX4.out.lt; omega
    have hmb5 : mb < w5.heap.size := Nat.lt_of_lt_of_le hPM4.out.lt hA5.size
    rw [hgce] at hgc5 ⊢
    have hX5 := hid (hX4.out.below hA5)
    have hPM5 : PMc w5 mb T.length G := hPM4.out.same (hA5.block _ hPM4.out.lt)
    have hb5 := (hA5.block t hX4.out.lt).trans hb4.out
    have s0 := (hA5.cell (p := ⟨w.heap.size, 0, none⟩) (by show w.heap.size < w4.heap.size; omega)).trans u0
    have s1 := (hA5.cell (p := ⟨w.heap.size, 1, none⟩) (by show w.heap.size < w4.heap.size; omega)).trans u1
    have s2 : w5.cell? ⟨t, 0, none⟩ = some (.map (some mb)) := by simp [World.cell?, hb5, txCells]
    obtain ⟨w6, hrun, hPM6, hg6⟩ := (hPM5.same (w' := w5.drew) rfl).put hid0 gc (by unfold maxLen; omega)
    have hrun' : (Instr.mapUpdate 120 (.map (some mb)) (.agg #[.int .i64 id.1, .int .i64 id.2]) (.pointer (some ⟨gc, 0, none⟩))).run Tryz.prog w5.drew = .ok () w6 := hrun
    clear hrun
    go_region
    have hg56 := (grownBy_drew1 w5 (some mb)).trans hg6
    obtain ⟨hT6, ht6⟩ := hX5.out.told hb5 htm hPM5 hg56 hPM6
    have hgcm : gc ≠ mb := by have := hPM4.out.lt; omega
    have hgc6 := (hg56.block gc (Array.getElem?_eq_some_iff.1 hgc5).1 (fun e => hgcm (by simpa using e))).trans hgc5
    obtain ⟨gs, hgs, hown⟩ := hT6.rows at_ true hnd
    obtain ⟨ra, rc, hRv, hpp⟩ := own_ppc hown
    have hcr := hT6.cr hgs
    obtain ⟨fm6, hblk6, _⟩ := hT6.tb
    rw [← H0.out] at hblk6
    have hcb : w6.drew.cell? ⟨t, 6, none⟩ = some (.slice ra (kids T at_ true).length rc) := by
      rw [← hRv]
      show w6.cell? ⟨t, 6, none⟩ = _
      simp [World.cell?, hblk6, txCells]
    have hneb : (R at_ true).ownBlock ≠ some t := fun e => by
      obtain ⟨cur, hc⟩ := own_block hown e
      rw [hblk6] at hc
      simp at hc
    have hidc : IdAt w6.drew gc id := ⟨by show w6.cell? _ = _; simp [World.cell?, hgc6, Cr.cells], by show w6.cell? _ = _; simp [World.cell?, hgc6, Cr.cells]⟩
    have hkl := kids_len T at_ true
    have hsz6 : t ≤ w6.drew.heap.size := Nat.le_of_lt hT6.lt
    have hAm := among_any t (R at_ true) (kids T at_ true).length gs (kids T at_ true) gc id w6.drew hown (hcr.below ((Far.refl w6).drew).below) hidc (by omega) hsz6 (kids_up T at_ true)
    rw [hRv] at hAm hneb
    have hfin : ∀ (w7 : World) (q cq : Nat), w7.ownsRow t 128 1 (.slice (some ⟨q, 0, none⟩) ((kids T at_ true).length + 1) cq) ((kids T at_ true).length + 1) (prowc (gs.take (aheadOf (kids T at_ true) id) ++ [gc] ++ gs.drop (aheadOf (kids T at_ true) id))) → w6.drew.grownBy w7 (Value.slice ra (kids T at_ true).length rc).ownBlock → ((Value.slice ra (kids T at_ true).length rc).ownBlock = some q ∨ w6.drew.heap.size ≤ q) →
        ∃ G' R', TX (w7.setCell ⟨t, 6, none⟩ (.slice (some ⟨q, 0, none⟩) ((kids T at_ true).length + 1) cq)) t (T ++ [⟨id, at_, true, ch, true⟩]) G' G' (T.length + 1) R' ∧ FrW t w (w7.setCell ⟨t, 6, none⟩ (.slice (some ⟨q, 0, none⟩) ((kids T at_ true).length + 1) cq)) := fun w7 q cq ho7 hg7 hq7 => by
      rw [← hRv] at hg7 hq7
      have hg67 := (grownBy_drew1 w6 (R at_ true).ownBlock).trans hg7
      have hf := TX.more (c := ⟨id, at_, true, ch, true⟩) hT6 hnz hid0 hfr hnd (fun _ => rfl) ⟨_, mb, ht6.trans hb5, rfl, htm, hPM6⟩ hgc6 htgc hgs hg67 ho7 rfl hq7
      have hsp : spotOf t G (Cr.at_ ⟨id, at_, true, ch, true⟩) = (t, 5) := hspot.out
      rw [hsp] at hf
      refine ⟨_, _, hf, ?_⟩
      have f1 : FrW t w4 w5 := FrW.of_below hA5
      have f2 : FrW t w5 w6 := FrW.of_grown hg56 (fun k hk => by
        cases hk
        refine ⟨Nat.le_of_lt htm, fun cs ty hc => ?_⟩
        obtain ⟨D, ⟨es, clock, h1, _⟩, _⟩ := hPM5
        rw [h1] at hc
        cases hc)
      have f3 : FrW t w6 w7 := FrW.of_grown hg67 (fun k hk => by
        refine ⟨(World.ownsRow.lt hown k hk).1, fun cs ty hc => ?_⟩
        obtain ⟨cur, hc'⟩ := own_block hown hk
        rw [hc'] at hc
        simp at hc
        exact Or.inr (Or.inr hc.2.symm))
      have hb7 : w7.heap[t]? = w6.heap[t]? := hg67.block t (Array.getElem?_eq_some_iff.1 hblk6).1 (fun e => by
        obtain ⟨cur, hc⟩ := own_block hown e.symm
        rw [hblk6] at hc
        simp at hc)
      have f4 : FrW t w7 (w7.setCell ⟨t, 6, none⟩ (.slice (some ⟨q, 0, none⟩) ((kids T at_ true).length + 1) cq)) := FrW.of_grown (fgrown_set _ _ _ _) (fun k hk => by
        cases hk
        refine ⟨Nat.le_refl _, fun cs ty hc => ?_⟩
        rw [hb7, hblk6] at hc
        simp at hc
        exact Or.inr (Or.inl hc.2.symm))
      exact (((HF4.out.trans f1).trans f2).trans f3).trans f4
    have HFIN := hid hfin
    have hS7 : ∀ w7, w6.drew.grownBy w7 (Value.slice ra (kids T at_ true).length rc).ownBlock → w7.cell? ⟨t, 6, none⟩ = some (.slice ra (kids T at_ true).length rc) ∧ w7.frozen? ⟨t, 6, none⟩ = false := fun w7 hg7 => by
      have hb7 : w7.heap[t]? = w6.heap[t]? := hg7.block t (Array.getElem?_eq_some_iff.1 hblk6).1 (fun e => hneb e.symm)
      refine ⟨?_, by simp [World.frozen?, hb7, hblk6]⟩
      rw [← hcb]
      exact World.cell?_of_block hb7
    clear hfin hgs hown hpp hcr hidc hgc6 hgc5 hT6 ht6 hb5 hPM5 hX5 hPM6 hg6 hg56 hRv hblk6 s0 s1 s2 hrun' hA5 hkl
    generalize (kids T at_ true).length = rn at *
    generalize prowc (gs.take (aheadOf (kids T at_ true) id) ++ [gc] ++ gs.drop (aheadOf (kids T at_ true) id)) = xr at *
    go_upto_region 12 with fail
    go_region_with (first
      | (go_at_call 59; refine hAm.mono ?_; rintro e w7 ⟨q, cq, rfl, ho7, hg7, hq7⟩; obtain ⟨ck7, fz7⟩ := hS7 w7 hg7))
    all_goals
      (go_wp2
       go_ret
       obtain ⟨G', R', r1, r2⟩ := HFIN.out w7 q cq ho7 hg7 hq7
       exact ⟨rfl, G', R', r1, r2⟩)
end Go.Proofs.YtnmdcdphpcpojaaGreatDoor
