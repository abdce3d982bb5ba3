/- FugueOrders: its walk. -/
import Derived.Test.YtbpepmajpojacaaFgTurn
import Derived.Test.YtbpepmajpojacaaFgAwake
import Derived.Test.YtbpepmajpojacaaSBase
import Derived.Test.YtbpepmajpojacaaSStory
set_option linter.unusedVariables false
set_option linter.unusedSimpArgs false
namespace Go.Proofs.Ytbpepmajpojacaa
open Go.RowKit

theorem same_of {L : List Dt} {w : World} {a a' : Option Addr} {c c' : Nat} (h : PS w a L.length c L) (h' : PS w a' L.length c' L) (hn : L.length ≤ 100000) : Calls Try.prog 21 #[.slice a L.length c, .slice a' L.length c'] w fun e w' => e = .returned (.bool true) ∧ Below w.heap.size w w' :=
  (fsame_any h (by omega) h' (by omega)).mono (fun e w' ⟨he, hb⟩ => ⟨by rw [he, decide_eq_true (rfl : L = L)], hb⟩)

theorem fit_of {L : List Mo} {K : Nat → Kv} {w wr : World} {v : Value} (hH : SH w wr v L K) (hP : SP L K) (h60 : L.length ≤ 60) : ∀ x ∈ L, x.o.Fits ∧ Dws x.V ∧ x.n ≤ 1000000 := fun x hx => ⟨(hP.fit x hx).1, (chk_head (hP.st.cl.may _ (List.mem_map.2 ⟨x, hx, rfl⟩))).2.1.dws, by have := hP.deps hH hx; omega⟩

theorem fst_m (L : List Mo) : (L.map Mo.m).map Prod.fst = L.map (·.o) := by
  rw [List.map_map]
  rfl

/-- What both texts tell. -/
structure OC (w3 : World) (T1 T2 : List Cr) (LA LD : List Dt) (sb : ByteArray) : Prop where
  a1 : ∀ W t1 t2, TM W t1 T1 → TM W t2 T2 → Below w3.heap.size w3 W → Calls Try.prog 22 #[.pointer (some ⟨t1, 0, none⟩)] W fun e w' => ∃ a1 c1, e = .returned (.slice a1 LA.length c1) ∧ Hid (PS w' a1 LA.length c1 LA) ∧ Hid (TM w' t1 T1 ∧ TM w' t2 T2 ∧ Below W.heap.size W w' ∧ Below w3.heap.size w3 w')
  a2 : ∀ W t1 t2, TM W t1 T1 → TM W t2 T2 → Below w3.heap.size w3 W → Calls Try.prog 22 #[.pointer (some ⟨t2, 0, none⟩)] W fun e w' => ∃ a1 c1, e = .returned (.slice a1 LA.length c1) ∧ Hid (PS w' a1 LA.length c1 LA) ∧ Hid (TM w' t1 T1 ∧ TM w' t2 T2 ∧ Below W.heap.size W w' ∧ Below w3.heap.size w3 w')
  d1 : ∀ W t1 t2, TM W t1 T1 → TM W t2 T2 → Below w3.heap.size w3 W → Calls Try.prog 24 #[.pointer (some ⟨t1, 0, none⟩)] W fun e w' => ∃ a1 c1, e = .returned (.slice a1 LD.length c1) ∧ Hid (PS w' a1 LD.length c1 LD) ∧ Hid (TM w' t1 T1 ∧ TM w' t2 T2 ∧ Below W.heap.size W w' ∧ Below w3.heap.size w3 w')
  d2 : ∀ W t1 t2, TM W t1 T1 → TM W t2 T2 → Below w3.heap.size w3 W → Calls Try.prog 24 #[.pointer (some ⟨t2, 0, none⟩)] W fun e w' => ∃ a1 c1, e = .returned (.slice a1 LD.length c1) ∧ Hid (PS w' a1 LD.length c1 LD) ∧ Hid (TM w' t1 T1 ∧ TM w' t2 T2 ∧ Below W.heap.size W w' ∧ Below w3.heap.size w3 w')
  s1 : ∀ W t1 t2, TM W t1 T1 → TM W t2 T2 → Below w3.heap.size w3 W → Calls Try.prog 23 #[.pointer (some ⟨t1, 0, none⟩)] W fun e w' => e = .returned (.string sb) ∧ Hid (TM w' t1 T1 ∧ TM w' t2 T2 ∧ Below W.heap.size W w' ∧ Below w3.heap.size w3 w')
  s2 : ∀ W t1 t2, TM W t1 T1 → TM W t2 T2 → Below w3.heap.size w3 W → Calls Try.prog 23 #[.pointer (some ⟨t2, 0, none⟩)] W fun e w' => e = .returned (.string sb) ∧ Hid (TM w' t1 T1 ∧ TM w' t2 T2 ∧ Below W.heap.size W w' ∧ Below w3.heap.size w3 w')
  ma : ∀ (W : World) (a1 a2 : Option Addr) (c1 c2 t1 t2 : Nat), PS W a1 LA.length c1 LA → PS W a2 LA.length c2 LA → TM W t1 T1 → TM W t2 T2 → Below w3.heap.size w3 W → Calls Try.prog 21 #[.slice a1 LA.length c1, .slice a2 LA.length c2] W fun e w' => e = .returned (.bool true) ∧ Hid (TM w' t1 T1 ∧ TM w' t2 T2 ∧ Below W.heap.size W w' ∧ Below w3.heap.size w3 w')
  md : ∀ (W : World) (a1 a2 : Option Addr) (c1 c2 t1 t2 : Nat), PS W a1 LD.length c1 LD → PS W a2 LD.length c2 LD → TM W t1 T1 → TM W t2 T2 → Below w3.heap.size w3 W → Calls Try.prog 21 #[.slice a1 LD.length c1, .slice a2 LD.length c2] W fun e w' => e = .returned (.bool true) ∧ Hid (TM w' t1 T1 ∧ TM w' t2 T2 ∧ Below W.heap.size W w' ∧ Below w3.heap.size w3 w')

theorem oc_of (w3 : World) {T1 T2 : List Cr} (HTP : T1.Perm T2) (hTl : T1.length ≤ 60) : OC w3 T1 T2 (allT T1) ((seenC T1).map (·.id)) ⟨(strB (seenC T1)).toArray⟩ := by
  have hTl2 : T2.length ≤ 60 := by rw [← HTP.length_eq]; exact hTl
  have hLA2 : allT T2 = allT T1 := (allT_perm HTP).symm
  have hse : ∀ W t1 t2, TM W t1 T1 → TM W t2 T2 → seenC T2 = seenC T1 := fun W t1 t2 h1 h2 => (seenC_perm h1.wt h2.wt HTP).symm
  refine ⟨fun W t1 t2 h1 h2 hb => (all_tm h1 (by omega)).mono (fun e w' hg => ?_), fun W t1 t2 h1 h2 hb => (all_tm h2 (by omega)).mono (fun e w' hg => ?_), fun W t1 t2 h1 h2 hb => (dots_tm h1 (by omega)).mono (fun e w' hg => ?_), fun W t1 t2 h1 h2 hb => (dots_tm h2 (by omega)).mono (fun e w' hg => ?_), fun W t1 t2 h1 h2 hb => (string_tm h1 (by omega)).mono (fun e w' hg => ?_), fun W t1 t2 h1 h2 hb => (string_tm h2 (by omega)).mono (fun e w' hg => ?_), fun W a1 a2 c1 c2 t1 t2 p1 p2 h1 h2 hb => (same_of p1 p2 (by rw [allT_len h1.wt]; omega)).mono (fun e w' hg => ?_), fun W a1 a2 c1 c2 t1 t2 p1 p2 h1 h2 hb => (same_of p1 p2 ?_).mono (fun e w' hg => ?_)⟩
  · obtain ⟨a1, c1, he, hp, hb1⟩ := hg.ans
    exact ⟨a1, c1, he, hid hp, hid ⟨h1.below hb1, h2.below hb1, hb1, hb.trans (hb1.mono hb.size)⟩⟩
  · obtain ⟨a1, c1, he, hp, hb1⟩ := hg.ans
    rw [hLA2] at he hp
    exact ⟨a1, c1, he, hid hp, hid ⟨h1.below hb1, h2.below hb1, hb1, hb.trans (hb1.mono hb.size)⟩⟩
  · obtain ⟨a1, c1, he, hp, hb1⟩ := hg.ans
    exact ⟨a1, c1, he, hid hp, hid ⟨h1.below hb1, h2.below hb1, hb1, hb.trans (hb1.mono hb.size)⟩⟩
  · obtain ⟨a1, c1, he, hp, hb1⟩ := hg.ans
    rw [hse W t1 t2 h1 h2] at he hp
    exact ⟨a1, c1, he, hid hp, hid ⟨h1.below hb1, h2.below hb1, hb1, hb.trans (hb1.mono hb.size)⟩⟩
  · obtain ⟨he, hb1⟩ := hg
    exact ⟨he, hid ⟨h1.below hb1, h2.below hb1, hb1, hb.trans (hb1.mono hb.size)⟩⟩
  · obtain ⟨he, hb1⟩ := hg
    rw [hse W t1 t2 h1 h2] at he
    exact ⟨he, hid ⟨h1.below hb1, h2.below hb1, hb1, hb.trans (hb1.mono hb.size)⟩⟩
  · obtain ⟨he, hb1⟩ := hg
    exact ⟨he, hid ⟨h1.below hb1, h2.below hb1, hb1, hb.trans (hb1.mono hb.size)⟩⟩
  · rw [List.length_map]
    refine Nat.le_trans (List.length_filter_le _ _) ?_
    rw [allC_len h1.wt]
    omega
  · obtain ⟨he, hb1⟩ := hg
    exact ⟨he, hid ⟨h1.below hb1, h2.below hb1, hb1, hb.trans (hb1.mono hb.size)⟩⟩

/-- Both texts are made. -/
structure XC (w3 : World) (oa : Option Addr) (n oc : Nat) (ma : Option Addr) (m mc : Nat) (i0 i1 : Int) (T1 T2 : List Cr) : Prop where
  x1 : ∀ W, Below w3.heap.size w3 W → Calls Try.prog 20 #[.slice oa n oc, .agg #[.int .i64 i0, .int .i64 i1]] W fun e w' => ∃ t, e = .returned (.pointer (some ⟨t, 0, none⟩)) ∧ Hid (TM w' t T1) ∧ Hid (Below W.heap.size W w') ∧ Hid (Below w3.heap.size w3 w')
  x2 : ∀ W, Below w3.heap.size w3 W → Calls Try.prog 20 #[.slice ma m mc, .agg #[.int .i64 i0, .int .i64 i1]] W fun e w' => ∃ t, e = .returned (.pointer (some ⟨t, 0, none⟩)) ∧ Hid (TM w' t T2) ∧ Hid (Below W.heap.size W w') ∧ Hid (Below w3.heap.size w3 w')

set_option maxRecDepth 100000 in
set_option maxHeartbeats 16000000 in
theorem orders_walk (a : Option Addr) (n c : Nat) (l : List Md) (ta : Option Addr) (tn tc : Nat) (U : List Int) (w : World) (hs : MS w a n c l) (hm : ∀ m ∈ l, m.Fits) (hU : NumS w ta tn tc U) (hSt : StorySays) :
    Calls Try.prog 4 #[.slice a n c, .slice ta tn tc] w fun e w' => e = .returned (.bool true) ∧ Below w.heap.size w w' := by
  have mixed := mixed
  have haw := awake_any w
  have hS : Hid (∀ W, Below w.heap.size w W → Calls Try.prog 18 #[.slice a n c] W fun e w2 => ∃ (oa : Option Addr) (oc : Nat) (L : List Mo), e = .returned (.slice oa L.length oc) ∧ Hid (OS w2 oa L.length oc L) ∧ Hid (∀ x ∈ L, x.o.Fits ∧ Dws x.V ∧ x.n ≤ 1000000) ∧ Hid (St (L.map Mo.m)) ∧ L.length ≤ 60 ∧ Hid (Below w.heap.size w w2)) := hid (fun W hb => (hSt a n c l W (hs.below hb) hm).mono (fun e w2 ⟨v2, L, K, he, hH, hP, h60⟩ => by
    obtain ⟨oa, oc, rfl, hos⟩ := hH.os
    exact ⟨oa, oc, L, he, hid hos, hid (fit_of hH hP h60), hid hP.st, h60, hid (hb.trans (hH.bel.mono hb.size))⟩))
  have HU := hid hU
  clear hs hm hU hSt
  go_enter Try.func4, Try.ntmps4
  go_wp2_with (first
    | (have hq := HL; go_at_call 19; refine (turned_any oa L.length oc L ta tn tc U w2 HL.out HSt.out.cl HFit.out h60 (HU.out.below HB2.out)).mono ?_; rintro e w3 ⟨v3, M, rfl, hO3, hpm, hcl, hb3⟩; have HO3 := hid hO3; have HPM := hid hpm; have HCM := hid hcl; have HB3 := hid hb3; clear hO3 hpm hcl hb3)
    | (have hq := hb1; go_at_call 18; refine (hS.out _ hb1).mono ?_; rintro e w2 ⟨oa, oc, L, rfl, HL, HFit, HSt, h60, HB2⟩)
    | (go_at_call 8; refine haw.mono ?_; rintro e w1 ⟨rfl, hb1⟩))
  have hML : ∀ x ∈ M, x ∈ L := fun x hx => HPM.out.mem_iff.1 hx
  obtain ⟨ma, mc, hv3, hosM⟩ := owned_os HO3.out (fun x hx => (HL.out.deps x (hML x hx)).below HB3.out)
  subst hv3
  have HOM := hid hosM
  have HOL := hid (HL.out.below HB3.out)
  have HFM : Hid (∀ x ∈ M, x.o.Fits) := hid (fun x hx => (HFit.out x (hML x hx)).1)
  have HFL : Hid (∀ x ∈ L, x.o.Fits) := hid (fun x hx => (HFit.out x hx).1)
  have HWL : Hid (WO (L.map (·.o))) := hid (by rw [← fst_m]; exact wo_of HSt.out HSt.out.cl (List.Perm.refl _))
  have HWM : Hid (WO (M.map (·.o))) := hid (by rw [← fst_m]; exact wo_of HSt.out HCM.out (HPM.out.map _))
  have HMn : Hid (M.length = L.length) := hid HPM.out.length_eq
  have hcap := HL.out.cap
  have hmx := HL.out.max
  unfold maxLen at hmx
  have HBw : Hid (∀ W, Below w3.heap.size w3 W → Below w.heap.size w W) := hid (fun W hb => (HB2.out.trans (HB3.out.mono HB2.out.size)).trans (hb.mono (Nat.le_trans HB2.out.size HB3.out.size)))
  clear hosM hML haw hS HL HO3 HCM hb1
  go_loopw [8] (fun i wr => ∃ k : Nat, k ≤ L.length ∧ i = .int .i64 k ∧ Hid (Below w3.heap.size w3 wr)) (fun i _ => L.length - (intOf i).toNat)
  case atStart => exact ⟨0, by omega, rfl, hid (Below.refl _ _)⟩
  case round =>
    obtain ⟨k, hk, rfl, hbw⟩ := hrel
    by_cases hlt : k < L.length
    · obtain ⟨g, o, rfl, hg, hat⟩ := HOL.out.at (by omega)
      have hat := hat k hlt
      obtain ⟨x, hx⟩ : ∃ x, x = L[k]'hlt := ⟨_, rfl⟩
      rw [← hx] at hat
      have HS : Hid (∀ W, Below w3.heap.size w3 W → OpAtO W g (o + k * 14) x) := hid (fun W hb => hat.under hb)
      have HD : Hid (∀ q, Below w3.heap.size w3 (wr.drewN q)) := hid (fun q => hbw.out.trans (((Far.refl wr).drewN q).below.mono hbw.out.size))
      have E0 : ∀ q, (wr.drewN q).cell? ⟨g, o + k * 14, none⟩ = some (.int .i64 x.o.id0) := fun q => (HS.out _ (HD.out q)).c0
      have E1 : ∀ q, (wr.drewN q).cell? ⟨g, o + k * 14 + 1, none⟩ = some (.int .i64 x.o.id1) := fun q => (HS.out _ (HD.out q)).c1
      have E4 : ∀ q, (wr.drewN q).cell? ⟨g, o + k * 14 + 4, none⟩ = some (.int .i64 x.o.kind) := fun q => (HS.out _ (HD.out q)).c4
      have E5 : ∀ q, (wr.drewN q).cell? ⟨g, o + k * 14 + 5, none⟩ = some (.int .i64 x.o.bl0) := fun q => (HS.out _ (HD.out q)).c5
      have E6 : ∀ q, (wr.drewN q).cell? ⟨g, o + k * 14 + 6, none⟩ = some (.int .i64 x.o.bl1) := fun q => (HS.out _ (HD.out q)).c6
      have hk1 : (k : Int) < (L.length : Int) := by omega
      have hk0 : (0 : Int) ≤ (k : Int) := by omega
      clear hat hx hg
      by_cases hk3 : x.o.kind = 3
      · simp only [hk3] at E4
        clear hk3
        by_cases hbb : x.o.bl0 = x.o.id0 ∧ x.o.bl1 = x.o.id1
        · obtain ⟨e0, e1⟩ := hbb
          simp only [e0] at E5
          simp only [e1] at E6
          clear e0 e1
          obtain ⟨i0, hi0⟩ : ∃ i0, i0 = x.o.id0 := ⟨_, rfl⟩
          obtain ⟨i1, hi1⟩ : ∃ i1, i1 = x.o.id1 := ⟨_, rfl⟩
          have HSi : Hid (∀ W, Below w3.heap.size w3 W → W.cell? ⟨g, o + k * 14, none⟩ = some (.int .i64 i0) ∧ W.cell? ⟨g, o + k * 14 + 1, none⟩ = some (.int .i64 i1)) := hid (fun W hb => by rw [hi0, hi1]; exact ⟨(HS.out W hb).c0, (HS.out W hb).c1⟩)
          rw [← hi0] at E0 E5
          rw [← hi1] at E1 E6
          clear hi0 hi1
          go_wp2_with fail
          go_quiet (fail)
          have HDq := hid (HD.out nq)
          clear E0 E1 E4 E5 E6 HD
          generalize wr.drewN nq = W2 at HDq ⊢
          obtain ⟨T1, hT1⟩ : ∃ T1, T1 = crs (i0, i1) (L.map (·.o)) (L.map (·.o)) := ⟨_, rfl⟩
          obtain ⟨T2, hT2⟩ : ∃ T2, T2 = crs (i0, i1) (M.map (·.o)) (M.map (·.o)) := ⟨_, rfl⟩
          have HXC : Hid (XC w3 (some ⟨g, o, none⟩) L.length oc ma M.length mc i0 i1 T1 T2) := hid ⟨fun W hb => (texts_any _ _ _ L (i0, i1) W (HOL.out.below hb) HWL.out HFL.out (by omega)).mono (fun e w' ⟨t, h1, h2, h3⟩ => ⟨t, h1, hid (by rw [hT1]; exact h2), hid h3, hid (hb.trans (h3.mono hb.size))⟩), fun W hb => (texts_any _ _ _ M (i0, i1) W (HOM.out.below hb) HWM.out HFM.out (by have := HMn.out; omega)).mono (fun e w' ⟨t, h1, h2, h3⟩ => ⟨t, h1, hid (by rw [hT2]; exact h2), hid h3, hid (hb.trans (h3.mono hb.size))⟩)⟩
          have HTP : T1.Perm T2 := by rw [hT1, hT2]; exact crs_perm (HPM.out.symm.map _)
          have hTl : T1.length ≤ 60 := by
            rw [hT1]
            unfold crs
            rw [List.length_map]
            refine Nat.le_trans (List.length_filter_le _ _) ?_
            rw [List.length_map]
            exact h60
          have hOC := oc_of w3 HTP hTl
          clear hT1 hT2 HTP hTl
          generalize allT T1 = LA at hOC
          generalize (seenC T1).map (·.id) = LD at hOC
          generalize (⟨(strB (seenC T1)).toArray⟩ : ByteArray) = sb at hOC
          have HOC := hid hOC
          clear hOC
          obtain ⟨q0, q1⟩ := HSi.out _ HDq.out
          go_wp2_with (first
            | (have hq := HPd2; go_at_call 21; refine (HOC.out.md _ _ _ _ _ t1 t2 HPd1'.out HPd2.out HZ7.out.1 HZ7.out.2.1 HZ7.out.2.2.2).mono ?_; rintro e Z8 ⟨rfl, HZ8⟩)
            | (have hq := HPd1; go_at_call 24; refine (HOC.out.d2 _ t1 t2 HZ6.out.1 HZ6.out.2.1 HZ6.out.2.2.2).mono ?_; rintro e Z7 ⟨a7, c7, rfl, HPd2, HZ7⟩; have HPd1' := hid (HPd1.out.below HZ7.out.2.2.1))
            | (have hq := HZ5; go_at_call 24; refine (HOC.out.d1 _ t1 t2 HZ5.out.1 HZ5.out.2.1 HZ5.out.2.2.2).mono ?_; rintro e Z6 ⟨a6, c6, rfl, HPd1, HZ6⟩)
            | (have hq := HZ4; go_at_call 23; refine (HOC.out.s2 _ t1 t2 HZ4.out.1 HZ4.out.2.1 HZ4.out.2.2.2).mono ?_; rintro e Z5 ⟨rfl, HZ5⟩)
            | (have hq := HZ3; go_at_call 23; refine (HOC.out.s1 _ t1 t2 HZ3.out.1 HZ3.out.2.1 HZ3.out.2.2.2).mono ?_; rintro e Z4 ⟨rfl, HZ4⟩)
            | (have hq := HPa2; go_at_call 21; refine (HOC.out.ma _ _ _ _ _ t1 t2 HPa1'.out HPa2.out HZ2.out.1 HZ2.out.2.1 HZ2.out.2.2.2).mono ?_; rintro e Z3 ⟨rfl, HZ3⟩)
            | (have hq := HPa1; go_at_call 22; refine (HOC.out.a2 _ t1 t2 HZ1.out.1 HZ1.out.2.1 HZ1.out.2.2.2).mono ?_; rintro e Z2 ⟨a2, c2, rfl, HPa2, HZ2⟩; have HPa1' := hid (HPa1.out.below HZ2.out.2.2.1))
            | (have hq := HM1'; go_at_call 22; refine (HOC.out.a1 _ t1 t2 HM1'.out HM2.out HX2.out).mono ?_; rintro e Z1 ⟨a1, c1, rfl, HPa1, HZ1⟩)
            | (have hq := HM1; go_at_call 20; refine (HXC.out.x2 _ HX1.out).mono ?_; rintro e Y2 ⟨t2, rfl, HM2, HY2, HX2⟩; have HM1' := hid (HM1.out.below HY2.out); clear r0 r1)
            | (go_at_call 20; refine (HXC.out.x1 _ HDq.out).mono ?_; rintro e Y1 ⟨t1, rfl, HM1, HY1, HX1⟩; obtain ⟨r0, r1⟩ := HSi.out _ HX1.out; clear q0 q1))
          go_roundw
          case rel => exact ⟨k + 1, by omega, by go_num, hid HZ8.out.2.2.2⟩
          case measure => simp [intOf]; omega
        · have hcmp : (x.o.bl0 = x.o.id0 ∧ ¬ x.o.bl1 = x.o.id1) ∨ ¬ x.o.bl0 = x.o.id0 := by
            by_cases h : x.o.bl0 = x.o.id0
            · exact .inl ⟨h, fun e => hbb ⟨h, e⟩⟩
            · exact .inr h
          clear hbb
          rcases hcmp with ⟨e1, hne⟩ | hne
          · simp only [e1] at E5
            clear e1
            go_wp2_with fail
            go_quiet (fail)
            have HDq := hid (HD.out nq)
            clear E0 E1 E4 E5 E6 HD
            go_wp2
            go_roundw
            case rel => exact ⟨k + 1, by omega, by go_num, HDq⟩
            case measure => simp [intOf]; omega
          · go_wp2_with fail
            go_quiet (fail)
            have HDq := hid (HD.out nq)
            clear E0 E1 E4 E5 E6 HD
            go_wp2
            go_roundw
            case rel => exact ⟨k + 1, by omega, by go_num, HDq⟩
            case measure => simp [intOf]; omega
      · have hbk : (x.o.kind != 3) = true := by simpa using hk3
        have hbk' : (x.o.kind == 3) = false := by simpa using hk3
        clear hk3
        go_wp2_with fail
        go_quiet (fail)
        have HDq := hid (HD.out nq)
        clear E0 E1 E4 E5 E6 HD
        go_wp2
        go_roundw
        case rel => exact ⟨k + 1, by omega, by go_num, HDq⟩
        case measure => simp [intOf]; omega
    · have hkn : k = L.length := by omega
      subst hkn
      go_wp2
      go_ret
      exact ⟨rfl, HBw.out _ hbw.out⟩
end Go.Proofs.Ytbpepmajpojacaa
