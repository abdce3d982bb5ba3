/- WalPlays: the walk. -/
import Derived.Test.YtegikicpffoglaaWlRow
set_option linter.unusedVariables false
set_option linter.unusedSimpArgs false
namespace Go.Proofs.Ytegikicpffoglaa
open Go.RowKit Go.Sort Go.Maps Go.Shelf

set_option maxRecDepth 100000 in
set_option maxHeartbeats 8000000 in
theorem plays_walk0 (r : Int) (a1 : Option Addr) (cap1 : Nat) (X : List AW) (w : World) (hr : r ≤ 9223372036854775807) (s1 : ASrc w a1 X.length X) (hx : X.length ≤ maxLen) :
    Calls Try.prog 4 #[.int .i64 r, .slice a1 X.length cap1] w fun e w' => e = .returned (.bool true) ∧ Below w.heap.size w w' := by
  have HS1 := hid s1
  unfold maxLen at hx
  clear s1
  obtain ⟨i0, hi, hz0, hz1, hz2⟩ := info_parts Try.info22
  by_cases hc : r < 0
  · have e1 : decide (r < (0 : Int)) = true := decide_eq_true hc
    go_enter Try.func4, Try.ntmps4
    go_wp2_with (go_at_call 8; refine (awake_any _).mono ?_; rintro e w1 ⟨rfl, hb1⟩; have HBa := hid hb1; clear hb1)
    go_ret
    exact ⟨rfl, HBa.out⟩
  have e0 : decide (r < (0 : Int)) = false := decide_eq_false hc
  by_cases hc2 : 1000000 < r
  · have e1 : decide ((1000000 : Int) < r) = true := decide_eq_true hc2
    go_enter Try.func4, Try.ntmps4
    go_wp2_with (go_at_call 8; refine (awake_any _).mono ?_; rintro e w1 ⟨rfl, hb1⟩; have HBa := hid hb1; clear hb1)
    go_ret
    exact ⟨rfl, HBa.out⟩
  have e1 : decide ((1000000 : Int) < r) = false := decide_eq_false hc2
  obtain ⟨room, rfl⟩ : ∃ n : Nat, r = (n : Int) := ⟨r.toNat, by omega⟩
  have hroom : room ≤ 1000000 := by omega
  have hmxo : Try.prog.follows .mixedOrders = true := by kernel_rfl
  go_enter Try.func4, Try.ntmps4
  go_wp2_with (first
    | (go_at_call 11; have hq := K2.out; refine (run_open hq (by simp)).mono ?_; rintro e w3 ⟨D3, l3, a3, c3, P3, rfl, k3, g3, r3, _⟩; rw [spl_nil] at k3 g3 r3 ⊢; have K3 : Hid (PI w w3 d l3 (.slice none 0 0) [] 0 room D3 P3) := hid ⟨k3, g3, RW.nil _ _ _ _, Nat.le_refl _, fun B hB => by simp at hB⟩; clear hq k3 g3 r3)
    | (go_at_call 9; refine (run_new (w := w) (room : Int) room rfl (by omega) HBa.out).mono ?_; rintro e w2 ⟨d, D2, rfl, k2⟩; have K2 := hid k2; clear k2)
    | (go_at_call 8; refine (awake_any _).mono ?_; rintro e w1 ⟨rfl, hb1⟩; have HBa := hid hb1; clear hb1))
  go_loopw [7, 10, 11, 12] (fun vl va vs vi wr => ∃ (j : Nat) (R : List (List Int)) (D : Dk) (P : Nat → Prop) (l s : Nat) (a : Option Addr) (c : Nat), vl = .pointer (some ⟨l, 0, none⟩) ∧ va = .slice a R.length c ∧ vs = .int .i64 (s : Int) ∧ vi = .int .i64 (j : Int) ∧ Hid (PI w wr d l (.slice a R.length c) R s room D P)) (fun _ _ _ vi _ => X.length - (intOf vi).toNat)
  case atStart => exact ⟨0, [], D3, P3, l3, 0, none, 0, rfl, rfl, rfl, rfl, K3⟩
  case round =>
    obtain ⟨j, R, D, P, l, s, a, c, rfl, rfl, rfl, rfl, HK⟩ := hrel
    have hRl : R.length ≤ 1000000 := by
      have h0 := frs_cnt R
      have h1 := HK.out.fits
      omega
    by_cases hlt : j < X.length ∧ j < 40
    rotate_left
    · by_cases hj : j < X.length
      · have e5 : decide ((j : Int) < (X.length : Int)) = true := decide_eq_true (by omega)
        have e6 : decide ((j : Int) < (40 : Int)) = false := decide_eq_false (by omega)
        go_wp2_with (first
          | (go_at_call 14; have hq := K4.out; refine (rsame_any a4 a c4 c R _ hq.2 (hq.1.rw'.bs hq.1.wd.kp) (by omega)).mono ?_; rintro e w5 ⟨rfl, hb5⟩; have K5 := hid (kp_below ((hq.1.below hb5).wd.kp)); clear hq hb5)
          | (go_at_call 11; refine (pi_open HK.out hroom).mono ?_; rintro e w4 ⟨D4, l4, a4, c4, P4, rfl, k4, r4⟩; have K4 := hid (And.intro k4 r4); clear k4 r4))
        go_ret
        exact ⟨rfl, K5.out⟩
      · have e5 : decide ((j : Int) < (X.length : Int)) = false := decide_eq_false (by omega)
        go_wp2_with (first
          | (go_at_call 14; have hq := K4.out; refine (rsame_any a4 a c4 c R _ hq.2 (hq.1.rw'.bs hq.1.wd.kp) (by omega)).mono ?_; rintro e w5 ⟨rfl, hb5⟩; have K5 := hid (kp_below ((hq.1.below hb5).wd.kp)); clear hq hb5)
          | (go_at_call 11; refine (pi_open HK.out hroom).mono ?_; rintro e w4 ⟨D4, l4, a4, c4, P4, rfl, k4, r4⟩; have K4 := hid (And.intro k4 r4); clear k4 r4))
        go_ret
        exact ⟨rfl, K5.out⟩
    obtain ⟨hlt, h40⟩ := hlt
    have e5 : decide ((j : Int) < (X.length : Int)) = true := decide_eq_true (by omega)
    have e6 : decide ((j : Int) < (40 : Int)) = true := decide_eq_true (by omega)
    obtain ⟨x, hxk⟩ : ∃ x, X[j]? = some x := ⟨X[j], List.getElem?_eq_getElem hlt⟩
    have hm : x ∈ X := List.mem_of_getElem? hxk
    obtain ⟨gX, oX, eX, hcX⟩ := HS1.out.2.2 (by omega)
    subst eX
    have hbw := kp_below HK.out.wd.kp
    have OKw0 := HS1.out.2.1 x hm
    have cX : ∀ (i : Nat) (u : Value), x.cells[i]? = some u → wr.cell? ⟨gX, oX + j * 2 + i, none⟩ = some u := fun i u hi => by
      have := hcX j x hxk i u hi
      exact (hbw.cell (cell_block this)).trans this
    have x0 := cX 0 _ rfl
    have x1 := cX 1 _ rfl
    rw [Nat.add_zero] at x0
    clear cX hcX hbw hm hxk
    have OKw := hid OKw0
    clear OKw0
    by_cases hb1 : 1000 < x.B.length
    · have e7 : decide ((1000 : Int) < (x.B.length : Int)) = true := decide_eq_true (by omega)
      go_wp2
      go_ret
      exact ⟨rfl, kp_below ((HK.out.wd.kp).trans (KP.below (new_below wr _)))⟩
    have e7 : decide ((1000 : Int) < (x.B.length : Int)) = false := decide_eq_false (by omega)
    have hb2 : x.B.length ≤ 1000 := by omega
    have hnb := new_below wr (.cells #[.int .i64 x.kind, .slice x.a x.B.length x.c] 41)
    have KM := hid (HK.out.more hnb)
    have HPB : Hid ((fun i => P i ∨ (wr.heap.size ≤ i ∧ i < (wr.alloc (.cells #[.int .i64 x.kind, .slice x.a x.B.length x.c] 41)).heap.size)) wr.heap.size) := hid (Or.inr ⟨Nat.le_refl _, by simp⟩)
    have HNW := hid (heap_new wr (.cells #[.int .i64 x.kind, .slice x.a x.B.length x.c] 41))
    clear hnb
    have hnil : x.a = none → x.B.length = 0 ∧ x.c = 0 := fun e => ⟨by have h1 := OKw.out.nil e; have h2 := OKw.out.cap.1; omega, OKw.out.nil e⟩
    have HNIL := hid hnil
    clear hnil
    by_cases hk0 : x.kind.tmod 5 = 0
    · have e8 : (x.kind.tmod 5 == 0) = true := by rw [hk0]; rfl
      clear hk0
      go_wp2_with (first
        | (go_at_call 16; have hq := K3'.out; refine (sure_any l _ _ hq.lg.log).mono ?_; rintro e w5 ⟨rfl, rfl⟩; clear hq)
        | (go_at_call 15; have hq := K3'.out; refine (count_any l _ _ hq.lg.log).mono ?_; rintro e w5 ⟨rfl, rfl⟩; clear hq)
        | (go_at_call 17; refine (pi_sync KM.out).mono ?_; rintro e w4 ⟨D4, rfl, k4⟩; have K3' := hid k4; clear k4))
      go_roundw
      case rel => exact ⟨j + 1, R, _, _, l, _, a, c, rfl, rfl, rfl, by go_num, K3'⟩
      case measure => simp [intOf]; omega
    have e8 : (x.kind.tmod 5 == 0) = false := by simpa using hk0
    by_cases hk1 : x.kind.tmod 5 = 1
    · have e9 : (x.kind.tmod 5 == 1) = true := by rw [hk1]; rfl
      clear hk0 hk1
      go_wp2_with (first
        | (go_at_call 16; have hq := K5.out; refine (sure_any l4 _ _ hq.lg.log).mono ?_; rintro e w6 ⟨rfl, rfl⟩; clear hq)
        | (go_at_call 15; have hq := K5.out; refine (count_any l4 _ _ hq.lg.log).mono ?_; rintro e w6 ⟨rfl, rfl⟩; clear hq)
        | (go_at_call 14; have hq := K4.out; refine (rsame_any a4 a c4 c R _ hq.2 (hq.1.rw'.bs hq.1.wd.kp) (by omega)).mono ?_; rintro e w5 ⟨rfl, hb5⟩; have K5 := hid (hq.1.below hb5); clear hq hb5)
        | (go_at_call 11; refine (pi_open KM.out hroom).mono ?_; rintro e w4 ⟨D4, l4, a4, c4, P4, rfl, k4, r4⟩; have K4 := hid (And.intro k4 r4); clear k4 r4))
      go_roundw
      case rel => exact ⟨j + 1, R, _, _, l4, 0, a, c, rfl, rfl, rfl, by go_num, K5⟩
      case measure => simp [intOf]; omega
    have e9 : (x.kind.tmod 5 == 1) = false := by simpa using hk1
    clear hk0 hk1
    obtain ⟨T, hT⟩ : ∃ T, T = (frs R).length := ⟨_, rfl⟩
    have hTr : T ≤ room := by rw [hT]; exact HK.out.fits
    have HT := hid hT
    clear hT
    obtain ⟨lf, hlf⟩ : ∃ n, n = room - T := ⟨_, rfl⟩
    have HLF := hid hlf
    have HV1 := hid (show IntKind.i64.wrap ((x.B.length : Int) + 8) = (x.B.length : Int) + 8 by rw [IntKind.wrap_i64]; omega)
    have HW1 := hid (show wrap64 ((x.B.length : Int) + 8) = (x.B.length : Int) + 8 by unfold wrap64; omega)
    by_cases hfit : T + x.B.length + 8 ≤ room
    rotate_left
    · have e10 : decide ((lf : Int) < (x.B.length : Int) + 8) = true := decide_eq_true (by omega)
      have e10' : (lf : Int) < (x.B.length : Int) + 8 := by omega
      have HFUL := hid (show room < (frs R).length + x.B.length + 8 by rw [← HT.out]; omega)
      have HNE := hid (show wr.heap.size ≠ l by have := HK.out.lg.log.lt; omega)
      clear hlf
      have hv1 := HV1.out
      have hw1 := HW1.out
      go_wp2_with (first
        | (go_at_call 16; have hq := K6.out; refine (sure_any l _ _ hq.lg.log).mono ?_; rintro e w7 ⟨rfl, rfl⟩; clear hq)
        | (go_at_call 15; have hq := K6.out; refine (count_any l _ _ hq.lg.log).mono ?_; rintro e w7 ⟨rfl, rfl⟩; clear hq)
        | (go_at_call 18; have hq := K5.out; refine (pi_room hq).mono ?_; rintro e w6 ⟨rfl, hb6⟩; rw [← HT.out, ← HLF.out]; have K6 := hid (hq.below hb6); clear hq hb6)
        | (go_at_call 19; have hq := K4.out; refine (pi_full hq.1 hroom (hq.1.wd.src OKw.out.src) OKw.out.bts HNIL.out hb2 HFUL.out).mono ?_; rintro e w5 ⟨rfl, k5, kp5⟩; have x5 := (kp5.keep wr.heap.size (Array.getElem?_eq_some_iff.1 hq.2).1 ⟨HPB.out, HNE.out⟩).trans hq.2; have y0 := cell_blk (i := 0) x5 rfl; have y1 := cell_blk (i := 1) x5 rfl; have K5 := hid k5; clear hq k5 kp5 x5)
        | (go_at_call 18; (fail_if_success have := K4); refine (pi_room KM.out).mono ?_; rintro e w4 ⟨rfl, hb4⟩; rw [← HT.out, ← HLF.out]; have x4 := (hb4.block wr.heap.size (Array.getElem?_eq_some_iff.1 HNW.out).1).trans HNW.out; have y0 := cell_blk (i := 0) x4 rfl; have y1 := cell_blk (i := 1) x4 rfl; have K4 := hid (And.intro (KM.out.below hb4) x4); clear hb4 x4))
      go_roundw
      case rel => exact ⟨j + 1, R, _, _, l, s, a, c, rfl, rfl, rfl, by go_num, K6⟩
      case measure => simp [intOf]; omega
    have e10 : decide ((lf : Int) < (x.B.length : Int) + 8) = false := decide_eq_false (by omega)
    have e10' : ¬ (lf : Int) < (x.B.length : Int) + 8 := by omega
    obtain ⟨lg2, hlg2⟩ : ∃ n, n = room - (T + x.B.length + 8) := ⟨_, rfl⟩
    have HLG := hid hlg2
    obtain ⟨lh, hlh⟩ : ∃ n : Nat, n = lf - x.B.length := ⟨_, rfl⟩
    have HW2 := hid (show wrap64 ((lf : Int) - (x.B.length : Int)) = (lh : Int) by unfold wrap64; omega)
    have HV2 := hid (show IntKind.i64.wrap ((lf : Int) - (x.B.length : Int)) = (lh : Int) by rw [IntKind.wrap_i64]; omega)
    have HW3 := hid (show wrap64 ((lh : Int) - 8) = (lg2 : Int) by unfold wrap64; omega)
    have HV3 := hid (show IntKind.i64.wrap ((lh : Int) - 8) = (lg2 : Int) by rw [IntKind.wrap_i64]; omega)
    have HFIT := hid (show (frs R).length + x.B.length + 8 ≤ room by rw [← HT.out]; exact hfit)
    have HNE := hid (show wr.heap.size ≠ l by have := HK.out.lg.log.lt; omega)
    have hw1 := HW1.out
    have hv1 := HV1.out
    have hw2 := HW2.out
    have hv2 := HV2.out
    have hw3 := HW3.out
    have hv3 := HV3.out
    clear hlf hlg2 hlh
    go_wp2_with (first
        | (go_at_call 19; have hq := K4.out; refine (pi_app hq.1 hroom (hq.1.wd.src OKw.out.src) OKw.out.bts HNIL.out hb2 HFIT.out).mono ?_; rintro e w5 ⟨D5, rfl, k5, kp5⟩; have x5 := (kp5.keep wr.heap.size (Array.getElem?_eq_some_iff.1 hq.2).1 ⟨HPB.out, HNE.out⟩).trans hq.2; have y0 := cell_blk (i := 0) x5 rfl; have y1 := cell_blk (i := 1) x5 rfl; have X5 := hid x5; have K5 := hid k5; clear hq k5 kp5 x5)
        | (go_at_call 18; (fail_if_success have := K4); refine (pi_room KM.out).mono ?_; rintro e w4 ⟨rfl, hb4⟩; rw [← HT.out, ← HLF.out]; have x4 := (hb4.block wr.heap.size (Array.getElem?_eq_some_iff.1 HNW.out).1).trans HNW.out; have y0 := cell_blk (i := 0) x4 rfl; have y1 := cell_blk (i := 1) x4 rfl; have K4 := hid (And.intro (KM.out.below hb4) x4); clear hb4 x4))
    have S5 : (fun u : World => u.cell? ⟨wr.heap.size, 1, none⟩ = some (.slice x.a x.B.length x.c)) w5.drew := y1
    refine wp_region_held_drew (S := fun u => u.cell? ⟨wr.heap.size, 1, none⟩ = some (.slice x.a x.B.length x.c)) hmxo S5 ?_
    intro _
    refine wpAnyH_take (i := 0) (v := .int .i64 0) rfl (by kernel_rfl) (by kernel_rfl) (by kernel_rfl) (fun _ _ _ h => h) (Or.inl ⟨by kernel_rfl, fun u hSu => ?_⟩) S5 ?_
    · have z0 := hSu; go_simp
    simp only [Act.put, List.getElem_toArray, List.getElem_cons_succ, List.getElem_cons_zero, List.setIfInBounds_toArray, List.set_cons_zero, List.set_cons_succ]
    refine wpAnyH_take (i := 1) (v := .bool false) rfl (by kernel_rfl) (by kernel_rfl) (by kernel_rfl) (fun _ _ _ h => h) (Or.inl ⟨by kernel_rfl, fun u hSu => ?_⟩) S5 ?_
    · have z0 := hSu; go_simp
    simp only [Act.put, List.getElem_toArray, List.getElem_cons_succ, List.getElem_cons_zero, List.setIfInBounds_toArray, List.set_cons_zero, List.set_cons_succ]
    refine wpAnyH_take (i := 2) (v := .bool false) rfl (by kernel_rfl) (by kernel_rfl) (by kernel_rfl) (fun _ _ _ h => h) (Or.inl ⟨by kernel_rfl, fun u hSu => ?_⟩) S5 ?_
    · have z0 := hSu; go_simp
    simp only [Act.put, List.getElem_toArray, List.getElem_cons_succ, List.getElem_cons_zero, List.setIfInBounds_toArray, List.set_cons_zero, List.set_cons_succ]
    refine wpAnyH_take (i := 3) (v := .pointer (some ⟨d, 0, none⟩)) rfl (by kernel_rfl) (by kernel_rfl) (by kernel_rfl) (fun _ _ _ h => h) (Or.inl ⟨by kernel_rfl, fun u hSu => ?_⟩) S5 ?_
    · have z0 := hSu; go_simp
    simp only [Act.put, List.getElem_toArray, List.getElem_cons_succ, List.getElem_cons_zero, List.setIfInBounds_toArray, List.set_cons_zero, List.set_cons_succ]
    refine wpAnyH_take (i := 5) (v := .int .i64 (lf : Int)) rfl (by kernel_rfl) (by kernel_rfl) (by kernel_rfl) (fun _ _ _ h => h) (Or.inl ⟨by kernel_rfl, fun u hSu => ?_⟩) S5 ?_
    · have z0 := hSu; go_simp
    simp only [Act.put, List.getElem_toArray, List.getElem_cons_succ, List.getElem_cons_zero, List.setIfInBounds_toArray, List.set_cons_zero, List.set_cons_succ]
    refine wpAnyH_take (i := 6) (v := .pointer (some ⟨wr.heap.size, 1, none⟩)) rfl (by kernel_rfl) (by kernel_rfl) (by kernel_rfl) (fun _ _ _ h => h) (Or.inl ⟨by kernel_rfl, fun u hSu => ?_⟩) S5 ?_
    · have z0 := hSu; go_simp
    simp only [Act.put, List.getElem_toArray, List.getElem_cons_succ, List.getElem_cons_zero, List.setIfInBounds_toArray, List.set_cons_zero, List.set_cons_succ]
    refine wpAnyH_take (i := 7) (v := .slice x.a x.B.length x.c) rfl (by kernel_rfl) (by kernel_rfl) (by kernel_rfl) (fun _ _ _ h => h) (Or.inl ⟨by kernel_rfl, fun u hSu => ?_⟩) S5 ?_
    · have z0 := hSu; go_simp
    simp only [Act.put, List.getElem_toArray, List.getElem_cons_succ, List.getElem_cons_zero, List.setIfInBounds_toArray, List.set_cons_zero, List.set_cons_succ]
    refine wpAnyH_take (i := 8) (v := .int .i64 (x.B.length : Int)) rfl (by kernel_rfl) (by kernel_rfl) (by kernel_rfl) (fun _ _ _ h => h) (Or.inl ⟨by kernel_rfl, fun u hSu => ?_⟩) S5 ?_
    · have z0 := hSu; go_simp
    simp only [Act.put, List.getElem_toArray, List.getElem_cons_succ, List.getElem_cons_zero, List.setIfInBounds_toArray, List.set_cons_zero, List.set_cons_succ]
    refine wpAnyH_take (i := 9) (v := .int .i64 (lh : Int)) rfl (by kernel_rfl) (by kernel_rfl) (by kernel_rfl) (fun _ _ _ h => h) (Or.inl ⟨by kernel_rfl, fun u hSu => ?_⟩) S5 ?_
    · have z0 := hSu; go_simp
    simp only [Act.put, List.getElem_toArray, List.getElem_cons_succ, List.getElem_cons_zero, List.setIfInBounds_toArray, List.set_cons_zero, List.set_cons_succ]
    refine wpAnyH_take (i := 10) (v := .int .i64 (lg2 : Int)) rfl (by kernel_rfl) (by kernel_rfl) (by kernel_rfl) (fun _ _ _ h => h) (Or.inl ⟨by kernel_rfl, fun u hSu => ?_⟩) S5 ?_
    · have z0 := hSu; go_simp
    simp only [Act.put, List.getElem_toArray, List.getElem_cons_succ, List.getElem_cons_zero, List.setIfInBounds_toArray, List.set_cons_zero, List.set_cons_succ]
    refine wpAnyH_ready (rs := [4]) (by kernel_rfl) (by simp) ?_
    refine AllReadyH.cons rfl (fun K hK => ?_) AllReadyH.nil
    go_simp
    refine (pj_room (K5.out.below (bdrew (Below.refl _ _)))).mono ?_
    rintro e w6 ⟨rfl, hb6⟩
    have hb56 := (bdrew (Below.refl w5.heap.size w5)).trans hb6
    rw [← HT.out, ← HLG.out]
    have x6 := (hb56.block wr.heap.size (Array.getElem?_eq_some_iff.1 X5.out).1).trans X5.out
    have S6 : (fun u : World => u.cell? ⟨wr.heap.size, 1, none⟩ = some (.slice x.a x.B.length x.c)) w6 := cell_blk (i := 1) x6 rfl
    have K6 := hid (K5.out.below hb56)
    have X6 := hid x6
    clear hb6 hb56 x6 y0 y1
    refine hK.out _ _ S6 (fun _ => ?_)
    clear hK K
    try simp only [Act.put, List.getElem_toArray, List.getElem_cons_succ, List.getElem_cons_zero, List.setIfInBounds_toArray, List.set_cons_zero, List.set_cons_succ]
    refine wpAnyH_take (i := 11) (v := .bool false) rfl (by kernel_rfl) (by kernel_rfl) (by kernel_rfl) (fun _ _ _ h => h) (Or.inl ⟨by kernel_rfl, fun u hSu => ?_⟩) S6 ?_
    · have z0 := hSu; go_simp
    simp only [Act.put, List.getElem_toArray, List.getElem_cons_succ, List.getElem_cons_zero, List.setIfInBounds_toArray, List.set_cons_zero, List.set_cons_succ]
    refine wpAnyH_take (i := 12) (v := .bool false) rfl (by kernel_rfl) (by kernel_rfl) (by kernel_rfl) (fun _ _ _ h => h) (Or.inl ⟨by kernel_rfl, fun u hSu => ?_⟩) S6 ?_
    · have z0 := hSu; go_simp
    simp only [Act.put, List.getElem_toArray, List.getElem_cons_succ, List.getElem_cons_zero, List.setIfInBounds_toArray, List.set_cons_zero, List.set_cons_succ]
    refine wpAnyH_done (by kernel_rfl) ?_ _
    have y0 := cell_blk (i := 0) X6.out rfl
    have y1 := cell_blk (i := 1) X6.out rfl
    obtain ⟨Vs, hVs⟩ := K6.out.rw'.row
    have HVs := hid hVs
    clear hVs
    go_wp2_with (first
        | (go_at_call 16; have hq := K8.out; refine (sure_any l _ _ hq.lg.log).mono ?_; rintro e w9 ⟨rfl, rfl⟩; clear hq)
        | (go_at_call 15; have hq := K8.out; refine (count_any l ⟨0, d, lg, R.length + 1, s⟩ _ (by have h9 := hq.lg.log; rw [List.length_append] at h9; exact h9)).mono ?_; rintro e w9 ⟨rfl, rfl⟩; clear hq)
        | (at_builtin; refine wpList_append_lies _ rfl _ _ 29 rfl 0 22 i0 (.slice none 0 0) 1 24 Try.underlying29 hi hz0 hz1 hz2 rfl (by decide) _ _ _ rfl (HVs.out.1.alloc _) ⟨w6.heap.size, 0, none⟩ 1 1 [.slice x.a x.B.length x.c] rfl rfl (cell_one_new _ _ _) (by simp [Value.oneCell']) (by omega) (by unfold maxLen; omega) (by omega) (Nat.zero_le _) _ rfl ?_; intro g8 cap8 w8 ho8 hg8 hl8 hlt8; obtain ⟨P8, k8⟩ := pj_done (K6.out.below (new_below w6 (.cells #[.slice x.a x.B.length x.c] 22))) OKw.out.src OKw.out.cap.1 HNIL.out hg8 hl8 hlt8 HVs.out.2 ho8; have K8 := hid k8; clear k8 ho8 hg8 hl8 hlt8))
    go_roundw
    case rel => exact ⟨j + 1, R ++ [x.B], _, _, l, s, some ⟨g8, 0, none⟩, cap8, rfl, by simp, rfl, by go_num, K8⟩
    case measure => simp [intOf]; omega

theorem plays_walk {w : World} (r : Int) (hr : (Lit.int .i64 r).wf = true) (a1 : Option Addr) (len1 cap1 : Nat) (X : List AW) (h1 : ASrc w a1 len1 X ∧ len1 ≤ maxLen) :
    Calls Try.prog 4 #[.int .i64 r, .slice a1 len1 cap1] w fun e w' => e = .returned (.bool true) ∧ Below w.heap.size w w' := by
  obtain ⟨s1, hx⟩ := h1
  obtain rfl : len1 = X.length := s1.1.symm
  exact plays_walk0 r a1 cap1 X w (bounds_i64 hr).2 s1 hx
end Go.Proofs.Ytegikicpffoglaa
