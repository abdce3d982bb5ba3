/- CausalBehind: the walk. -/
import Derived.Test.YtoapblojoblhiaaCSmall
namespace Go.Proofs.Ytoapblojoblhiaa
open Go.RowKit
open Go.Sort (grow)

theorem os_at {w : World} {g o n c : Nat} {L : List Mo} (h : OS w (some ⟨g, o, none⟩) n c L) {i : Nat} (hi : i < L.length) : OpAtO w g (o + i * 14) L[i] := by
  obtain ⟨g', o', e, _, hc⟩ := h.at (by rw [← h.len]; omega)
  cases e
  exact hc i hi

set_option maxRecDepth 100000 in
set_option maxHeartbeats 8000000 in
theorem behind_walk (a : Option Addr) (n c : Nat) (L : List Mo) (w : World) (hs : OS w a n c L) (hF : ∀ x ∈ L, x.o.Fits ∧ Dws x.V) (hAw : AwakeSays) :
    Calls Try.prog 4 #[.slice a n c] w fun e w' => e = .returned (.bool true) ∧ RowKit.Below w.heap.size w w' := by
  have hU := hAw w
  have hS := fun W (h : RowKit.Below w.heap.size w W) => small_any a n c L W (hs.below h)
  cases hsm : smb n L
  · rw [hsm] at hS
    go_enter Try.func4, Try.ntmps4
    go_wp2_with (first
      | (go_at_call 9; refine (hS _ hB1).mono ?_; rintro e w2 ⟨rfl, hF2⟩)
      | (go_at_call 5; refine hU.mono ?_; rintro e w1 ⟨rfl, hB1⟩))
    go_ret
    exact ⟨rfl, below2 hB1 hF2.below⟩
  · rw [hsm] at hS
    obtain ⟨h50, hn⟩ := smb_iff.1 hsm
    have hF' : ∀ x ∈ L, x.o.Fits ∧ Dws x.V ∧ x.n ≤ 1000000 := fun x hx => ⟨(hF x hx).1, (hF x hx).2, by have := h50 x hx; omega⟩
    have hO := fun W (h : RowKit.Below w.heap.size w W) => order_taken a n c L W (hs.below h) hF' (by omega)
    have hR := fun W (h : RowKit.Below w.heap.size w W) => right_any a n c L W (hs.below h) hF' (by omega)
    have Hfew := hid (fun (R : List Mo) (T : List Nat) (ht : Taken (L.map Mo.m) R T) => And.intro (fun x (hx : x ∈ R) => taken_few hs hF' ht hx) (show R.length ≤ 100 by
      have h1 := ht.2.1.length_eq
      have h2 := cnt_len (L.map Mo.m)
      have h3 := hs.len
      simp at h1 h2
      omega))
    clear hsm h50 hF hF'
    go_enter Try.func4, Try.ntmps4
    go_wp2_with (first
      | (go_at_call 11; refine (hR _ B3).mono ?_; rintro e w4 ⟨R', T', rfl, hT', hB4⟩)
      | (go_at_call 10; refine (hO _ B2).mono ?_; rintro e w3 ⟨R, T, a1, c1, a2, c2, rfl, hT, hos1, hos2, hB3⟩; have B3 := below2 B2 hB3)
      | (go_at_call 9; refine (hS _ hB1).mono ?_; rintro e w2 ⟨rfl, hF2⟩; have B2 := below2 hB1 hF2.below)
      | (go_at_call 5; refine hU.mono ?_; rintro e w1 ⟨rfl, hB1⟩))
    obtain ⟨hsame, hTT⟩ := hT'.same hT
    rw [hsame, hTT]
    have hfw := Hfew.out R T hT
    have hb1 : ∀ (k i : Nat) (x y : Mo), k < i → (inL R T)[i]? = some x → (inL R T)[k]? = some y → hasv y.V x.o.id = false ∧ x.o.id ≠ y.o.id ∧ ((decide (T.length = n) && latF (fun _ => none) ((inL R T).map Mo.m)) = true → ¬ x.o.time < y.o.time) := by
      intro k i x y hki hx hy
      have hx' : ((inL R T).map Mo.m)[i]? = some x.m := by rw [List.getElem?_map, hx]; rfl
      have hy' : ((inL R T).map Mo.m)[k]? = some y.m := by rw [List.getElem?_map, hy]; rfl
      refine ⟨hT.cl.behind hy' hx' hki, fun e => ?_, fun hl => ?_⟩
      · have := ids_inj hT.cl.ids hx' hy' e
        omega
      · rw [Bool.and_eq_true] at hl
        have := hT.times hl.2 hy (i - k) x (by rw [show k + (i - k) = i by omega]; exact hx)
        omega
    have hb2 : ∀ x ∈ lf R T, rdyE (verv ((inL R T).map Mo.m)) x.o x.V = 31 := fun x hx => hT.left hx
    have hb3 : ∀ x ∈ inL R T, x.o.Fits ∧ Dws x.V ∧ x.n ≤ 1000000 ∧ VM x.V := fun x hx => ⟨(hT.2.2.1 x (inL_mem hx)).1, (hT.2.2.1 x (inL_mem hx)).2, by have h1 := (hos1.deps x hx).len; have h2 := hfw.1 x (inL_mem hx); omega, (chk_head (hT.may (inL_mem hx))).2.1⟩
    have hb4 : ∀ x ∈ lf R T, x.o.Fits ∧ x.n ≤ 1000000 := fun x hx => by
      have hxR : x ∈ R := (List.mem_filter.1 hx).1
      have h1 := (hos2.deps x hx).len
      have h2 := hfw.1 x hxR
      exact ⟨(hT.2.2.1 x hxR).1, by omega⟩
    have hlA : T.length ≤ 100 := by
      have h1 : T.length ≤ R.length := by
        have := List.Nodup.length_le_of_subset hT.2.2.2.1.nodup (fun x hx => List.mem_range.2 (hT.2.2.2.1.lt hx))
        simpa using this
      have := hfw.2
      omega
    have hlB : (lf R T).length ≤ 100 := by
      have h1 : (lf R T).length ≤ R.length := List.length_filter_le _ _
      have := hfw.2
      omega
    have hlv : (verv ((inL R T).map Mo.m)).length ≤ 100 := by
      have h1 := foldl_length (((inL R T).map Mo.m).map (fun x => x.1.id)) []
      have h2 := inL_length hT.lt
      simp [h2] at h1
      unfold verv
      simp
      omega
    have HB := hid hb1
    have HB2 := hid hb2
    have HB3 := hid hb3
    have HB4 := hid hb4
    have hv : VM (verv ((inL R T).map Mo.m)) := verv_vm _
    have hosA := hos1.below hB4
    have hosB := hos2.below hB4
    have hlen : (inL R T).length = T.length := hos1.len
    have B4 := hid (below2 B3 hB4)
    generalize hrb : (decide (T.length = n) && latF (fun _ => none) ((inL R T).map Mo.m)) = rb at *
    generalize inL R T = A at *
    generalize lf R T = Bl at *
    generalize T.length = m at *
    generalize Bl.length = mb at *
    clear hU hS hO hR Hfew hT hT' hos1 hos2 hB3 B3 hF2 B2 hB1 hB4 hsame hTT hfw hb1 hb2 hb3 hb4 hrb hs
    have HA := hid hosA
    have HBl := hid hosB
    have HV := hid hv
    clear hosA hosB hv
    go_loopw [8] (fun i wr => ∃ k : Nat, k ≤ m ∧ i = .int .i64 k ∧ Hid (RowKit.Below w4.heap.size w4 wr)) (fun i _ => m - (intOf i).toNat)
    case atStart => exact ⟨0, by omega, rfl, hid (Below.refl _ _)⟩
    case round =>
      obtain ⟨i, hi, rfl, hBr⟩ := hrel
      by_cases hlt : i < m
      · have hil : i < A.length := by omega
        obtain ⟨g, o, rfl, hg, _⟩ := HA.out.at (by omega)
        generalize wr = wo at *
        go_wp2
        go_loopw [9] (fun j wk => ∃ k : Nat, k ≤ i ∧ j = .int .i64 k ∧ Hid (RowKit.Below wo.heap.size wo wk)) (fun j _ => i - (intOf j).toNat)
        case atStart => exact ⟨0, by omega, rfl, hid (Below.refl _ _)⟩
        case round =>
          obtain ⟨k, hk, rfl, hBk⟩ := hrel
          by_cases hki : k < i
          · have hkl : k < A.length := by omega
            have hosk := HA.out.below (below2 hBr.out hBk.out)
            have hX : ∀ p : Wb wr, OpAtO p.u g (o + i * 14) A[i] := fun p => os_at (hosk.below p.h) hil
            have hY : ∀ p : Wb wr, OpAtO p.u g (o + k * 14) A[k] := fun p => os_at (hosk.below p.h) hkl
            have hdep := hosk.deps _ (List.getElem_mem hkl)
            obtain ⟨hh, hne, htm⟩ := HB.out k i A[i] A[k] hki (List.getElem?_eq_getElem hil) (List.getElem?_eq_getElem hkl)
            obtain ⟨_, _, hkn, hkv⟩ := HB3.out _ (List.getElem_mem hkl)
            have kAh : ∀ p : Wb wr, Calls Try.prog 12 #[ov A[i].o A[i].dep, ov A[k].o A[k].dep] p.u fun e w'' => e = .returned (.bool false) ∧ ∃ p' : Wb wr, w'' = p'.u := fun p => by
              have h := ahead_any A[i].o A[i].dep A[k].o A[k].a A[k].n A[k].c A[k].V p.u (hdep.below p.h) hkv.ac hkn
              rw [hh] at h
              exact far_q h
            have hT := hid htm
            generalize A[i] = x at *
            generalize A[k] = y at *
            clear hosk hdep hh htm hkv
            haveI : Nonempty (Wb wr) := ⟨⟨wr, Below.refl _ _⟩⟩
            have x0 := fun p => (hX p).c0
            have x1 := fun p => (hX p).c1
            have x2 := fun p => (hX p).c2
            have x3 := fun p => (hX p).c3
            have x4 := fun p => (hX p).c4
            have x5 := fun p => (hX p).c5
            have x6 := fun p => (hX p).c6
            have x7 := fun p => (hX p).c7
            have x8 := fun p => (hX p).c8
            have x9 := fun p => (hX p).c9
            have x10 := fun p => (hX p).c10
            have x11 := fun p => (hX p).c11
            have x12 := fun p => (hX p).c12
            have x13 := fun p => (hX p).c13
            have y0 := fun p => (hY p).c0
            have y1 := fun p => (hY p).c1
            have y2 := fun p => (hY p).c2
            have y3 := fun p => (hY p).c3
            have y4 := fun p => (hY p).c4
            have y5 := fun p => (hY p).c5
            have y6 := fun p => (hY p).c6
            have y7 := fun p => (hY p).c7
            have y8 := fun p => (hY p).c8
            have y9 := fun p => (hY p).c9
            have y10 := fun p => (hY p).c10
            have y11 := fun p => (hY p).c11
            have y12 := fun p => (hY p).c12
            have y13 := fun p => (hY p).c13
            by_cases e0 : x.o.id0 = y.o.id0
            · have q0 : (x.o.id0 == y.o.id0) = true := by simp [e0]
              have q1 : (x.o.id1 == y.o.id1) = false := by
                have : x.o.id1 ≠ y.o.id1 := fun h => hne (by show (x.o.id0, x.o.id1) = (y.o.id0, y.o.id1); rw [e0, h])
                simp [this]
              clear e0 hne
              cases rb
              · go_wp2_with fail
                refine wp_region_below mixed (by kernel_rfl) ?_
                repeat (go_big_quiet_step ((first | (go_at_call 12; exact kAh _))))
                refine wpQuiet_nil ?_
                intro _ hw'
                obtain ⟨p1, hw''⟩ := hw'
                subst hw''
                have B1 := p1.h
                have s1 := B1.size
                go_wp2_with fail
                haveI : Nonempty (Wb p1.u) := ⟨⟨p1.u, Below.refl _ _⟩⟩
                refine wp_region_below mixed (by kernel_rfl) ?_
                repeat (go_big_quiet_step (fail))
                refine wpQuiet_nil ?_
                intro _ hw'
                obtain ⟨p2, hw''⟩ := hw'
                subst hw''
                go_wp2
                go_roundw
                case rel => exact ⟨k + 1, by omega, by go_num, hid (below2 hBk.out (below2 B1 p2.h))⟩
                case measure => simp [intOf]; omega
              · go_wp2_with fail
                refine wp_region_below mixed (by kernel_rfl) ?_
                repeat (go_big_quiet_step ((first | (go_at_call 12; exact kAh _))))
                refine wpQuiet_nil ?_
                intro _ hw'
                obtain ⟨p1, hw''⟩ := hw'
                subst hw''
                have B1 := p1.h
                have s1 := B1.size
                go_wp2_with fail
                haveI : Nonempty (Wb p1.u) := ⟨⟨p1.u, Below.refl _ _⟩⟩
                have t0 : ∀ p : Wb p1.u, p.u.cell? ⟨g, o + i * 14 + 2, none⟩ = some (.int .i64 x.o.time) := fun p => (hX ⟨p.u, below2 B1 p.h⟩).c2
                have t1 : ∀ p : Wb p1.u, p.u.cell? ⟨g, o + k * 14 + 2, none⟩ = some (.int .i64 y.o.time) := fun p => (hY ⟨p.u, below2 B1 p.h⟩).c2
                have tb : decide (x.o.time < y.o.time) = false := by have := hT.out trivial; simp; omega
                refine wp_region_below mixed (by kernel_rfl) ?_
                repeat (go_big_quiet_step (fail))
                refine wpQuiet_nil ?_
                intro _ hw'
                obtain ⟨p2, hw''⟩ := hw'
                subst hw''
                go_wp2
                go_roundw
                case rel => exact ⟨k + 1, by omega, by go_num, hid (below2 hBk.out (below2 B1 p2.h))⟩
                case measure => simp [intOf]; omega
            · have q0 : (x.o.id0 == y.o.id0) = false := by simp [e0]
              clear e0 hne
              cases rb
              · go_wp2_with fail
                refine wp_region_below mixed (by kernel_rfl) ?_
                repeat (go_big_quiet_step ((first | (go_at_call 12; exact kAh _))))
                refine wpQuiet_nil ?_
                intro _ hw'
                obtain ⟨p1, hw''⟩ := hw'
                subst hw''
                have B1 := p1.h
                have s1 := B1.size
                go_wp2_with fail
                haveI : Nonempty (Wb p1.u) := ⟨⟨p1.u, Below.refl _ _⟩⟩
                refine wp_region_below mixed (by kernel_rfl) ?_
                repeat (go_big_quiet_step (fail))
                refine wpQuiet_nil ?_
                intro _ hw'
                obtain ⟨p2, hw''⟩ := hw'
                subst hw''
                go_wp2
                go_roundw
                case rel => exact ⟨k + 1, by omega, by go_num, hid (below2 hBk.out (below2 B1 p2.h))⟩
                case measure => simp [intOf]; omega
              · go_wp2_with fail
                refine wp_region_below mixed (by kernel_rfl) ?_
                repeat (go_big_quiet_step ((first | (go_at_call 12; exact kAh _))))
                refine wpQuiet_nil ?_
                intro _ hw'
                obtain ⟨p1, hw''⟩ := hw'
                subst hw''
                have B1 := p1.h
                have s1 := B1.size
                go_wp2_with fail
                haveI : Nonempty (Wb p1.u) := ⟨⟨p1.u, Below.refl _ _⟩⟩
                have t0 : ∀ p : Wb p1.u, p.u.cell? ⟨g, o + i * 14 + 2, none⟩ = some (.int .i64 x.o.time) := fun p => (hX ⟨p.u, below2 B1 p.h⟩).c2
                have t1 : ∀ p : Wb p1.u, p.u.cell? ⟨g, o + k * 14 + 2, none⟩ = some (.int .i64 y.o.time) := fun p => (hY ⟨p.u, below2 B1 p.h⟩).c2
                have tb : decide (x.o.time < y.o.time) = false := by have := hT.out trivial; simp; omega
                refine wp_region_below mixed (by kernel_rfl) ?_
                repeat (go_big_quiet_step (fail))
                refine wpQuiet_nil ?_
                intro _ hw'
                obtain ⟨p2, hw''⟩ := hw'
                subst hw''
                go_wp2
                go_roundw
                case rel => exact ⟨k + 1, by omega, by go_num, hid (below2 hBk.out (below2 B1 p2.h))⟩
                case measure => simp [intOf]; omega
          · obtain rfl : k = i := by omega
            go_wp2
            go_roundw
            case rel => exact ⟨k + 1, by omega, by go_num, hid (below2 hBr.out hBk.out)⟩
            case measure => simp [intOf]; omega
      · obtain rfl : i = m := by omega
        have hosr := HA.out.below hBr.out
        have hVer := version_any a1 i c1 A wr hosr (fun x hx => ⟨(HB3.out x hx).1, (HB3.out x hx).2.1, (HB3.out x hx).2.2.1⟩) (by omega)
        generalize verv (A.map Mo.m) = V at *
        clear hosr
        go_wp2_with (first
          | (go_at_call 13; refine hVer.mono ?_; rintro e w5 hg5; obtain ⟨a5, c5, rfl, hp5, hB5⟩ := hg5.ans; clear hg5))
        have HP5 := hid hp5
        have B5 := hid (below2 hBr.out hB5)
        have hpn := hp5.cap
        clear hp5 hVer hB5
        go_loopw [11] (fun j wk => ∃ k : Nat, k ≤ mb ∧ j = .int .i64 k ∧ Hid (RowKit.Below w5.heap.size w5 wk)) (fun j _ => mb - (intOf j).toNat)
        case atStart => exact ⟨0, by omega, rfl, hid (Below.refl _ _)⟩
        case round =>
          obtain ⟨k, hk, rfl, hBk⟩ := hrel
          by_cases hkm : k < mb
          · have hosk := HBl.out.below (below2 B5.out hBk.out)
            have hkl : k < Bl.length := by rw [HBl.out.len]; exact hkm
            obtain ⟨g, o, rfl, hg, hcell⟩ := hosk.at (by omega)
            have hdep := hosk.deps _ (List.getElem_mem hkl)
            have hrd := HB2.out _ (List.getElem_mem hkl)
            obtain ⟨hfx, hnx⟩ := HB4.out _ (List.getElem_mem hkl)
            obtain ⟨z0, z1, z2, z3, z4, z5, z6, z7, z8, z9, z10, z11, z12, z13⟩ := hcell k hkl
            have kRe := ready_any a5 V.length c5 V Bl[k].o Bl[k].a Bl[k].n Bl[k].c Bl[k].V wr (HP5.out.below hBk.out) HV.out (by omega) hdep hnx hfx.key
            rw [hrd] at kRe
            generalize Bl[k] = x at *
            clear hosk hdep hrd hcell
            go_wp2_with (first
              | (go_at_call 7; refine kRe.mono ?_; rintro e w6 ⟨rfl, hF6⟩))
            go_roundw
            case rel => exact ⟨k + 1, by omega, by go_num, hid (below2 hBk.out hF6.below)⟩
            case measure => simp [intOf]; omega
          · obtain rfl : k = mb := by omega
            go_wp2
            go_ret
            exact ⟨rfl, below2 B4.out (below2 B5.out hBk.out)⟩
end Go.Proofs.Ytoapblojoblhiaa
