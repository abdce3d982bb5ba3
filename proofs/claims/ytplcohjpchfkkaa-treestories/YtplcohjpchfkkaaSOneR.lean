/- Stories: one, a case. -/
import Derived.Test.YtplcohjpchfkkaaSOneH
import Derived.Deep.RegionHeld
import Derived.Deep.CutRange
namespace Go.Proofs.Ytplcohjpchfkkaa
open Go.RowKit
open Go.Sort (grow)

set_option maxRecDepth 100000 in
set_option maxHeartbeats 40000000 in
theorem one_r (a : Option Addr) (n c : Nat) (L : List Mo) (xa : Option Addr) (xn xc : Nat) (V : List Dt) (act : Int) (m : Md) (w : World) (hs : OS w a n c L) (hv : PS w xa xn xc V) (hn : n ≤ 1000) (hxn : xn ≤ 1000000) (hV : VM V) (hm : m.Fits) (ha : F64 act) (hL : ∀ x ∈ L, x.o.Fits ∧ x.o.time ≤ 1099511627776 ∧ 1 ≤ x.o.id0) (hcC : ¬ blkL V L = [] ∧ ¬ 1 + absI m.kd % 3 = 3 ∧ 1 + absI m.kd % 3 = 2) :
    Calls Try.prog 47 #[.slice a n c, .slice xa xn xc, .int .i64 act, mv m] w fun e w' => ∃ o', e = .returned (ov o' (.slice xa xn xc)) ∧ o'.Fits ∧ o'.id0 = act ∧ o'.id1 = gt V act + 1 ∧ o'.time = latI V L 0 + 1 ∧ KD (L.map Mo.m) o' V ∧ RowKit.Below w.heap.size w w' := by
  have HcC := hid hcC
  clear hcC
  have hgt := hV.gt_bounds act
  have hlt0 := (latI_ge V L 0).1
  have hlt1 := latI_le V L 0 (M := 1099511627776) (by omega) (fun x hx => (hL x hx).2.1)
  have hkd := absI_bounds hm.kd
  go_enter Try.func47, Try.ntmps47
  go_upto_region 1 with fail
  obtain ⟨h0, h1, hsz, hB⟩ := two_new w (.cells m.cells 93) (.cells #[.int .i64 0, .int .i64 0, .int .i64 0, .slice none 0 0, .int .i64 0, .int .i64 0, .int .i64 0, .int .i64 0, .int .i64 0, .int .i64 0, .int .i64 0, .int .i64 0, .int .i64 0, .string { data := #[] }] 58)
  generalize (w.alloc (.cells m.cells 93)).alloc (.cells #[.int .i64 0, .int .i64 0, .int .i64 0, .slice none 0 0, .int .i64 0, .int .i64 0, .int .i64 0, .int .i64 0, .int .i64 0, .int .i64 0, .int .i64 0, .int .i64 0, .int .i64 0, .string { data := #[] }] 58) = W at *
  have c2 := (mdAt_of h0).c2
  have HSZ := hid hsz
  clear hsz
  generalize hG : gt V act = G at *
  generalize hT : latI V L 0 = T0 at *
  generalize hK : absI m.kd = K at *
  go_cut [9] from 16 to 32 (fun s wc => ∃ qo : Nat, s = .pointer (some ⟨qo, 0, none⟩) ∧ wc.heap[qo]? = some (.cells ((oneI act (G + 1) (T0 + 1) (1 + K % 3)).cells (.slice xa xn xc)) 58) ∧ W.heap.size ≤ qo ∧ Hid (RowKit.Below W.heap.size W wc))
  case first =>
    have hF1 : Far W W.drew := (Far.refl W).drew
    have hF2 : Far W (W.alloc (.cells #[.int .i64 0, .int .i64 0, .int .i64 0, .slice none 0 0, .int .i64 0, .int .i64 0, .int .i64 0, .int .i64 0, .int .i64 0, .int .i64 0, .int .i64 0, .int .i64 0, .int .i64 0, .string { data := #[] }] 58)).drew := ((Far.refl W).alloc _).drew
    have hSf : ∀ w1, Far W w1 → w1.cell? ⟨w.heap.size, 2, none⟩ = some (.int .i64 m.kd) := fun w1 F => (F.below.cell (cell_in c2)).trans c2
    have S1 := hSf _ hF1
    have S2 := hSf _ hF2
    have hSa : ∀ w1 (o : Obj), Far W w1 → (w1.alloc o).cell? ⟨w.heap.size, 2, none⟩ = some (.int .i64 m.kd) := fun w1 o F => hSf _ (F.alloc o)
    have hw1 : IntKind.i64.wrap (G + 1) = G + 1 := wrap_same (by omega) (by omega)
    have hw2 : IntKind.i64.wrap (T0 + 1) = T0 + 1 := wrap_same (by omega) (by omega)
    have hk3 : K.tmod 3 = K % 3 := Int.tmod_eq_emod_of_nonneg hkd.1
    have hw3 : IntKind.i64.wrap (1 + K % 3) = 1 + K % 3 := wrap_same (by omega) (by omega)
    have kG : ∀ W', Far W W' → Calls Try.prog 63 #[.slice xa xn xc, .int .i64 act] W' fun e w' => e = .returned (.int .i64 G) ∧ W' = w' := fun W' F => by
      have h := rget_any xa xn xc V act W' ((hv.below hB).far F) (by omega)
      rw [hG] at h
      exact h.mono fun _ _ ⟨h1, h2⟩ => ⟨h1, h2.symm⟩
    have kT : ∀ W', Far W W' → Calls Try.prog 66 #[.slice a n c, .slice xa xn xc] W' fun e w' => e = .returned (.int .i64 T0) ∧ Far W' w' := fun W' F => by
      have h := latest_any a n c L xa xn xc V W' ((hs.below hB).far F) ((hv.below hB).far F) hn hxn
      rw [hT] at h
      exact h
    have kA : ∀ W', Far W W' → Calls Try.prog 44 #[.int .i64 m.kd] W' fun e w' => e = .returned (.int .i64 K) ∧ W' = w' := fun W' _ => by
      have h := abs_any m.kd hm.kd W'
      rw [hK] at h
      exact h
    have hQ : ∀ w1, Far (W.alloc (.cells #[.int .i64 0, .int .i64 0, .int .i64 0, .slice none 0 0, .int .i64 0, .int .i64 0, .int .i64 0, .int .i64 0, .int .i64 0, .int .i64 0, .int .i64 0, .int .i64 0, .int .i64 0, .string { data := #[] }] 58)).drew w1 → w1.heap[W.heap.size]? = some (.cells (zop.cells (.slice none 0 0)) 58) := fun w1 h => (h.below.block _ (by show W.heap.size < (W.alloc _).heap.size; simp)).trans (MapKept.heap_alloc W _).1
    have hWl : w.heap.size < W.heap.size := cell_in c2
    have hne : W.heap.size ≠ w.heap.size := by omega
    clear hs hv hL h0 h1 hB hV
    go_region_held (fun w' => w'.cell? ⟨w.heap.size, 2, none⟩ = some (.int .i64 m.kd)) (first | with_reducible exact S1 | with_reducible exact S2 | with_reducible exact hSb | with_reducible exact hSa w1 _ F3 | (simp only [World.cell?_setCell_far, hne, ne_eq, not_false_eq_true, hSb]; done))
     (first
      | (go_at_call 66; with_reducible refine (kT _ hF2).mono ?_; rintro e w1 ⟨rfl, hkb⟩; have F3 := hF2.trans hkb; have hSb := hSf w1 F3; have hlw : w.heap.size < w1.heap.size := cell_in hSb; have hZ := hQ w1 hkb; obtain ⟨z0, z1, z2, z3, z4, z5, z6, z7, z8, z9, z10, z11, z12, z13⟩ := opAt_of_block hZ; have zf := frozen_of_block hZ)
      | (go_at_call 66; with_reducible refine (kT _ hF1).mono ?_; rintro e w1 ⟨rfl, hka⟩; have F3 := hF1.trans hka; have hSb := hSf w1 F3; have hlw : w.heap.size < w1.heap.size := cell_in hSb)
      | (go_at_call 63; have hq := F3; with_reducible refine (kG _ F3).mono ?_; rintro e w2 ⟨rfl, rfl⟩)
      | (go_at_call 63; have hq := F3; with_reducible refine (kG _ (F3.alloc (.cells #[.int .i64 0, .int .i64 0, .int .i64 0, .slice none 0 0, .int .i64 0, .int .i64 0, .int .i64 0, .int .i64 0, .int .i64 0, .int .i64 0, .int .i64 0, .int .i64 0, .int .i64 0, .string { data := #[] }] 58))).mono ?_; rintro e w2 ⟨rfl, rfl⟩)
      | (go_at_call 63; with_reducible refine (kG _ hF2).mono ?_; rintro e w2 ⟨rfl, rfl⟩)
      | (go_at_call 63; with_reducible refine (kG _ hF1).mono ?_; rintro e w2 ⟨rfl, rfl⟩)
      | (go_at_call 44; have hq := F3; with_reducible refine (kA _ F3).mono ?_; rintro e w2 ⟨rfl, rfl⟩)
      | (go_at_call 44; have hq := F3; with_reducible refine (kA _ (F3.alloc (.cells #[.int .i64 0, .int .i64 0, .int .i64 0, .slice none 0 0, .int .i64 0, .int .i64 0, .int .i64 0, .int .i64 0, .int .i64 0, .int .i64 0, .int .i64 0, .int .i64 0, .int .i64 0, .string { data := #[] }] 58))).mono ?_; rintro e w2 ⟨rfl, rfl⟩)
      | (go_at_call 44; with_reducible refine (kA _ hF2).mono ?_; rintro e w2 ⟨rfl, rfl⟩)
      | (go_at_call 44; with_reducible refine (kA _ hF1).mono ?_; rintro e w2 ⟨rfl, rfl⟩))
    all_goals first
      | (have hq := hkb
         obtain ⟨r1, r3⟩ := one_b hkb rfl (oneI act (G + 1) (T0 + 1) (1 + K % 3)) (.slice xa xn xc)
         try simp only [hw1, hw2, hw3]
         as_aux_lemma =>
         change Exit.then _ _ _ _ (put14 w1 W.heap.size (oneI act (G + 1) (T0 + 1) (1 + K % 3)) (.slice xa xn xc))
         generalize put14 w1 W.heap.size (oneI act (G + 1) (T0 + 1) (1 + K % 3)) (.slice xa xn xc) = X at r1 r3 ⊢
         go_wp2
         go_meet
         exact ⟨W.heap.size, rfl, r1, Nat.le_refl _, hid r3⟩)
      | (have hq := hka
         obtain ⟨r1, r2, r3⟩ := one_a F3 (.cells ((oneI act (G + 1) (T0 + 1) (1 + K % 3)).cells (.slice xa xn xc)) 58)
         try simp only [hw1, hw2, hw3]
         as_aux_lemma =>
         change Exit.then _ _ _ _ (w1.alloc (.cells ((oneI act (G + 1) (T0 + 1) (1 + K % 3)).cells (.slice xa xn xc)) 58))
         generalize w1.alloc (.cells ((oneI act (G + 1) (T0 + 1) (1 + K % 3)).cells (.slice xa xn xc)) 58) = X at r1 r3 ⊢
         go_wp2
         go_meet
         exact ⟨w1.heap.size, rfl, r1, r2, hid r3⟩)
  obtain ⟨qo, rfl, hqo, hql, hBc⟩ := hcut
  have hsW := hid ((hs.below hB).below hBc.out)
  have hvW := hid ((hv.below hB).below hBc.out)
  have hOV : Hid (OV w wc qo (oneI act (G + 1) (T0 + 1) (1 + K % 3)) (.slice xa xn xc) m) := hid ⟨(hBc.out.block _ (Array.getElem?_eq_some_iff.1 h0).1).trans h0, (hBc.out.block _ (Array.getElem?_eq_some_iff.1 h1).1).trans h1, hqo, by have := HSZ.out; omega, below2 hB hBc.out⟩
  have hlen := hs.len
  have HS := hid hs
  have HV := hid hv
  have HL := hid hL
  clear h0 h1 hqo hBc c2 hs hv hL hB
  go_wp2
  go_loopw [11, 10] (fun i v wr => ∃ k : Nat, k ≤ n ∧ i = .int .i64 k ∧ Hid (OwnV wr wc.heap.size v (blkL V (L.take k))) ∧ Hid (RowKit.Below wc.heap.size wc wr)) (fun i _ _ => n - (intOf i).toNat)
  case atStart => exact ⟨0, by omega, rfl, hid (World.ownsRow_nil _ _ _ _), hid (Below.refl _ _)⟩
  case round =>
    obtain ⟨k, hk, rfl, hO, hBr⟩ := hrel
    by_cases hlt : k < n
    · have hkl : k < L.length := by omega
      have hsr := hsW.out.below hBr.out
      obtain ⟨g, o, rfl, hg, hcell⟩ := hsr.at (by omega)
      have hX := hid (hcell k hkl)
      have c0 := hX.out.c0
      have c1 := hX.out.c1
      have hH := rhas_any xa xn xc V L[k].o.id wr (hvW.out.below hBr.out) (by omega)
      have hst0 := blkL_snoc V (L.take k) L[k]
      rw [← List.take_succ_eq_append_getElem hkl] at hst0
      have hbl : (blkL V (L.take k)).length ≤ k := by
        have := blkL_len V (L.take k)
        rw [List.length_take] at this
        omega
      generalize L[k] = x at *
      generalize blkL V (L.take k) = B at *
      generalize hEe : (if (hasv V x.o.id && (x.o.kind == 3) && ((x.o.bl0 == x.o.id0) && (x.o.bl1 == x.o.id1))) = true then [x.o.id] else []) = E at *
      have hE := hid hEe.symm
      have hst := hid hst0
      clear hcell hsr hEe hst0
      generalize hasv V x.o.id = r at *
      cases r
      · have hno : Hid (E = []) := hid (by rw [hE.out]; rfl)
        clear hE
        go_upto_region 7 with (first
          | (go_at_call 67; refine hH.mono ?_; rintro e w1 ⟨rfl, hF1⟩))
        haveI : Nonempty (Wb w1) := ⟨⟨w1, Below.refl _ _⟩⟩
        have hY : ∀ p : Wb w1, OpAtO p.u g (o + k * 14) x := fun p => hX.out.below (below2 hF1.below p.h) hg
        have y0 := fun p => (hY p).c0
        have y1 := fun p => (hY p).c1
        have y4 := fun p => (hY p).c4
        have y5 := fun p => (hY p).c5
        have y6 := fun p => (hY p).c6
        refine wp_region_below mixed (by kernel_rfl) ?_
        repeat (go_big_quiet_step (fail))
        refine wpQuiet_nil ?_
        intro _ hw'
        obtain ⟨p, hw''⟩ := hw'
        subst hw''
        go_wp2
        go_roundw
        case rel =>
          refine ⟨k + 1, by omega, by go_num, hid ?_, hid (below2 hBr.out (below2 hF1.below p.h))⟩
          rw [hst.out, hno.out, List.append_nil]
          exact own_kept_v hO.out (below2 hF1.below p.h)
        case measure => simp [intOf]; omega
      · by_cases e3 : x.o.kind = 3
        · have q3 : (x.o.kind == 3) = true := by simp [e3]
          by_cases e4 : x.o.bl0 = x.o.id0
          · have q4 : (x.o.bl0 == x.o.id0) = true := by simp [e4]
            by_cases e5 : x.o.bl1 = x.o.id1
            · have q5 : (x.o.bl1 == x.o.id1) = true := by simp [e5]
              have hyes : Hid (E = [x.o.id]) := hid (by rw [hE.out, q3, q4, q5]; rfl)
              clear e3 e4 e5 hE
              go_upto_region 7 with (first
                | (go_at_call 67; refine hH.mono ?_; rintro e w1 ⟨rfl, hF1⟩))
              haveI : Nonempty (Wb w1) := ⟨⟨w1, Below.refl _ _⟩⟩
              have hY : ∀ p : Wb w1, OpAtO p.u g (o + k * 14) x := fun p => hX.out.below (below2 hF1.below p.h) hg
              have y0 := fun p => (hY p).c0
              have y1 := fun p => (hY p).c1
              have y4 := fun p => (hY p).c4
              have y5 := fun p => (hY p).c5
              have y6 := fun p => (hY p).c6
              refine wp_region_below mixed (by kernel_rfl) ?_
              repeat (go_big_quiet_step (fail))
              refine wpQuiet_nil ?_
              intro _ hw'
              obtain ⟨p, hw''⟩ := hw'
              subst hw''
              have e0 := y0 p
              have e1 := y1 p
              have hBp := below2 hF1.below p.h
              have hsp := hBp.size
              have HO := hid (own_kept_v hO.out hBp)
              have hsr := hBr.out.size
              generalize p.u = w2 at *
              obtain ⟨l', hl'⟩ : ∃ l', (B).length = l' := ⟨_, rfl⟩
              go_wp2_with (first
                | (at_builtin; refine wpList_append_dots rfl _ _ 29 Try.underlying29 rfl wc.heap.size u10 l' _ rfl (by have := (HO.out : World.ownsRow _ _ _ _ _ _ _).alloc (.cells #[.int .i64 x.o.id0, .int .i64 x.o.id1] 24); rw [hl'] at this; exact this) (some ⟨w2.heap.size, 0, none⟩) 1 1 [x.o.id] rfl (ps_one w2 x.o.id) (by omega) (by simp; omega) ?_; intro v3 w3 ho3 hg3))
              go_roundw
              case rel =>
                refine ⟨k + 1, by omega, by go_num, hid ?_, hid ((((below2 hBr.out hBp).alloc (by omega) _).grown hg3 (by simp; omega) (fun j hj => ((HO.out : World.ownsRow _ _ _ _ _ _ _).lt j hj).1)))⟩
                rw [hst.out, hyes.out]
                show World.ownsRow _ _ _ _ _ (List.length _) _
                rw [List.length_append, flat_append, hl']
                exact ho3
              case measure => simp [intOf]; omega
            · have q5 : (x.o.bl1 == x.o.id1) = false := by simp [e5]
              have hno : Hid (E = []) := hid (by rw [hE.out, q3, q4, q5]; rfl)
              clear e3 e4 e5 hE
              go_upto_region 7 with (first
                | (go_at_call 67; refine hH.mono ?_; rintro e w1 ⟨rfl, hF1⟩))
              haveI : Nonempty (Wb w1) := ⟨⟨w1, Below.refl _ _⟩⟩
              have hY : ∀ p : Wb w1, OpAtO p.u g (o + k * 14) x := fun p => hX.out.below (below2 hF1.below p.h) hg
              have y0 := fun p => (hY p).c0
              have y1 := fun p => (hY p).c1
              have y4 := fun p => (hY p).c4
              have y5 := fun p => (hY p).c5
              have y6 := fun p => (hY p).c6
              refine wp_region_below mixed (by kernel_rfl) ?_
              repeat (go_big_quiet_step (fail))
              refine wpQuiet_nil ?_
              intro _ hw'
              obtain ⟨p, hw''⟩ := hw'
              subst hw''
              go_wp2
              go_roundw
              case rel =>
                refine ⟨k + 1, by omega, by go_num, hid ?_, hid (below2 hBr.out (below2 hF1.below p.h))⟩
                rw [hst.out, hno.out, List.append_nil]
                exact own_kept_v hO.out (below2 hF1.below p.h)
              case measure => simp [intOf]; omega
          · have q4 : (x.o.bl0 == x.o.id0) = false := by simp [e4]
            have hno : Hid (E = []) := hid (by rw [hE.out, q3, q4]; rfl)
            clear e3 e4 hE
            go_upto_region 7 with (first
              | (go_at_call 67; refine hH.mono ?_; rintro e w1 ⟨rfl, hF1⟩))
            haveI : Nonempty (Wb w1) := ⟨⟨w1, Below.refl _ _⟩⟩
            have hY : ∀ p : Wb w1, OpAtO p.u g (o + k * 14) x := fun p => hX.out.below (below2 hF1.below p.h) hg
            have y0 := fun p => (hY p).c0
            have y1 := fun p => (hY p).c1
            have y4 := fun p => (hY p).c4
            have y5 := fun p => (hY p).c5
            have y6 := fun p => (hY p).c6
            refine wp_region_below mixed (by kernel_rfl) ?_
            repeat (go_big_quiet_step (fail))
            refine wpQuiet_nil ?_
            intro _ hw'
            obtain ⟨p, hw''⟩ := hw'
            subst hw''
            go_wp2
            go_roundw
            case rel =>
              refine ⟨k + 1, by omega, by go_num, hid ?_, hid (below2 hBr.out (below2 hF1.below p.h))⟩
              rw [hst.out, hno.out, List.append_nil]
              exact own_kept_v hO.out (below2 hF1.below p.h)
            case measure => simp [intOf]; omega
        · have q3 : (x.o.kind == 3) = false := by simp [e3]
          have hno : Hid (E = []) := hid (by rw [hE.out, q3]; rfl)
          clear e3 hE
          go_upto_region 7 with (first
            | (go_at_call 67; refine hH.mono ?_; rintro e w1 ⟨rfl, hF1⟩))
          haveI : Nonempty (Wb w1) := ⟨⟨w1, Below.refl _ _⟩⟩
          have hY : ∀ p : Wb w1, OpAtO p.u g (o + k * 14) x := fun p => hX.out.below (below2 hF1.below p.h) hg
          have y0 := fun p => (hY p).c0
          have y1 := fun p => (hY p).c1
          have y4 := fun p => (hY p).c4
          have y5 := fun p => (hY p).c5
          have y6 := fun p => (hY p).c6
          refine wp_region_below mixed (by kernel_rfl) ?_
          repeat (go_big_quiet_step (fail))
          refine wpQuiet_nil ?_
          intro _ hw'
          obtain ⟨p, hw''⟩ := hw'
          subst hw''
          go_wp2
          go_roundw
          case rel =>
            refine ⟨k + 1, by omega, by go_num, hid ?_, hid (below2 hBr.out (below2 hF1.below p.h))⟩
            rw [hst.out, hno.out, List.append_nil]
            exact own_kept_v hO.out (below2 hF1.below p.h)
          case measure => simp [intOf]; omega
    · obtain rfl : n = k := by omega
      have hO' := hO.out
      rw [← hlen, List.take_length] at hO'
      have hOw := hOV.out.below hBr.out
      have hbl : (blkL V L).length ≤ 1000 := by have := blkL_len V L; omega
      have HBs : Hid (∀ b ∈ blkL V L, isBlk (L.map Mo.m) V b ∧ Dw b) := hid (fun b hb => by
        obtain ⟨h1, x, hx, e⟩ := blkL_is hb
        exact ⟨h1, by rw [← e]; exact ⟨((HL.out x hx).1).id0, ((HL.out x hx).1).id1⟩⟩)
      generalize hBB : blkL V L = Bs at *
      obtain ⟨ba, bc, rfl, hpb⟩ := owned_ps hO' rfl
      have HO := hid hO'
      clear hO hO'
      by_cases hmv : Bs = []
      ·
        exact absurd hmv HcC.out.1
      · have hl0 : 0 < Bs.length := List.length_pos_iff.2 hmv
        have hlb : ((Bs.length : Int) == 0) = false := by simp; omega
        by_cases hk3 : 1 + K % 3 = 3
        · rw [hk3] at hOw
          have ov := hOw
          have HO2 := hpb
          clear hOw hpb
          generalize wr = X at *
          exact absurd hk3 HcC.out.2.1
        ·
          clear hbl
          have hkd1 : 1 ≤ 1 + K % 3 ∧ 1 + K % 3 ≤ 2 := by omega
          generalize hkk : 1 + K % 3 = kd0 at *
          have hkb : (kd0 == 3) = false := by simp [hk3]
          have k1r := tmod_range (absI_bounds hm.ma).1 (show (0 : Int) < (Bs.length : Int) by omega)
          obtain ⟨k1, hk1⟩ := nat_of k1r.1
          have hk1l : k1 < Bs.length := by omega
          obtain ⟨gb, ob, rfl, d, hdm, _, q0, q1⟩ := ps_nth hpb hk1l
          have HD := hid (HBs.out d hdm)
          have hmaB := absI_bounds hm.ma
          obtain ⟨a0, a1, a2, a3, a4, a5, a6, a7, a8, a9, a10, a11, a12, a13⟩ := opAt_of_block hOw.h2
          obtain ⟨m0, m1, m2, m3, m4, m5⟩ := mdAt_of hOw.h0
          have zf := frozen_of_block hOw.h2
          have a4' : wr.cell? ⟨qo, 4, none⟩ = some (.int .i64 kd0) := a4
          clear a4 hkk
          have a4 := a4'
          clear a4'
          go_upto_region 14 with (first
            | (go_at_call 44; refine (abs_any m.ma hm.ma _).mono ?_; rintro e wq ⟨rfl, rfl⟩))
          have ov1 : OV w ((wr.setCell ⟨qo, 5, none⟩ (.int .i64 d.1)).setCell ⟨qo, 6, none⟩ (.int .i64 d.2)) qo { (oneI act (G + 1) (T0 + 1) kd0) with bl0 := d.1, bl1 := d.2 } (.slice xa xn xc) m := (hOw.set 5 _ rfl : OV w _ qo { (oneI act (G + 1) (T0 + 1) kd0) with bl0 := d.1 } (.slice xa xn xc) m).set 6 _ rfl
          clear a0 a1 a2 a3 a4 a5 a6 a7 a8 a9 a10 a11 a12 a13 m0 m1 m2 m3 m4 m5 zf hOw hpb hk1 k1r q0 q1 hk1l hlb HO hBr hOV hsW hvW
          generalize (wr.setCell ⟨qo, 5, none⟩ (.int .i64 d.1)).setCell ⟨qo, 6, none⟩ (.int .i64 d.2) = X1 at *
          have hsX := hid (HS.out.below ov1.hB)
          have hvX := hid (HV.out.below ov1.hB)
          have ov1H := hid ov1
          clear ov1
          go_wp2
          go_loopw [14, 13] (fun i v wr => ∃ k : Nat, k ≤ n ∧ i = .int .i64 k ∧ Hid (OwnV wr X1.heap.size v (chrL V d.1 d.2 (L.take k))) ∧ Hid (RowKit.Below X1.heap.size X1 wr)) (fun i _ _ => n - (intOf i).toNat)
          case atStart => exact ⟨0, by omega, rfl, hid (World.ownsRow_nil _ _ _ _), hid (Below.refl _ _)⟩
          case round =>
            obtain ⟨k, hk, rfl, hO, hBr⟩ := hrel
            by_cases hlt : k < n
            · have hkl : k < L.length := by omega
              have hsr := hsX.out.below hBr.out
              obtain ⟨g, o, rfl, hg, hcell⟩ := hsr.at (by omega)
              have hX := hid (hcell k hkl)
              have c0 := hX.out.c0
              have c1 := hX.out.c1
              have hH := rhas_any xa xn xc V L[k].o.id wr (hvX.out.below hBr.out) (by omega)
              have hst0 := chrL_snoc V d.1 d.2 (L.take k) L[k]
              rw [← List.take_succ_eq_append_getElem hkl] at hst0
              have hbl : (chrL V d.1 d.2 (L.take k)).length ≤ k := by
                have := chrL_len V d.1 d.2 (L.take k)
                rw [List.length_take] at this
                omega
              generalize L[k] = x at *
              generalize chrL V d.1 d.2 (L.take k) = B at *
              generalize hEe : (if (hasv V x.o.id && (x.o.kind == 1) && ((x.o.bl0 == d.1) && (x.o.bl1 == d.2))) = true then [x.o.id] else []) = E at *
              have hE := hid hEe.symm
              have hst := hid hst0
              clear hcell hsr hEe hst0
              generalize hasv V x.o.id = r at *
              cases r
              · have hno : Hid (E = []) := hid (by rw [hE.out]; rfl)
                clear hE
                go_upto_region 19 with (first
                  | (go_at_call 67; refine hH.mono ?_; rintro e w1 ⟨rfl, hF1⟩))
                haveI : Nonempty (Wb w1) := ⟨⟨w1, Below.refl _ _⟩⟩
                have hY : ∀ p : Wb w1, OpAtO p.u g (o + k * 14) x := fun p => hX.out.below (below2 hF1.below p.h) hg
                have y0 := fun p => (hY p).c0
                have y1 := fun p => (hY p).c1
                have y4 := fun p => (hY p).c4
                have y5 := fun p => (hY p).c5
                have y6 := fun p => (hY p).c6
                have hov := fun p : Wb w1 => opAt_of_block (ov1H.out.below (below2 hBr.out (below2 hF1.below p.h))).h2
                have o5 : ∀ p : Wb w1, p.u.cell? ⟨qo, 5, none⟩ = some (.int .i64 d.1) := fun p => (hov p).c5
                have o6 : ∀ p : Wb w1, p.u.cell? ⟨qo, 6, none⟩ = some (.int .i64 d.2) := fun p => (hov p).c6
                refine wp_region_below mixed (by kernel_rfl) ?_
                repeat (go_big_quiet_step (fail))
                refine wpQuiet_nil ?_
                intro _ hw'
                obtain ⟨p, hw''⟩ := hw'
                subst hw''
                go_wp2
                go_roundw
                case rel =>
                  refine ⟨k + 1, by omega, by go_num, hid ?_, hid (below2 hBr.out (below2 hF1.below p.h))⟩
                  rw [hst.out, hno.out, List.append_nil]
                  exact own_kept_v hO.out (below2 hF1.below p.h)
                case measure => simp [intOf]; omega
              · by_cases e3 : x.o.kind = 1
                · have q3 : (x.o.kind == 1) = true := by simp [e3]
                  by_cases e4 : x.o.bl0 = d.1
                  · have q4 : (x.o.bl0 == d.1) = true := by simp [e4]
                    by_cases e5 : x.o.bl1 = d.2
                    · have q5 : (x.o.bl1 == d.2) = true := by simp [e5]
                      have hyes : Hid (E = [x.o.id]) := hid (by rw [hE.out, q3, q4, q5]; rfl)
                      clear e3 e4 e5 hE
                      go_upto_region 19 with (first
                        | (go_at_call 67; refine hH.mono ?_; rintro e w1 ⟨rfl, hF1⟩))
                      haveI : Nonempty (Wb w1) := ⟨⟨w1, Below.refl _ _⟩⟩
                      have hY : ∀ p : Wb w1, OpAtO p.u g (o + k * 14) x := fun p => hX.out.below (below2 hF1.below p.h) hg
                      have y0 := fun p => (hY p).c0
                      have y1 := fun p => (hY p).c1
                      have y4 := fun p => (hY p).c4
                      have y5 := fun p => (hY p).c5
                      have y6 := fun p => (hY p).c6
                      have hov := fun p : Wb w1 => opAt_of_block (ov1H.out.below (below2 hBr.out (below2 hF1.below p.h))).h2
                      have o5 : ∀ p : Wb w1, p.u.cell? ⟨qo, 5, none⟩ = some (.int .i64 d.1) := fun p => (hov p).c5
                      have o6 : ∀ p : Wb w1, p.u.cell? ⟨qo, 6, none⟩ = some (.int .i64 d.2) := fun p => (hov p).c6
                      refine wp_region_below mixed (by kernel_rfl) ?_
                      repeat (go_big_quiet_step (fail))
                      refine wpQuiet_nil ?_
                      intro _ hw'
                      obtain ⟨p, hw''⟩ := hw'
                      subst hw''
                      have e0 := y0 p
                      have e1 := y1 p
                      have hBp := below2 hF1.below p.h
                      have hsp := hBp.size
                      have HO := hid (own_kept_v hO.out hBp)
                      have hsr := hBr.out.size
                      generalize p.u = w2 at *
                      obtain ⟨l', hl'⟩ : ∃ l', (B).length = l' := ⟨_, rfl⟩
                      go_wp2_with (first
                        | (at_builtin; refine wpList_append_dots rfl _ _ 29 Try.underlying29 rfl X1.heap.size u13 l' _ rfl (by have := (HO.out : World.ownsRow _ _ _ _ _ _ _).alloc (.cells #[.int .i64 x.o.id0, .int .i64 x.o.id1] 24); rw [hl'] at this; exact this) (some ⟨w2.heap.size, 0, none⟩) 1 1 [x.o.id] rfl (ps_one w2 x.o.id) (by omega) (by simp; omega) ?_; intro v3 w3 ho3 hg3))
                      go_roundw
                      case rel =>
                        refine ⟨k + 1, by omega, by go_num, hid ?_, hid ((((below2 hBr.out hBp).alloc (by omega) _).grown hg3 (by simp; omega) (fun j hj => ((HO.out : World.ownsRow _ _ _ _ _ _ _).lt j hj).1)))⟩
                        rw [hst.out, hyes.out]
                        show World.ownsRow _ _ _ _ _ (List.length _) _
                        rw [List.length_append, flat_append, hl']
                        exact ho3
                      case measure => simp [intOf]; omega
                    · have q5 : (x.o.bl1 == d.2) = false := by simp [e5]
                      have hno : Hid (E = []) := hid (by rw [hE.out, q3, q4, q5]; rfl)
                      clear e3 e4 e5 hE
                      go_upto_region 19 with (first
                        | (go_at_call 67; refine hH.mono ?_; rintro e w1 ⟨rfl, hF1⟩))
                      haveI : Nonempty (Wb w1) := ⟨⟨w1, Below.refl _ _⟩⟩
                      have hY : ∀ p : Wb w1, OpAtO p.u g (o + k * 14) x := fun p => hX.out.below (below2 hF1.below p.h) hg
                      have y0 := fun p => (hY p).c0
                      have y1 := fun p => (hY p).c1
                      have y4 := fun p => (hY p).c4
                      have y5 := fun p => (hY p).c5
                      have y6 := fun p => (hY p).c6
                      have hov := fun p : Wb w1 => opAt_of_block (ov1H.out.below (below2 hBr.out (below2 hF1.below p.h))).h2
                      have o5 : ∀ p : Wb w1, p.u.cell? ⟨qo, 5, none⟩ = some (.int .i64 d.1) := fun p => (hov p).c5
                      have o6 : ∀ p : Wb w1, p.u.cell? ⟨qo, 6, none⟩ = some (.int .i64 d.2) := fun p => (hov p).c6
                      refine wp_region_below mixed (by kernel_rfl) ?_
                      repeat (go_big_quiet_step (fail))
                      refine wpQuiet_nil ?_
                      intro _ hw'
                      obtain ⟨p, hw''⟩ := hw'
                      subst hw''
                      go_wp2
                      go_roundw
                      case rel =>
                        refine ⟨k + 1, by omega, by go_num, hid ?_, hid (below2 hBr.out (below2 hF1.below p.h))⟩
                        rw [hst.out, hno.out, List.append_nil]
                        exact own_kept_v hO.out (below2 hF1.below p.h)
                      case measure => simp [intOf]; omega
                  · have q4 : (x.o.bl0 == d.1) = false := by simp [e4]
                    have hno : Hid (E = []) := hid (by rw [hE.out, q3, q4]; rfl)
                    clear e3 e4 hE
                    go_upto_region 19 with (first
                      | (go_at_call 67; refine hH.mono ?_; rintro e w1 ⟨rfl, hF1⟩))
                    haveI : Nonempty (Wb w1) := ⟨⟨w1, Below.refl _ _⟩⟩
                    have hY : ∀ p : Wb w1, OpAtO p.u g (o + k * 14) x := fun p => hX.out.below (below2 hF1.below p.h) hg
                    have y0 := fun p => (hY p).c0
                    have y1 := fun p => (hY p).c1
                    have y4 := fun p => (hY p).c4
                    have y5 := fun p => (hY p).c5
                    have y6 := fun p => (hY p).c6
                    have hov := fun p : Wb w1 => opAt_of_block (ov1H.out.below (below2 hBr.out (below2 hF1.below p.h))).h2
                    have o5 : ∀ p : Wb w1, p.u.cell? ⟨qo, 5, none⟩ = some (.int .i64 d.1) := fun p => (hov p).c5
                    have o6 : ∀ p : Wb w1, p.u.cell? ⟨qo, 6, none⟩ = some (.int .i64 d.2) := fun p => (hov p).c6
                    refine wp_region_below mixed (by kernel_rfl) ?_
                    repeat (go_big_quiet_step (fail))
                    refine wpQuiet_nil ?_
                    intro _ hw'
                    obtain ⟨p, hw''⟩ := hw'
                    subst hw''
                    go_wp2
                    go_roundw
                    case rel =>
                      refine ⟨k + 1, by omega, by go_num, hid ?_, hid (below2 hBr.out (below2 hF1.below p.h))⟩
                      rw [hst.out, hno.out, List.append_nil]
                      exact own_kept_v hO.out (below2 hF1.below p.h)
                    case measure => simp [intOf]; omega
                · have q3 : (x.o.kind == 1) = false := by simp [e3]
                  have hno : Hid (E = []) := hid (by rw [hE.out, q3]; rfl)
                  clear e3 hE
                  go_upto_region 19 with (first
                    | (go_at_call 67; refine hH.mono ?_; rintro e w1 ⟨rfl, hF1⟩))
                  haveI : Nonempty (Wb w1) := ⟨⟨w1, Below.refl _ _⟩⟩
                  have hY : ∀ p : Wb w1, OpAtO p.u g (o + k * 14) x := fun p => hX.out.below (below2 hF1.below p.h) hg
                  have y0 := fun p => (hY p).c0
                  have y1 := fun p => (hY p).c1
                  have y4 := fun p => (hY p).c4
                  have y5 := fun p => (hY p).c5
                  have y6 := fun p => (hY p).c6
                  have hov := fun p : Wb w1 => opAt_of_block (ov1H.out.below (below2 hBr.out (below2 hF1.below p.h))).h2
                  have o5 : ∀ p : Wb w1, p.u.cell? ⟨qo, 5, none⟩ = some (.int .i64 d.1) := fun p => (hov p).c5
                  have o6 : ∀ p : Wb w1, p.u.cell? ⟨qo, 6, none⟩ = some (.int .i64 d.2) := fun p => (hov p).c6
                  refine wp_region_below mixed (by kernel_rfl) ?_
                  repeat (go_big_quiet_step (fail))
                  refine wpQuiet_nil ?_
                  intro _ hw'
                  obtain ⟨p, hw''⟩ := hw'
                  subst hw''
                  go_wp2
                  go_roundw
                  case rel =>
                    refine ⟨k + 1, by omega, by go_num, hid ?_, hid (below2 hBr.out (below2 hF1.below p.h))⟩
                    rw [hst.out, hno.out, List.append_nil]
                    exact own_kept_v hO.out (below2 hF1.below p.h)
                  case measure => simp [intOf]; omega
            · obtain rfl : n = k := by omega
              have hO' := hO.out
              rw [← hlen, List.take_length] at hO'
              have ov2 := ov1H.out.below hBr.out
              have hcl : (chrL V d.1 d.2 L).length ≤ 1000 := by have := chrL_len V d.1 d.2 L; omega
              have HCs : Hid (∀ b ∈ chrL V d.1 d.2 L, isChr (L.map Mo.m) V d.1 d.2 b ∧ Dw b ∧ 1 ≤ b.2 ∧ 1 ≤ b.1) := hid (fun b hb => by
                obtain ⟨h1, x, hx, e, hh⟩ := chrL_is hb
                have := ((mayd_iff _).1 (hasv_iff.1 hh).1).2.2.1
                exact ⟨h1, by rw [← e]; exact ⟨((HL.out x hx).1).id0, ((HL.out x hx).1).id1⟩, by rw [← e]; exact this, by rw [← e]; exact (HL.out x hx).2.2⟩)
              generalize hCC : chrL V d.1 d.2 L = Cs at *
              obtain ⟨ca, cc, rfl, hpc⟩ := owned_ps hO' rfl
              have kAk : ∀ W', Calls Try.prog 44 #[.int .i64 m.kd] W' fun e w' => e = .returned (.int .i64 K) ∧ W' = w' := fun W' => by
                have h := abs_any m.kd hm.kd W'
                rw [hK] at h
                exact h
              have kAn : ∀ W', Calls Try.prog 44 #[.int .i64 m.kn] W' fun e w' => e = .returned (.int .i64 (absI m.kn)) ∧ W' = w' := fun W' => abs_any m.kn hm.kn W'
              have kAb : ∀ W', Calls Try.prog 44 #[.int .i64 m.mb] W' fun e w' => e = .returned (.int .i64 (absI m.mb)) ∧ W' = w' := fun W' => abs_any m.mb hm.mb W'
              have hnB := absI_bounds hm.kn
              have hbB := absI_bounds hm.mb
              clear hO hO' hCC hsX hvX
              by_cases hcs : Cs = []
              · subst hcs
                by_cases h5 : absI m.mb % 5 = 0
                · have h5b : (absI m.mb % 5 == 0) = true := by simp [h5]
                  have hq2 := ov2.hq
                  have n1 : qo ≠ w.heap.size := by omega
                  have n2 : w.heap.size ≠ qo := by omega
                  have n3 : qo ≠ w.heap.size + 1 := by omega
                  have n4 : w.heap.size + 1 ≠ qo := by omega
                  obtain ⟨a0, a1, a2, a3, a4, a5, a6, a7, a8, a9, a10, a11, a12, a13⟩ := opAt_of_block ov2.h2
                  obtain ⟨m0, m1, m2, m3, m4, m5⟩ := mdAt_of ov2.h0
                  have zf := frozen_of_block ov2.h2
                  have b4 : wr.cell? ⟨qo, 4, none⟩ = some (.int .i64 (kd0)) := a4
                  have b7 : wr.cell? ⟨qo, 7, none⟩ = some (.int .i64 (0)) := a7
                  have b8 : wr.cell? ⟨qo, 8, none⟩ = some (.int .i64 (0)) := a8
                  clear a4 a7 a8
                  go_upto_region 27 with (first
                    | (go_at_call 44; with_reducible refine (kAk _).mono ?_; rintro e wq ⟨rfl, rfl⟩))
                  have ovs0 : OV w (((wr.setCell ⟨qo, 4, none⟩ (.int .i64 1)).setCell ⟨qo, 9, none⟩ (.int .i64 1)).setCell ⟨qo, 10, none⟩ (.int .i64 (97 + K % 26))) qo ({ { (oneI act (G + 1) (T0 + 1) kd0) with bl0 := d.1, bl1 := d.2 } with kind := 1, side := 1, char := (97 + K % 26) }) (.slice xa xn xc) m := (((ov2.set 4 _ rfl : OV w _ qo ({ { (oneI act (G + 1) (T0 + 1) kd0) with bl0 := d.1, bl1 := d.2 } with kind := 1 }) (.slice xa xn xc) m).set 9 _ rfl : OV w _ qo ({ { (oneI act (G + 1) (T0 + 1) kd0) with bl0 := d.1, bl1 := d.2 } with kind := 1, side := 1 }) (.slice xa xn xc) m).set 10 _ rfl : OV w _ qo ({ { (oneI act (G + 1) (T0 + 1) kd0) with bl0 := d.1, bl1 := d.2 } with kind := 1, side := 1, char := (97 + K % 26) }) (.slice xa xn xc) m)
                  clear a0 a1 a2 a3 a5 a6 a9 a10 a11 a12 a13 m0 m1 m2 m3 m4 m5 b4 b7 b8 zf ov2 
                  generalize (((wr.setCell ⟨qo, 4, none⟩ (.int .i64 1)).setCell ⟨qo, 9, none⟩ (.int .i64 1)).setCell ⟨qo, 10, none⟩ (.int .i64 (97 + K % 26))) = Xs0 at *
                  obtain ⟨a0, a1, a2, a3, a4, a5, a6, a7, a8, a9, a10, a11, a12, a13⟩ := opAt_of_block ovs0.h2
                  obtain ⟨m0, m1, m2, m3, m4, m5⟩ := mdAt_of ovs0.h0
                  have zf := frozen_of_block ovs0.h2
                  have b4 : Xs0.cell? ⟨qo, 4, none⟩ = some (.int .i64 (1)) := a4
                  have b7 : Xs0.cell? ⟨qo, 7, none⟩ = some (.int .i64 (0)) := a7
                  have b8 : Xs0.cell? ⟨qo, 8, none⟩ = some (.int .i64 (0)) := a8
                  clear a4 a7 a8
                  go_upto_region 32 with (first
                    | (go_at_call 44; with_reducible refine (kAb _).mono ?_; rintro e wq ⟨rfl, rfl⟩))
                  have ovs1 : OV w (((Xs0.setCell ⟨qo, 7, none⟩ (.int .i64 0)).setCell ⟨qo, 8, none⟩ (.int .i64 0)).setCell ⟨qo, 9, none⟩ (.int .i64 1)) qo ({ { (oneI act (G + 1) (T0 + 1) kd0) with bl0 := d.1, bl1 := d.2 } with kind := 1, side := 1, char := (97 + K % 26), at0 := 0, at1 := 0 }) (.slice xa xn xc) m := (((ovs0.set 7 _ rfl : OV w _ qo ({ { (oneI act (G + 1) (T0 + 1) kd0) with bl0 := d.1, bl1 := d.2 } with kind := 1, side := 1, char := (97 + K % 26), at0 := 0 }) (.slice xa xn xc) m).set 8 _ rfl : OV w _ qo ({ { (oneI act (G + 1) (T0 + 1) kd0) with bl0 := d.1, bl1 := d.2 } with kind := 1, side := 1, char := (97 + K % 26), at0 := 0, at1 := 0 }) (.slice xa xn xc) m).set 9 _ rfl : OV w _ qo ({ { (oneI act (G + 1) (T0 + 1) kd0) with bl0 := d.1, bl1 := d.2 } with kind := 1, side := 1, char := (97 + K % 26), at0 := 0, at1 := 0 }) (.slice xa xn xc) m)
                  clear a0 a1 a2 a3 a5 a6 a9 a10 a11 a12 a13 m0 m1 m2 m3 m4 m5 b4 b7 b8 zf ovs0 
                  generalize (((Xs0.setCell ⟨qo, 7, none⟩ (.int .i64 0)).setCell ⟨qo, 8, none⟩ (.int .i64 0)).setCell ⟨qo, 9, none⟩ (.int .i64 1)) = Xs1 at *
                  obtain ⟨oF, hoF⟩ : ∃ oF : OpIn, ({ { (oneI act (G + 1) (T0 + 1) kd0) with bl0 := d.1, bl1 := d.2 } with kind := 1, side := 1, char := (97 + K % 26), at0 := 0, at1 := 0 } : OpIn) = oF := ⟨_, rfl⟩
                  rw [hoF] at ovs1
                  have HF := hid hoF
                  clear hoF
                  obtain ⟨a0, a1, a2, a3, a4, a5, a6, a7, a8, a9, a10, a11, a12, a13⟩ := opAt_of_block ovs1.h2
                  obtain ⟨z0, z1, z2, z3, z4, z5, z6, z7, z8, z9, z10, z11, z12, z13⟩ := opAt_of_block ovs1.h1
                  have zf := frozen_of_block ovs1.h1
                  go_wp2
                  change bodyPost _ _ _ _ _ (put14 Xs1 (w.heap.size + 1) oF (.slice xa xn xc))
                  have hpb2 := put14_block (o := oF) (v := .slice xa xn xc) ovs1.h1
                  have hBe : RowKit.Below w.heap.size w (put14 Xs1 (w.heap.size + 1) oF (.slice xa xn xc)) := ovs1.hB.grown (put14_grown Xs1 (w.heap.size + 1) _ _) (by have := (Array.getElem?_eq_some_iff.1 ovs1.h1).1; omega) (fun j hj => by cases hj; omega)
                  generalize put14 Xs1 (w.heap.size + 1) oF (.slice xa xn xc) = WE at *
                  obtain ⟨r0, r1, r2, r3, r4, r5, r6, r7, r8, r9, r10, r11, r12, r13⟩ := opAt_of_block hpb2
                  refine bodyPost_ret (v := ov oF (.slice xa xn xc)) (by simp [results, Try.results47, go_sem, r0, r1, r2, r3, r4, r5, r6, r7, r8, r9, r10, r11, r12, r13, OpIn.cells]) rfl ⟨oF, rfl, ?_, ?_, ?_, ?_, ?_, hBe⟩
                  · rw [← HF.out]; exact fits_all (i1 := G + 1) (t := T0 + 1) (k := 1) (a0 := 0) (a1 := 0) (s := 1) (c := 97 + K % 26) (wf_of ha) (wf_b (by omega) (by omega)) (wf_b (by omega) (by omega)) (by decide) HD.out.2.1 HD.out.2.2 (by decide) (by decide) (wf_b (by omega) (by omega)) (wf_b (by omega) (by omega))
                  · rw [← HF.out]; rfl
                  · rw [← HF.out]; exact (by show G + 1 = _; rw [← hG])
                  · rw [← HF.out]; exact (by show T0 + 1 = _; rw [← hT])
                  · rw [← HF.out]; exact Or.inr (Or.inl ⟨rfl, HD.out.1, Or.inl ⟨rfl, rfl, rfl⟩⟩)
                · have h5b : (absI m.mb % 5 == 0) = false := by simp [h5]
                  have hq2 := ov2.hq
                  have n1 : qo ≠ w.heap.size := by omega
                  have n2 : w.heap.size ≠ qo := by omega
                  have n3 : qo ≠ w.heap.size + 1 := by omega
                  have n4 : w.heap.size + 1 ≠ qo := by omega
                  obtain ⟨a0, a1, a2, a3, a4, a5, a6, a7, a8, a9, a10, a11, a12, a13⟩ := opAt_of_block ov2.h2
                  obtain ⟨m0, m1, m2, m3, m4, m5⟩ := mdAt_of ov2.h0
                  have zf := frozen_of_block ov2.h2
                  have b4 : wr.cell? ⟨qo, 4, none⟩ = some (.int .i64 (kd0)) := a4
                  have b7 : wr.cell? ⟨qo, 7, none⟩ = some (.int .i64 (0)) := a7
                  have b8 : wr.cell? ⟨qo, 8, none⟩ = some (.int .i64 (0)) := a8
                  clear a4 a7 a8
                  go_upto_region 27 with (first
                    | (go_at_call 44; with_reducible refine (kAk _).mono ?_; rintro e wq ⟨rfl, rfl⟩))
                  have ovs0 : OV w (((wr.setCell ⟨qo, 4, none⟩ (.int .i64 1)).setCell ⟨qo, 9, none⟩ (.int .i64 1)).setCell ⟨qo, 10, none⟩ (.int .i64 (97 + K % 26))) qo ({ { (oneI act (G + 1) (T0 + 1) kd0) with bl0 := d.1, bl1 := d.2 } with kind := 1, side := 1, char := (97 + K % 26) }) (.slice xa xn xc) m := (((ov2.set 4 _ rfl : OV w _ qo ({ { (oneI act (G + 1) (T0 + 1) kd0) with bl0 := d.1, bl1 := d.2 } with kind := 1 }) (.slice xa xn xc) m).set 9 _ rfl : OV w _ qo ({ { (oneI act (G + 1) (T0 + 1) kd0) with bl0 := d.1, bl1 := d.2 } with kind := 1, side := 1 }) (.slice xa xn xc) m).set 10 _ rfl : OV w _ qo ({ { (oneI act (G + 1) (T0 + 1) kd0) with bl0 := d.1, bl1 := d.2 } with kind := 1, side := 1, char := (97 + K % 26) }) (.slice xa xn xc) m)
                  clear a0 a1 a2 a3 a5 a6 a9 a10 a11 a12 a13 m0 m1 m2 m3 m4 m5 b4 b7 b8 zf ov2 
                  generalize (((wr.setCell ⟨qo, 4, none⟩ (.int .i64 1)).setCell ⟨qo, 9, none⟩ (.int .i64 1)).setCell ⟨qo, 10, none⟩ (.int .i64 (97 + K % 26))) = Xs0 at *
                  obtain ⟨a0, a1, a2, a3, a4, a5, a6, a7, a8, a9, a10, a11, a12, a13⟩ := opAt_of_block ovs0.h2
                  obtain ⟨m0, m1, m2, m3, m4, m5⟩ := mdAt_of ovs0.h0
                  have zf := frozen_of_block ovs0.h2
                  have b4 : Xs0.cell? ⟨qo, 4, none⟩ = some (.int .i64 (1)) := a4
                  have b7 : Xs0.cell? ⟨qo, 7, none⟩ = some (.int .i64 (0)) := a7
                  have b8 : Xs0.cell? ⟨qo, 8, none⟩ = some (.int .i64 (0)) := a8
                  clear a4 a7 a8
                  go_upto_region 32 with (first
                    | (go_at_call 44; with_reducible refine (kAb _).mono ?_; rintro e wq ⟨rfl, rfl⟩))
                  have ovs1 : OV w Xs0 qo ({ { (oneI act (G + 1) (T0 + 1) kd0) with bl0 := d.1, bl1 := d.2 } with kind := 1, side := 1, char := (97 + K % 26) }) (.slice xa xn xc) m := ovs0
                  clear a0 a1 a2 a3 a5 a6 a9 a10 a11 a12 a13 m0 m1 m2 m3 m4 m5 b4 b7 b8 zf ovs0 
                  generalize Xs0 = Xs1 at *
                  obtain ⟨oF, hoF⟩ : ∃ oF : OpIn, ({ { (oneI act (G + 1) (T0 + 1) kd0) with bl0 := d.1, bl1 := d.2 } with kind := 1, side := 1, char := (97 + K % 26) } : OpIn) = oF := ⟨_, rfl⟩
                  rw [hoF] at ovs1
                  have HF := hid hoF
                  clear hoF
                  obtain ⟨a0, a1, a2, a3, a4, a5, a6, a7, a8, a9, a10, a11, a12, a13⟩ := opAt_of_block ovs1.h2
                  obtain ⟨z0, z1, z2, z3, z4, z5, z6, z7, z8, z9, z10, z11, z12, z13⟩ := opAt_of_block ovs1.h1
                  have zf := frozen_of_block ovs1.h1
                  go_wp2
                  change bodyPost _ _ _ _ _ (put14 Xs1 (w.heap.size + 1) oF (.slice xa xn xc))
                  have hpb2 := put14_block (o := oF) (v := .slice xa xn xc) ovs1.h1
                  have hBe : RowKit.Below w.heap.size w (put14 Xs1 (w.heap.size + 1) oF (.slice xa xn xc)) := ovs1.hB.grown (put14_grown Xs1 (w.heap.size + 1) _ _) (by have := (Array.getElem?_eq_some_iff.1 ovs1.h1).1; omega) (fun j hj => by cases hj; omega)
                  generalize put14 Xs1 (w.heap.size + 1) oF (.slice xa xn xc) = WE at *
                  obtain ⟨r0, r1, r2, r3, r4, r5, r6, r7, r8, r9, r10, r11, r12, r13⟩ := opAt_of_block hpb2
                  refine bodyPost_ret (v := ov oF (.slice xa xn xc)) (by simp [results, Try.results47, go_sem, r0, r1, r2, r3, r4, r5, r6, r7, r8, r9, r10, r11, r12, r13, OpIn.cells]) rfl ⟨oF, rfl, ?_, ?_, ?_, ?_, ?_, hBe⟩
                  · rw [← HF.out]; exact fits_all (i1 := G + 1) (t := T0 + 1) (k := 1) (a0 := 0) (a1 := 0) (s := 1) (c := 97 + K % 26) (wf_of ha) (wf_b (by omega) (by omega)) (wf_b (by omega) (by omega)) (by decide) HD.out.2.1 HD.out.2.2 (by decide) (by decide) (wf_b (by omega) (by omega)) (wf_b (by omega) (by omega))
                  · rw [← HF.out]; rfl
                  · rw [← HF.out]; exact (by show G + 1 = _; rw [← hG])
                  · rw [← HF.out]; exact (by show T0 + 1 = _; rw [← hT])
                  · rw [← HF.out]; exact Or.inr (Or.inl ⟨rfl, HD.out.1, Or.inl ⟨rfl, rfl, rfl⟩⟩)
              · have hl1 : 0 < Cs.length := List.length_pos_iff.2 hcs
                have hlc : ((Cs.length : Int) == 0) = false := by simp; omega
                have k2r := tmod_range hbB.1 (show (0 : Int) < (Cs.length : Int) by omega)
                obtain ⟨k2, hk2⟩ := nat_of k2r.1
                have hk2l : k2 < Cs.length := by omega
                obtain ⟨gc, oc, rfl, dd, hdd, _, p0, p1⟩ := ps_nth hpc hk2l
                have HC := hid (HCs.out dd hdd)
                have hd2 : (dd.2 == 0) = false := by have := HC.out.2.2.1; simp; omega
                have hd1 : (dd.1 == 0) = false := by have := HC.out.2.2.2; simp; omega
                have hd4 : (dd.2 != 0) = true := by have := HC.out.2.2.1; simp; omega
                have hd3 : (dd.1 != 0) = true := by have := HC.out.2.2.2; simp; omega
                by_cases hk1 : kd0 = 1
                ·
                  exact absurd (hk1.symm.trans HcC.out.2.2) (by decide)
                · obtain rfl : kd0 = 2 := by omega
                  have hq2 := ov2.hq
                  have n1 : qo ≠ w.heap.size := by omega
                  have n2 : w.heap.size ≠ qo := by omega
                  have n3 : qo ≠ w.heap.size + 1 := by omega
                  have n4 : w.heap.size + 1 ≠ qo := by omega
                  obtain ⟨a0, a1, a2, a3, a4, a5, a6, a7, a8, a9, a10, a11, a12, a13⟩ := opAt_of_block ov2.h2
                  obtain ⟨m0, m1, m2, m3, m4, m5⟩ := mdAt_of ov2.h0
                  have zf := frozen_of_block ov2.h2
                  have b4 : wr.cell? ⟨qo, 4, none⟩ = some (.int .i64 (2)) := a4
                  have b7 : wr.cell? ⟨qo, 7, none⟩ = some (.int .i64 (0)) := a7
                  have b8 : wr.cell? ⟨qo, 8, none⟩ = some (.int .i64 (0)) := a8
                  clear a4 a7 a8
                  go_upto_region 24 with (first
                    | (go_at_call 44; with_reducible refine (kAb _).mono ?_; rintro e wq ⟨rfl, rfl⟩))
                  have ovs0 : OV w ((wr.setCell ⟨qo, 7, none⟩ (.int .i64 dd.1)).setCell ⟨qo, 8, none⟩ (.int .i64 dd.2)) qo ({ { (oneI act (G + 1) (T0 + 1) 2) with bl0 := d.1, bl1 := d.2 } with at0 := dd.1, at1 := dd.2 }) (.slice xa xn xc) m := ((ov2.set 7 _ rfl : OV w _ qo ({ { (oneI act (G + 1) (T0 + 1) 2) with bl0 := d.1, bl1 := d.2 } with at0 := dd.1 }) (.slice xa xn xc) m).set 8 _ rfl : OV w _ qo ({ { (oneI act (G + 1) (T0 + 1) 2) with bl0 := d.1, bl1 := d.2 } with at0 := dd.1, at1 := dd.2 }) (.slice xa xn xc) m)
                  clear a0 a1 a2 a3 a5 a6 a9 a10 a11 a12 a13 m0 m1 m2 m3 m4 m5 b4 b7 b8 zf ov2 p0 p1 hlc
                  generalize ((wr.setCell ⟨qo, 7, none⟩ (.int .i64 dd.1)).setCell ⟨qo, 8, none⟩ (.int .i64 dd.2)) = Xs0 at *
                  obtain ⟨a0, a1, a2, a3, a4, a5, a6, a7, a8, a9, a10, a11, a12, a13⟩ := opAt_of_block ovs0.h2
                  obtain ⟨m0, m1, m2, m3, m4, m5⟩ := mdAt_of ovs0.h0
                  have zf := frozen_of_block ovs0.h2
                  have b4 : Xs0.cell? ⟨qo, 4, none⟩ = some (.int .i64 (2)) := a4
                  have b7 : Xs0.cell? ⟨qo, 7, none⟩ = some (.int .i64 (dd.1)) := a7
                  have b8 : Xs0.cell? ⟨qo, 8, none⟩ = some (.int .i64 (dd.2)) := a8
                  clear a4 a7 a8
                  go_upto_region 32 with (first
                    | (go_at_call 44; with_reducible refine (kAb _).mono ?_; rintro e wq ⟨rfl, rfl⟩))
                  have ovs1 : OV w Xs0 qo ({ { (oneI act (G + 1) (T0 + 1) 2) with bl0 := d.1, bl1 := d.2 } with at0 := dd.1, at1 := dd.2 }) (.slice xa xn xc) m := ovs0
                  clear a0 a1 a2 a3 a5 a6 a9 a10 a11 a12 a13 m0 m1 m2 m3 m4 m5 b4 b7 b8 zf ovs0 
                  generalize Xs0 = Xs1 at *
                  obtain ⟨oF, hoF⟩ : ∃ oF : OpIn, ({ { (oneI act (G + 1) (T0 + 1) 2) with bl0 := d.1, bl1 := d.2 } with at0 := dd.1, at1 := dd.2 } : OpIn) = oF := ⟨_, rfl⟩
                  rw [hoF] at ovs1
                  have HF := hid hoF
                  clear hoF
                  obtain ⟨a0, a1, a2, a3, a4, a5, a6, a7, a8, a9, a10, a11, a12, a13⟩ := opAt_of_block ovs1.h2
                  obtain ⟨z0, z1, z2, z3, z4, z5, z6, z7, z8, z9, z10, z11, z12, z13⟩ := opAt_of_block ovs1.h1
                  have zf := frozen_of_block ovs1.h1
                  go_wp2
                  change bodyPost _ _ _ _ _ (put14 Xs1 (w.heap.size + 1) oF (.slice xa xn xc))
                  have hpb2 := put14_block (o := oF) (v := .slice xa xn xc) ovs1.h1
                  have hBe : RowKit.Below w.heap.size w (put14 Xs1 (w.heap.size + 1) oF (.slice xa xn xc)) := ovs1.hB.grown (put14_grown Xs1 (w.heap.size + 1) _ _) (by have := (Array.getElem?_eq_some_iff.1 ovs1.h1).1; omega) (fun j hj => by cases hj; omega)
                  generalize put14 Xs1 (w.heap.size + 1) oF (.slice xa xn xc) = WE at *
                  obtain ⟨r0, r1, r2, r3, r4, r5, r6, r7, r8, r9, r10, r11, r12, r13⟩ := opAt_of_block hpb2
                  refine bodyPost_ret (v := ov oF (.slice xa xn xc)) (by simp [results, Try.results47, go_sem, r0, r1, r2, r3, r4, r5, r6, r7, r8, r9, r10, r11, r12, r13, OpIn.cells]) rfl ⟨oF, rfl, ?_, ?_, ?_, ?_, ?_, hBe⟩
                  · rw [← HF.out]; exact fits_all (i1 := G + 1) (t := T0 + 1) (k := 2) (a0 := dd.1) (a1 := dd.2) (s := 0) (c := 0) (wf_of ha) (wf_b (by omega) (by omega)) (wf_b (by omega) (by omega)) (by decide) HD.out.2.1 HD.out.2.2 (HC.out.2.1.1) (HC.out.2.1.2) (wf_b (by omega) (by omega)) (wf_b (by omega) (by omega))
                  · rw [← HF.out]; rfl
                  · rw [← HF.out]; exact (by show G + 1 = _; rw [← hG])
                  · rw [← HF.out]; exact (by show T0 + 1 = _; rw [← hT])
                  · rw [← HF.out]; exact Or.inr (Or.inr ⟨rfl, HD.out.1, HC.out.1⟩)
end Go.Proofs.Ytplcohjpchfkkaa
