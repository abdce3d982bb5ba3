/- The reference's Rows and Right. -/
import Derived.Test.YtlncokkpdkddlaaGreatROrdB
import Derived.Test.YtlncokkpdkddlaaGreatRMathB
import Derived.Test.YtlncokkpdkddlaaGreatORSame
namespace Go.Proofs.YtlncokkpdkddlaaGreat
open Go.RowKit
open Go.Sort (grow)

theorem os_at {w : World} {g o n c : Nat} {L : List Mo} (h : OS w (some ⟨g, o, none⟩) n c L) {i : Nat} (hi : i < L.length) : OpAtO w g (o + i * 14) L[i] := by
  obtain ⟨g', o', e, _, hc⟩ := h.at (by rw [← h.len]; omega)
  cases e
  exact hc i hi

set_option maxRecDepth 100000 in
set_option maxHeartbeats 4000000 in
theorem rows_any (a b : Option Addr) (n c m d : Nat) (A B : List Mo) (w : World) (hs : OS w a n c A) (hb : OS w b m d B) (he : A.map Mo.m = B.map Mo.m) (hn : n ≤ 1000000) (hF : ∀ x ∈ A, x.n ≤ 1000000) :
    Calls Tryz.prog 10 #[.slice a n c, .slice b m d] w fun e w' => e = .returned (.bool true) ∧ RowKit.Below w.heap.size w w' := by
  have hl : A.length = B.length := by have := congrArg List.length he; simpa using this
  have hnm : m = n := by rw [← hs.len, ← hb.len, hl]
  subst hnm
  have hlA := hs.len
  have hlB := hb.len
  go_enter Tryz.func10, Tryz.ntmps10
  go_wp2
  go_loopw [5] (fun i wr => ∃ k : Nat, k ≤ m ∧ i = .int .i64 k ∧ Hid (RowKit.Below w.heap.size w wr)) (fun i _ => m - (intOf i).toNat)
  case atStart => exact ⟨0, by omega, rfl, hid (Below.refl _ _)⟩
  case round =>
    obtain ⟨k, hk, rfl, hBr⟩ := hrel
    by_cases hlt : k < m
    · have hka : k < A.length := by omega
      have hkb : k < B.length := by omega
      have hsr := hs.below hBr.out
      have hbr := hb.below hBr.out
      obtain ⟨g, o, rfl, hg, _⟩ := hsr.at (by omega)
      obtain ⟨g2, o2, rfl, hg2, _⟩ := hbr.at (by omega)
      have hX : ∀ p : Wb wr, OpAtO p.u g (o + k * 14) A[k] := fun p => os_at (hsr.below p.h) hka
      have hY : ∀ p : Wb wr, OpAtO p.u g2 (o2 + k * 14) B[k] := fun p => os_at (hbr.below p.h) hkb
      have hm : A[k].m = B[k].m := by
        have h1 : (A.map Mo.m)[k]? = (B.map Mo.m)[k]? := by rw [he]
        rw [List.getElem?_map, List.getElem?_map, List.getElem?_eq_getElem hka, List.getElem?_eq_getElem hkb] at h1
        simpa using h1
      have hda := hsr.deps _ (List.getElem_mem hka)
      have hdb := hbr.deps _ (List.getElem_mem hkb)
      have hna := hF _ (List.getElem_mem hka)
      generalize A[k] = x at *
      generalize B[k] = y at *
      have eo : y.o = x.o := (congrArg Prod.fst hm).symm
      have eV : y.V = x.V := (congrArg Prod.snd hm).symm
      have hnb : y.n ≤ 1000000 := by rw [← hdb.len, eV, hda.len]; exact hna
      have kS : ∀ p : Wb wr, Calls Tryz.prog 27 #[ov x.o x.dep, ov y.o y.dep] p.u fun e w'' => e = .returned (.bool true) ∧ ∃ p' : Wb wr, w'' = p'.u := fun p => by
        have h := rsame7_any x.o y.o x.a y.a x.n x.c y.n y.c x.V y.V p.u (hda.below p.h) (hdb.below p.h) (by omega) (by omega)
        rw [eo, eV, so_refl] at h
        rw [eo]
        exact far_q h
      clear hsr hbr hm eo eV hda hdb hna hnb
      haveI : Nonempty (Wb wr) := ⟨⟨wr, Below.refl _ _⟩⟩
      have x0 := fun p => (hX p).c0
      have x1 := fun p => (hX p).c1
      have x2 := fun p => (hX p).c2
      have x3 := fun p => (hX p).c3
      have x4 := fun p => (hX p).c4
      have x5 := fun p => (hX p).c5
      have x6 := fun p => (hX p).c6
      have x7 := fun p => (hX p).c7
      have x8 := fun p => (hX p).c8
      have x9 := fun p => (hX p).c9
      have x10 := fun p => (hX p).c10
      have x11 := fun p => (hX p).c11
      have x12 := fun p => (hX p).c12
      have x13 := fun p => (hX p).c13
      have y0 := fun p => (hY p).c0
      have y1 := fun p => (hY p).c1
      have y2 := fun p => (hY p).c2
      have y3 := fun p => (hY p).c3
      have y4 := fun p => (hY p).c4
      have y5 := fun p => (hY p).c5
      have y6 := fun p => (hY p).c6
      have y7 := fun p => (hY p).c7
      have y8 := fun p => (hY p).c8
      have y9 := fun p => (hY p).c9
      have y10 := fun p => (hY p).c10
      have y11 := fun p => (hY p).c11
      have y12 := fun p => (hY p).c12
      have y13 := fun p => (hY p).c13
      clear hX hY
      go_wp2_with fail
      refine wp_region_below mixed (by kernel_rfl) ?_
      repeat (go_big_quiet_step ((first | (go_at_call 27; exact kS _))))
      refine wpQuiet_nil ?_
      intro _ hw'
      obtain ⟨p, hw''⟩ := hw'
      subst hw''
      go_wp2
      go_roundw
      case rel => exact ⟨k + 1, by omega, by go_num, hid (below2 hBr.out p.h)⟩
      case measure => simp [intOf]; omega
    · obtain rfl : k = m := by omega
      go_wp2
      go_ret
      exact ⟨rfl, hBr.out⟩

set_option maxRecDepth 100000 in
set_option maxHeartbeats 4000000 in
theorem rright_any (a : Option Addr) (n c : Nat) (L : List Mo) (w : World) (hs : OS w a n c L) (hF : ∀ x ∈ L, x.o.Fits ∧ Dws x.V ∧ x.n ≤ 1000000) (hn : n ≤ 1000) :
    Calls Tryz.prog 12 #[.slice a n c] w fun e w' => ∃ (R : List Mo) (T : List Nat), e = .returned (.bool (decide (T.length = n) && (L.map Mo.m).all (fun x => (L.map Mo.m).all (okT x)))) ∧ Taken (L.map Mo.m) R T ∧ RowKit.Below w.heap.size w w' := by
  have hO := rorder_any a n c L w hs hF hn
  have hlen := hs.len
  go_enter Tryz.func12, Tryz.ntmps12
  go_upto_region 2 with (first
    | (go_at_call 9; refine hO.mono ?_; rintro e w1 ⟨R, T, a1, c1, a2, c2, rfl, hT, _, _, _, hB1⟩))
  have hil : (inL R T).length = T.length := inL_length hT.lt
  rw [hil]
  have HT := hid hT
  have HB1 := hid hB1
  clear hO hT hB1 hil
  have hTn : T.length ≤ 1000000 := by
    have h1 : T.length ≤ R.length := by
      have := List.Nodup.length_le_of_subset HT.out.2.2.2.1.nodup (fun x hx => List.mem_range.2 (HT.out.2.2.2.1.lt hx))
      simpa using this
    have h2 := HT.out.2.1.length_eq
    have h3 := cnt_len (L.map Mo.m)
    simp at h2 h3
    omega
  by_cases hl : T.length = n
  · have hb : ((T.length : Int) != (n : Int)) = false := by simp [hl]
    have hb2 : ((T.length : Int) == (n : Int)) = true := by simp [hl]
    have HL := hid hl
    clear hl
    go_wp2
    go_loopw [5] (fun i wr => ∃ k : Nat, k ≤ n ∧ i = .int .i64 k ∧ Hid (∀ x ∈ L.take k, ∀ y ∈ L, okT x.m y.m = true) ∧ Hid (RowKit.Below w.heap.size w wr)) (fun i _ => n - (intOf i).toNat)
    case atStart => exact ⟨0, by omega, rfl, hid (by simp), HB1⟩
    case round =>
      obtain ⟨i, hi, rfl, hall, hBr⟩ := hrel
      by_cases hlt : i < n
      · have hil : i < L.length := by omega
        obtain ⟨g, o, rfl, hg, _⟩ := (hs.below hBr.out).at (by omega)
        generalize wr = wo at *
        have hst : Hid (∀ x ∈ L.take (i + 1), x ∈ L.take i ∨ x = L[i]) := hid (fun x hx => by
          rw [List.take_succ_eq_append_getElem hil] at hx
          rcases List.mem_append.1 hx with h | h
          · exact Or.inl h
          · exact Or.inr (List.mem_singleton.1 h))
        go_wp2
        go_loopw [6] (fun j wk => ∃ k : Nat, k ≤ n ∧ j = .int .i64 k ∧ Hid (∀ y ∈ L.take k, okT L[i].m y.m = true) ∧ Hid (RowKit.Below w.heap.size w wk)) (fun j _ => n - (intOf j).toNat)
        case atStart => exact ⟨0, by omega, rfl, hid (by simp), hBr⟩
        case round =>
          obtain ⟨k, hk, rfl, hal2, hBk⟩ := hrel
          by_cases hkn : k < n
          · have hkl : k < L.length := by omega
            have hsk := hs.below hBk.out
            have hX : ∀ p : Wb wr, OpAtO p.u g (o + i * 14) L[i] := fun p => os_at (hsk.below p.h) hil
            have hY : ∀ p : Wb wr, OpAtO p.u g (o + k * 14) L[k] := fun p => os_at (hsk.below p.h) hkl
            have hdx := hsk.deps _ (List.getElem_mem hil)
            have hnx := (hF _ (List.getElem_mem hil)).2.2
            have hst2 : Hid (∀ x ∈ L.take (k + 1), x ∈ L.take k ∨ x = L[k]) := hid (fun x hx => by
              rw [List.take_succ_eq_append_getElem hkl] at hx
              rcases List.mem_append.1 hx with h | h
              · exact Or.inl h
              · exact Or.inr (List.mem_singleton.1 h))
            have hinx : Hid (L[i] ∈ L) := hid (List.getElem_mem hil)
            have hiny : Hid (L[k] ∈ L) := hid (List.getElem_mem hkl)
            generalize L[i] = x at *
            generalize L[k] = y at *
            have kH : ∀ p : Wb wr, Calls Tryz.prog 29 #[x.dep, dv y.o.id] p.u fun e w'' => e = .returned (.bool (hasv x.V y.o.id)) ∧ ∃ p' : Wb wr, w'' = p'.u := fun p =>
              far_q (rhas_any x.a x.n x.c x.V y.o.id p.u (hdx.below p.h) (by omega))
            have hok : Hid (okT x.m y.m = true ↔ (hasv x.V y.o.id = true → y.o.time < x.o.time)) := hid okT_iff
            have x1 := fun p => (hX p).c3
            have x2 := fun p => (hX p).c2
            have y0 := fun p => (hY p).c0
            have y1 := fun p => (hY p).c1
            have y2 := fun p => (hY p).c2
            haveI : Nonempty (Wb wr) := ⟨⟨wr, Below.refl _ _⟩⟩
            clear hX hY hsk hdx
            generalize hasv x.V y.o.id = hv at *
            cases hv
            · go_wp2_with fail
              refine wp_region_below mixed (by kernel_rfl) ?_
              repeat (go_big_quiet_step ((first | (go_at_call 29; exact kH _))))
              refine wpQuiet_nil ?_
              intro _ hw'
              obtain ⟨p1, hw''⟩ := hw'
              subst hw''
              haveI : Nonempty (Wb p1.u) := ⟨⟨p1.u, Below.refl _ _⟩⟩
              go_wp2_with fail
              refine wp_region_below mixed (by kernel_rfl) ?_
              repeat (go_big_quiet_step (fail))
              refine wpQuiet_nil ?_
              intro _ hw'
              obtain ⟨p2, hw''⟩ := hw'
              subst hw''
              go_wp2
              go_roundw
              case rel =>
                refine ⟨k + 1, by omega, by go_num, hid (fun z hz => ?_), hid (below2 hBk.out (below2 p1.h p2.h))⟩
                rcases hst2.out z hz with h | h
                · exact hal2.out z h
                · rw [h]
                  exact hok.out.2 (fun h => by simp at h)
              case measure => simp [intOf]; omega
            · by_cases htm : y.o.time < x.o.time
              · have tb : decide (x.o.time ≤ y.o.time) = false := by simp; omega
                go_wp2_with fail
                refine wp_region_below mixed (by kernel_rfl) ?_
                repeat (go_big_quiet_step ((first | (go_at_call 29; exact kH _))))
                refine wpQuiet_nil ?_
                intro _ hw'
                obtain ⟨p1, hw''⟩ := hw'
                subst hw''
                haveI : Nonempty (Wb p1.u) := ⟨⟨p1.u, Below.refl _ _⟩⟩
                have X2 : ∀ p : Wb p1.u, p.u.cell? ⟨g, o + i * 14 + 2, none⟩ = some (.int .i64 x.o.time) := fun p => x2 ⟨p.u, below2 p1.h p.h⟩
                have Y2 : ∀ p : Wb p1.u, p.u.cell? ⟨g, o + k * 14 + 2, none⟩ = some (.int .i64 y.o.time) := fun p => y2 ⟨p.u, below2 p1.h p.h⟩
                go_wp2_with fail
                refine wp_region_below mixed (by kernel_rfl) ?_
                repeat (go_big_quiet_step (fail))
                refine wpQuiet_nil ?_
                intro _ hw'
                obtain ⟨p2, hw''⟩ := hw'
                subst hw''
                go_wp2
                go_roundw
                case rel =>
                  refine ⟨k + 1, by omega, by go_num, hid (fun z hz => ?_), hid (below2 hBk.out (below2 p1.h p2.h))⟩
                  rcases hst2.out z hz with h | h
                  · exact hal2.out z h
                  · rw [h]
                    exact hok.out.2 (fun _ => htm)
                case measure => simp [intOf]; omega
              · have tb : decide (x.o.time ≤ y.o.time) = true := by simp; omega
                have hbad : Hid ((L.map Mo.m).all (fun x => (L.map Mo.m).all (okT x)) = false) := hid (by
                  cases e : (L.map Mo.m).all (fun x => (L.map Mo.m).all (okT x)) with
                  | false => rfl
                  | true =>
                    have h1 := List.all_eq_true.1 (List.all_eq_true.1 e x.m (List.mem_map.2 ⟨x, hinx.out, rfl⟩)) y.m (List.mem_map.2 ⟨y, hiny.out, rfl⟩)
                    exact absurd (hok.out.1 h1 (by first | rfl | trivial)) htm)
                go_wp2_with fail
                refine wp_region_below mixed (by kernel_rfl) ?_
                repeat (go_big_quiet_step ((first | (go_at_call 29; exact kH _))))
                refine wpQuiet_nil ?_
                intro _ hw'
                obtain ⟨p1, hw''⟩ := hw'
                subst hw''
                haveI : Nonempty (Wb p1.u) := ⟨⟨p1.u, Below.refl _ _⟩⟩
                have X2 : ∀ p : Wb p1.u, p.u.cell? ⟨g, o + i * 14 + 2, none⟩ = some (.int .i64 x.o.time) := fun p => x2 ⟨p.u, below2 p1.h p.h⟩
                have Y2 : ∀ p : Wb p1.u, p.u.cell? ⟨g, o + k * 14 + 2, none⟩ = some (.int .i64 y.o.time) := fun p => y2 ⟨p.u, below2 p1.h p.h⟩
                go_wp2_with fail
                refine wp_region_below mixed (by kernel_rfl) ?_
                repeat (go_big_quiet_step (fail))
                refine wpQuiet_nil ?_
                intro _ hw'
                obtain ⟨p2, hw''⟩ := hw'
                subst hw''
                go_wp2
                go_ret
                refine ⟨R, T, ?_, HT.out, below2 hBk.out (below2 p1.h p2.h)⟩
                rw [hbad.out]
                simp
          · obtain rfl : k = n := by omega
            go_wp2
            go_roundw
            case rel =>
              refine ⟨i + 1, by omega, by go_num, hid (fun z hz y hy => ?_), hBk⟩
              rcases hst.out z hz with h | h
              · exact hall.out z h y hy
              · rw [h]
                have h2 := hal2.out
                rw [← hlen, List.take_length] at h2
                exact h2 y hy
            case measure => simp [intOf]; omega
      · obtain rfl : i = n := by omega
        have hgood : Hid ((L.map Mo.m).all (fun x => (L.map Mo.m).all (okT x)) = true) := hid (by
          rw [List.all_eq_true]
          intro x hx
          obtain ⟨x', hx', rfl⟩ := List.mem_map.1 hx
          rw [List.all_eq_true]
          intro y hy
          obtain ⟨y', hy', rfl⟩ := List.mem_map.1 hy
          have h2 := hall.out
          rw [← hlen, List.take_length] at h2
          exact h2 x' hx' y' hy')
        go_wp2
        go_ret
        refine ⟨R, T, ?_, HT.out, hBr.out⟩
        rw [hgood.out, HL.out]
        simp
  · have hb : ((T.length : Int) != (n : Int)) = true := by simp; omega
    have hb2 : ((T.length : Int) == (n : Int)) = false := by simp; omega
    have HL := hid hl
    clear hl
    go_wp2
    go_ret
    refine ⟨R, T, ?_, HT.out, HB1.out⟩
    have := HL.out
    simp [this]
end Go.Proofs.YtlncokkpdkddlaaGreat
