/- The reference's In: is a dot in a row. -/
import Derived.Test.YtplcohjpchfkkaaTrRKidsM
import Derived.Deep.CutRange
import Derived.Deep.CutBlock
import Derived.BigQuiet
import Derived.Test.YtplcohjpchfkkaaTrInsD
import Derived.Test.YtplcohjpchfkkaaMKeys
import Derived.Shelf.SlSortCmp.QuietGrown
namespace Go.Proofs.Ytplcohjpchfkkaa
section
set_option linter.unusedVariables false
set_option linter.unusedSimpArgs false
open Go.RowKit
open Go.Sort (grow)

theorem SpAt.keep {w w' : World} {g o : Nat} {x : Sp} (h : SpAt w g o x) (hk : ∀ j, j < w.heap.size → w'.heap[j]? = w.heap[j]?) (hz : w.heap.size ≤ w'.heap.size) : SpAt w' g o x := by
  have e := hk g h.lt
  have c0 := h.c0
  have c1 := h.c1
  have c2 := h.c2
  have c3 := h.c3
  have c4 := h.c4
  simp only [World.cell?] at c0 c1 c2 c3 c4
  exact ⟨Nat.lt_of_lt_of_le h.lt hz, by simp only [World.cell?, e]; exact c0, by simp only [World.cell?, e]; exact c1, by simp only [World.cell?, e]; exact c2, by simp only [World.cell?, e]; exact c3, by simp only [World.cell?, e]; exact c4⟩
theorem SpAt.bel {w w' : World} {g o : Nat} {x : Sp} (h : SpAt w g o x) (hb : Below w.heap.size w w') : SpAt w' g o x := h.keep hb.block hb.size
theorem SpAt.cs {w : World} {g o : Nat} {x : Sp} (h : SpAt w g o x) : w.cell? ⟨g, o, none⟩ = some (.int .i64 x.b.1) ∧ w.cell? ⟨g, o + 1, none⟩ = some (.int .i64 x.b.2) ∧ w.cell? ⟨g, o + 2, none⟩ = some (.int .i64 x.p.1) ∧ w.cell? ⟨g, o + 3, none⟩ = some (.int .i64 x.p.2) ∧ w.cell? ⟨g, o + 4, none⟩ = some (.string x.k) := ⟨h.c0, h.c1, h.c2, h.c3, h.c4⟩
theorem SpR.keep {w w' : World} {a : Option Addr} {n c : Nat} {T : List Sp} (h : SpR w a n c T) (hk : ∀ j, j < w.heap.size → w'.heap[j]? = w.heap[j]?) (hz : w.heap.size ≤ w'.heap.size) : SpR w' a n c T :=
  ⟨h.len, h.cap, h.max, h.nil, fun hp => by
    obtain ⟨g, o, e, hg, hx⟩ := h.at_ hp
    refine ⟨g, o, e, Nat.lt_of_lt_of_le hg hz, fun i hi j u hj => ?_⟩
    have := hx i hi j u hj
    simp only [World.cell?] at this ⊢
    rw [hk _ hg]
    exact this⟩

set_option maxRecDepth 100000 in
set_option maxHeartbeats 8000000 in
theorem trkids_any (la ka : Option Addr) (ln lc kn kc : Nat) (a : Option Addr) (n c : Nat) (T : List Sp) (p : Dt) (w : World) (h : SpR w a n c T) (hn : n ≤ 100000) (hnd : (T.map Sp.b).Nodup) :
    Calls Try.prog 33 #[.agg #[.slice la ln lc, .slice a n c, .slice ka kn kc], dv p] w fun e w' => ∃ v, e = .returned v ∧ w'.ownsRow w.heap.size 24 2 v (kidB T p).length (flat (kidB T p)) ∧ Below w.heap.size w w' := by
  obtain ⟨p1, p2⟩ := p
  have hmxo : Try.prog.follows .mixedOrders = true := by kernel_rfl
  have mixed := mixed
  obtain ⟨W0, hW0⟩ : ∃ W0, W0 = (w.alloc (.cells #[.slice la ln lc, .slice a n c, .slice ka kn kc] 31)).alloc (.cells #[.int .i64 p1, .int .i64 p2] 24) := ⟨_, rfl⟩
  have hB0 : Below w.heap.size w W0 := by rw [hW0]; exact ((Below.refl _ w).alloc (Nat.le_refl _) _).alloc (by simp) _
  have hz0 : W0.heap.size = w.heap.size + 2 := by rw [hW0]; simp
  have hb1 : W0.heap[w.heap.size]? = some (.cells #[.slice la ln lc, .slice a n c, .slice ka kn kc] 31 (0, 0)) := by rw [hW0]; exact (Below.heap_alloc _ _ _ (by simp)).trans (World.alloc_heap_new w _)
  have hb2 : W0.heap[w.heap.size + 1]? = some (.cells #[.int .i64 p1, .int .i64 p2] 24 (0, 0)) := by
    rw [hW0]
    have := World.alloc_heap_new (w.alloc (.cells #[.slice la ln lc, .slice a n c, .slice ka kn kc] 31)) (.cells #[.int .i64 p1, .int .i64 p2] 24)
    rwa [World.size_alloc] at this
  have HBX : Hid (∀ U, Below W0.heap.size W0 U → (U.cell? ⟨w.heap.size, 0, none⟩ = some (.slice la ln lc) ∧ U.cell? ⟨w.heap.size, 1, none⟩ = some (.slice a n c) ∧ U.cell? ⟨w.heap.size, 2, none⟩ = some (.slice ka kn kc) ∧ U.cell? ⟨w.heap.size + 1, 0, none⟩ = some (.int .i64 p1) ∧ U.cell? ⟨w.heap.size + 1, 1, none⟩ = some (.int .i64 p2))) := hid (fun U hU => by
    have e1 := (hU.block w.heap.size (by omega)).trans hb1
    have e2 := (hU.block (w.heap.size + 1) (by omega)).trans hb2
    exact ⟨by simp [World.cell?, e1], by simp [World.cell?, e1], by simp [World.cell?, e1], by simp [World.cell?, e2], by simp [World.cell?, e2]⟩)
  have hcap := h.cap
  have hmax := h.max
  unfold maxLen at hmax
  have HL := hid h.len
  have HS := hid h
  have HB0 := hid hB0
  have HND := hid hnd
  clear h hnd hB0 hb1 hb2 hz0
  go_enter Try.func33, Try.ntmps33
  go_wp2_with fail
  rw [← hW0]
  clear hW0
  go_loopw [5, 6] (fun v i wr => ∃ (k : Nat) (oa : Option Addr) (m oc : Nat), k ≤ n ∧ m ≤ k ∧ v = .slice oa m oc ∧ i = .int .i64 k ∧ Hid (wr.ownsRow W0.heap.size 81 5 (.slice oa m oc) m (flS (kidS (T.take k) (p1, p2))) ∧ Below W0.heap.size W0 wr)) (fun _ i _ => n - (intOf i).toNat)
  case atStart => exact ⟨0, none, 0, 0, by omega, by omega, rfl, rfl, hid ⟨World.ownsRow_nil _ _ _ _, Below.refl _ _⟩⟩
  case round =>
    obtain ⟨k, oa, m, oc, hk, hmk, rfl, rfl, HO⟩ := hrel
    by_cases hkn : k < n
    · skip
      have hb1 : decide ((k : Int) < (n : Int)) = true := by simp [hkn]
      obtain ⟨g0, o0, rfl, hat0⟩ := (HS.out.below (HB0.out.trans (HO.out.2.mono HB0.out.size))).at hkn
      obtain ⟨x, hx⟩ : ∃ x, x = T[k]'(by rw [HL.out]; exact hkn) := ⟨_, rfl⟩
      rw [← hx] at hat0
      have hts : T.take (k + 1) = T.take k ++ [x] := by rw [hx]; exact List.take_succ_eq_append_getElem (by rw [HL.out]; exact hkn)
      have hnd1 : ((T.take k ++ [x]).map Sp.b).Nodup := by rw [← hts]; exact (List.Sublist.map _ (List.take_sublist _ _)).nodup HND.out
      clear hx
      obtain ⟨⟨x1, x2⟩, ⟨y1, y2⟩, kx⟩ := x
      have c0 := hat0.c0
      have c1 := hat0.c1
      have c2 := hat0.c2
      have c3 := hat0.c3
      have c4 := hat0.c4
      obtain ⟨X7, hX7⟩ : ∃ X7, X7 = wr.alloc (.cells #[.int .i64 x1, .int .i64 x2, .int .i64 y1, .int .i64 y2, .string kx] 81) := ⟨_, rfl⟩
      have hb7 : Below wr.heap.size wr X7 := by rw [hX7]; exact (Below.refl _ wr).alloc (Nat.le_refl _) _
      obtain ⟨sb, hsb⟩ : ∃ sb, sb = wr.heap.size := ⟨_, rfl⟩
      have hnew : X7.heap[sb]? = some (.cells #[.int .i64 x1, .int .i64 x2, .int .i64 y1, .int .i64 y2, .string kx] 81 (0, 0)) := by rw [hX7, hsb]; exact World.alloc_heap_new wr _
      have hsp7 : SpAt X7 sb 0 (⟨(x1, x2), (y1, y2), kx⟩ : Sp) := ⟨(Array.getElem?_eq_some_iff.1 hnew).1, by simp [World.cell?, hnew], by simp [World.cell?, hnew], by simp [World.cell?, hnew], by simp [World.cell?, hnew], by simp [World.cell?, hnew]⟩
      have HST : Hid (X7.ownsRow W0.heap.size 81 5 (.slice oa m oc) m (flS (kidS (T.take k) (p1, p2))) ∧ SpAt X7 sb 0 (⟨(x1, x2), (y1, y2), kx⟩ : Sp) ∧ Below W0.heap.size W0 X7) := hid ⟨ownS_below HO.out.1 hb7, hsp7, HO.out.2.trans (hb7.mono HO.out.2.size)⟩
      have e2 := hsp7.c2
      have e3 := hsp7.c3
      have HTS := hid hts
      have HN1 := hid hnd1
      obtain ⟨t0, t1, t2, u0, u1⟩ := HBX.out _ HO.out.2
      obtain ⟨t0', t1', t2', v0, v1⟩ := HBX.out _ HST.out.2.2
      have hkq : (k : Int) < (n : Int) := by omega
      clear hat0 hnew hsp7 hb7 hts hnd1
      go_upto_region 6 with fail
      rw [← hX7, ← hsb]
      clear hX7 hsb c0 c1 c2 c3 c4 t0 t1 t2 u0 u1
      by_cases hpp : y1 = p1 ∧ y2 = p2
      · obtain ⟨rfl, rfl⟩ := hpp
        have HKN : Hid (kidS (T.take (k + 1)) (y1, y2) = insL kdl (kidS (T.take k) (y1, y2)) (⟨(x1, x2), (y1, y2), kx⟩ : Sp)) := hid (by rw [HTS.out]; exact kidS_lay (s := (⟨(x1, x2), (y1, y2), kx⟩ : Sp)) HN1.out)
        have hndk : ((T.take k).map Sp.b).Nodup := (List.Sublist.map _ (List.take_sublist _ _)).nodup HND.out
        obtain ⟨O, hO⟩ : ∃ O, O = kidS (T.take k) (y1, y2) := ⟨_, rfl⟩
        have HSr : Hid (Srt kdl O) := hid (by rw [hO]; exact kidS_srt hndk _)
        rw [← hO] at HST HKN
        have HOl : Hid (O.length = m) := hid (by have := HST.out.1.1; rw [flS_length] at this; omega)
        clear hO hndk HO
        go_wp2_with fail
        go_loopw [8] (fun j wr2 => ∃ q : Nat, q ≤ m ∧ j = .int .i64 q ∧ Hid (∀ x ∈ O.take q, kdl x (⟨(x1, x2), (y1, y2), kx⟩ : Sp) = true) ∧ Hid (wr2.ownsRow W0.heap.size 81 5 (.slice oa m oc) m (flS O) ∧ SpAt wr2 sb 0 (⟨(x1, x2), (y1, y2), kx⟩ : Sp) ∧ Below W0.heap.size W0 wr2)) (fun j _ => m - (intOf j).toNat)
        case atStart => exact ⟨0, by omega, rfl, hid (by simp), HST⟩
        case round =>
          clear HST t0' t1' t2' v0 v1 e2 e3
          obtain ⟨q, hq, rfl, HTq, S8⟩ := hrel
          obtain ⟨A, hA⟩ : ∃ A, A = (match O[q]? with | some x => kdl x (⟨(x1, x2), (y1, y2), kx⟩ : Sp) | none => false) := ⟨_, rfl⟩
          haveI : Nonempty (Wb wr) := ⟨⟨wr, Below.refl _ _⟩⟩
          have HBU : Hid (∀ pp : Wb wr, pp.u.ownsRow W0.heap.size 81 5 (.slice oa m oc) m (flS O) ∧ SpAt pp.u sb 0 (⟨(x1, x2), (y1, y2), kx⟩ : Sp) ∧ Below W0.heap.size W0 pp.u) := hid (fun pp => ⟨ownS_below S8.out.1 pp.h, S8.out.2.1.bel pp.h, S8.out.2.2.trans (pp.h.mono S8.out.2.2.size)⟩)
          have HAe := hid hA
          clear hA
          go_upto_region 8 with fail
          go_cut [61] from 28 to 61 (fun s wc => s = .bool A ∧ Hid (wc.ownsRow W0.heap.size 81 5 (.slice oa m oc) m (flS O) ∧ SpAt wc sb 0 (⟨(x1, x2), (y1, y2), kx⟩ : Sp) ∧ Below W0.heap.size W0 wc))
          case first =>
            by_cases hqm : q < m
            · have hb3 : decide ((q : Int) < (m : Int)) = true := by simp [hqm]
              have hqO : q < O.length := by rw [HOl.out]; exact hqm
              obtain ⟨x, hx⟩ : ∃ x, O[q]? = some x := ⟨_, List.getElem?_eq_getElem hqO⟩
              obtain ⟨oa', oc', e', hsp⟩ := own_sps S8.out.1
              simp only [Value.slice.injEq] at e'
              obtain ⟨rfl, _, rfl⟩ := e'
              obtain ⟨g, o, rfl, hat'⟩ := hsp.at hqm
              clear hat'
              have HXA : Hid (∀ pp : Wb wr, SpAt pp.u g (o + q * 5) x) := hid (fun pp => by
                obtain ⟨oa', oc', e', hsp'⟩ := own_sps (HBU.out pp).1
                simp only [Value.slice.injEq] at e'
                obtain ⟨rfl, _, rfl⟩ := e'
                obtain ⟨g', o', e', hat⟩ := hsp'.at hqm
                cases e'
                rw [(List.getElem?_eq_some_iff.1 hx).2] at hat
                exact hat)
              have hAx : A = kdl x (⟨(x1, x2), (y1, y2), kx⟩ : Sp) := by rw [HAe.out, hx]
              obtain ⟨⟨z1, z2⟩, ⟨v1, v2⟩, kz⟩ := x
              have r0 : ∀ pp : Wb wr, pp.u.cell? ⟨g, o + q * 5, none⟩ = some (.int .i64 z1) := fun pp => (HXA.out pp).c0
              have r1 : ∀ pp : Wb wr, pp.u.cell? ⟨g, o + q * 5 + 1, none⟩ = some (.int .i64 z2) := fun pp => (HXA.out pp).c1
              have r4 : ∀ pp : Wb wr, pp.u.cell? ⟨g, o + q * 5 + 4, none⟩ = some (.string kz) := fun pp => (HXA.out pp).c4
              have s0 : ∀ pp : Wb wr, pp.u.cell? ⟨sb, 0, none⟩ = some (.int .i64 x1) := fun pp => (HBU.out pp).2.1.c0
              have s1 : ∀ pp : Wb wr, pp.u.cell? ⟨sb, 1, none⟩ = some (.int .i64 x2) := fun pp => (HBU.out pp).2.1.c1
              have s4 : ∀ pp : Wb wr, pp.u.cell? ⟨sb, 4, none⟩ = some (.string kx) := fun pp => (HBU.out pp).2.1.c4
              have kL : ∀ pp : Wb wr, Calls Try.prog 24 #[.agg #[.int .i64 z1, .int .i64 z2], .agg #[.int .i64 x1, .int .i64 x2]] pp.u fun e w'' => e = .returned (.bool (dl (z1, z2) (x1, x2))) ∧ ∃ p' : Wb wr, w'' = p'.u := fun pp => below_q ((rless_any (z1, z2) (x1, x2) pp.u).mono (fun e w' h => ⟨h.1, h.2.below⟩))
              clear hsp hx hqO
              cases hbl : bl (kb kz) (kb kx) with
              | true =>
                have hAt : A = true := by rw [hAx]; exact kdl_key hbl
                subst hAt
                have f1 : Op.bytesLess kz.toList kx.toList = true := hbl
                clear hbl hAx
                refine wp_region_below mixed (by kernel_rfl) ?_
                repeat (go_big_quiet_step (first | (go_at_call 24; exact kL _) | fail))
                refine wpQuiet_nil ?_
                intro _ hw'
                obtain ⟨pp, hw''⟩ := hw'
                subst hw''
                go_wp2_with fail
                go_meet
                case rel => exact ⟨rfl, hid (HBU.out pp)⟩
              | false =>
                by_cases hk : kz = kx
                · subst hk
                  obtain ⟨D, hD⟩ : ∃ D, D = dl (z1, z2) (x1, x2) := ⟨_, rfl⟩
                  have hAt : A = D := by rw [hAx, hD]; exact kdl_same rfl
                  subst hAt
                  rw [← hD] at kL
                  have f1 : Op.bytesLess kz.toList kz.toList = false := hbl
                  clear hbl hAx hD
                  cases hAA : A with
                  | true =>
                    subst hAA
                    refine wp_region_below mixed (by kernel_rfl) ?_
                    repeat (go_big_quiet_step (first | (go_at_call 24; exact kL _) | fail))
                    refine wpQuiet_nil ?_
                    intro _ hw'
                    obtain ⟨pp, hw''⟩ := hw'
                    subst hw''
                    go_wp2_with fail
                    go_meet
                    case rel => exact ⟨rfl, hid (HBU.out pp)⟩
                  | false =>
                    subst hAA
                    refine wp_region_below mixed (by kernel_rfl) ?_
                    repeat (go_big_quiet_step (first | (go_at_call 24; exact kL _) | fail))
                    refine wpQuiet_nil ?_
                    intro _ hw'
                    obtain ⟨pp, hw''⟩ := hw'
                    subst hw''
                    go_wp2_with fail
                    go_meet
                    case rel => exact ⟨rfl, hid (HBU.out pp)⟩
                · have hAt : A = false := by rw [hAx]; exact kdl_no hbl (fun e => hk (kb_inj e))
                  subst hAt
                  have f1 : Op.bytesLess kz.toList kx.toList = false := hbl
                  have hkl : ¬ kz.toList = kx.toList := fun e => hk (kb_inj e)
                  have f2 : (kz.toList == kx.toList) = false := by simpa using hkl
                  clear hbl hAx
                  refine wp_region_below mixed (by kernel_rfl) ?_
                  repeat (go_big_quiet_step (first | (go_at_call 24; exact kL _) | fail))
                  refine wpQuiet_nil ?_
                  intro _ hw'
                  obtain ⟨pp, hw''⟩ := hw'
                  subst hw''
                  go_wp2_with fail
                  go_meet
                  case rel => exact ⟨rfl, hid (HBU.out pp)⟩
            · have hb3 : decide ((q : Int) < (m : Int)) = false := by simp; omega
              have hAt : A = false := by rw [HAe.out, List.getElem?_eq_none (by rw [HOl.out]; omega)]
              subst hAt
              refine wp_region_below mixed (by kernel_rfl) ?_
              repeat (go_big_quiet_step (first | (go_at_call 24; exact kL _) | fail))
              refine wpQuiet_nil ?_
              intro _ hw'
              obtain ⟨pp, hw''⟩ := hw'
              subst hw''
              go_wp2_with fail
              go_meet
              case rel => exact ⟨rfl, hid (HBU.out pp)⟩
          case rest =>
            obtain ⟨rfl, S9⟩ := hcut
            clear HBU S8
            obtain ⟨U, hU⟩ : ∃ U, U = wc := ⟨_, rfl⟩
            rw [← hU] at S9 ⊢
            clear hU
            cases hAA : A with
            | true =>
              subst hAA
              have hqO : q < O.length := by
                rcases Nat.lt_or_ge q O.length with h | h
                · exact h
                · have := HAe.out
                  rw [List.getElem?_eq_none h] at this
                  cases this
              have hqm : q < m := by rw [← HOl.out]; exact hqO
              have HTn : Hid (∀ x ∈ O.take (q + 1), kdl x (⟨(x1, x2), (y1, y2), kx⟩ : Sp) = true) := hid (fun x hx => by
                rw [List.take_succ_eq_append_getElem hqO] at hx
                rcases List.mem_append.1 hx with h | h
                · exact HTq.out x h
                · rw [List.mem_singleton.1 h]
                  have := HAe.out
                  rw [List.getElem?_eq_getElem hqO] at this
                  exact this.symm)
              clear hqO
              go_wp2
              go_roundw
              case rel => exact ⟨q + 1, by omega, by go_num, HTn, S9⟩
              case measure => simp [intOf]; omega
            | false =>
              subst hAA
              have HQ : Hid (q = rkL kdl O (⟨(x1, x2), (y1, y2), kx⟩ : Sp)) := hid (rk_found HSr.out (by rw [HOl.out]; exact hq) HTq.out (fun x hx => by have := HAe.out; rw [hx] at this; exact this.symm))
              have hsp0 := own_sps S9.out.1
              obtain ⟨oa', oc', e', hsp⟩ := hsp0
              simp only [Value.slice.injEq] at e'
              obtain ⟨rfl, _, rfl⟩ := e'
              have hnl := hsp.nil
              have hat := hsp.at_
              have hcap := hsp.cap
              have hmx := hsp.max
              unfold maxLen at hmx
              clear hsp
              cases oa with
              | none =>
                obtain ⟨hn0, hc0⟩ := hnl rfl
                subst hn0 hc0
                obtain rfl : q = 0 := by omega
                clear hnl hat
                obtain ⟨oa', oc', e', hl3⟩ := own_sps S9.out.1
                simp only [Value.slice.injEq] at e'
                obtain ⟨rfl, _, rfl⟩ := e'
                have hsb := S9.out.2.1
                have c0 := hsb.c0
                have c1 := hsb.c1
                have c2 := hsb.c2
                have c3 := hsb.c3
                have c4 := hsb.c4
                have hz9 := S9.out.2.2.size
                have HSB : Hid (∀ V, (∀ j, j < U.heap.size → V.heap[j]? = U.heap[j]?) → U.heap.size ≤ V.heap.size → SpAt V sb 0 (⟨(x1, x2), (y1, y2), kx⟩ : Sp) ∧ SpR V none 0 0 O) := hid (fun V h1 h2 => ⟨hsb.keep h1 h2, hl3.keep h1 h2⟩)
                go_wp2_with (first
                  | (at_builtin; have hq' := ho4; refine wpList_append_sps rfl _ _ 28 Try.underlying28 rfl U.heap.size v4 _ _ rfl ho4 none 0 (0 - 0) [] rfl (SpR.no _ _ _ (by simp) (by unfold maxLen; omega)) (by omega) (by omega) ?_; intro v5 W5 ho5 hg5)
                  | (at_builtin; have hq' := ho3; refine wpList_append_sps rfl _ _ 28 Try.underlying28 rfl U.heap.size v3 _ _ rfl (ho3.alloc _) (some ⟨W3.heap.size, 0, none⟩) 1 1 [(⟨(x1, x2), (y1, y2), kx⟩ : Sp)] rfl (sps_one W3 (⟨(x1, x2), (y1, y2), kx⟩ : Sp)) (by omega) (by simp; omega) ?_; intro v4 W4 ho4 hg4; have b4 := (b3.alloc b3.size (.cells #[.int .i64 x1, .int .i64 x2, .int .i64 y1, .int .i64 y2, .string kx] 81)).grown hg4 (b3.alloc b3.size (.cells #[.int .i64 x1, .int .i64 x2, .int .i64 y1, .int .i64 y2, .string kx] 81)).size (fun j hj => (ho3.lt j hj).1); have hl4 := (HSB.out W4 b4.block b4.size).2; have hz4 := b4.size)
                  | (at_builtin; refine wpList_append_sps rfl _ _ 28 Try.underlying28 rfl U.heap.size (.slice none 0 0) 0 [] rfl (World.ownsRow_nil _ _ _ _) none 0 0 (O.take 0) rfl (hl3.take 0 (by omega)) (by omega) (Nat.le_refl _) ?_; intro v3 W3 ho3 hg3; have b3 := (Below.refl U.heap.size U).grown hg3 (Nat.le_refl _) (fun j hj => by simp [Value.ownBlock] at hj); have hz3 := b3.size; obtain ⟨d0, d1, d2, d3, d4⟩ := (HSB.out W3 b3.block b3.size).1.cs))
                have b5 := b4.grown hg5 b4.size (fun j hj => (ho4.lt j hj).1)
                obtain ⟨a5, c5, rfl, ho6⟩ := rkids_fin (B := U.heap.size) (q := 0) (m := 0) HOl.out (by omega) HQ.out (by rw [show O.drop 0 = [] from List.drop_eq_nil_of_le (by rw [HOl.out]; exact Nat.le_refl _)]; simpa using ho5)
                have HF5 : Hid (W5.ownsRow W0.heap.size 81 5 (.slice a5 (0 + 1) c5) (0 + 1) (flS (kidS (T.take (k + 1)) (y1, y2))) ∧ Below W0.heap.size W0 W5) := hid ⟨by rw [HKN.out]; exact ownS_low ho6 hz9, S9.out.2.2.trans (b5.mono hz9)⟩
                clear ho5 hg5 ho6 b5 ho4 hg4 ho3 hg3 b4 b3
                go_wp2_with fail
                go_roundw
                case rel => exact ⟨k + 1, a5, 0 + 1, c5, by omega, by omega, rfl, by go_num, HF5⟩
                case measure => simp [intOf]; omega
              | some ad =>
                clear hnl
                by_cases hqn : q < m
                · obtain ⟨g, o, e, hg, _⟩ := hat (by omega)
                  cases e
                  clear hat hg
                  obtain ⟨oa', oc', e', hl3⟩ := own_sps S9.out.1
                  simp only [Value.slice.injEq] at e'
                  obtain ⟨rfl, _, rfl⟩ := e'
                  have hsb := S9.out.2.1
                  have c0 := hsb.c0
                  have c1 := hsb.c1
                  have c2 := hsb.c2
                  have c3 := hsb.c3
                  have c4 := hsb.c4
                  have hz9 := S9.out.2.2.size
                  have HSB : Hid (∀ V, (∀ j, j < U.heap.size → V.heap[j]? = U.heap[j]?) → U.heap.size ≤ V.heap.size → SpAt V sb 0 (⟨(x1, x2), (y1, y2), kx⟩ : Sp) ∧ SpR V (some ⟨g, o, none⟩) m oc O) := hid (fun V h1 h2 => ⟨hsb.keep h1 h2, hl3.keep h1 h2⟩)
                  go_wp2_with (first
                    | (at_builtin; have hq' := ho4; refine wpList_append_sps rfl _ _ 28 Try.underlying28 rfl U.heap.size v4 _ _ rfl ho4 (some ⟨g, o + q * 5, none⟩) (m - q) (oc - q) (O.drop q) (by first | rfl | skip) (hl4.drop q (by omega)) (by omega) (by omega) ?_; intro v5 W5 ho5 hg5)
                    | (at_builtin; have hq' := ho3; refine wpList_append_sps rfl _ _ 28 Try.underlying28 rfl U.heap.size v3 _ _ rfl (ho3.alloc _) (some ⟨W3.heap.size, 0, none⟩) 1 1 [(⟨(x1, x2), (y1, y2), kx⟩ : Sp)] rfl (sps_one W3 (⟨(x1, x2), (y1, y2), kx⟩ : Sp)) (by omega) (by simp; omega) ?_; intro v4 W4 ho4 hg4; have b4 := (b3.alloc b3.size (.cells #[.int .i64 x1, .int .i64 x2, .int .i64 y1, .int .i64 y2, .string kx] 81)).grown hg4 (b3.alloc b3.size (.cells #[.int .i64 x1, .int .i64 x2, .int .i64 y1, .int .i64 y2, .string kx] 81)).size (fun j hj => (ho3.lt j hj).1); have hl4 := (HSB.out W4 b4.block b4.size).2; have hz4 := b4.size)
                    | (at_builtin; refine wpList_append_sps rfl _ _ 28 Try.underlying28 rfl U.heap.size (.slice none 0 0) 0 [] rfl (World.ownsRow_nil _ _ _ _) (some ⟨g, o, none⟩) q oc (O.take q) rfl (hl3.take q (by omega)) (by omega) (Nat.le_refl _) ?_; intro v3 W3 ho3 hg3; have b3 := (Below.refl U.heap.size U).grown hg3 (Nat.le_refl _) (fun j hj => by simp [Value.ownBlock] at hj); have hz3 := b3.size; obtain ⟨d0, d1, d2, d3, d4⟩ := (HSB.out W3 b3.block b3.size).1.cs))
                  have b5 := b4.grown hg5 b4.size (fun j hj => (ho4.lt j hj).1)
                  obtain ⟨a5, c5, rfl, ho6⟩ := rkids_fin (B := U.heap.size) (q := q) (m := m) HOl.out (by omega) HQ.out ho5
                  have HF5 : Hid (W5.ownsRow W0.heap.size 81 5 (.slice a5 (m + 1) c5) (m + 1) (flS (kidS (T.take (k + 1)) (y1, y2))) ∧ Below W0.heap.size W0 W5) := hid ⟨by rw [HKN.out]; exact ownS_low ho6 hz9, S9.out.2.2.trans (b5.mono hz9)⟩
                  clear ho5 hg5 ho6 b5 ho4 hg4 ho3 hg3 b4 b3
                  go_wp2_with fail
                  go_roundw
                  case rel => exact ⟨k + 1, a5, m + 1, c5, by omega, by omega, rfl, by go_num, HF5⟩
                  case measure => simp [intOf]; omega
                · obtain rfl : q = m := by omega
                  clear hat
                  by_cases hcq : oc = q
                  · subst hcq
                    obtain ⟨oa', oc', e', hl3⟩ := own_sps S9.out.1
                    simp only [Value.slice.injEq] at e'
                    obtain ⟨rfl, _, rfl⟩ := e'
                    have hsb := S9.out.2.1
                    have c0 := hsb.c0
                    have c1 := hsb.c1
                    have c2 := hsb.c2
                    have c3 := hsb.c3
                    have c4 := hsb.c4
                    have hz9 := S9.out.2.2.size
                    have HSB : Hid (∀ V, (∀ j, j < U.heap.size → V.heap[j]? = U.heap[j]?) → U.heap.size ≤ V.heap.size → SpAt V sb 0 (⟨(x1, x2), (y1, y2), kx⟩ : Sp) ∧ SpR V (some ad) oc oc O) := hid (fun V h1 h2 => ⟨hsb.keep h1 h2, hl3.keep h1 h2⟩)
                    go_wp2_with (first
                      | (at_builtin; have hq' := ho4; refine wpList_append_sps rfl _ _ 28 Try.underlying28 rfl U.heap.size v4 _ _ rfl ho4 _ 0 _ [] rfl (SpR.no _ _ _ (fun e => by first | rfl | (cases e; done)) (by first | exact Nat.zero_le _ | (unfold maxLen; omega))) (by omega) (by omega) ?_; intro v5 W5 ho5 hg5)
                      | (at_builtin; have hq' := ho3; refine wpList_append_sps rfl _ _ 28 Try.underlying28 rfl U.heap.size v3 _ _ rfl (ho3.alloc _) (some ⟨W3.heap.size, 0, none⟩) 1 1 [(⟨(x1, x2), (y1, y2), kx⟩ : Sp)] rfl (sps_one W3 (⟨(x1, x2), (y1, y2), kx⟩ : Sp)) (by omega) (by simp; omega) ?_; intro v4 W4 ho4 hg4; have b4 := (b3.alloc b3.size (.cells #[.int .i64 x1, .int .i64 x2, .int .i64 y1, .int .i64 y2, .string kx] 81)).grown hg4 (b3.alloc b3.size (.cells #[.int .i64 x1, .int .i64 x2, .int .i64 y1, .int .i64 y2, .string kx] 81)).size (fun j hj => (ho3.lt j hj).1); have hl4 := (HSB.out W4 b4.block b4.size).2; have hz4 := b4.size)
                      | (at_builtin; refine wpList_append_sps rfl _ _ 28 Try.underlying28 rfl U.heap.size (.slice none 0 0) 0 [] rfl (World.ownsRow_nil _ _ _ _) (some ad) oc oc (O.take oc) rfl (hl3.take oc (by omega)) (by omega) (Nat.le_refl _) ?_; intro v3 W3 ho3 hg3; have b3 := (Below.refl U.heap.size U).grown hg3 (Nat.le_refl _) (fun j hj => by simp [Value.ownBlock] at hj); have hz3 := b3.size; obtain ⟨d0, d1, d2, d3, d4⟩ := (HSB.out W3 b3.block b3.size).1.cs))
                    have b5 := b4.grown hg5 b4.size (fun j hj => (ho4.lt j hj).1)
                    obtain ⟨a5, c5, rfl, ho6⟩ := rkids_fin (B := U.heap.size) (q := oc) (m := oc) HOl.out (by omega) HQ.out (by rw [show O.drop oc = [] from List.drop_eq_nil_of_le (by rw [HOl.out]; exact Nat.le_refl _)]; simpa using ho5)
                    have HF5 : Hid (W5.ownsRow W0.heap.size 81 5 (.slice a5 (oc + 1) c5) (oc + 1) (flS (kidS (T.take (k + 1)) (y1, y2))) ∧ Below W0.heap.size W0 W5) := hid ⟨by rw [HKN.out]; exact ownS_low ho6 hz9, S9.out.2.2.trans (b5.mono hz9)⟩
                    clear ho5 hg5 ho6 b5 ho4 hg4 ho3 hg3 b4 b3
                    go_wp2_with fail
                    go_roundw
                    case rel => exact ⟨k + 1, a5, oc + 1, c5, by omega, by omega, rfl, by go_num, HF5⟩
                    case measure => simp [intOf]; omega
                  · have hlt : q < oc := by omega
                    obtain ⟨oa', oc', e', hl3⟩ := own_sps S9.out.1
                    simp only [Value.slice.injEq] at e'
                    obtain ⟨rfl, _, rfl⟩ := e'
                    have hsb := S9.out.2.1
                    have c0 := hsb.c0
                    have c1 := hsb.c1
                    have c2 := hsb.c2
                    have c3 := hsb.c3
                    have c4 := hsb.c4
                    have hz9 := S9.out.2.2.size
                    have HSB : Hid (∀ V, (∀ j, j < U.heap.size → V.heap[j]? = U.heap[j]?) → U.heap.size ≤ V.heap.size → SpAt V sb 0 (⟨(x1, x2), (y1, y2), kx⟩ : Sp) ∧ SpR V (some ad) q oc O) := hid (fun V h1 h2 => ⟨hsb.keep h1 h2, hl3.keep h1 h2⟩)
                    go_wp2_with (first
                      | (at_builtin; have hq' := ho4; refine wpList_append_sps rfl _ _ 28 Try.underlying28 rfl U.heap.size v4 _ _ rfl ho4 _ 0 _ [] rfl (SpR.no _ _ _ (fun e => by first | rfl | (cases e; done)) (by first | exact Nat.zero_le _ | (unfold maxLen; omega))) (by omega) (by omega) ?_; intro v5 W5 ho5 hg5)
                      | (at_builtin; have hq' := ho3; refine wpList_append_sps rfl _ _ 28 Try.underlying28 rfl U.heap.size v3 _ _ rfl (ho3.alloc _) (some ⟨W3.heap.size, 0, none⟩) 1 1 [(⟨(x1, x2), (y1, y2), kx⟩ : Sp)] rfl (sps_one W3 (⟨(x1, x2), (y1, y2), kx⟩ : Sp)) (by omega) (by simp; omega) ?_; intro v4 W4 ho4 hg4; have b4 := (b3.alloc b3.size (.cells #[.int .i64 x1, .int .i64 x2, .int .i64 y1, .int .i64 y2, .string kx] 81)).grown hg4 (b3.alloc b3.size (.cells #[.int .i64 x1, .int .i64 x2, .int .i64 y1, .int .i64 y2, .string kx] 81)).size (fun j hj => (ho3.lt j hj).1); have hl4 := (HSB.out W4 b4.block b4.size).2; have hz4 := b4.size)
                      | (at_builtin; refine wpList_append_sps rfl _ _ 28 Try.underlying28 rfl U.heap.size (.slice none 0 0) 0 [] rfl (World.ownsRow_nil _ _ _ _) (some ad) q oc (O.take q) rfl (hl3.take q (by omega)) (by omega) (Nat.le_refl _) ?_; intro v3 W3 ho3 hg3; have b3 := (Below.refl U.heap.size U).grown hg3 (Nat.le_refl _) (fun j hj => by simp [Value.ownBlock] at hj); have hz3 := b3.size; obtain ⟨d0, d1, d2, d3, d4⟩ := (HSB.out W3 b3.block b3.size).1.cs))
                    have b5 := b4.grown hg5 b4.size (fun j hj => (ho4.lt j hj).1)
                    obtain ⟨a5, c5, rfl, ho6⟩ := rkids_fin (B := U.heap.size) (q := q) (m := q) HOl.out (by omega) HQ.out (by rw [show O.drop q = [] from List.drop_eq_nil_of_le (by rw [HOl.out]; exact Nat.le_refl _)]; simpa using ho5)
                    have HF5 : Hid (W5.ownsRow W0.heap.size 81 5 (.slice a5 (q + 1) c5) (q + 1) (flS (kidS (T.take (k + 1)) (y1, y2))) ∧ Below W0.heap.size W0 W5) := hid ⟨by rw [HKN.out]; exact ownS_low ho6 hz9, S9.out.2.2.trans (b5.mono hz9)⟩
                    clear ho5 hg5 ho6 b5 ho4 hg4 ho3 hg3 b4 b3
                    go_wp2_with fail
                    go_roundw
                    case rel => exact ⟨k + 1, a5, q + 1, c5, by omega, by omega, rfl, by go_num, HF5⟩
                    case measure => simp [intOf]; omega
      · have HKN : Hid (kidS (T.take (k + 1)) (p1, p2) = kidS (T.take k) (p1, p2)) := hid (by rw [HTS.out]; exact kidS_lay_else (s := (⟨(x1, x2), (y1, y2), kx⟩ : Sp)) HN1.out (fun e => hpp ⟨(Prod.mk.inj e).1.symm, (Prod.mk.inj e).2.symm⟩))
        by_cases h1 : y1 = p1
        · have h2 : ¬ y2 = p2 := fun e => hpp ⟨h1, e⟩
          have f1 : (y1 == p1) = true := by simpa using h1
          have f2 : (y2 == p2) = false := by simpa using h2
          clear hpp h1 h2
          go_wp2_with fail
          go_roundw
          case rel => exact ⟨k + 1, oa, m, oc, by omega, by omega, rfl, by go_num, hid ⟨by rw [HKN.out]; exact HST.out.1, HST.out.2.2⟩⟩
          case measure => simp [intOf]; omega
        · have f1 : (y1 == p1) = false := by simpa using h1
          clear hpp h1
          go_wp2_with fail
          go_roundw
          case rel => exact ⟨k + 1, oa, m, oc, by omega, by omega, rfl, by go_num, hid ⟨by rw [HKN.out]; exact HST.out.1, HST.out.2.2⟩⟩
          case measure => simp [intOf]; omega
    · obtain ⟨t0, t1, t2, u0, u1⟩ := HBX.out _ HO.out.2
      obtain rfl : n = k := by omega
      have hb1 : decide ((n : Int) < (n : Int)) = false := by simp
      have hln : T.take n = T := List.take_of_length_le (by rw [HL.out]; exact Nat.le_refl _)
      rw [hln] at HO
      obtain ⟨O, hO⟩ : ∃ O, O = kidS T (p1, p2) := ⟨_, rfl⟩
      have HKB : Hid (kidB T (p1, p2) = O.map Sp.b) := hid (by rw [hO]; rfl)
      rw [← hO] at HO
      have HOl : Hid (O.length = m) := hid (by have := HO.out.1.1; rw [flS_length] at this; omega)
      obtain ⟨t0, t1, t2, u0, u1⟩ := HBX.out _ HO.out.2
      obtain ⟨W5, hW5⟩ : ∃ W5, W5 = wr := ⟨_, rfl⟩
      rw [← hW5] at HO t0 t1 t2 u0 u1 ⊢
      clear hW5 hO hln
      have hmc : m ≤ oc := by
        obtain ⟨oa', oc', e', hsp⟩ := own_sps HO.out.1
        simp only [Value.slice.injEq] at e'
        obtain ⟨rfl, _, rfl⟩ := e'
        exact hsp.cap
      go_wp2_with fail
      go_loopw [10, 11] (fun v i wr2 => ∃ (ra : Option Addr) (rc i3 : Nat), i3 ≤ m ∧ v = .slice ra i3 rc ∧ i = .int .i64 i3 ∧ Hid (wr2.ownsRow W5.heap.size 24 2 (.slice ra i3 rc) i3 (flat ((O.take i3).map Sp.b)) ∧ Below W5.heap.size W5 wr2)) (fun _ i _ => m - (intOf i).toNat)
      case atStart => exact ⟨none, 0, 0, by omega, rfl, rfl, hid ⟨World.ownsRow_nil _ _ _ _, Below.refl _ _⟩⟩
      case round =>
        obtain ⟨ra, rc, i3, hi3, rfl, rfl, HR⟩ := hrel
        by_cases hil : i3 < m
        · have hb3 : decide ((i3 : Int) < (m : Int)) = true := by simp [hil]
          obtain ⟨oa', oc', e', hsp⟩ := own_sps (ownS_below HO.out.1 HR.out.2)
          simp only [Value.slice.injEq] at e'
          obtain ⟨rfl, _, rfl⟩ := e'
          obtain ⟨g, o, rfl, hat⟩ := hsp.at hil
          obtain ⟨x, hx⟩ : ∃ x, x = O[i3]'(by rw [HOl.out]; exact hil) := ⟨_, rfl⟩
          rw [← hx] at hat
          have HTS : Hid ((O.take (i3 + 1)).map Sp.b = (O.take i3).map Sp.b ++ [x.b]) := hid (by rw [hx, List.take_succ_eq_append_getElem (by rw [HOl.out]; exact hil), List.map_append]; rfl)
          clear hx hsp
          obtain ⟨⟨x1, x2⟩, ⟨y1, y2⟩, kx⟩ := x
          have c0 := hat.c0
          have c1 := hat.c1
          clear hat
          have hz := HR.out.2.size
          go_wp2_with (first
            | (at_builtin; refine wpList_append_dots rfl _ _ 29 Try.underlying29 rfl W5.heap.size _ i3 _ rfl (HR.out.1.alloc _) (some ⟨wr.heap.size, 0, none⟩) 1 1 [(x1, x2)] rfl (ps_one wr (x1, x2)) (by omega) (by simp; omega) ?_; intro v6 W6 ho6 hg6))
          have hB6 : Below W5.heap.size W5 W6 := (HR.out.2.alloc HR.out.2.size _).grown hg6 (HR.out.2.alloc HR.out.2.size _).size (fun j hj => (HR.out.1.lt j hj).1)
          have ho7 : W6.ownsRow W5.heap.size 24 2 v6 (i3 + 1) (flat ((O.take (i3 + 1)).map Sp.b)) := by rw [HTS.out, flat_append]; exact ho6
          obtain ⟨ra', rc', rfl⟩ := slice_form ho7
          have HR6 := hid (And.intro ho7 hB6)
          clear ho6 hg6 hB6 ho7
          go_wp2
          go_roundw
          case rel => exact ⟨ra', rc', i3 + 1, by omega, rfl, by go_num, HR6⟩
          case measure => simp [intOf]; omega
        · obtain rfl : m = i3 := by omega
          have hb3 : decide ((m : Int) < (m : Int)) = false := by simp
          go_wp2
          go_ret
          have ho := HR.out.1
          rw [List.take_of_length_le (by rw [HOl.out]; exact Nat.le_refl _), ← HKB.out] at ho
          have hB : Below w.heap.size w W5 := HB0.out.trans (HO.out.2.mono HB0.out.size)
          refine ⟨_, rfl, ?_, hB.trans (HR.out.2.mono hB.size)⟩
          have hml : m = (kidB T (p1, p2)).length := by rw [HKB.out, List.length_map, HOl.out]
          rw [← hml]
          refine ⟨ho.1, ?_⟩
          rcases ho.2 with h' | ⟨g', cap, cur, e, hb, r⟩
          · exact Or.inl h'
          · exact Or.inr ⟨g', cap, cur, e, Nat.le_trans hB.size hb, r⟩
end

section
set_option linter.unusedVariables false
set_option linter.unusedSimpArgs false
open Go.RowKit

theorem rroot_any (w : World) : Tells 49 #[] w (dv (0, -1)) := by
  go_enter Try.func49, Try.ntmps49
  go_wp2
  exact bodyPost_ret (v := dv (0, -1)) (by simp [results, Try.results49, go_sem]) rfl ⟨rfl, (Far.refl w).alloc _⟩

theorem rtrash_any (w : World) : Tells 50 #[] w (dv (0, -2)) := by
  go_enter Try.func50, Try.ntmps50
  go_wp2
  exact bodyPost_ret (v := dv (0, -2)) (by simp [results, Try.results50, go_sem]) rfl ⟨rfl, (Far.refl w).alloc _⟩

/-- Is it the root or the trash? -/
def endB (d : Dt) : Bool := decide (d = (0, -1)) || decide (d = (0, -2))

set_option maxRecDepth 100000 in
set_option maxHeartbeats 2000000 in
theorem ends_any (d : Dt) (w : World) : Calls Try.prog 27 #[dv d] w fun e w' => e = .returned (.bool (endB d)) ∧ Below w.heap.size w w' := by
  obtain ⟨a, b⟩ := d
  have mixed := mixed
  obtain ⟨W0, hW0⟩ : ∃ W0, W0 = w.alloc (.cells #[.int .i64 a, .int .i64 b] 24) := ⟨_, rfl⟩
  have hB0 : Below w.heap.size w W0 := by rw [hW0]; exact (Below.refl _ w).alloc (Nat.le_refl _) _
  have hb1 : W0.heap[w.heap.size]? = some (.cells #[.int .i64 a, .int .i64 b] 24 (0, 0)) := by rw [hW0]; exact World.alloc_heap_new w _
  have hl1 := (Array.getElem?_eq_some_iff.1 hb1).1
  haveI : Nonempty (Wb W0) := ⟨⟨W0, Below.refl _ _⟩⟩
  have a0 : ∀ p : Wb W0, p.u.cell? ⟨w.heap.size, 0, none⟩ = some (.int .i64 a) := fun p => by
    have g1 := (p.h.block _ hl1).trans hb1
    simp [World.cell?, g1]
  have a1 : ∀ p : Wb W0, p.u.cell? ⟨w.heap.size, 1, none⟩ = some (.int .i64 b) := fun p => by
    have g1 := (p.h.block _ hl1).trans hb1
    simp [World.cell?, g1]
  have kRo : ∀ p : Wb W0, Calls Try.prog 49 #[] p.u fun e w'' => e = .returned (.agg #[.int .i64 0, .int .i64 (-1)]) ∧ ∃ p' : Wb W0, w'' = p'.u := fun p => far_q (rroot_any p.u)
  have kTr : ∀ p : Wb W0, Calls Try.prog 50 #[] p.u fun e w'' => e = .returned (.agg #[.int .i64 0, .int .i64 (-2)]) ∧ ∃ p' : Wb W0, w'' = p'.u := fun p => far_q (rtrash_any p.u)
  have HW := hid hW0
  clear hW0 hb1 hl1
  by_cases ha : a = 0
  · subst ha
    by_cases hb : b = -1
    · subst hb
      have hr : Hid (endB (0, -1) = true) := hid rfl
      go_enter Try.func27, Try.ntmps27
      go_wp2_with fail
      rw [← HW.out]
      refine wp_region_below mixed (by kernel_rfl) ?_
      repeat (go_big_quiet_step (first | (go_at_call 49; exact kRo _) | (go_at_call 50; exact kTr _)))
      refine wpQuiet_nil ?_
      intro _ hw'
      obtain ⟨p, hw''⟩ := hw'
      subst hw''
      go_wp2
      go_ret
      exact ⟨by rw [hr.out]; rfl, hB0.trans (p.h.mono hB0.size)⟩
    · by_cases hc : b = -2
      · subst hc
        have hr : Hid (endB (0, -2) = true) := hid rfl
        go_enter Try.func27, Try.ntmps27
        go_wp2_with fail
        rw [← HW.out]
        refine wp_region_below mixed (by kernel_rfl) ?_
        repeat (go_big_quiet_step (first | (go_at_call 49; exact kRo _) | (go_at_call 50; exact kTr _)))
        refine wpQuiet_nil ?_
        intro _ hw'
        obtain ⟨p, hw''⟩ := hw'
        subst hw''
        go_wp2
        go_ret
        exact ⟨by rw [hr.out]; rfl, hB0.trans (p.h.mono hB0.size)⟩
      · have hr : Hid (endB (0, b) = false) := hid (by unfold endB; simp [hb, hc])
        have k1 : (b == -1) = false := by simpa using hb
        have k2 : (b == -2) = false := by simpa using hc
        clear hb hc
        go_enter Try.func27, Try.ntmps27
        go_wp2_with fail
        rw [← HW.out]
        refine wp_region_below mixed (by kernel_rfl) ?_
        repeat (go_big_quiet_step (first | (go_at_call 49; exact kRo _) | (go_at_call 50; exact kTr _)))
        refine wpQuiet_nil ?_
        intro _ hw'
        obtain ⟨p, hw''⟩ := hw'
        subst hw''
        go_wp2
        go_ret
        exact ⟨by rw [hr.out]; rfl, hB0.trans (p.h.mono hB0.size)⟩
  · have hr : Hid (endB (a, b) = false) := hid (by unfold endB; simp [ha])
    have k0 : (a == 0) = false := by simpa using ha
    clear ha
    go_enter Try.func27, Try.ntmps27
    go_wp2_with fail
    rw [← HW.out]
    refine wp_region_below mixed (by kernel_rfl) ?_
    repeat (go_big_quiet_step (first | (go_at_call 49; exact kRo _) | (go_at_call 50; exact kTr _)))
    refine wpQuiet_nil ?_
    intro _ hw'
    obtain ⟨p, hw''⟩ := hw'
    subst hw''
    go_wp2
    go_ret
    exact ⟨by rw [hr.out]; rfl, hB0.trans (p.h.mono hB0.size)⟩
end

section
open Go.RowKit
open Go.Sort (grow)

set_option maxHeartbeats 2000000 in
theorem in_any (a : Option Addr) (n c : Nat) (L : List Dt) (x : Dt) (w : World) (hs : PS w a n c L) (hn : n ≤ 1000000) :
    Calls Try.prog 22 #[.slice a n c, dv x] w fun e w' => e = .returned (.bool (decide (x ∈ L))) ∧ Far w w' := by
  obtain ⟨x1, x2⟩ := x
  have HL := hid hs.len
  have hb0 : RowKit.Below w.heap.size w (w.alloc (.cells #[.int .i64 x1, .int .i64 x2] 24)) := (Below.refl _ w).alloc (Nat.le_refl _) _
  go_enter Try.func22, Try.ntmps22
  go_wp2
  go_loopw [5] (fun i wr => ∃ k : Nat, k ≤ n ∧ i = .int .i64 k ∧ (x1, x2) ∉ L.take k ∧ ∃ q, wr = (w.alloc (.cells #[.int .i64 x1, .int .i64 x2] 24)).drewN q) (fun i _ => n - (intOf i).toNat)
  case atStart => exact ⟨0, by omega, rfl, by simp, 0, rfl⟩
  case round =>
    obtain ⟨k, hk, rfl, htk0, hw0⟩ := hrel
    have htk := hid htk0
    have hW := hid hw0
    clear htk0
    by_cases hlt : k < n
    · have hl := HL.out
      have hx0 : wr.cell? ⟨w.heap.size, 0, none⟩ = some (.int .i64 x1) := by obtain ⟨q, rfl⟩ := hw0; go_simp
      have hx1 : wr.cell? ⟨w.heap.size, 1, none⟩ = some (.int .i64 x2) := by obtain ⟨q, rfl⟩ := hw0; go_simp
      have hs1 : PS wr a n c L := by obtain ⟨q, hq⟩ := hw0; rw [hq]; exact (hs.below hb0).drewN q
      clear hw0
      obtain ⟨g, o, rfl, hg, hcell⟩ := hs1.at (by omega)
      obtain ⟨hc0, hc1⟩ := hcell k (by omega)
      have hts : Hid _ := hid (take_snoc (L := L) (k := k) (by omega))
      have hLk : Hid _ := hid (List.getElem_mem (l := L) (n := k) (by omega))
      generalize (L[k]'(by omega)) = d at hc0 hc1 hts hLk
      clear hs hcell hl hs1
      obtain ⟨d1, d2⟩ := d
      have C0 : ∀ m, (wr.drewN m).cell? ⟨g, o + k * 2, none⟩ = some (.int .i64 d1) := fun _ => hc0
      have C1 : ∀ m, (wr.drewN m).cell? ⟨g, o + k * 2 + 1, none⟩ = some (.int .i64 d2) := fun _ => hc1
      have E0 : ∀ m, (wr.drewN m).cell? ⟨w.heap.size, 0, none⟩ = some (.int .i64 x1) := fun _ => hx0
      have E1 : ∀ m, (wr.drewN m).cell? ⟨w.heap.size, 1, none⟩ = some (.int .i64 x2) := fun _ => hx1
      have hk1 : (k : Int) < (n : Int) := by omega
      have hk0 : (0 : Int) ≤ (k : Int) := by omega
      by_cases h1 : d1 = x1
      · subst h1
        by_cases h2 : d2 = x2
        · subst h2
          go_wp2_with fail
          go_quiet (fail)
          go_wp2
          go_ret
          refine ⟨by simp [hLk.out], ?_⟩
          obtain ⟨q, rfl⟩ := hW.out
          exact (((Far.refl w).alloc _).drewN q).drewN _
        · go_wp2_with fail
          go_quiet (fail)
          go_wp2
          go_roundw
          case rel => exact ⟨k + 1, by omega, by go_num, by rw [hts.out]; simp [htk.out, Ne.symm h2], drew_more hW.out _⟩
          case measure => simp [intOf]; omega
      · go_wp2_with fail
        go_quiet (fail)
        go_wp2
        go_roundw
        case rel => exact ⟨k + 1, by omega, by go_num, by rw [hts.out]; simp [htk.out, Ne.symm h1], drew_more hW.out _⟩
        case measure => simp [intOf]; omega
    · obtain rfl : k = n := by omega
      clear hw0
      go_wp2
      go_ret
      have h := htk.out
      rw [List.take_of_length_le (by rw [HL.out]; exact Nat.le_refl _)] at h
      refine ⟨by simp [h], ?_⟩
      obtain ⟨q, rfl⟩ := hW.out
      exact ((Far.refl w).alloc _).drewN q
end
end Go.Proofs.Ytplcohjpchfkkaa
