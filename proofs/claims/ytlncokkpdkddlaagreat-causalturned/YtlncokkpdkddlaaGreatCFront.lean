/- Frontier: the identities on which none leans. -/
import Derived.Test.YtlncokkpdkddlaaGreatCKnown
import Derived.Test.YtlncokkpdkddlaaGreatOCount
import Derived.Deep.RegionHeld
import Derived.Deep.CutRange
namespace Go.Proofs.YtlncokkpdkddlaaGreat
open Go.RowKit Go.Maps
open Go.Sort (grow)

/-- With the Deps of one more. -/
def kone (id : Dt) (f : Int → Kn) (d : Dt) : Int → Kn := fun e => if e = d.1 then kwith (f d.1) d.2 id else f e
def krow (f : Int → Kn) (x : Mop) : Int → Kn := x.2.foldl (kone x.1.id) f
def kall (l : List Mop) : Int → Kn := l.foldl krow (fun _ => (0, (0, 0), 0))
/-- Is it at the frontier? -/
def frb (l : List Mop) (d : Dt) : Bool := !mayd d || decide (kbut (kall l d.1) d < d.2)
def frt (l : List Mop) : List Dt := (rise (l.map (fun x => x.1.id))).filter (frb l)

theorem rise_length_le (l : List Dt) : (rise l).length ≤ l.length :=
  List.Nodup.length_le_of_subset (up_nodup (up_rise l)) (fun d hd => (mem_rise d l).1 hd)

theorem far_same {w w' : World} (h : Far w w') {b : Nat} (hb : b < w.heap.size) : w'.heap[b]? = w.heap[b]? := h.below.block b hb

set_option maxRecDepth 100000 in
set_option maxHeartbeats 4000000 in
theorem front_any (a : Option Addr) (n c : Nat) (L : List Mo) (w : World) (hs : OS w a n c L) (hF : ∀ x ∈ L, x.o.Fits ∧ Dws x.V ∧ x.n ≤ 1000000) (hn : n ≤ 1000) :
    Calls Tryz.prog 14 #[.slice a n c] w (Gives w (frt (L.map Mo.m))) := by
  have hlen := hs.len
  have hmk := @run_makeMap Tryz.prog
  have hIds : ∀ W, RowKit.Below w.heap.size w W → Calls Tryz.prog 36 #[.slice a n c] W (Gives W (L.map (fun x => x.o.id))) := fun W h => ids_any a n c L W (hs.below h) (by omega)
  go_enter Tryz.func14, Tryz.ntmps14
  go_wp2
  go_loopw [14] (fun i wr => ∃ (k m : Nat), k ≤ n ∧ i = .int .i64 k ∧ m ≤ k * 1000000 ∧ Hid (MK wr w.heap.size m (kall ((L.take k).map Mo.m))) ∧ Hid (RowKit.Below w.heap.size w wr)) (fun i _ => n - (intOf i).toNat)
  case atStart => exact ⟨0, 0, by omega, rfl, by omega, hid (MK.made w), hid ((Below.refl _ _).alloc (Nat.le_refl _) _)⟩
  case round =>
    obtain ⟨k, m, hk, rfl, hmk', hM, hB⟩ := hrel
    by_cases hlt : k < n
    · have hkl : k < L.length := by omega
      obtain ⟨g, o, rfl, hg, hcell⟩ := (hs.below hB.out).at (by omega)
      obtain ⟨c0, c1, c2, c3, c4, c5, c6, c7, c8, c9, c10, c11, c12, c13⟩ := hcell k hkl
      have hfx := hF _ (List.getElem_mem hkl)
      have hP := hs.deps _ (List.getElem_mem hkl)
      have hst := hid (show kall ((L.take (k + 1)).map Mo.m) = krow (kall ((L.take k).map Mo.m)) (L[k]).m by rw [List.take_succ_eq_append_getElem hkl, List.map_append]; unfold kall; rw [List.foldl_append]; rfl)
      generalize L[k] = x at *
      generalize kall ((L.take k).map Mo.m) = f0 at *
      obtain ⟨op, xa, xn, xc, xV⟩ := x
      have hsz := hB.out.size
      have hlb := hM.out.lt
      have hA := opAt_alloc wr op (.slice xa xn xc) 36
      have hF1 : Far wr (wr.alloc (.cells (op.cells (.slice xa xn xc)) 36)) := (Far.refl wr).alloc _
      have hbk : (wr.alloc (.cells (op.cells (.slice xa xn xc)) 36)).heap[wr.heap.size]? = some (.cells (op.cells (.slice xa xn xc)) 36) := (MapKept.heap_alloc wr _).1
      have hM5 := hid (hM.out.same (far_same hF1 hlb))
      have hB5 := hid (hB.out.alloc hsz (.cells (op.cells (.slice xa xn xc)) 36))
      have hq5 : wr.heap.size < (wr.alloc (.cells (op.cells (.slice xa xn xc)) 36)).heap.size := by simp
      obtain ⟨w5, hw5⟩ : ∃ w5, w5 = wr.alloc (.cells (op.cells (.slice xa xn xc)) 36) := ⟨_, rfl⟩
      rw [← hw5] at hA hF1 hbk hM5 hB5 hq5
      have hw5' : wr.alloc (.cells #[.int .i64 op.id0, .int .i64 op.id1, .int .i64 op.time, .slice xa xn xc, .int .i64 op.kind, .int .i64 op.bl0, .int .i64 op.bl1, .int .i64 op.at0, .int .i64 op.at1, .int .i64 op.side, .int .i64 op.char, .int .i64 op.pa0, .int .i64 op.pa1, .string op.key] 36) = w5 := hw5.symm
      obtain ⟨qb, hqb⟩ : ∃ qb, wr.heap.size = qb := ⟨_, rfl⟩
      rw [hqb] at hA hbk hq5 hlb
      obtain ⟨a0, a1, a2, a3, a4, a5, a6, a7, a8, a9, a10, a11, a12, a13⟩ := hA
      have hxl := hP.len
      have hxm : xn ≤ 1000000 := hfx.2.2
      have HX := hid hxl
      clear hcell hw5 hM hB hxl
      go_wp2
      go_loopw [21] (fun qv w2 => ∃ q : Nat, q ≤ xn ∧ qv = .int .i64 q ∧ Hid (MK w2 w.heap.size (m + q) ((xV.take q).foldl (kone op.id) f0)) ∧ Hid (RowKit.Below w.heap.size w w2) ∧ Hid (w2.heap[qb]? = some (.cells (op.cells (.slice xa xn xc)) 36)) ∧ qb < w2.heap.size) (fun qv _ => xn - (intOf qv).toNat)
      case atStart => exact ⟨0, by omega, rfl, hid hM5.out, hB5, hid hbk, hq5⟩
      case round =>
        obtain ⟨q, hq, rfl, hM2, hB2, hb2, hq2⟩ := hrel
        by_cases hql : q < xn
        · have hqv : q < xV.length := by have := HX.out; omega
          obtain ⟨g', o', rfl, hg', hcell'⟩ := (hP.below hB2.out).at (by omega)
          obtain ⟨d0, d1⟩ := hcell' q hqv
          have hdd : Dw xV[q] := hfx.2.1 _ (List.getElem_mem hqv)
          have htk := hid (show (xV.take (q + 1)).foldl (kone op.id) f0 = kone op.id ((xV.take q).foldl (kone op.id) f0) xV[q] by rw [List.take_succ_eq_append_getElem hqv, List.foldl_append]; rfl)
          generalize xV[q] = d at *
          generalize (xV.take q).foldl (kone op.id) f0 = fq at *
          have hF6 : Far wr (wr.alloc (.cells #[.int .i64 d.1, .int .i64 d.2] 32)) := (Far.refl wr).alloc _
          have hml := hM2.out.lt
          have hM6 := hM2.out.same (far_same hF6 hml)
          have hb6 := (far_same hF6 hq2).trans hb2.out
          have hs6 := hF6.below.size
          have hB6 := hid (hB2.out.trans (hF6.below.mono hB2.out.size))
          have k0 : (wr.alloc (.cells #[.int .i64 d.1, .int .i64 d.2] 32)).cell? ⟨wr.heap.size, 0, none⟩ = some (.int .i64 d.1) := by go_simp
          have k1 : (wr.alloc (.cells #[.int .i64 d.1, .int .i64 d.2] 32)).cell? ⟨wr.heap.size, 1, none⟩ = some (.int .i64 d.2) := by go_simp
          obtain ⟨d1', d2'⟩ := d
          clear hcell'
          go_wp2_with fail
          generalize wr.alloc (.cells #[.int .i64 d1', .int .i64 d2'] 32) = w6 at *
          generalize wr.heap.size = qd at *
          obtain ⟨e0, e1, e2, e3, e4, e5, e6, e7, e8, e9, e10, e11, e12, e13⟩ := opAt_of_block hb6
          have hlk : (Instr.lookup 64 (.map (some w.heap.size)) (.int .i64 d1') false).run Tryz.prog w6.drew = .ok (kv (fq d1')) w6.drew := (hM6.same (w' := w6.drew) rfl).look hdd.1
          have hW := kwith_any (fq d1') d2' op.id w6.drew
          have hPut := fun W (hf : Far w6.drew W) => ((hM6.same (w' := w6.drew) rfl).same (far_same hf (by exact hM6.lt))).put hdd.1 (kwith (fq d1') d2' op.id) (by unfold maxLen; omega)
          have hS6 : w6.drew.cell? ⟨qd, 0, none⟩ = some (.int .i64 d1') ∧ w6.drew.cell? ⟨qd, 1, none⟩ = some (.int .i64 d2') ∧ w6.drew.cell? ⟨qb, 0, none⟩ = some (.int .i64 op.id0) ∧ w6.drew.cell? ⟨qb, 1, none⟩ = some (.int .i64 op.id1) := ⟨k0, k1, e0, e1⟩
          have hS7 : ∀ W, Far w6.drew W → W.cell? ⟨qd, 0, none⟩ = some (.int .i64 d1') ∧ W.cell? ⟨qd, 1, none⟩ = some (.int .i64 d2') ∧ W.cell? ⟨qb, 0, none⟩ = some (.int .i64 op.id0) ∧ W.cell? ⟨qb, 1, none⟩ = some (.int .i64 op.id1) := fun W hf => ⟨(hf.below.cell (p := ⟨qd, 0, none⟩) (cell_in k0)).trans k0, (hf.below.cell (p := ⟨qd, 1, none⟩) (cell_in k1)).trans k1, (hf.below.cell (p := ⟨qb, 0, none⟩) (cell_in e0)).trans e0, (hf.below.cell (p := ⟨qb, 1, none⟩) (cell_in e1)).trans e1⟩
          have hqd : qd ≠ w.heap.size := by omega
          have hqb' : qb ≠ w.heap.size := by omega
          have hS8 : ∀ W W', Far w6.drew W → W.grownBy W' (some w.heap.size) → W'.cell? ⟨qd, 0, none⟩ = some (.int .i64 d1') ∧ W'.cell? ⟨qd, 1, none⟩ = some (.int .i64 d2') ∧ W'.cell? ⟨qb, 0, none⟩ = some (.int .i64 op.id0) ∧ W'.cell? ⟨qb, 1, none⟩ = some (.int .i64 op.id1) := fun W W' hf hg => by
            obtain ⟨r0, r1, r2, r3⟩ := hS7 W hf
            exact ⟨(hg.cell_far ⟨qd, 0, none⟩ (cell_in r0) (by simpa using hqd)).trans r0, (hg.cell_far ⟨qd, 1, none⟩ (cell_in r1) (by simpa using hqd)).trans r1, (hg.cell_far ⟨qb, 0, none⟩ (cell_in r2) (by simpa using hqb')).trans r2, (hg.cell_far ⟨qb, 1, none⟩ (cell_in r3) (by simpa using hqb')).trans r3⟩
          clear e2 e3 e4 e5 e6 e7 e8 e9 e10 e11 e12 e13 a0 a1 a2 a3 a4 a5 a6 a7 a8 a9 a10 a11 a12 a13 c0 c1 c2 c3 c4 c5 c6 c7 c8 c9 c10 c11 c12 c13
          go_region_held (fun w' => w'.cell? ⟨qd, 0, none⟩ = some (.int .i64 d1') ∧ w'.cell? ⟨qd, 1, none⟩ = some (.int .i64 d2') ∧ w'.cell? ⟨qb, 0, none⟩ = some (.int .i64 op.id0) ∧ w'.cell? ⟨qb, 1, none⟩ = some (.int .i64 op.id1)) (first | exact hS6 | exact hSA | exact hSB)
            (first
              | (go_at_call 34; refine hW.mono ?_; rintro e w7 ⟨rfl, hF7⟩; obtain ⟨w8, hr8, hM8, hG8⟩ := hPut w7 hF7; have hSA := hS7 w7 hF7; have hSB := hS8 w7 w8 hF7 hG8))
          go_wp2
          go_roundw
          case rel =>
            have hby : RowKit.Below w.heap.size w w6.drew := ⟨hB6.out.os, hB6.out.tape, hB6.out.output, hB6.out.size, hB6.out.block⟩
            have hbx : RowKit.Below w.heap.size w w7 := hby.trans (hF7.below.mono hby.size)
            refine ⟨q + 1, by omega, by go_num, hid ?_, hid (hbx.grown hG8 hbx.size (fun j hj => by cases hj; exact Nat.le_refl _)), hid ?_, ?_⟩
            · rw [htk.out]
              exact hM8
            · rw [hG8.block qb (Nat.lt_of_lt_of_le (by show qb < w6.heap.size; omega) hF7.below.size) (by simpa using hqb')]
              exact (far_same hF7 (by show qb < w6.heap.size; omega)).trans hb6
            · have h1 := hF7.below.size
              have h2 := hG8.size
              have h3 : w6.drew.heap.size = w6.heap.size := rfl
              omega
          case measure => simp [intOf]; omega
        · obtain rfl : q = xn := by omega
          go_wp2
          go_roundw
          case rel =>
            refine ⟨k + 1, m + q, by omega, by go_num, by omega, hid ?_, hB2⟩
            have := hM2.out
            rw [List.take_of_length_le (by have := HX.out; omega)] at this
            rw [hst.out]
            exact this
          case measure => simp [intOf]; omega
    · obtain rfl : k = n := by omega
      have hMf := hM.out
      rw [← hlen, List.take_length] at hMf
      have HM := hid hMf
      have hidl : (L.map (fun x => x.o.id)).length = L.length := by simp
      have hidd : Dws (L.map (fun x => x.o.id)) := fun d hd => by
        obtain ⟨x, hx, rfl⟩ := List.mem_map.1 hd
        exact ⟨(hF x hx).1.id0, (hF x hx).1.id1⟩
      have hidr : Hid ((L.map Mo.m).map (fun x => x.1.id) = L.map (fun x => x.o.id)) := hid (by rw [List.map_map]; rfl)
      have hI := hIds wr hB.out
      generalize hIL : L.map (fun x => x.o.id) = IL at *
      have hsb := hB.out.size
      have hil : IL.length ≤ 1000 := by omega
      have HIL := hid (And.intro hIL hidl)
      clear hMf hM hIds hidl hlen hIL
      go_wp2_with (first
        | (go_at_call 36; refine hI.mono ?_; rintro e w2 ⟨v2, rfl, hO2, hB2⟩; obtain ⟨a2, c2, rfl, hp2⟩ := owned_ps hO2 rfl; have hs2 := hB2.size; have HB2 := hid hB2; have HO2 := hid hO2; clear hB2 hO2)
        | (go_at_call 35; refine (rising_any a2 IL.length c2 IL w2 hp2 hidd (by omega)).mono ?_; rintro e w3 ⟨g3, c3, rfl, hO3, hB3⟩))
      have hps3 := hO3.ps rfl
      have hrl : (rise IL).length ≤ 1000 := by
        have h1 : (rise IL).length ≤ IL.length := rise_length_le IL
        omega
      have hM3 := hid (HM.out.same ((hB3.block _ (by have := HM.out.lt; omega)).trans (HB2.out.block _ HM.out.lt)))
      have hBw := hid (below2 hB.out (below2 HB2.out hB3))
      have hs3 := hBw.out.size
      have hfd : Hid (Dws (rise IL)) := hid (fun d hd => hidd d ((mem_rise d IL).1 hd))
      have hfr : Hid (frt (L.map Mo.m) = (rise IL).filter (frb (L.map Mo.m))) := hid (by unfold frt; rw [hidr.out])
      have hkf : Hid (∀ d : Dt, frb (L.map Mo.m) d = (!mayd d || decide (kbut (kall (L.map Mo.m) d.1) d < d.2))) := hid (fun d => rfl)
      generalize frb (L.map Mo.m) = fb at *
      generalize frt (L.map Mo.m) = FT at *
      generalize kall (L.map Mo.m) = fk at *
      generalize rise IL = RL at *
      clear hO3 hB3 hI hidd
      have HP3 := hid hps3
      have hpc := hps3.cap
      have hpm := hps3.max
      clear hps3
      go_loopw [43, 8] (fun i v wr => ∃ q : Nat, q ≤ RL.length ∧ i = .int .i64 q ∧ Hid (OwnV wr w3.heap.size v ((RL.take q).filter fb)) ∧ Hid (RowKit.Below w3.heap.size w3 wr)) (fun i _ _ => RL.length - (intOf i).toNat)
      case atStart => exact ⟨0, by omega, rfl, hid (World.ownsRow_nil _ _ _ _), hid (Below.refl _ _)⟩
      case round =>
        obtain ⟨q, hq, rfl, hO, hBr⟩ := hrel
        by_cases hql : q < RL.length
        · obtain ⟨g', o', hga, hg', hcell'⟩ := (HP3.out.below hBr.out).at (by omega)
          obtain ⟨rfl, rfl⟩ : g3 = g' ∧ 0 = o' := by simpa using hga
          obtain ⟨d0, d1⟩ := hcell' q hql
          rw [Nat.zero_add] at d0 d1
          have hdd : Dw RL[q] := hfd.out _ (List.getElem_mem hql)
          have hst := hid (show (RL.take (q + 1)).filter fb = (RL.take q).filter fb ++ [RL[q]].filter fb by rw [List.take_succ_eq_append_getElem hql, List.filter_append])
          have hfl : ((RL.take q).filter fb).length ≤ q := by
            have := List.length_filter_le fb (RL.take q)
            rw [List.length_take] at this
            omega
          generalize RL[q] = d at *
          have hF5 : Far wr (wr.alloc (.cells #[.int .i64 d.1, .int .i64 d.2] 32)) := (Far.refl wr).alloc _
          have hszr := hBr.out.size
          have hmlt : w.heap.size < w3.heap.size := hM3.out.lt
          have hM5 : MK (wr.alloc (.cells #[.int .i64 d.1, .int .i64 d.2] 32)) w.heap.size m fk := hM3.out.same ((far_same hF5 (by omega)).trans (hBr.out.block _ hmlt))
          have k0 : (wr.alloc (.cells #[.int .i64 d.1, .int .i64 d.2] 32)).cell? ⟨wr.heap.size, 0, none⟩ = some (.int .i64 d.1) := by go_simp
          have k1 : (wr.alloc (.cells #[.int .i64 d.1, .int .i64 d.2] 32)).cell? ⟨wr.heap.size, 1, none⟩ = some (.int .i64 d.2) := by go_simp
          have hO5 := hid (hO.out.alloc (.cells #[.int .i64 d.1, .int .i64 d.2] 32))
          have hB5 := hid (below2 hBr.out hF5.below)
          have hs5 := hF5.below.size
          obtain ⟨d1', d2'⟩ := d
          clear hcell'
          go_wp2_with fail
          generalize wr.alloc (.cells #[.int .i64 d1', .int .i64 d2'] 32) = w5 at *
          generalize wr.heap.size = qd at *
          have K0 := fun (m : Nat) (os : Array Obj) => ((Far.refl w5).more m os).below.cell (p := ⟨qd, 0, none⟩) (cell_in k0) |>.trans k0
          have K1 := fun (m : Nat) (os : Array Obj) => ((Far.refl w5).more m os).below.cell (p := ⟨qd, 1, none⟩) (cell_in k1) |>.trans k1
          have hMy := fun (m : Nat) (os : Array Obj) => tells_q (may_any (d1', d2') (grow (w5.drewN m) os))
          have hBt := fun (m : Nat) (os : Array Obj) => tells_q (but_any (fk d1') (d1', d2') (grow (w5.drewN m) os))
          have hLk := fun (m : Nat) (os : Array Obj) => (hM5.same (far_same ((Far.refl w5).more m os) hM5.lt)).look hdd.1
          have hfbv := hid (hkf.out (d1', d2'))
          obtain ⟨L', hL'⟩ : ∃ L', L' = (RL.take q).filter fb := ⟨_, rfl⟩
          rw [← hL'] at hst hO5 hfl
          obtain ⟨m', hm'⟩ : ∃ m', L'.length = m' := ⟨_, rfl⟩
          rw [hm'] at hfl
          have HO6 : Hid (w5.ownsRow w3.heap.size 32 2 u8 m' (flat L')) := hid (by have := hO5.out; rw [hm'] at this; exact this)
          have HM' := hid hm'
          clear hL' hm' hO5
          cases hmd : mayd (d1', d2')
          · rw [hmd] at hMy hfbv
            have hyes := hid (show [(d1', d2')].filter fb = [(d1', d2')] by have := hfbv.out; simp [this])
            refine wp_region_quiet_grown mixed (by kernel_rfl) ?_
            repeat (go_big_quiet_step ((first | (go_at_call 37; exact hMy _ _) | (go_at_call 38; exact hBt _ _))))
            refine wpQuiet_nil ?_
            intro _ hw'
            obtain ⟨⟨nq, osq⟩, hw''⟩ := hw'
            subst hw''
            simp only []
            have hFq : Far w5 (grow (w5.drewN nq) osq) := (Far.refl w5).more nq osq
            have j0 := K0 nq osq
            have j1 := K1 nq osq
            generalize grow (w5.drewN nq) osq = w6 at *
            clear K0 K1 hMy hBt hLk
            have HO7 := hid (own_far' HO6.out hFq)
            have hs6 := hFq.below.size
            go_wp2_with (first
              | (at_builtin; refine wpList_append_dots rfl _ _ 33 Tryz.underlying33 rfl w3.heap.size u8 m' _ rfl (HO7.out.alloc _) (some ⟨w6.heap.size, 0, none⟩) 1 1 [(d1', d2')] rfl (ps_one w6 (d1', d2')) (by omega) (by simp; omega) ?_; intro v7 w7 ho7 hg7))
            go_roundw
            case rel =>
              have hb6 := below2 hB5.out hFq.below
              refine ⟨q + 1, by omega, by go_num, hid ?_, hid ((hb6.alloc (by omega) _).grown hg7 (by simp; omega) (fun j hj => ?_))⟩
              · rw [hst.out, hyes.out]
                show World.ownsRow _ _ _ _ _ (List.length _) _
                rw [List.length_append, HM'.out, flat_append]
                exact ho7
              · exact (HO7.out.lt j hj).1
            case measure => simp [intOf]; omega
          · rw [hmd] at hMy hfbv
            cases hkb : decide (kbut (fk d1') (d1', d2') < d2')
            · have hno := hid (show [(d1', d2')].filter fb = [] by have := hfbv.out; simp only [hkb] at this; simp [this])
              have HK := hid hkb
              refine wp_region_quiet_grown mixed (by kernel_rfl) ?_
              repeat (go_big_quiet_step ((first | (go_at_call 37; exact hMy _ _) | (go_at_call 38; exact hBt _ _))))
              refine wpQuiet_nil ?_
              intro _ hw'
              obtain ⟨⟨nq, osq⟩, hw''⟩ := hw'
              subst hw''
              simp only []
              have hFq : Far w5 (grow (w5.drewN nq) osq) := (Far.refl w5).more nq osq
              have j0 := K0 nq osq
              have j1 := K1 nq osq
              generalize grow (w5.drewN nq) osq = w6 at *
              clear K0 K1 hMy hBt hLk
              go_wp2
              go_roundw
              case rel =>
                refine ⟨q + 1, by omega, by go_num, hid ?_, hid (below2 hB5.out hFq.below)⟩
                rw [hst.out, hno.out, List.append_nil]
                show World.ownsRow _ _ _ _ _ (List.length _) _
                rw [HM'.out]
                exact own_far' HO6.out hFq
              case measure => simp [intOf]; omega
            · have hyes := hid (show [(d1', d2')].filter fb = [(d1', d2')] by have := hfbv.out; simp only [hkb] at this; simp [this])
              have HK := hid hkb
              refine wp_region_quiet_grown mixed (by kernel_rfl) ?_
              repeat (go_big_quiet_step ((first | (go_at_call 37; exact hMy _ _) | (go_at_call 38; exact hBt _ _))))
              refine wpQuiet_nil ?_
              intro _ hw'
              obtain ⟨⟨nq, osq⟩, hw''⟩ := hw'
              subst hw''
              simp only []
              have hFq : Far w5 (grow (w5.drewN nq) osq) := (Far.refl w5).more nq osq
              have j0 := K0 nq osq
              have j1 := K1 nq osq
              generalize grow (w5.drewN nq) osq = w6 at *
              clear K0 K1 hMy hBt hLk
              have HO7 := hid (own_far' HO6.out hFq)
              have hs6 := hFq.below.size
              go_wp2_with (first
                | (at_builtin; refine wpList_append_dots rfl _ _ 33 Tryz.underlying33 rfl w3.heap.size u8 m' _ rfl (HO7.out.alloc _) (some ⟨w6.heap.size, 0, none⟩) 1 1 [(d1', d2')] rfl (ps_one w6 (d1', d2')) (by omega) (by simp; omega) ?_; intro v7 w7 ho7 hg7))
              go_roundw
              case rel =>
                have hb6 := below2 hB5.out hFq.below
                refine ⟨q + 1, by omega, by go_num, hid ?_, hid ((hb6.alloc (by omega) _).grown hg7 (by simp; omega) (fun j hj => ?_))⟩
                · rw [hst.out, hyes.out]
                  show World.ownsRow _ _ _ _ _ (List.length _) _
                  rw [List.length_append, HM'.out, flat_append]
                  exact ho7
                · exact (HO7.out.lt j hj).1
              case measure => simp [intOf]; omega
        · obtain rfl : q = RL.length := by omega
          have hOf := hO.out
          rw [List.take_length] at hOf
          have HOf := hid hOf
          clear hOf
          go_wp2
          go_ret
          refine ⟨u8, rfl, ?_, below2 hBw.out hBr.out⟩
          rw [hfr.out]
          exact sbase HOf.out hs3
end Go.Proofs.YtlncokkpdkddlaaGreat
