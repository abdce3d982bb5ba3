/- later and Right: what they tell. -/
import Derived.Test.YtoapblojoblhiaaGreatORow
import Derived.Test.YtoapblojoblhiaaGreatGLook
import Derived.Test.YtoapblojoblhiaaGreatOCount
namespace Go.Proofs.YtoapblojoblhiaaGreat
open Go.RowKit Go.Maps

/-- With one more. -/
def upd (tm : Dt → Option Int) (d : Dt) (t : Int) : Dt → Option Int := fun e => if e = d then some t else tm e

/-- Is each one's Time above those of its Deps, as far as they came ahead of it? -/
def latF (tm : Dt → Option Int) : List Mop → Bool
  | [] => true
  | x :: r => x.2.all (fun d => decide ((tm d).getD 0 < x.1.time)) && latF (upd tm x.1.id x.1.time) r

theorem latF_no {tm : Dt → Option Int} {x : Mop} {r : List Mop} {d : Dt} (hd : d ∈ x.2) (h : ¬ (tm d).getD 0 < x.1.time) : latF tm (x :: r) = false := by
  have : x.2.all (fun d => decide ((tm d).getD 0 < x.1.time)) = false := by
    rw [List.all_eq_false]
    exact ⟨d, hd, by simpa using h⟩
  simp [latF, this]

theorem latF_yes {tm : Dt → Option Int} {x : Mop} {r : List Mop} (h : ∀ d ∈ x.2, (tm d).getD 0 < x.1.time) : latF tm (x :: r) = latF (upd tm x.1.id x.1.time) r := by
  have : x.2.all (fun d => decide ((tm d).getD 0 < x.1.time)) = true := by
    rw [List.all_eq_true]
    exact fun d hd => by simpa using h d hd
  simp [latF, this]

set_option maxRecDepth 100000 in
set_option maxHeartbeats 4000000 in
theorem later_any (a : Option Addr) (n c : Nat) (L : List Mo) (w : World) (hs : OS w a n c L) (hF : ∀ x ∈ L, x.o.Fits ∧ Dws x.V ∧ x.n ≤ 1000000) (hn : n ≤ 100000) :
    Calls Tryz.prog 28 #[.slice a n c] w fun e w' => e = .returned (.bool (latF (fun _ => none) (L.map Mo.m))) ∧ RowKit.Below w.heap.size w w' := by
  have hlen := hs.len
  have hmk := @run_makeMap Tryz.prog
  go_enter Tryz.func28, Tryz.ntmps28
  go_wp2
  go_loopw [11] (fun i wr => ∃ (k : Nat) (tm : Dt → Option Int), k ≤ n ∧ i = .int .i64 k ∧ Hid (DM wr w.heap.size k tm) ∧ Hid (latF (fun _ => none) (L.map Mo.m) = latF tm ((L.drop k).map Mo.m)) ∧ Hid (RowKit.Below w.heap.size w wr)) (fun i _ => n - (intOf i).toNat)
  case atStart => exact ⟨0, fun _ => none, by omega, rfl, hid ⟨_, World.ownsMap_made _ _ _ _, tells_empty⟩, hid rfl, hid ((Below.refl _ _).alloc (Nat.le_refl _) _)⟩
  case round =>
    obtain ⟨k, tm, hk, rfl, hD, hE, hB⟩ := hrel
    by_cases hlt : k < n
    · have hkl : k < L.length := by omega
      obtain ⟨g, o, rfl, hg, hcell⟩ := (hs.below hB.out).at (by omega)
      obtain ⟨c0, c1, c2, c3, c4, c5, c6, c7, c8, c9, c10, c11, c12, c13⟩ := hcell k hkl
      have hfx := hF _ (List.getElem_mem hkl)
      have hP := hs.deps _ (List.getElem_mem hkl)
      have hdr := hid (show L.drop k = L[k] :: L.drop (k + 1) from List.drop_eq_getElem_cons hkl)
      generalize L[k] = x at *
      obtain ⟨op, xa, xn, xc, xV⟩ := x
      have hdw : Dw op.id := ⟨hfx.1.id0, hfx.1.id1⟩
      have hsz := hB.out.size
      have hlb := hD.out.lt
      have hA := opAt_alloc wr op (.slice xa xn xc) 36
      have hF1 : Far wr (wr.alloc (.cells (op.cells (.slice xa xn xc)) 36)) := (Far.refl wr).alloc _
      have hbk : (wr.alloc (.cells (op.cells (.slice xa xn xc)) 36)).heap[wr.heap.size]? = some (.cells (op.cells (.slice xa xn xc)) 36) := (MapKept.heap_alloc wr _).1
      obtain ⟨w5, hw5⟩ : ∃ w5, w5 = wr.alloc (.cells (op.cells (.slice xa xn xc)) 36) := ⟨_, rfl⟩
      have hD5 := hid (hD.out.kept (far_grown hF1) (by simp))
      have hB5 := hid (hB.out.alloc hsz (.cells (op.cells (.slice xa xn xc)) 36))
      have hq5 : wr.heap.size < (wr.alloc (.cells (op.cells (.slice xa xn xc)) 36)).heap.size := by simp
      rw [← hw5] at hA hF1 hbk hD5 hB5 hq5
      have hw5' : wr.alloc (.cells #[.int .i64 op.id0, .int .i64 op.id1, .int .i64 op.time, .slice xa xn xc, .int .i64 op.kind, .int .i64 op.bl0, .int .i64 op.bl1, .int .i64 op.at0, .int .i64 op.at1, .int .i64 op.side, .int .i64 op.char, .int .i64 op.pa0, .int .i64 op.pa1, .string op.key] 36) = w5 := hw5.symm
      obtain ⟨a0, a1, a2, a3, a4, a5, a6, a7, a8, a9, a10, a11, a12, a13⟩ := hA
      obtain ⟨qb, hqb⟩ : ∃ qb, wr.heap.size = qb := ⟨_, rfl⟩
      rw [hqb] at a0 a1 a2 a3 a4 a5 a6 a7 a8 a9 a10 a11 a12 a13 hbk hq5
      have hxl := hP.len
      have hxm : xn ≤ 1000000 := hfx.2.2
      have HX := hid hxl
      clear hcell hw5 hD hB hxl
      go_wp2
      go_loopw [18] (fun qv w2 => ∃ q : Nat, q ≤ xn ∧ qv = .int .i64 q ∧ Hid (∀ d ∈ xV.take q, (tm d).getD 0 < op.time) ∧ Hid (Far w5 w2)) (fun qv _ => xn - (intOf qv).toNat)
      case atStart => exact ⟨0, by omega, rfl, hid (by simp), hid (Far.refl _)⟩
      case round =>
        obtain ⟨q, hq, rfl, hA2, hF2⟩ := hrel
        have hBi := hB5.out.trans (hF2.out.below.mono hB5.out.size)
        by_cases hql : q < xn
        · have hqv : q < xV.length := by have := HX.out; omega
          obtain ⟨g', o', rfl, hg', hcell'⟩ := (hP.below hBi).at (by omega)
          obtain ⟨d0, d1⟩ := hcell' q hqv
          have hdd : Dw xV[q] := hfx.2.1 _ (List.getElem_mem hqv)
          have hmem : xV[q] ∈ xV := List.getElem_mem hqv
          have htk := hid (show xV.take (q + 1) = xV.take q ++ [xV[q]] from List.take_succ_eq_append_getElem hqv)
          generalize xV[q] = d at *
          obtain ⟨cc, hc1, hc2, hlook⟩ := dm_look hD5.out hdd
          have hcc : cc = (tm d).getD 0 := by
            cases htm : tm d with
            | none => rw [hc2 htm]; rfl
            | some x => rw [hc1 x htm]; rfl
          have hF6 : Far w5 (wr.alloc (.cells #[.int .i64 d.1, .int .i64 d.2] 32)) := hF2.out.alloc _
          have hlk : ∀ n, (Instr.lookup 46 (.map (some w.heap.size)) (dv d) false).run Tryz.prog ((wr.alloc (.cells #[.int .i64 d.1, .int .i64 d.2] 32)).drewN n) = .ok (.int .i64 cc) ((wr.alloc (.cells #[.int .i64 d.1, .int .i64 d.2] 32)).drewN n) := fun n =>
            (hlook _ ((hF6.drewN n).below.block _ hD5.out.lt)).2
          have k0 : (wr.alloc (.cells #[.int .i64 d.1, .int .i64 d.2] 32)).cell? ⟨wr.heap.size, 0, none⟩ = some (.int .i64 d.1) := by go_simp
          have k1 : (wr.alloc (.cells #[.int .i64 d.1, .int .i64 d.2] 32)).cell? ⟨wr.heap.size, 1, none⟩ = some (.int .i64 d.2) := by go_simp
          have kt : (wr.alloc (.cells #[.int .i64 d.1, .int .i64 d.2] 32)).cell? ⟨qb, 2, none⟩ = some (.int .i64 op.time) := (hF6.below.cell (p := ⟨qb, 2, none⟩) hq5).trans a2
          obtain ⟨d1', d2'⟩ := d
          clear hcell' hlook hc1 hc2
          have HCC := hid hcc
          clear hcc
          go_wp2_with fail
          generalize wr.alloc (.cells #[.int .i64 d1', .int .i64 d2'] 32) = w6 at *
          generalize wr.heap.size = qd at *
          go_quiet (fail)
          by_cases hlt2 : (tm (d1', d2')).getD 0 < op.time
          · have hb : decide (op.time ≤ cc) = false := by rw [HCC.out]; simpa using hlt2
            have HC := hid (And.intro True.intro hlt2)
            clear hlt2
            rw [hb]
            clear hb
            go_wp2
            go_roundw
            case rel =>
              refine ⟨q + 1, by omega, by go_num, hid (fun d hd => ?_), hid (hF6.drewN _)⟩
              rw [htk.out] at hd
              rcases List.mem_append.1 hd with hd | hd
              · exact hA2.out d hd
              · simp at hd; rw [hd]; exact HC.out.2
            case measure => simp [intOf]; omega
          · have hb : decide (op.time ≤ cc) = true := by rw [HCC.out]; simp; omega
            have HC := hid (And.intro True.intro hlt2)
            clear hlt2
            rw [hb]
            clear hb
            go_wp2
            go_ret
            refine ⟨?_, hB5.out.trans ((hF6.drewN _).below.mono hB5.out.size)⟩
            have hno := latF_no (tm := tm) (x := (op, xV)) (r := (L.drop (k + 1)).map Mo.m) (d := (d1', d2')) hmem (Int.not_lt.2 HC.out.2)
            have hfin : latF (fun _ => none) (L.map Mo.m) = false := by
              rw [hE.out, hdr.out, List.map_cons]
              exact hno
            rw [hfin]
            rfl
        · obtain rfl : q = xn := by omega
          have hall : ∀ d ∈ xV, (tm d).getD 0 < op.time := fun d hd => hA2.out d (by rw [List.take_of_length_le (by have := HX.out; omega)]; exact hd)
          have hbi := (hF2.out.below.block qb hq5).trans hbk
          obtain ⟨b0, b1, b2, b3, b4, b5, b6, b7, b8, b9, b10, b11, b12, b13⟩ := opAt_of_block hbi
          obtain ⟨D, hown, hMT⟩ := hD5.out.kept (far_grown hF2.out) (by simp)
          have HA := hid hall
          clear hall hbi
          go_wp2_with (first
            | (at_mapUpdate; refine wpList_mapUpdate_own _ rfl _ _ _ 46 rfl 32 3 law Tryz.underlying46 _ w.heap.size k D rfl hown (by unfold maxLen; omega) _ _ (kl op.id) rfl rfl (keyOf_dot hdw) (.lit (.int .i64 op.time)) [] (plainElem_int Tryz.underlying3 hfx.1.time) ?_; intro w8 hown8 hG8))
          go_roundw
          case rel =>
            refine ⟨k + 1, upd tm op.id op.time, by omega, by go_num, hid ⟨_, hown8, hMT.put hown.isMap hdw op.time⟩, hid ?_, hid (hBi.grown hG8 hBi.size (fun j hj => by cases hj; exact Nat.le_refl _))⟩
            rw [hE.out, hdr.out, List.map_cons]
            exact latF_yes HA.out
          case measure => simp [intOf]; omega
    · obtain rfl : k = n := by omega
      have hfin := hE.out
      rw [← hlen, List.drop_length] at hfin
      have HFin := hid hfin
      clear hfin
      go_wp2
      go_ret
      exact ⟨by rw [HFin.out]; rfl, hB.out⟩
end Go.Proofs.YtoapblojoblhiaaGreat
