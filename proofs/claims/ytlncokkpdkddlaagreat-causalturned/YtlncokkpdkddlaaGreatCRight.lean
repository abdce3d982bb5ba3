/- Right: what it tells. -/
import Derived.Test.YtlncokkpdkddlaaGreatORow
import Derived.Test.YtlncokkpdkddlaaGreatGLook
import Derived.Test.YtlncokkpdkddlaaGreatOCount
import Derived.Test.YtlncokkpdkddlaaGreatQOrder
namespace Go.Proofs.YtlncokkpdkddlaaGreat
section
open Go.RowKit Go.Maps

/-- With one more. -/
def upd (tm : Dt → Option Int) (d : Dt) (t : Int) : Dt → Option Int := fun e => if e = d then some t else tm e

/-- Is each one's Time above those of its Deps, as far as they came ahead of it? -/
def latF (tm : Dt → Option Int) : List Mop → Bool
  | [] => true
  | x :: r => x.2.all (fun d => decide ((tm d).getD 0 < x.1.time)) && latF (upd tm x.1.id x.1.time) r

theorem latF_no {tm : Dt → Option Int} {x : Mop} {r : List Mop} {d : Dt} (hd : d ∈ x.2) (h : ¬ (tm d).getD 0 < x.1.time) : latF tm (x :: r) = false := by
  have : x.2.all (fun d => decide ((tm d).getD 0 < x.1.time)) = false := by
    rw [List.all_eq_false]
    exact ⟨d, hd, by simpa using h⟩
  simp [latF, this]

theorem latF_yes {tm : Dt → Option Int} {x : Mop} {r : List Mop} (h : ∀ d ∈ x.2, (tm d).getD 0 < x.1.time) : latF tm (x :: r) = latF (upd tm x.1.id x.1.time) r := by
  have : x.2.all (fun d => decide ((tm d).getD 0 < x.1.time)) = true := by
    rw [List.all_eq_true]
    exact fun d hd => by simpa using h d hd
  simp [latF, this]

set_option maxRecDepth 100000 in
set_option maxHeartbeats 4000000 in
theorem later_any (a : Option Addr) (n c : Nat) (L : List Mo) (w : World) (hs : OS w a n c L) (hF : ∀ x ∈ L, x.o.Fits ∧ Dws x.V ∧ x.n ≤ 1000000) (hn : n ≤ 100000) :
    Calls Tryz.prog 28 #[.slice a n c] w fun e w' => e = .returned (.bool (latF (fun _ => none) (L.map Mo.m))) ∧ RowKit.Below w.heap.size w w' := by
  have hlen := hs.len
  have hmk := @run_makeMap Tryz.prog
  go_enter Tryz.func28, Tryz.ntmps28
  go_wp2
  go_loopw [11] (fun i wr => ∃ (k : Nat) (tm : Dt → Option Int), k ≤ n ∧ i = .int .i64 k ∧ Hid (DM wr w.heap.size k tm) ∧ Hid (latF (fun _ => none) (L.map Mo.m) = latF tm ((L.drop k).map Mo.m)) ∧ Hid (RowKit.Below w.heap.size w wr)) (fun i _ => n - (intOf i).toNat)
  case atStart => exact ⟨0, fun _ => none, by omega, rfl, hid ⟨_, World.ownsMap_made _ _ _ _, tells_empty⟩, hid rfl, hid ((Below.refl _ _).alloc (Nat.le_refl _) _)⟩
  case round =>
    obtain ⟨k, tm, hk, rfl, hD, hE, hB⟩ := hrel
    by_cases hlt : k < n
    · have hkl : k < L.length := by omega
      obtain ⟨g, o, rfl, hg, hcell⟩ := (hs.below hB.out).at (by omega)
      obtain ⟨c0, c1, c2, c3, c4, c5, c6, c7, c8, c9, c10, c11, c12, c13⟩ := hcell k hkl
      have hfx := hF _ (List.getElem_mem hkl)
      have hP := hs.deps _ (List.getElem_mem hkl)
      have hdr := hid (show L.drop k = L[k] :: L.drop (k + 1) from List.drop_eq_getElem_cons hkl)
      generalize L[k] = x at *
      obtain ⟨op, xa, xn, xc, xV⟩ := x
      have hdw : Dw op.id := ⟨hfx.1.id0, hfx.1.id1⟩
      have hsz := hB.out.size
      have hlb := hD.out.lt
      have hA := opAt_alloc wr op (.slice xa xn xc) 36
      have hF1 : Far wr (wr.alloc (.cells (op.cells (.slice xa xn xc)) 36)) := (Far.refl wr).alloc _
      have hbk : (wr.alloc (.cells (op.cells (.slice xa xn xc)) 36)).heap[wr.heap.size]? = some (.cells (op.cells (.slice xa xn xc)) 36) := (MapKept.heap_alloc wr _).1
      obtain ⟨w5, hw5⟩ : ∃ w5, w5 = wr.alloc (.cells (op.cells (.slice xa xn xc)) 36) := ⟨_, rfl⟩
      have hD5 := hid (hD.out.kept (far_grown hF1) (by simp))
      have hB5 := hid (hB.out.alloc hsz (.cells (op.cells (.slice xa xn xc)) 36))
      have hq5 : wr.heap.size < (wr.alloc (.cells (op.cells (.slice xa xn xc)) 36)).heap.size := by simp
      rw [← hw5] at hA hF1 hbk hD5 hB5 hq5
      have hw5' : wr.alloc (.cells #[.int .i64 op.id0, .int .i64 op.id1, .int .i64 op.time, .slice xa xn xc, .int .i64 op.kind, .int .i64 op.bl0, .int .i64 op.bl1, .int .i64 op.at0, .int .i64 op.at1, .int .i64 op.side, .int .i64 op.char, .int .i64 op.pa0, .int .i64 op.pa1, .string op.key] 36) = w5 := hw5.symm
      obtain ⟨a0, a1, a2, a3, a4, a5, a6, a7, a8, a9, a10, a11, a12, a13⟩ := hA
      obtain ⟨qb, hqb⟩ : ∃ qb, wr.heap.size = qb := ⟨_, rfl⟩
      rw [hqb] at a0 a1 a2 a3 a4 a5 a6 a7 a8 a9 a10 a11 a12 a13 hbk hq5
      have hxl := hP.len
      have hxm : xn ≤ 1000000 := hfx.2.2
      have HX := hid hxl
      clear hcell hw5 hD hB hxl
      go_wp2
      go_loopw [18] (fun qv w2 => ∃ q : Nat, q ≤ xn ∧ qv = .int .i64 q ∧ Hid (∀ d ∈ xV.take q, (tm d).getD 0 < op.time) ∧ Hid (Far w5 w2)) (fun qv _ => xn - (intOf qv).toNat)
      case atStart => exact ⟨0, by omega, rfl, hid (by simp), hid (Far.refl _)⟩
      case round =>
        obtain ⟨q, hq, rfl, hA2, hF2⟩ := hrel
        have hBi := hB5.out.trans (hF2.out.below.mono hB5.out.size)
        by_cases hql : q < xn
        · have hqv : q < xV.length := by have := HX.out; omega
          obtain ⟨g', o', rfl, hg', hcell'⟩ := (hP.below hBi).at (by omega)
          obtain ⟨d0, d1⟩ := hcell' q hqv
          have hdd : Dw xV[q] := hfx.2.1 _ (List.getElem_mem hqv)
          have hmem : xV[q] ∈ xV := List.getElem_mem hqv
          have htk := hid (show xV.take (q + 1) = xV.take q ++ [xV[q]] from List.take_succ_eq_append_getElem hqv)
          generalize xV[q] = d at *
          obtain ⟨cc, hc1, hc2, hlook⟩ := dm_look hD5.out hdd
          have hcc : cc = (tm d).getD 0 := by
            cases htm : tm d with
            | none => rw [hc2 htm]; rfl
            | some x => rw [hc1 x htm]; rfl
          have hF6 : Far w5 (wr.alloc (.cells #[.int .i64 d.1, .int .i64 d.2] 32)) := hF2.out.alloc _
          have hlk : ∀ n, (Instr.lookup 46 (.map (some w.heap.size)) (dv d) false).run Tryz.prog ((wr.alloc (.cells #[.int .i64 d.1, .int .i64 d.2] 32)).drewN n) = .ok (.int .i64 cc) ((wr.alloc (.cells #[.int .i64 d.1, .int .i64 d.2] 32)).drewN n) := fun n =>
            (hlook _ ((hF6.drewN n).below.block _ hD5.out.lt)).2
          have k0 : (wr.alloc (.cells #[.int .i64 d.1, .int .i64 d.2] 32)).cell? ⟨wr.heap.size, 0, none⟩ = some (.int .i64 d.1) := by go_simp
          have k1 : (wr.alloc (.cells #[.int .i64 d.1, .int .i64 d.2] 32)).cell? ⟨wr.heap.size, 1, none⟩ = some (.int .i64 d.2) := by go_simp
          have kt : (wr.alloc (.cells #[.int .i64 d.1, .int .i64 d.2] 32)).cell? ⟨qb, 2, none⟩ = some (.int .i64 op.time) := (hF6.below.cell (p := ⟨qb, 2, none⟩) hq5).trans a2
          obtain ⟨d1', d2'⟩ := d
          clear hcell' hlook hc1 hc2
          have HCC := hid hcc
          clear hcc
          go_wp2_with fail
          generalize wr.alloc (.cells #[.int .i64 d1', .int .i64 d2'] 32) = w6 at *
          generalize wr.heap.size = qd at *
          go_quiet (fail)
          by_cases hlt2 : (tm (d1', d2')).getD 0 < op.time
          · have hb : decide (op.time ≤ cc) = false := by rw [HCC.out]; simpa using hlt2
            have HC := hid (And.intro True.intro hlt2)
            clear hlt2
            rw [hb]
            clear hb
            go_wp2
            go_roundw
            case rel =>
              refine ⟨q + 1, by omega, by go_num, hid (fun d hd => ?_), hid (hF6.drewN _)⟩
              rw [htk.out] at hd
              rcases List.mem_append.1 hd with hd | hd
              · exact hA2.out d hd
              · simp at hd; rw [hd]; exact HC.out.2
            case measure => simp [intOf]; omega
          · have hb : decide (op.time ≤ cc) = true := by rw [HCC.out]; simp; omega
            have HC := hid (And.intro True.intro hlt2)
            clear hlt2
            rw [hb]
            clear hb
            go_wp2
            go_ret
            refine ⟨?_, hB5.out.trans ((hF6.drewN _).below.mono hB5.out.size)⟩
            have hno := latF_no (tm := tm) (x := (op, xV)) (r := (L.drop (k + 1)).map Mo.m) (d := (d1', d2')) hmem (Int.not_lt.2 HC.out.2)
            have hfin : latF (fun _ => none) (L.map Mo.m) = false := by
              rw [hE.out, hdr.out, List.map_cons]
              exact hno
            rw [hfin]
            rfl
        · obtain rfl : q = xn := by omega
          have hall : ∀ d ∈ xV, (tm d).getD 0 < op.time := fun d hd => hA2.out d (by rw [List.take_of_length_le (by have := HX.out; omega)]; exact hd)
          have hbi := (hF2.out.below.block qb hq5).trans hbk
          obtain ⟨b0, b1, b2, b3, b4, b5, b6, b7, b8, b9, b10, b11, b12, b13⟩ := opAt_of_block hbi
          obtain ⟨D, hown, hMT⟩ := hD5.out.kept (far_grown hF2.out) (by simp)
          have HA := hid hall
          clear hall hbi
          go_wp2_with (first
            | (at_mapUpdate; refine wpList_mapUpdate_own _ rfl _ _ _ 46 rfl 32 3 law Tryz.underlying46 _ w.heap.size k D rfl hown (by unfold maxLen; omega) _ _ (kl op.id) rfl rfl (keyOf_dot hdw) (.lit (.int .i64 op.time)) [] (plainElem_int Tryz.underlying3 hfx.1.time) ?_; intro w8 hown8 hG8))
          go_roundw
          case rel =>
            refine ⟨k + 1, upd tm op.id op.time, by omega, by go_num, hid ⟨_, hown8, hMT.put hown.isMap hdw op.time⟩, hid ?_, hid (hBi.grown hG8 hBi.size (fun j hj => by cases hj; exact Nat.le_refl _))⟩
            rw [hE.out, hdr.out, List.map_cons]
            exact latF_yes HA.out
          case measure => simp [intOf]; omega
    · obtain rfl : k = n := by omega
      have hfin := hE.out
      rw [← hlen, List.drop_length] at hfin
      have HFin := hid hfin
      clear hfin
      go_wp2
      go_ret
      exact ⟨by rw [HFin.out]; rfl, hB.out⟩
end

section
open Go.RowKit

/-- Some order in which operations are taken in, and what is told of them. -/
def Taken (L : List Mop) (R : List Mo) (T : List Nat) : Prop := UpO R ∧ (R.map Mo.m).Perm (cnt L) ∧ (∀ x ∈ R, x.o.Fits ∧ Dws x.V) ∧ Ch (R.map Mo.V) (R.map (fun x => x.o.id)) T ∧ nxt (R.map Mo.V) (R.map (fun x => x.o.id)) T = none

theorem order_taken (a : Option Addr) (n c : Nat) (L : List Mo) (w : World) (hs : OS w a n c L) (hF : ∀ x ∈ L, x.o.Fits ∧ Dws x.V ∧ x.n ≤ 1000000) (hn : n ≤ 1000) :
    Calls Tryz.prog 8 #[.slice a n c] w fun e w' => ∃ (R : List Mo) (T : List Nat) (a1 : Option Addr) (c1 : Nat) (a2 : Option Addr) (c2 : Nat), e = .returned (.tuple #[.slice a1 T.length c1, .slice a2 (lf R T).length c2]) ∧ Taken (L.map Mo.m) R T ∧ OS w' a1 T.length c1 (inL R T) ∧ OS w' a2 (lf R T).length c2 (lf R T) ∧ RowKit.Below w.heap.size w w' :=
  (order8_any a n c L w hs hF hn).mono fun _ _ ⟨R, T, a1, c1, a2, c2, h1, h2, h3, h4, h5, h6, h7, h8, h9⟩ => ⟨R, T, a1, c1, a2, c2, h1, ⟨h2, h3, h4, h5, h6⟩, h7, h8, h9⟩

/-- Each operation's Deps are not too many. -/
theorem taken_few {L : List Mo} {w : World} {a : Option Addr} {n c : Nat} (hs : OS w a n c L) (hF : ∀ x ∈ L, x.o.Fits ∧ Dws x.V ∧ x.n ≤ 1000000) {R : List Mo} {T : List Nat} (ht : Taken (L.map Mo.m) R T) {x : Mo} (hx : x ∈ R) : x.V.length ≤ 1000000 := by
  have h1 := cnt_sub (ht.2.1.mem_iff.1 (List.mem_map.2 ⟨x, hx, rfl⟩))
  obtain ⟨y, hy, hye⟩ := List.mem_map.1 h1
  have h2 := (hs.deps y hy).len
  have h4 := (hF y hy).2.2
  have h5 : y.V = x.V := congrArg Prod.snd hye
  rw [← h5, h2]
  exact h4

set_option maxRecDepth 100000 in
set_option maxHeartbeats 1000000 in
theorem right_any (a : Option Addr) (n c : Nat) (L : List Mo) (w : World) (hs : OS w a n c L) (hF : ∀ x ∈ L, x.o.Fits ∧ Dws x.V ∧ x.n ≤ 1000000) (hn : n ≤ 1000) :
    Calls Tryz.prog 11 #[.slice a n c] w fun e w' => ∃ (R : List Mo) (T : List Nat), e = .returned (.bool (decide (T.length = n) && latF (fun _ => none) ((inL R T).map Mo.m))) ∧ Taken (L.map Mo.m) R T ∧ RowKit.Below w.heap.size w w' := by
  have hO := order_taken a n c L w hs hF hn
  have hfew := fun (R : List Mo) (T : List Nat) (ht : Taken (L.map Mo.m) R T) (x : Mo) (hx : x ∈ R) => taken_few hs hF ht hx
  have Hfew := hid hfew
  clear hfew hF
  go_enter Tryz.func11, Tryz.ntmps11
  go_upto_region 2 with (first
    | (go_at_call 8; refine hO.mono ?_; rintro e w1 ⟨R, T, a1, c1, a2, c2, rfl, hT, hos1, hos2, hB1⟩))
  have hLt := fun W (h : RowKit.Below w1.heap.size w1 W) => later_any a1 T.length c1 (inL R T) W (hos1.below h) (fun x hx => ⟨(hT.2.2.1 x (inL_mem hx)).1, (hT.2.2.1 x (inL_mem hx)).2, by have h1 := (hos1.deps x hx).len; have h2 := Hfew.out R T hT x (inL_mem hx); omega⟩) (by
    have h1 : T.length ≤ R.length := by
      have := List.Nodup.length_le_of_subset hT.2.2.2.1.nodup (fun x hx => List.mem_range.2 (hT.2.2.2.1.lt hx))
      simpa using this
    have h2 := hT.2.1.length_eq
    have h3 := cnt_len (L.map Mo.m)
    have h4 := hs.len
    simp at h2 h3
    omega)
  by_cases hl : T.length = n
  · have hb : ((T.length : Int) == (n : Int)) = true := by simp [hl]
    have hL0 := hLt w1 (Below.refl _ _)
    have HT := hid hT
    have HL := hid hl
    clear hLt hl hT
    go_wp2_with (first
      | (go_at_call 28; refine hL0.mono ?_; rintro e w2 ⟨rfl, hB2⟩))
    go_ret
    refine ⟨R, T, ?_, HT.out, below2 hB1 hB2⟩
    rw [HL.out]
    simp
  · have hb : ((T.length : Int) == (n : Int)) = false := by simp; omega
    have HT := hid hT
    have HL := hid hl
    clear hLt hl hT
    go_wp2
    go_ret
    refine ⟨R, T, ?_, HT.out, hB1⟩
    have := HL.out
    simp [this]
end
end Go.Proofs.YtlncokkpdkddlaaGreat
