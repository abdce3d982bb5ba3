/- What came in: what actors do, raw; numbers. -/
import Derived.Test.YtlncokkpdkddlaaGreatVSame
import Derived.Shelf.SlSortCmp.QuietGrown
import Derived.BigQuiet
import Derived.Test.YtlncokkpdkddlaaGreatSStory
import Derived.Test.YtlncokkpdkddlaaGreatEMath
import Derived.Test.YtlncokkpdkddlaaGreatCArg
import Derived.Test.YtlncokkpdkddlaaGreatCSmall
import Derived.Test.YtlncokkpdkddlaaGreatRRight
import Derived.Test.YtlncokkpdkddlaaGreatRows
import Derived.ProofKit
import Derived.OpenShut
namespace Go.Proofs.YtlncokkpdkddlaaGreat
section
open Go.RowKit
open Go.Sort (grow)

set_option maxHeartbeats 2000000 in
theorem in_any (a : Option Addr) (n c : Nat) (L : List Dt) (x : Dt) (w : World) (hs : PS w a n c L) (hn : n ≤ 1000000) :
    Calls Tryz.prog 15 #[.slice a n c, dv x] w fun e w' => e = .returned (.bool (decide (x ∈ L))) ∧ Far w w' := by
  obtain ⟨x1, x2⟩ := x
  have HL := hid hs.len
  have hb0 : RowKit.Below w.heap.size w (w.alloc (.cells #[.int .i64 x1, .int .i64 x2] 32)) := (Below.refl _ w).alloc (Nat.le_refl _) _
  go_enter Tryz.func15, Tryz.ntmps15
  go_wp2
  go_loopw [5] (fun i wr => ∃ k : Nat, k ≤ n ∧ i = .int .i64 k ∧ (x1, x2) ∉ L.take k ∧ ∃ q, wr = (w.alloc (.cells #[.int .i64 x1, .int .i64 x2] 32)).drewN q) (fun i _ => n - (intOf i).toNat)
  case atStart => exact ⟨0, by omega, rfl, by simp, 0, rfl⟩
  case round =>
    obtain ⟨k, hk, rfl, htk0, hw0⟩ := hrel
    have htk := hid htk0
    have hW := hid hw0
    clear htk0
    by_cases hlt : k < n
    · have hl := HL.out
      have hx0 : wr.cell? ⟨w.heap.size, 0, none⟩ = some (.int .i64 x1) := by obtain ⟨q, rfl⟩ := hw0; go_simp
      have hx1 : wr.cell? ⟨w.heap.size, 1, none⟩ = some (.int .i64 x2) := by obtain ⟨q, rfl⟩ := hw0; go_simp
      have hs1 : PS wr a n c L := by obtain ⟨q, hq⟩ := hw0; rw [hq]; exact (hs.below hb0).drewN q
      clear hw0
      obtain ⟨g, o, rfl, hg, hcell⟩ := hs1.at (by omega)
      obtain ⟨hc0, hc1⟩ := hcell k (by omega)
      have hts : Hid _ := hid (take_snoc (L := L) (k := k) (by omega))
      have hLk : Hid _ := hid (List.getElem_mem (l := L) (n := k) (by omega))
      generalize (L[k]'(by omega)) = d at hc0 hc1 hts hLk
      clear hs hcell hl hs1
      obtain ⟨d1, d2⟩ := d
      have C0 : ∀ m, (wr.drewN m).cell? ⟨g, o + k * 2, none⟩ = some (.int .i64 d1) := fun _ => hc0
      have C1 : ∀ m, (wr.drewN m).cell? ⟨g, o + k * 2 + 1, none⟩ = some (.int .i64 d2) := fun _ => hc1
      have E0 : ∀ m, (wr.drewN m).cell? ⟨w.heap.size, 0, none⟩ = some (.int .i64 x1) := fun _ => hx0
      have E1 : ∀ m, (wr.drewN m).cell? ⟨w.heap.size, 1, none⟩ = some (.int .i64 x2) := fun _ => hx1
      have hk1 : (k : Int) < (n : Int) := by omega
      have hk0 : (0 : Int) ≤ (k : Int) := by omega
      by_cases h1 : d1 = x1
      · subst h1
        by_cases h2 : d2 = x2
        · subst h2
          go_wp2_with fail
          go_quiet (fail)
          go_wp2
          go_ret
          refine ⟨by simp [hLk.out], ?_⟩
          obtain ⟨q, rfl⟩ := hW.out
          exact (((Far.refl w).alloc _).drewN q).drewN _
        · go_wp2_with fail
          go_quiet (fail)
          go_wp2
          go_roundw
          case rel => exact ⟨k + 1, by omega, by go_num, by rw [hts.out]; simp [htk.out, Ne.symm h2], drew_more hW.out _⟩
          case measure => simp [intOf]; omega
      · go_wp2_with fail
        go_quiet (fail)
        go_wp2
        go_roundw
        case rel => exact ⟨k + 1, by omega, by go_num, by rw [hts.out]; simp [htk.out, Ne.symm h1], drew_more hW.out _⟩
        case measure => simp [intOf]; omega
    · obtain rfl : k = n := by omega
      clear hw0
      go_wp2
      go_ret
      have h := htk.out
      rw [List.take_of_length_le (by rw [HL.out]; exact Nat.le_refl _)] at h
      refine ⟨by simp [h], ?_⟩
      obtain ⟨q, rfl⟩ := hW.out
      exact ((Far.refl w).alloc _).drewN q

end

section
open Go.RowKit
open Go.Sort (grow)

/-- Is one covered by the first so many? -/
def cov (F : List Dt) (A : List Mop) (d : Dt) (k : Nat) : Bool := decide (d ∈ F) || (A.take k).any (fun y => decide (y.1.id ∈ F) && hasv y.2 d)

theorem cov_succ (F : List Dt) (A : List Mop) (d : Dt) (k : Nat) (hk : k < A.length) : cov F A d (k + 1) = (cov F A d k || (decide (A[k].1.id ∈ F) && hasv A[k].2 d)) := by
  unfold cov
  rw [List.take_succ_eq_append_getElem hk, List.any_append]
  simp [Bool.or_assoc]

theorem St.cov {A : List Mop} (hA : St A) {x : Mop} (hx : x ∈ A) : cov (frt A) A x.1.id A.length = true := by
  obtain ⟨i, hi⟩ := List.mem_iff_getElem?.1 hx
  unfold Proofs.YtlncokkpdkddlaaGreat.cov
  rw [List.take_length]
  rcases hA.covered A.length i x (by omega) hi with h | ⟨y, hy, hf, hh⟩
  · simp [h]
  · rw [Bool.or_eq_true]
    right
    rw [List.any_eq_true]
    exact ⟨y, hy, by simp [hf, hh]⟩

theorem sp_fit {L : List Mo} {K : Nat → Kv} {w wr : World} {v : Value} (hH : SH w wr v L K) (hP : SP L K) (h60 : L.length ≤ 60) : ∀ x ∈ L, x.o.Fits ∧ Dws x.V ∧ x.n ≤ 1000000 := fun x hx => ⟨(hP.fit x hx).1, (chk_head (hP.st.cl.may _ (List.mem_map.2 ⟨x, hx, rfl⟩))).2.1.dws, by have := hP.deps hH hx; omega⟩

theorem sp_ac {L : List Mo} {K : Nat → Kv} (hP : SP L K) : ∀ x ∈ L, Ac x.V := fun x hx => (chk_head (hP.st.cl.may _ (List.mem_map.2 ⟨x, hx, rfl⟩))).2.1.ac

set_option maxRecDepth 100000 in
set_option maxHeartbeats 8000000 in
theorem edges_walk (a : Option Addr) (n c : Nat) (l : List Md) (w : World) (hs : MS w a n c l) (hm : ∀ m ∈ l, m.Fits) (hAw : AwakeSays) (hSt : StorySays) :
    Calls Tryz.prog 5 #[.slice a n c] w fun e w' => e = .returned (.bool true) ∧ RowKit.Below w.heap.size w w' := by
  have hU := hAw w
  have hS := fun W (h : RowKit.Below w.heap.size w W) => hSt a n c l W (hs.below h) hm
  go_enter Tryz.func5, Tryz.ntmps5
  go_upto_region 5 with (first
    | (go_at_call 13; refine (hS _ hB1).mono ?_; rintro e w2 ⟨v2, L, K, rfl, hH, hP, h60⟩; obtain ⟨oa, oc, rfl, hos⟩ := hH.os)
    | (go_at_call 6; refine hU.mono ?_; rintro e w1 ⟨rfl, hB1⟩))
  have B2 := below2 hB1 hH.bel
  have hfit := sp_fit hH hP h60
  have hac := sp_ac hP
  have hst := hid hP.st
  have hFr := front_any oa L.length oc L w2 hos hfit (by omega)
  have hflen : (frt (L.map Mo.m)).length ≤ 60 := by
    have h1 : (frt (L.map Mo.m)).length ≤ (rise ((L.map Mo.m).map (fun x => x.1.id))).length := List.length_filter_le _ _
    have h2 := rise_length_le ((L.map Mo.m).map (fun x => x.1.id))
    simp only [List.length_map] at h2
    omega
  clear hU hS hH hP hB1
  go_upto_region 6 with (first
    | (go_at_call 14; refine hFr.mono ?_; rintro e w3 ⟨v3, rfl, ho3, hB3⟩; obtain ⟨fa, fc, rfl, hpf⟩ := owned_ps ho3 rfl))
  have B3 := hid (below2 B2 hB3)
  have hos3 := hid (hos.below hB3)
  have hpf3 := hid hpf
  have hnil := hid hst.out.edge_nil
  clear hFr hos hpf ho3 hB3 B2
  generalize hFF : frt (L.map Mo.m) = F at *
  have HFF := hid hFF
  clear hFF
  go_wp2
  go_loopw [6] (fun i wr => ∃ k : Nat, k ≤ L.length ∧ i = .int .i64 k ∧ Hid (RowKit.Below w3.heap.size w3 wr)) (fun i _ => L.length - (intOf i).toNat)
  case atStart => exact ⟨0, by omega, rfl, hid (Below.refl _ _)⟩
  case round =>
    obtain ⟨k, hk, rfl, hBr⟩ := hrel
    by_cases hlt : k < L.length
    · obtain ⟨g, o, rfl, hg, hcell⟩ := (hos3.out.below hBr.out).at (by omega)
      have hX := hid (hcell k hlt)
      have hxL := List.getElem_mem hlt
      generalize L[k] = x at *
      have c0 := hX.out.c0
      have c1 := hX.out.c1
      have hIn := in_any fa F.length fc F x.o.id wr (hpf3.out.below hBr.out) (by omega)
      clear hcell
      have hcv0 : Hid (decide (x.o.id ∈ F) = cov F (L.map Mo.m) x.o.id 0) := hid (by simp [cov])
      go_upto_region 10 with (first
        | (go_at_call 15; refine hIn.mono ?_; rintro e w4 ⟨rfl, hF4⟩))
      have hB4 := hid (below2 hBr.out hF4.below)
      rw [hcv0.out]
      have hX4 := hid (hX.out.below hF4.below hg)
      have hg4 := Nat.lt_of_lt_of_le hg hF4.below.size
      have hcvL : Hid (cov F (L.map Mo.m) x.o.id L.length = true) := hid (by
        have := hst.out.cov (List.mem_map.2 ⟨x, hxL, rfl⟩)
        rw [HFF.out, List.length_map] at this
        exact this)
      clear hIn c0 c1 hX hF4 hg hcv0
      go_wp2
      go_loopw [8, 7] (fun i b wr => ∃ k2 : Nat, k2 ≤ L.length ∧ i = .int .i64 k2 ∧ b = .bool (cov F (L.map Mo.m) x.o.id k2) ∧ Hid (RowKit.Below w4.heap.size w4 wr)) (fun i _ _ => L.length - (intOf i).toNat)
      case atStart => exact ⟨0, by omega, rfl, rfl, hid (Below.refl _ _)⟩
      case round =>
        obtain ⟨k2, hk2, rfl, rfl, hBr2⟩ := hrel
        by_cases hlt2 : k2 < L.length
        · have hos5 := (hos3.out.below (below2 hB4.out hBr2.out))
          obtain ⟨g', o', e', hg5, hcell5⟩ := hos5.at (by omega)
          simp only [Option.some.injEq, Addr.mk.injEq, and_true] at e'
          obtain ⟨rfl, rfl⟩ := e'
          have hcs : Hid (cov F (L.map Mo.m) x.o.id (k2 + 1) = (cov F (L.map Mo.m) x.o.id k2 || (decide (L[k2].o.id ∈ F) && hasv L[k2].V x.o.id))) := hid (by
            have := cov_succ F (L.map Mo.m) x.o.id k2 (by simpa using hlt2)
            simpa using this)
          have hY := hid (hcell5 k2 hlt2)
          have hyL := List.getElem_mem hlt2
          have hX5 := hid (hX4.out.below hBr2.out hg4)
          generalize L[k2] = y at *
          have c0 := hY.out.c0
          have c1 := hY.out.c1
          have hIn := in_any fa F.length fc F y.o.id wr (hpf3.out.below (below2 hB4.out hBr2.out)) (by omega)
          have hps := (hos5.deps y hyL)
          have hyac := hac y hyL
          have hyn := (hfit y hyL).2.2
          have hap : Hid (hasv y.V x.o.id = true → x.o.id ∉ F) := hid (fun h => by
            have := hst.out.apart (x := x.m) (List.mem_map.2 ⟨y, hyL, rfl⟩) h
            rw [HFF.out] at this
            exact this)
          clear hcell5 hos5
          generalize decide (y.o.id ∈ F) = b1 at *
          cases b1
          · go_wp2_with (first
              | (go_at_call 15; refine hIn.mono ?_; rintro e w6 ⟨rfl, hF6⟩))
            haveI : Nonempty (Wb w6) := ⟨⟨w6, Below.refl _ _⟩⟩
            refine wp_region_below mixed (by kernel_rfl) ?_
            repeat (go_big_quiet_step (fail))
            refine wpQuiet_nil ?_
            intro _ hw'
            obtain ⟨p, hw''⟩ := hw'
            subst hw''
            go_wp2
            go_roundw
            case rel => exact ⟨k2 + 1, by omega, by go_num, by rw [hcs.out]; simp, hid (below2 hBr2.out (below2 hF6.below p.h))⟩
            case measure => simp [intOf]; omega
          · go_wp2_with (first
              | (go_at_call 15; refine hIn.mono ?_; rintro e w6 ⟨rfl, hF6⟩))
            have hX6 := hid (hX5.out.below hF6.below hg5)
            have hY6 := hid (hY.out.below hF6.below hg5)
            have hg6 := Nat.lt_of_lt_of_le hg5 hF6.below.size
            have hAh : ∀ p : Wb w6, Calls Tryz.prog 16 #[.agg #[.int .i64 x.o.id0, .int .i64 x.o.id1, .int .i64 x.o.time, .slice x.a x.n x.c, .int .i64 x.o.kind, .int .i64 x.o.bl0, .int .i64 x.o.bl1, .int .i64 x.o.at0, .int .i64 x.o.at1, .int .i64 x.o.side, .int .i64 x.o.char, .int .i64 x.o.pa0, .int .i64 x.o.pa1, .string x.o.key], .agg #[.int .i64 y.o.id0, .int .i64 y.o.id1, .int .i64 y.o.time, .slice y.a y.n y.c, .int .i64 y.o.kind, .int .i64 y.o.bl0, .int .i64 y.o.bl1, .int .i64 y.o.at0, .int .i64 y.o.at1, .int .i64 y.o.side, .int .i64 y.o.char, .int .i64 y.o.pa0, .int .i64 y.o.pa1, .string y.o.key]] p.u fun e w' => e = .returned (.bool (hasv y.V x.o.id)) ∧ ∃ p' : Wb w6, w' = p'.u := fun p => far_q (ahead_any x.o x.dep y.o y.a y.n y.c y.V p.u ((hps.far hF6).below p.h) hyac hyn)
            have p0 := fun p : Wb w6 => (hX6.out.below p.h hg6).c0
            have p1 := fun p : Wb w6 => (hX6.out.below p.h hg6).c1
            have p2 := fun p : Wb w6 => (hX6.out.below p.h hg6).c2
            have p3 := fun p : Wb w6 => (hX6.out.below p.h hg6).c3
            have p4 := fun p : Wb w6 => (hX6.out.below p.h hg6).c4
            have p5 := fun p : Wb w6 => (hX6.out.below p.h hg6).c5
            have p6 := fun p : Wb w6 => (hX6.out.below p.h hg6).c6
            have p7 := fun p : Wb w6 => (hX6.out.below p.h hg6).c7
            have p8 := fun p : Wb w6 => (hX6.out.below p.h hg6).c8
            have p9 := fun p : Wb w6 => (hX6.out.below p.h hg6).c9
            have p10 := fun p : Wb w6 => (hX6.out.below p.h hg6).c10
            have p11 := fun p : Wb w6 => (hX6.out.below p.h hg6).c11
            have p12 := fun p : Wb w6 => (hX6.out.below p.h hg6).c12
            have p13 := fun p : Wb w6 => (hX6.out.below p.h hg6).c13
            have q0 := fun p : Wb w6 => (hY6.out.below p.h hg6).c0
            have q1 := fun p : Wb w6 => (hY6.out.below p.h hg6).c1
            have q2 := fun p : Wb w6 => (hY6.out.below p.h hg6).c2
            have q3 := fun p : Wb w6 => (hY6.out.below p.h hg6).c3
            have q4 := fun p : Wb w6 => (hY6.out.below p.h hg6).c4
            have q5 := fun p : Wb w6 => (hY6.out.below p.h hg6).c5
            have q6 := fun p : Wb w6 => (hY6.out.below p.h hg6).c6
            have q7 := fun p : Wb w6 => (hY6.out.below p.h hg6).c7
            have q8 := fun p : Wb w6 => (hY6.out.below p.h hg6).c8
            have q9 := fun p : Wb w6 => (hY6.out.below p.h hg6).c9
            have q10 := fun p : Wb w6 => (hY6.out.below p.h hg6).c10
            have q11 := fun p : Wb w6 => (hY6.out.below p.h hg6).c11
            have q12 := fun p : Wb w6 => (hY6.out.below p.h hg6).c12
            have q13 := fun p : Wb w6 => (hY6.out.below p.h hg6).c13
            generalize hasv y.V x.o.id = b2 at *
            haveI : Nonempty (Wb w6) := ⟨⟨w6, Below.refl _ _⟩⟩
            refine wp_region_below mixed (by kernel_rfl) ?_
            repeat (go_big_quiet_step (first | (go_at_call 16; exact hAh _)))
            refine wpQuiet_nil ?_
            intro _ hw'
            obtain ⟨p, hw''⟩ := hw'
            subst hw''
            have P0 := p0 p
            have P1 := p1 p
            have hB7 := hid (below2 hBr2.out (below2 hF6.below p.h))
            have hIn7 := in_any fa F.length fc F x.o.id p.u (hpf3.out.below (below2 hB4.out hB7.out)) (by omega)
            clear hAh p0 p1 p2 p3 p4 p5 p6 p7 p8 p9 p10 p11 p12 p13 q0 q1 q2 q3 q4 q5 q6 q7 q8 q9 q10 q11 q12 q13
            generalize p.u = w7 at *
            cases b2
            · go_wp2
              go_roundw
              case rel => exact ⟨k2 + 1, by omega, by go_num, by rw [hcs.out]; simp, hB7⟩
              case measure => simp [intOf]; omega
            · have hnf : decide (x.o.id ∈ F) = false := by simpa using hap.out (by first | rfl | trivial)
              rw [hnf] at hIn7
              go_wp2_with (first
                | (go_at_call 15; refine hIn7.mono ?_; rintro e w8 ⟨rfl, hF8⟩))
              go_roundw
              case rel => exact ⟨k2 + 1, by omega, by go_num, by rw [hcs.out]; simp, hid (below2 hB7.out hF8.below)⟩
              case measure => simp [intOf]; omega
        · obtain rfl : L.length = k2 := by omega
          rw [hcvL.out]
          go_wp2
          go_roundw
          case rel => exact ⟨k + 1, by omega, by go_num, hid (below2 hB4.out hBr2.out)⟩
          case measure => simp [intOf]; omega
    · have hbF := hBr.out
      by_cases hF0 : F = []
      · have hL0 : L.length = 0 := by
          have := hnil.out.1 (by first | exact hF0 | (rw [HFF.out]; exact hF0))
          simpa using this
        subst hF0
        have hz : ((L.length : Int) == 0) = true := by simp [hL0]
        have HL0 := hid hL0
        clear hL0
        go_wp2
        go_ret
        exact ⟨by first | rfl | simp [HL0.out], below2 B3.out hbF⟩
      · have hL0 : ¬ L.length = 0 := fun h => hF0 (by
          have := hnil.out.2 (by simpa using h)
          first | exact this | (rw [← HFF.out]; exact this))
        have hf0 : ¬ F.length = 0 := fun h => hF0 (List.eq_nil_of_length_eq_zero h)
        have hz : ((L.length : Int) == 0) = false := beq_false_of_ne (by omega)
        have hz2 : ((F.length : Int) == 0) = false := beq_false_of_ne (by omega)
        clear hL0 hf0 hF0
        go_wp2
        go_ret
        exact ⟨by first | rfl | simp, below2 B3.out hbF⟩
end

section
open Go.RowKit
open Go.Sort (grow)

/-- Numbers that came in. -/
structure NS (w : World) (a : Option Addr) (n c : Nat) (l : List Int) : Prop where
  len : l.length = n
  cap : n ≤ c
  max : c ≤ maxLen
  at_ : 0 < n → ∃ g o, a = some ⟨g, o, none⟩ ∧ g < w.heap.size ∧ ∀ i (hi : i < l.length), w.cell? ⟨g, o + i, none⟩ = some (.int .i64 l[i])

theorem NS.below {w w' : World} {a : Option Addr} {n c : Nat} {l : List Int} (h : NS w a n c l) (hb : RowKit.Below w.heap.size w w') : NS w' a n c l :=
  ⟨h.len, h.cap, h.max, fun hp => by
    obtain ⟨g, o, e, hg, hx⟩ := h.at_ hp
    exact ⟨g, o, e, Nat.lt_of_lt_of_le hg hb.size, fun i hi => (hb.cell hg).trans (hx i hi)⟩⟩

/-- An operation is stored over another one in a row. -/
def putO14 (w : World) (g b : Nat) (x : Mo) : World := ((((((((((((((w.setCell ⟨g, b, none⟩ (.int .i64 x.o.id0)).setCell ⟨g, b + 1, none⟩ (.int .i64 x.o.id1)).setCell ⟨g, b + 2, none⟩ (.int .i64 x.o.time)).setCell ⟨g, b + 3, none⟩ (.slice x.a x.n x.c)).setCell ⟨g, b + 4, none⟩ (.int .i64 x.o.kind)).setCell ⟨g, b + 5, none⟩ (.int .i64 x.o.bl0)).setCell ⟨g, b + 6, none⟩ (.int .i64 x.o.bl1)).setCell ⟨g, b + 7, none⟩ (.int .i64 x.o.at0)).setCell ⟨g, b + 8, none⟩ (.int .i64 x.o.at1)).setCell ⟨g, b + 9, none⟩ (.int .i64 x.o.side)).setCell ⟨g, b + 10, none⟩ (.int .i64 x.o.char)).setCell ⟨g, b + 11, none⟩ (.int .i64 x.o.pa0)).setCell ⟨g, b + 12, none⟩ (.int .i64 x.o.pa1)).setCell ⟨g, b + 13, none⟩ (.string x.o.key))

theorem flo_set (L : List Mo) (k : Nat) (hk : k < L.length) (x : Mo) : ((((((((((((((flo L).set (k * 14) (.int .i64 x.o.id0)).set (k * 14 + 1) (.int .i64 x.o.id1)).set (k * 14 + 2) (.int .i64 x.o.time)).set (k * 14 + 3) (.slice x.a x.n x.c)).set (k * 14 + 4) (.int .i64 x.o.kind)).set (k * 14 + 5) (.int .i64 x.o.bl0)).set (k * 14 + 6) (.int .i64 x.o.bl1)).set (k * 14 + 7) (.int .i64 x.o.at0)).set (k * 14 + 8) (.int .i64 x.o.at1)).set (k * 14 + 9) (.int .i64 x.o.side)).set (k * 14 + 10) (.int .i64 x.o.char)).set (k * 14 + 11) (.int .i64 x.o.pa0)).set (k * 14 + 12) (.int .i64 x.o.pa1)).set (k * 14 + 13) (.string x.o.key) = flo (L.set k x) := by
  apply List.ext_getElem?
  intro i
  have hlen : (flo (L.set k x)).length = L.length * 14 := by rw [flo_length, List.length_set]
  by_cases hi : i < L.length * 14
  · have e : i = i / 14 * 14 + i % 14 := by omega
    have hq : i / 14 < L.length := by omega
    have hm : i % 14 < 14 := Nat.mod_lt _ (by decide)
    have h2 := flo_get (L.set k x) (i / 14) (by rw [List.length_set]; exact hq) (i % 14) hm
    have h1 := flo_get L (i / 14) hq (i % 14) hm
    rw [← e] at h1 h2
    rw [h2]
    by_cases hqk : i / 14 = k
    · subst hqk
      have hl := flo_length L
      have hb : i / 14 * 14 + 13 < (flo L).length := by omega
      rw [List.getElem_set_self]
      have hcase : i % 14 = 0 ∨ i % 14 = 1 ∨ i % 14 = 2 ∨ i % 14 = 3 ∨ i % 14 = 4 ∨ i % 14 = 5 ∨ i % 14 = 6 ∨ i % 14 = 7 ∨ i % 14 = 8 ∨ i % 14 = 9 ∨ i % 14 = 10 ∨ i % 14 = 11 ∨ i % 14 = 12 ∨ i % 14 = 13 := by omega
      generalize hB : i / 14 * 14 = B at *
      rcases hcase with h | h | h | h | h | h | h | h | h | h | h | h | h | h <;> rw [h] at e ⊢ <;> subst e <;> simp [List.getElem?_set, Mo.cells] <;> omega
    · rw [List.getElem_set_ne (fun e => hqk e.symm)]
      rw [← h1]
      have hne : ∀ j, j < 14 → k * 14 + j ≠ i := fun j hj e' => hqk (by omega)
      rw [List.getElem?_set_ne (by have := hne 13 (by decide); omega), List.getElem?_set_ne (by have := hne 12 (by decide); omega), List.getElem?_set_ne (by have := hne 11 (by decide); omega), List.getElem?_set_ne (by have := hne 10 (by decide); omega), List.getElem?_set_ne (by have := hne 9 (by decide); omega), List.getElem?_set_ne (by have := hne 8 (by decide); omega), List.getElem?_set_ne (by have := hne 7 (by decide); omega), List.getElem?_set_ne (by have := hne 6 (by decide); omega), List.getElem?_set_ne (by have := hne 5 (by decide); omega), List.getElem?_set_ne (by have := hne 4 (by decide); omega), List.getElem?_set_ne (by have := hne 3 (by decide); omega), List.getElem?_set_ne (by have := hne 2 (by decide); omega), List.getElem?_set_ne (by have := hne 1 (by decide); omega), List.getElem?_set_ne (by have := hne 0 (by decide); omega)]
  · rw [List.getElem?_eq_none (by simp only [List.length_set, flo_length]; omega), List.getElem?_eq_none (by rw [hlen]; omega)]

theorem putO14_own {w : World} {base g n c : Nat} {L : List Mo} (h : OwnO w base (.slice (some ⟨g, 0, none⟩) n c) L) {k : Nat} (hk : k < L.length) (x : Mo) : OwnO (putO14 w g (k * 14) x) base (.slice (some ⟨g, 0, none⟩) n c) (L.set k x) ∧ w.grownBy (putO14 w g (k * 14) x) (some g) := by
  have hn : L.length = n := by
    rcases h.2 with ⟨e, _⟩ | ⟨g', cap', cur, e, _⟩
    · simp at e
    · simp only [Value.slice.injEq] at e; exact e.2.1.symm
  have h' : w.ownsRow base 36 14 (.slice (some ⟨g, 0, none⟩) n c) n (flo L) := by
    have : w.ownsRow base 36 14 (.slice (some ⟨g, 0, none⟩) n c) L.length (flo L) := h
    rw [hn] at this
    exact this
  have s0 := World.ownsRow.stored h' (k * 14) (.int .i64 x.o.id0)
  have s1 := World.ownsRow.stored s0.1 (k * 14 + 1) (.int .i64 x.o.id1)
  have s2 := World.ownsRow.stored s1.1 (k * 14 + 2) (.int .i64 x.o.time)
  have s3 := World.ownsRow.stored s2.1 (k * 14 + 3) (.slice x.a x.n x.c)
  have s4 := World.ownsRow.stored s3.1 (k * 14 + 4) (.int .i64 x.o.kind)
  have s5 := World.ownsRow.stored s4.1 (k * 14 + 5) (.int .i64 x.o.bl0)
  have s6 := World.ownsRow.stored s5.1 (k * 14 + 6) (.int .i64 x.o.bl1)
  have s7 := World.ownsRow.stored s6.1 (k * 14 + 7) (.int .i64 x.o.at0)
  have s8 := World.ownsRow.stored s7.1 (k * 14 + 8) (.int .i64 x.o.at1)
  have s9 := World.ownsRow.stored s8.1 (k * 14 + 9) (.int .i64 x.o.side)
  have s10 := World.ownsRow.stored s9.1 (k * 14 + 10) (.int .i64 x.o.char)
  have s11 := World.ownsRow.stored s10.1 (k * 14 + 11) (.int .i64 x.o.pa0)
  have s12 := World.ownsRow.stored s11.1 (k * 14 + 12) (.int .i64 x.o.pa1)
  have s13 := World.ownsRow.stored s12.1 (k * 14 + 13) (.string x.o.key)
  refine ⟨?_, ((((((((((((((World.grownBy.refl _ _).trans s0.2).trans s1.2).trans s2.2).trans s3.2).trans s4.2).trans s5.2).trans s6.2).trans s7.2).trans s8.2).trans s9.2).trans s10.2).trans s11.2).trans s12.2).trans s13.2⟩
  show World.ownsRow _ _ _ _ _ (List.length _) _
  rw [List.length_set, hn, ← flo_set L k hk x]
  exact s13.1

theorem set_perm {A : List Mo} {i k : Nat} (hi : i < A.length) (hk : k < A.length) : ((A.set i A[k]).set k A[i]).Perm A := List.set_set_perm hi hk

theorem own_at {w : World} {base g n c : Nat} {M : List Mo} (h : OwnO w base (.slice (some ⟨g, 0, none⟩) n c) M) (hd : ∀ x ∈ M, PS w x.a x.n x.c x.V) (i : Nat) (hi : i < M.length) : OpAtO w g (i * 14) M[i] := by
  obtain ⟨a, c', e, ho⟩ := owned_os h hd
  simp only [Value.slice.injEq] at e
  obtain ⟨rfl, _, rfl⟩ := e
  obtain ⟨g', o', e', _, hc⟩ := ho.at (by omega)
  simp only [Option.some.injEq, Addr.mk.injEq, and_true] at e'
  obtain ⟨rfl, rfl⟩ := e'
  have := hc i hi
  rw [Nat.zero_add] at this
  exact this

theorem own_form {w : World} {base : Nat} {v : Value} {M : List Mo} (h : OwnO w base v M) (hp : 0 < M.length) : ∃ g c, v = .slice (some ⟨g, 0, none⟩) M.length c ∧ base ≤ g ∧ g < w.heap.size := by
  rcases h.2 with ⟨_, e⟩ | ⟨g, cap, cur, e, hb, hg, _⟩
  · omega
  · exact ⟨g, cap, e, hb, (Array.getElem?_eq_some_iff.1 hg).1⟩

/-- Which one is taken: it lies within. -/
theorem turn_range (t : Int) {n : Nat} (hn : 0 < n) : (∃ q : Nat, t.tmod (n : Int) = (q : Int) ∧ q < n) ∨ (∃ q : Nat, t.tmod (n : Int) = -(q : Int) ∧ 0 < q ∧ q < n) := by
  have h1 : (t.tmod n).natAbs < n := by
    have := Int.natAbs_tmod t (n : Int)
    rw [this, Int.natAbs_natCast]
    exact Nat.mod_lt _ hn
  by_cases h : 0 ≤ t.tmod n
  · exact Or.inl ⟨(t.tmod n).natAbs, by omega, h1⟩
  · exact Or.inr ⟨(t.tmod n).natAbs, by omega, by omega, h1⟩

/-- Operations of a story, in some order. -/
structure TW (w2 wr : World) (v : Value) (L M : List Mo) : Prop where
  own : OwnO wr w2.heap.size v M
  perm : M.Perm L
  bel : RowKit.Below w2.heap.size w2 wr

theorem TW.deps {w2 wr : World} {v : Value} {L M : List Mo} (h : TW w2 wr v L M) (hd : ∀ x ∈ L, PS w2 x.a x.n x.c x.V) : ∀ x ∈ M, PS wr x.a x.n x.c x.V := fun x hx => (hd x (h.perm.mem_iff.1 hx)).below h.bel

set_option maxRecDepth 100000 in
set_option maxHeartbeats 8000000 in
theorem turned_walk (a : Option Addr) (n c : Nat) (l : List Md) (ta : Option Addr) (tn tc : Nat) (tl : List Int) (w : World) (hs : MS w a n c l) (hm : ∀ m ∈ l, m.Fits) (ht : NS w ta tn tc tl) (hAw : AwakeSays) (hSt : StorySays) :
    Calls Tryz.prog 4 #[.slice a n c, .slice ta tn tc] w fun e w' => e = .returned (.bool true) ∧ RowKit.Below w.heap.size w w' := by
  have hU := hAw w
  have hS := fun W (h : RowKit.Below w.heap.size w W) => hSt a n c l W (hs.below h) hm
  have htm := ht.max
  have htc := ht.cap
  have htl := ht.len
  unfold maxLen at htm
  go_enter Tryz.func4, Tryz.ntmps4
  go_upto_region 6 with (first
    | (go_at_call 13; refine (hS _ hB1).mono ?_; rintro e w2 ⟨v2, L, K, rfl, hH, hP, h60⟩; obtain ⟨oa, oc, rfl, hos⟩ := hH.os)
    | (go_at_call 6; refine hU.mono ?_; rintro e w1 ⟨rfl, hB1⟩))
  have B2 := hid (below2 hB1 hH.bel)
  have hfit := hid (sp_fit hH hP h60)
  have hst := hid hP.st
  have HOS := hid hos
  have hrs := hos.rs
  clear hU hS hH hP hB1 hos
  go_upto_region 7 with (first
    | (at_builtin; refine wpList_append_ops rfl _ _ rfl w2.heap.size (.slice none 0 0) [] rfl (World.ownsRow_nil _ _ _ _) oa L.length oc L rfl hrs (by simp; omega) (Nat.le_refl _) ?_; intro v3 w3 ho3 hg3))
  have hT0 : TW w2 w3 v3 L L := ⟨by simpa using ho3, List.Perm.refl _, (Below.refl _ w2).grown hg3 (Nat.le_refl _) (fun k hk => by cases hk)⟩
  obtain ⟨ma, mc, rfl, _⟩ := owned_os hT0.own (hT0.deps HOS.out.deps)
  have HT0 := hid hT0
  clear hrs ho3 hg3 hT0
  go_wp2
  go_loopw [8] (fun i wr => ∃ (k : Nat) (M : List Mo), k ≤ L.length ∧ i = .int .i64 k ∧ Hid (TW w2 wr (.slice ma L.length mc) L M)) (fun i _ => L.length - (intOf i).toNat)
  case atStart => exact ⟨0, L, by omega, rfl, HT0⟩
  case round =>
    obtain ⟨k, M, hk, rfl, hT⟩ := hrel
    have hML := hT.out.perm.length_eq
    have HML := hid hML
    by_cases hlt : k < L.length
    · by_cases hlt2 : k < tn
      · obtain ⟨tg, tf, rfl, htg, hct⟩ := (ht.below (below2 B2.out hT.out.bel)).at_ (by omega)
        have c0 := hct k (by omega)
        generalize (tl[k]'(by omega)) = t at *
        have hkM : k < M.length := by omega
        obtain ⟨g, mc', e, hgb, hgl⟩ := own_form hT.out.own (by omega)
        simp only [Value.slice.injEq] at e
        obtain ⟨rfl, hz, rfl⟩ := e
        clear hz hML
        have hXk := own_at hT.out.own (hT.out.deps HOS.out.deps) k hkM
        obtain ⟨x0, x1, x2, x3, x4, x5, x6, x7, x8, x9, x10, x11, x12, x13⟩ := hXk
        have hF1 : Far wr (wr.alloc (.cells (M[k].o.cells M[k].dep) 36)) := (Far.refl wr).alloc _
        have hbx : (wr.alloc (.cells (M[k].o.cells M[k].dep) 36)).heap[wr.heap.size]? = some (.cells (M[k].o.cells M[k].dep) 36) := (MapKept.heap_alloc wr _).1
        have hT1 : Hid (TW w2 (wr.alloc (.cells (M[k].o.cells M[k].dep) 36)) (.slice (some ⟨g, 0, none⟩) L.length mc) L M) := hid ⟨own_keep hT.out.own hF1.below, hT.out.perm, below2 hT.out.bel hF1.below⟩
        clear hct htg
        obtain ⟨q, hq, hqn, hR⟩ : ∃ q : Nat, q < L.length ∧ (t.tmod (L.length : Int) = (q : Int) ∨ (t.tmod (L.length : Int) = -(q : Int) ∧ 0 < q)) ∧ True := by
          rcases turn_range t (show 0 < L.length by omega) with ⟨q, h1, h2⟩ | ⟨q, h1, h2, h3⟩
          · exact ⟨q, h2, Or.inl h1, trivial⟩
          · exact ⟨q, h3, Or.inr ⟨h1, h2⟩, trivial⟩
        have hxk : ∃ x, M[k] = x := ⟨_, rfl⟩
        obtain ⟨x, hx⟩ := hxk
        have HX := hid hx
        rw [hx] at x0 x1 x2 x3 x4 x5 x6 x7 x8 x9 x10 x11 x12 x13 hF1 hbx hT1
        rcases hqn with h | ⟨h, hq0⟩
        · go_upto_region 13 with fail
          go_upto_region 14 with fail
          have hF1' : Far wr (wr.alloc (.cells #[.int .i64 x.o.id0, .int .i64 x.o.id1, .int .i64 x.o.time, .slice x.a x.n x.c, .int .i64 x.o.kind, .int .i64 x.o.bl0, .int .i64 x.o.bl1, .int .i64 x.o.at0, .int .i64 x.o.at1, .int .i64 x.o.side, .int .i64 x.o.char, .int .i64 x.o.pa0, .int .i64 x.o.pa1, .string x.o.key] 36)) := hF1
          have hbx' : (wr.alloc (.cells #[.int .i64 x.o.id0, .int .i64 x.o.id1, .int .i64 x.o.time, .slice x.a x.n x.c, .int .i64 x.o.kind, .int .i64 x.o.bl0, .int .i64 x.o.bl1, .int .i64 x.o.at0, .int .i64 x.o.at1, .int .i64 x.o.side, .int .i64 x.o.char, .int .i64 x.o.pa0, .int .i64 x.o.pa1, .string x.o.key] 36)).heap[wr.heap.size]? = some (.cells (x.o.cells x.dep) 36) := hbx
          have hT1' : Hid (TW w2 (wr.alloc (.cells #[.int .i64 x.o.id0, .int .i64 x.o.id1, .int .i64 x.o.time, .slice x.a x.n x.c, .int .i64 x.o.kind, .int .i64 x.o.bl0, .int .i64 x.o.bl1, .int .i64 x.o.at0, .int .i64 x.o.at1, .int .i64 x.o.side, .int .i64 x.o.char, .int .i64 x.o.pa0, .int .i64 x.o.pa1, .string x.o.key] 36)) (.slice (some ⟨g, 0, none⟩) L.length mc) L M) := hT1
          clear hF1 hbx hT1 x0 x1 x2 x3 x4 x5 x6 x7 x8 x9 x10 x11 x12 x13
          generalize wr.alloc (.cells #[.int .i64 x.o.id0, .int .i64 x.o.id1, .int .i64 x.o.time, .slice x.a x.n x.c, .int .i64 x.o.kind, .int .i64 x.o.bl0, .int .i64 x.o.bl1, .int .i64 x.o.at0, .int .i64 x.o.at1, .int .i64 x.o.side, .int .i64 x.o.char, .int .i64 x.o.pa0, .int .i64 x.o.pa1, .string x.o.key] 36) = W1 at *
          obtain ⟨bx, hbxe⟩ : ∃ bx, wr.heap.size = bx := ⟨_, rfl⟩
          have hgx : g < bx := by omega
          have hbl := (Array.getElem?_eq_some_iff.1 hbx').1
          rw [hbxe] at hbx' hbl ⊢
          clear hbxe hF1'
          have hqM : q < M.length := by have := HML.out; omega
          have hY := own_at hT1'.out.own (hT1'.out.deps HOS.out.deps) q hqM
          have hXX := own_at hT1'.out.own (hT1'.out.deps HOS.out.deps) k hkM
          obtain ⟨y, hy⟩ : ∃ y, M[q] = y := ⟨_, rfl⟩
          rw [hy] at hY
          rw [hx] at hXX
          obtain ⟨y0, y1, y2, y3, y4, y5, y6, y7, y8, y9, y10, y11, y12, y13⟩ := hY
          obtain ⟨x0, x1, x2, x3, x4, x5, x6, x7, x8, x9, x10, x11, x12, x13⟩ := hXX
          have hfz : ∀ j, W1.frozen? ⟨g, j, none⟩ = false := fun j => by
            have h := hT1'.out.own
            have h' : W1.ownsRow w2.heap.size 36 14 (.slice (some ⟨g, 0, none⟩) L.length mc) M.length (flo M) := h
            rw [HML.out] at h'
            exact World.ownsRow.frozenAt h' j
          have hput := putO14_own (k := k) hT1'.out.own hkM y
          have HY := hid hy
          clear hy hx
          have hMs : (M.set k y).length = M.length := List.length_set
          go_upto_region 15 with fail
          change Code.wp _ _ _ _ (putO14 W1 g (k * 14) y)
          clear x0 x1 x2 x3 x4 x5 x6 x7 x8 x9 x10 x11 x12 x13 y0 y1 y2 y3 y4 y5 y6 y7 y8 y9 y10 y11 y12 y13 hfz
          generalize putO14 W1 g (k * 14) y = P1 at *
          obtain ⟨hO1, hg1⟩ := hput
          have hB1 : RowKit.Below w2.heap.size w2 P1 := hT1'.out.bel.grown hg1 hT1'.out.bel.size (fun j hj => by cases hj; exact hgb)
          have hyM : y ∈ M := by rw [← HY.out]; exact List.getElem_mem hqM
          have hxM : x ∈ M := by rw [← HX.out]; exact List.getElem_mem hkM
          have hd1 : ∀ u ∈ M.set k y, PS P1 u.a u.n u.c u.V := fun u hu => (HOS.out.deps u (hT1'.out.perm.mem_iff.1 (by
            rcases List.mem_or_eq_of_mem_set hu with h | h
            · exact h
            · rw [h]; exact hyM))).below hB1
          have hbP := (hg1.block bx hbl (fun e => by cases e; omega)).trans hbx'
          have hZ := own_at hO1 hd1 q (by omega)
          obtain ⟨y0, y1, y2, y3, y4, y5, y6, y7, y8, y9, y10, y11, y12, y13⟩ := hZ
          obtain ⟨x0, x1, x2, x3, x4, x5, x6, x7, x8, x9, x10, x11, x12, x13⟩ := opAt_of_block hbP
          generalize ((M.set k y)[q]'(by omega)) = z at *
          have hfz : ∀ j, P1.frozen? ⟨g, j, none⟩ = false := fun j => by
            have h' : P1.ownsRow w2.heap.size 36 14 (.slice (some ⟨g, 0, none⟩) L.length mc) (M.set k y).length (flo (M.set k y)) := hO1
            rw [hMs, HML.out] at h'
            exact World.ownsRow.frozenAt h' j
          have hput2 := putO14_own (k := q) hO1 (by omega) x
          have hperm : ((M.set k y).set q x).Perm L := by
            have := set_perm hkM hqM
            rw [HX.out, HY.out] at this
            exact this.trans hT1'.out.perm
          have hnext : Hid (TW w2 (putO14 P1 g (q * 14) x) (.slice (some ⟨g, 0, none⟩) L.length mc) L ((M.set k y).set q x)) := hid ⟨hput2.1, hperm, hB1.grown hput2.2 hB1.size (fun j hj => by cases hj; exact hgb)⟩
          have HMS := hid hMs
          clear hput2 hperm hMs hO1 hg1 hd1 hbP hT1' hbx'
          go_wp2
          go_roundw
          case rel => exact ⟨k + 1, _, by omega, by go_num, hnext⟩
          case measure => simp [intOf]; omega
        · go_upto_region 13 with fail
          go_upto_region 14 with fail
          have hF1' : Far wr (wr.alloc (.cells #[.int .i64 x.o.id0, .int .i64 x.o.id1, .int .i64 x.o.time, .slice x.a x.n x.c, .int .i64 x.o.kind, .int .i64 x.o.bl0, .int .i64 x.o.bl1, .int .i64 x.o.at0, .int .i64 x.o.at1, .int .i64 x.o.side, .int .i64 x.o.char, .int .i64 x.o.pa0, .int .i64 x.o.pa1, .string x.o.key] 36)) := hF1
          have hbx' : (wr.alloc (.cells #[.int .i64 x.o.id0, .int .i64 x.o.id1, .int .i64 x.o.time, .slice x.a x.n x.c, .int .i64 x.o.kind, .int .i64 x.o.bl0, .int .i64 x.o.bl1, .int .i64 x.o.at0, .int .i64 x.o.at1, .int .i64 x.o.side, .int .i64 x.o.char, .int .i64 x.o.pa0, .int .i64 x.o.pa1, .string x.o.key] 36)).heap[wr.heap.size]? = some (.cells (x.o.cells x.dep) 36) := hbx
          have hT1' : Hid (TW w2 (wr.alloc (.cells #[.int .i64 x.o.id0, .int .i64 x.o.id1, .int .i64 x.o.time, .slice x.a x.n x.c, .int .i64 x.o.kind, .int .i64 x.o.bl0, .int .i64 x.o.bl1, .int .i64 x.o.at0, .int .i64 x.o.at1, .int .i64 x.o.side, .int .i64 x.o.char, .int .i64 x.o.pa0, .int .i64 x.o.pa1, .string x.o.key] 36)) (.slice (some ⟨g, 0, none⟩) L.length mc) L M) := hT1
          clear hF1 hbx hT1 x0 x1 x2 x3 x4 x5 x6 x7 x8 x9 x10 x11 x12 x13
          generalize wr.alloc (.cells #[.int .i64 x.o.id0, .int .i64 x.o.id1, .int .i64 x.o.time, .slice x.a x.n x.c, .int .i64 x.o.kind, .int .i64 x.o.bl0, .int .i64 x.o.bl1, .int .i64 x.o.at0, .int .i64 x.o.at1, .int .i64 x.o.side, .int .i64 x.o.char, .int .i64 x.o.pa0, .int .i64 x.o.pa1, .string x.o.key] 36) = W1 at *
          obtain ⟨bx, hbxe⟩ : ∃ bx, wr.heap.size = bx := ⟨_, rfl⟩
          have hgx : g < bx := by omega
          have hbl := (Array.getElem?_eq_some_iff.1 hbx').1
          rw [hbxe] at hbx' hbl ⊢
          clear hbxe hF1'
          have hqM : q < M.length := by have := HML.out; omega
          have hY := own_at hT1'.out.own (hT1'.out.deps HOS.out.deps) q hqM
          have hXX := own_at hT1'.out.own (hT1'.out.deps HOS.out.deps) k hkM
          obtain ⟨y, hy⟩ : ∃ y, M[q] = y := ⟨_, rfl⟩
          rw [hy] at hY
          rw [hx] at hXX
          obtain ⟨y0, y1, y2, y3, y4, y5, y6, y7, y8, y9, y10, y11, y12, y13⟩ := hY
          obtain ⟨x0, x1, x2, x3, x4, x5, x6, x7, x8, x9, x10, x11, x12, x13⟩ := hXX
          have hfz : ∀ j, W1.frozen? ⟨g, j, none⟩ = false := fun j => by
            have h := hT1'.out.own
            have h' : W1.ownsRow w2.heap.size 36 14 (.slice (some ⟨g, 0, none⟩) L.length mc) M.length (flo M) := h
            rw [HML.out] at h'
            exact World.ownsRow.frozenAt h' j
          have hput := putO14_own (k := k) hT1'.out.own hkM y
          have HY := hid hy
          clear hy hx
          have hMs : (M.set k y).length = M.length := List.length_set
          go_upto_region 15 with fail
          change Code.wp _ _ _ _ (putO14 W1 g (k * 14) y)
          clear x0 x1 x2 x3 x4 x5 x6 x7 x8 x9 x10 x11 x12 x13 y0 y1 y2 y3 y4 y5 y6 y7 y8 y9 y10 y11 y12 y13 hfz
          generalize putO14 W1 g (k * 14) y = P1 at *
          obtain ⟨hO1, hg1⟩ := hput
          have hB1 : RowKit.Below w2.heap.size w2 P1 := hT1'.out.bel.grown hg1 hT1'.out.bel.size (fun j hj => by cases hj; exact hgb)
          have hyM : y ∈ M := by rw [← HY.out]; exact List.getElem_mem hqM
          have hxM : x ∈ M := by rw [← HX.out]; exact List.getElem_mem hkM
          have hd1 : ∀ u ∈ M.set k y, PS P1 u.a u.n u.c u.V := fun u hu => (HOS.out.deps u (hT1'.out.perm.mem_iff.1 (by
            rcases List.mem_or_eq_of_mem_set hu with h | h
            · exact h
            · rw [h]; exact hyM))).below hB1
          have hbP := (hg1.block bx hbl (fun e => by cases e; omega)).trans hbx'
          have hZ := own_at hO1 hd1 q (by omega)
          obtain ⟨y0, y1, y2, y3, y4, y5, y6, y7, y8, y9, y10, y11, y12, y13⟩ := hZ
          obtain ⟨x0, x1, x2, x3, x4, x5, x6, x7, x8, x9, x10, x11, x12, x13⟩ := opAt_of_block hbP
          generalize ((M.set k y)[q]'(by omega)) = z at *
          have hfz : ∀ j, P1.frozen? ⟨g, j, none⟩ = false := fun j => by
            have h' : P1.ownsRow w2.heap.size 36 14 (.slice (some ⟨g, 0, none⟩) L.length mc) (M.set k y).length (flo (M.set k y)) := hO1
            rw [hMs, HML.out] at h'
            exact World.ownsRow.frozenAt h' j
          have hput2 := putO14_own (k := q) hO1 (by omega) x
          have hperm : ((M.set k y).set q x).Perm L := by
            have := set_perm hkM hqM
            rw [HX.out, HY.out] at this
            exact this.trans hT1'.out.perm
          have hnext : Hid (TW w2 (putO14 P1 g (q * 14) x) (.slice (some ⟨g, 0, none⟩) L.length mc) L ((M.set k y).set q x)) := hid ⟨hput2.1, hperm, hB1.grown hput2.2 hB1.size (fun j hj => by cases hj; exact hgb)⟩
          have HMS := hid hMs
          clear hput2 hperm hMs hO1 hg1 hd1 hbP hT1' hbx'
          go_wp2
          go_roundw
          case rel => exact ⟨k + 1, _, by omega, by go_num, hnext⟩
          case measure => simp [intOf]; omega
      · obtain ⟨ma', mc', e, hosM0⟩ := owned_os hT.out.own (hT.out.deps HOS.out.deps)
        simp only [Value.slice.injEq] at e
        obtain ⟨rfl, hz, rfl⟩ := e
        have hosM : OS wr ma L.length mc M := by rw [hz]; exact hosM0
        have HZ := hid hz
        clear hz hosM0 hML
        have hos1 := HOS.out.below hT.out.bel
        have hfM : ∀ x ∈ M, x.o.Fits ∧ Dws x.V ∧ x.n ≤ 1000000 := fun x hx => hfit.out x (hT.out.perm.mem_iff.1 hx)
        have hO1 := order_taken oa L.length oc L wr hos1 hfit.out (by omega)
        have hO2 := fun W (h : RowKit.Below wr.heap.size wr W) => order_taken ma L.length mc M W (hosM.below h) hfM (by omega)
        have hR := fun W (h : RowKit.Below wr.heap.size wr W) => right_any ma L.length mc M W (hosM.below h) hfM (by omega)
        have hpm : (M.map Mo.m).Perm (L.map Mo.m) := hT.out.perm.map _
        have HBW := hid (below2 B2.out hT.out.bel)
        have Hfew := hid (fun (R : List Mo) (T : List Nat) (ht : Taken (L.map Mo.m) R T) (x : Mo) (hx : x ∈ R) => taken_few HOS.out hfit.out ht hx)
        clear hos1
        go_upto_region 18 with (first
          | (go_at_call 8; have hq := hB5; refine (hO2 _ hB5).mono ?_; rintro e w6 ⟨R', T', b1, d1, b2, d2, rfl, hT', hos3, hos4, hB6⟩)
          | (go_at_call 8; refine hO1.mono ?_; rintro e w5 ⟨R, T, a1, c1, a2, c2, rfl, hTk, hosA, hosB, hB5⟩))
        obtain ⟨hsame, hl1, hl2, hn1, hn2, _⟩ := hst.out.turned hpm hTk hT'
        rw [List.length_map] at hl1 hl2
        have hnA : ∀ x ∈ inL R T, x.n ≤ 1000000 := fun x hx => by have h1 := (hosA.deps x hx).len; have h2 := Hfew.out R T hTk x (inL_mem hx); omega
        have K1 := rows_any a1 b1 T.length c1 T'.length d1 (inL R T) (inL R' T') w6 (hosA.below hB6) hos3 hsame (by omega) hnA
        have hB67 := below2 hB5 hB6
        have HR := hid (fun (R2 : List Mo) (T2 : List Nat) (h : Taken (M.map Mo.m) R2 T2) => hst.out.turned hpm hTk h)
        rw [hl1, hl2] at K1
        rw [hl1, hl2, hn1, hn2]
        clear hl1 hl2 hn1 hn2 hsame hosA hosB hos3 hos4 hT' hO1 hO2 hnA hTk Hfew
        go_wp2_with (first
          | (go_at_call 11; have hq := hB7; refine (hR _ (below2 hB67 hB7)).mono ?_; rintro e w8 ⟨R2, T2, rfl, hT2, hB8⟩)
          | (go_at_call 10; refine K1.mono ?_; rintro e w7 ⟨rfl, hB7⟩))
        go_ret
        obtain ⟨_, _, g3, _, _, g6⟩ := HR.out R2 T2 hT2
        rw [List.length_map] at g3
        exact ⟨by rw [g3, g6]; simp, below2 HBW.out (below2 hB67 (below2 hB7 hB8))⟩
    · obtain ⟨ma', mc', e, hosM0⟩ := owned_os hT.out.own (hT.out.deps HOS.out.deps)
      simp only [Value.slice.injEq] at e
      obtain ⟨rfl, hz, rfl⟩ := e
      have hosM : OS wr ma L.length mc M := by rw [hz]; exact hosM0
      have HZ := hid hz
      clear hz hosM0 hML
      have hos1 := HOS.out.below hT.out.bel
      have hfM : ∀ x ∈ M, x.o.Fits ∧ Dws x.V ∧ x.n ≤ 1000000 := fun x hx => hfit.out x (hT.out.perm.mem_iff.1 hx)
      have hO1 := order_taken oa L.length oc L wr hos1 hfit.out (by omega)
      have hO2 := fun W (h : RowKit.Below wr.heap.size wr W) => order_taken ma L.length mc M W (hosM.below h) hfM (by omega)
      have hR := fun W (h : RowKit.Below wr.heap.size wr W) => right_any ma L.length mc M W (hosM.below h) hfM (by omega)
      have hpm : (M.map Mo.m).Perm (L.map Mo.m) := hT.out.perm.map _
      have HBW := hid (below2 B2.out hT.out.bel)
      have Hfew := hid (fun (R : List Mo) (T : List Nat) (ht : Taken (L.map Mo.m) R T) (x : Mo) (hx : x ∈ R) => taken_few HOS.out hfit.out ht hx)
      clear hos1
      go_upto_region 18 with (first
        | (go_at_call 8; have hq := hB5; refine (hO2 _ hB5).mono ?_; rintro e w6 ⟨R', T', b1, d1, b2, d2, rfl, hT', hos3, hos4, hB6⟩)
        | (go_at_call 8; refine hO1.mono ?_; rintro e w5 ⟨R, T, a1, c1, a2, c2, rfl, hTk, hosA, hosB, hB5⟩))
      obtain ⟨hsame, hl1, hl2, hn1, hn2, _⟩ := hst.out.turned hpm hTk hT'
      rw [List.length_map] at hl1 hl2
      have hnA : ∀ x ∈ inL R T, x.n ≤ 1000000 := fun x hx => by have h1 := (hosA.deps x hx).len; have h2 := Hfew.out R T hTk x (inL_mem hx); omega
      have K1 := rows_any a1 b1 T.length c1 T'.length d1 (inL R T) (inL R' T') w6 (hosA.below hB6) hos3 hsame (by omega) hnA
      have hB67 := below2 hB5 hB6
      have HR := hid (fun (R2 : List Mo) (T2 : List Nat) (h : Taken (M.map Mo.m) R2 T2) => hst.out.turned hpm hTk h)
      rw [hl1, hl2] at K1
      rw [hl1, hl2, hn1, hn2]
      clear hl1 hl2 hn1 hn2 hsame hosA hosB hos3 hos4 hT' hO1 hO2 hnA hTk Hfew
      go_wp2_with (first
        | (go_at_call 11; have hq := hB7; refine (hR _ (below2 hB67 hB7)).mono ?_; rintro e w8 ⟨R2, T2, rfl, hT2, hB8⟩)
        | (go_at_call 10; refine K1.mono ?_; rintro e w7 ⟨rfl, hB7⟩))
      go_ret
      obtain ⟨_, _, g3, _, _, g6⟩ := HR.out R2 T2 hT2
      rw [List.length_map] at g3
      exact ⟨by rw [g3, g6]; simp, below2 HBW.out (below2 hB67 (below2 hB7 hB8))⟩
end

section
open Go.RowKit

theorem f64_wf {n : Int} (h : (Lit.int .i64 n).wf = true) : F64 n := f64_of h

section
open Go.ChangeShapes Go.WideShapes
variable {H : Type} {enc : TypeId × Value → H} {P : Program} {w : World} {base : Nat} {spare : Nat → Bool} {held : Bool}

theorem open_madel {tM tInt tStr : TypeId} {fs : Array Field} {L : List Value} {fuel : Nat} {x : DataW H × List MemPlace}
    (hO : P.underlying tM = some (.struct fs)) (hF : fs.toList.map (fun f => (f.type, f.offset)) = [(tInt, 0), (tInt, 1), (tInt, 2), (tInt, 3), (tInt, 4), (tStr, 5)])
    (hI : P.underlying tInt = some (.int .i64)) (hS : P.underlying tStr = some .string) (cO : P.cellsOf tM = 6) (cI : P.cellsOf tInt = 1) (cS : P.cellsOf tStr = 1)
    (hf : DataW.trod enc P w base spare held fuel tM L = some x) :
    ∃ m : Md, L = m.cells.toList ∧ m.Fits := by
  obtain ⟨xs, n, _, hx, hl, hlen, hq⟩ := DataW.trod_struct hO hf
  have F := fun i t o hi => fld (enc := enc) (w := w) (base := base) (spare := spare) (held := held) hF hlen hq i (t := t) (o := o) hi
  obtain ⟨y0, f0, _⟩ := F 0 _ _ rfl
  obtain ⟨y1, f1, _⟩ := F 1 _ _ rfl
  obtain ⟨y2, f2, _⟩ := F 2 _ _ rfl
  obtain ⟨y3, f3, _⟩ := F 3 _ _ rfl
  obtain ⟨y4, f4, _⟩ := F 4 _ _ rfl
  obtain ⟨y5, f5, _⟩ := F 5 _ _ rfl
  rw [cI] at f0 f1 f2 f3 f4
  rw [cS] at f5
  obtain ⟨z0, e0, _, u0⟩ := DataW.trod_int hI f0
  obtain ⟨z1, e1, _, u1⟩ := DataW.trod_int hI f1
  obtain ⟨z2, e2, _, u2⟩ := DataW.trod_int hI f2
  obtain ⟨z3, e3, _, u3⟩ := DataW.trod_int hI f3
  obtain ⟨z4, e4, _, u4⟩ := DataW.trod_int hI f4
  obtain ⟨k, e5, _, u5⟩ := DataW.trod_string hS f5
  refine ⟨⟨z0, z1, z2, z3, z4, k⟩, ?_, ⟨f64_wf u0, f64_wf u1, f64_wf u2, f64_wf u3, f64_wf u4, u5⟩⟩
  have p0 := part_one e0
  have p1 := part_one e1
  have p2 := part_one e2
  have p3 := part_one e3
  have p4 := part_one e4
  have p5 := part_one e5
  rw [cO] at hl
  apply List.ext_getElem?
  intro i
  match i with
  | 0 => exact p0
  | 1 => exact p1
  | 2 => exact p2
  | 3 => exact p3
  | 4 => exact p4
  | 5 => exact p5
  | i + 6 => rw [List.getElem?_eq_none (by omega), List.getElem?_eq_none (by simp [Md.cells])]
end

theorem cellsMade : Tryz.prog.cellsOf 59 = 6 := by kernel_rfl

theorem open_mades {H : Type} {enc : TypeId × Value → H} {W : World} {a : Option Addr} {len cap : Nat} {d : DataW H} {p : List MemPlace} (h : DataW.Trod enc Tryz.prog W 0 (fun _ => true) true 28 (.slice a len cap) d p) :
    ∃ L, MS W a len cap L ∧ ∀ m ∈ L, m.Fits := by
  obtain ⟨fuel, hf⟩ := h
  rcases Go.Deep.open_slice Tryz.underlying28 hf with ⟨hcs, _⟩ | ⟨x, l, c, m, n, D, Pl, hcs, _, hl, hm, hmm, _, hx⟩
  · simp [Value.cells] at hcs
    obtain ⟨rfl, rfl, rfl⟩ := hcs
    exact ⟨[], ⟨rfl, Nat.le_refl _, Nat.zero_le _, fun h => absurd h (by omega)⟩, fun x hx => by simp at hx⟩
  · simp [Value.cells] at hcs
    obtain ⟨rfl, rfl, rfl⟩ := hcs
    have hlm : len ≤ m := by rw [hmm]; split <;> omega
    have each : ∀ i, i < m → ∃ y : Md, (∀ j u, y.cells.toList[j]? = some u → W.cell? ((x.add (i * 6)).add j) = some u) ∧ y.Fits := by
      intro i hi
      obtain ⟨cs, h1, h2⟩ := hx i hi
      rw [cellsMade] at h1
      obtain ⟨_, hlen, hcell⟩ := World.cells?_some h1
      obtain ⟨y, rfl, hfit⟩ := open_madel Tryz.underlying59 rfl Tryz.underlying3 Tryz.underlying9 cellsMade intCells cells9 h2
      refine ⟨y, fun j u hj => ?_, hfit⟩
      have hj6 : j < 6 := by
        rcases Nat.lt_or_ge j 6 with h' | h'
        · exact h'
        · rw [List.getElem?_eq_none (by simpa [Md.cells] using h')] at hj; cases hj
      have := hcell j hj6
      rw [this]
      exact hj
    haveI : Inhabited Md := ⟨⟨0, 0, 0, 0, 0, ByteArray.empty⟩⟩
    obtain ⟨q, hq⟩ := Go.Deep.choose_lt each
    refine ⟨(List.range len).map q, ⟨by simp, hl, hm, fun hp => ?_⟩, fun y hy => ?_⟩
    · obtain ⟨g, o, sp⟩ := x
      have h0 := (hq 0 (by omega)).1 0 (.int .i64 (q 0).act) rfl
      have hs : sp = none := by simpa [Addr.add] using World.cell?_spot h0
      subst hs
      refine ⟨g, o, rfl, by have := cell_in h0; simpa [Addr.add] using this, fun i hi => ?_⟩
      have hil : i < len := by simpa using hi
      have hi' := (hq i (by omega)).1
      rw [List.getElem_map, List.getElem_range]
      have key : ∀ j u, (q i).cells.toList[j]? = some u → W.cell? ⟨g, o + i * 6 + j, none⟩ = some u := fun j u hj => by
        have := hi' j u hj
        rw [add_none, add_none] at this
        exact this
      exact ⟨key 0 _ rfl, key 1 _ rfl, key 2 _ rfl, key 3 _ rfl, key 4 _ rfl, key 5 _ rfl⟩
    · obtain ⟨i, hi, rfl⟩ := List.mem_map.1 hy
      exact (hq i (by have := List.mem_range.1 hi; omega)).2

theorem open_nums {H : Type} {enc : TypeId × Value → H} {W : World} {a : Option Addr} {len cap : Nat} {d : DataW H} {p : List MemPlace} (h : DataW.Trod enc Tryz.prog W 0 (fun _ => true) true 29 (.slice a len cap) d p) :
    ∃ z, NS W a len cap z := by
  obtain ⟨fuel, hf⟩ := h
  rcases Go.ChangeShapes.open_ints Tryz.underlying29 Tryz.underlying3 (by kernel_rfl) hf with ⟨hcs, _⟩ | ⟨x, l, c, zs, hcs, _, hl, hm, hz, _, hcell, hwz⟩
  · simp [Value.cells] at hcs
    obtain ⟨rfl, rfl, rfl⟩ := hcs
    exact ⟨[], rfl, Nat.le_refl _, Nat.zero_le _, fun h => absurd h (by omega)⟩
  · simp [Value.cells] at hcs
    obtain ⟨rfl, rfl, rfl⟩ := hcs
    have hz' : zs.length = cap := by simpa using hz
    refine ⟨zs.take len, by rw [List.length_take]; omega, hl, hm, fun hp => ?_⟩
    obtain ⟨g, o, sp⟩ := x
    have h0 := hcell 0 (by omega)
    have hs : sp = none := by simpa [Addr.add] using World.cell?_spot h0
    subst hs
    refine ⟨g, o, rfl, by have := cell_in h0; simpa [Addr.add] using this, fun i hi => ?_⟩
    have hil : i < zs.length := by rw [List.length_take] at hi; omega
    have := hcell i (by omega)
    rw [add_none] at this
    rw [List.getElem_take]
    simpa [List.getD, List.getElem?_eq_getElem hil] using this

end
end Go.Proofs.YtlncokkpdkddlaaGreat
