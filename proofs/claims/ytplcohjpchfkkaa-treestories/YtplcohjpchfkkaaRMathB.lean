/- Whether operations are right, in numbers: by Deps' own dots, or by all that they have. No function of the program. -/
import Derived.Test.YtplcohjpchfkkaaORChk1
import Derived.Deep.CutBlock
import Derived.Deep.CutRange
import Derived.Test.YtplcohjpchfkkaaTrState
import Derived.Maps.AppendAt
import Derived.WalkMore
import Derived.Test.YtplcohjpchfkkaaTrKey
namespace Go.Proofs.Ytplcohjpchfkkaa
section
open Go.RowKit
open Go.Sort (grow)

theorem chk_del {o : OpIn} {V : List Dt} (h : headb o V = true) (k : o.kind = 2) : chk o V = ((o.side == 0) && (o.char == 0) && (o.pa0 == 0) && (o.pa1 == 0) && o.key.toList.isEmpty && hasv V o.blk && hasv V o.at) := by
  simp [chk, h, partb_del V k, barb, pat, pch, ppl, k, Bool.and_assoc]

set_option maxRecDepth 100000 in
set_option maxHeartbeats 16000000 in
theorem rchk_del (o : OpIn) (a : Option Addr) (n c : Nat) (V : List Dt) (w : World) (hs : PS w a n c V) (hn : n ≤ 9223372036854775807) (hk : o.key.size ≤ maxLen) (hh : headb o V = true) (hkd : o.kind = 2) : Tells 48 #[ov o (.slice a n c)] w (.bool (chk o V)) := by
  have hb := hid (chk_del hh hkd)
  have k1 : (o.kind == 1) = false := by simp [hkd]
  have k2 : (o.kind == 2) = true := by simp [hkd]
  have hi : 0 ≤ o.id0 ∧ o.id0 < 16777216 ∧ 1 ≤ o.id1 ∧ o.id1 ≤ 1073741824 := (mayd_iff o.id).1 (by simp [headb] at hh; exact hh.1.1.1.1)
  have hg := ((vmb_iff V).1 (by simp [headb] at hh; exact hh.1.2)).gt_bounds o.id0
  have x1 : mayd o.id = true := by simp [headb] at hh; exact hh.1.1.1.1
  have x2 : vmb V = true := by simp [headb] at hh; exact hh.1.2
  have x3 : gt V o.id0 = o.id1 - 1 := by simp [headb] at hh; exact hh.2
  have x4 : 1 ≤ o.time := by simp [headb] at hh; exact hh.1.1.1.2
  have x5 : o.time ≤ 1099511627776 := by simp [headb] at hh; exact hh.1.1.2
  have hH := fun W (h : Far w W) x y => rhas_any a n c V (x, y) W (hs.far h) hn
  have hK := fun W => rkmay_any o.key W hk
  clear hh hk hkd
  have mixed := mixed
  have hA := opAt_alloc w o (.slice a n c) 58
  have hF := (Far.refl w).alloc (.cells (o.cells (.slice a n c)) 58)
  have hI := rmay_any o.id (w.alloc (.cells (o.cells (.slice a n c)) 58))
  have hV := fun W (h : Far w W) => rvmay_any a n c V W (hs.far h) hn
  have E0 := hA.c0
  have E1 := hA.c1
  have E3 := hA.c3
  generalize mayd o.id = r1 at hI x1
  generalize vmb V = r2 at hV x2
  go_enter Try.func48, Try.ntmps48
  go_upto_region 3 with (first
    | (go_at_call 64; refine hI.mono ?_; rintro e w1 ⟨rfl, hF1⟩; have hA1 := hA.far hF1; have F1 := hF.trans hF1; have e3 := hA1.c3)
    | (go_at_call 69; refine (hV _ F1).mono ?_; rintro e w2 ⟨rfl, hF2⟩; have hA2 := hA1.far hF2; have F2 := F1.trans hF2))
  clear E0 E1 E3 e3 hI hV hF hF1 hF2 F1 hA hA1
  generalize w.heap.size = q at hA2 ⊢
  have E0 := fun m os => (hA2.grow m os).c0
  have E1 := fun m os => (hA2.grow m os).c1
  have E2 := fun m os => (hA2.grow m os).c2
  have E3 := fun m os => (hA2.grow m os).c3
  have hG := fun m os => tells_q (rget_far (y := o.id0) ((hs.far F2).far ⟨m, os, rfl⟩) hn)
  subst x1 x2
  have h4 : ¬ o.time < 1 := by omega
  have h5 : ¬ 1099511627776 < o.time := by omega
  have hb3 : (gt V o.id0 == o.id1 - 1) = true := by simp [x3]
  have hb4 : (gt V o.id0 != o.id1 - 1) = false := by simp [x3]
  generalize gt V o.id0 = g at hG hg hb3 hb4
  clear x3 hs hn
  refine wp_region_quiet_grown mixed (by kernel_rfl) ?_
  repeat (go_big_quiet_step ((first | (go_at_call 63; exact hG _ _))))
  refine wpQuiet_nil ?_
  intro _ hw'
  obtain ⟨⟨nq, osq⟩, hw''⟩ := hw'
  subst hw''
  simp only []
  have hA3 := hA2.grow nq osq
  have F3 := F2.more nq osq
  generalize grow (w2.drewN nq) osq = w3 at hA3 F3 ⊢
  clear hA2 F2 E0 E1 E2 E3 hG hi hg hb3 h4 h5 x4 x5
  have E3 := hA3.c3
  have E5 := hA3.c5
  have E6 := hA3.c6
  have hH1 := hH w3 F3 o.bl0 o.bl1
  have hH2 := fun W h => hH W h o.at0 o.at1
  have hH3 := fun W h => hH W h o.pa0 o.pa1
  clear hH
  try simp only [OpIn.at] at hb
  generalize hasv V (o.bl0, o.bl1) = r5 at hH1 hb
  generalize hasv V (o.at0, o.at1) = r6 at hH2 hb
  generalize hasv V (o.pa0, o.pa1) = r7 at hH3 hb
  generalize kyb o.key.toList = r8 at hK hb
  go_upto_region 12 with (first
    | (go_at_call 67; have hq := F5; refine (hH3 _ F5).mono ?_; rintro e w6 ⟨rfl, hF6⟩; have hA6 := hA5.far hF6; have F6 := F5.trans hF6; have hlt := hA6.lt; clear hA3 hA4 hA5 F3 F4 hF4 hF5 hF6; have e0 := hA6.c0; have e1 := hA6.c1; have e2 := hA6.c2; have e3 := hA6.c3; have e4 := hA6.c4; have e5 := hA6.c5; have e6 := hA6.c6; have e7 := hA6.c7; have e8 := hA6.c8; have e9 := hA6.c9; have e10 := hA6.c10; have e11 := hA6.c11; have e12 := hA6.c12; have e13 := hA6.c13)
    | (go_at_call 67; have hq := F4; refine (hH2 _ F4).mono ?_; rintro e w5 ⟨rfl, hF5⟩; have hA5 := hA4.far hF5; have F5 := F4.trans hF5; have c3 := hA5.c3; have c11 := hA5.c11; have c12 := hA5.c12)
    | (go_at_call 67; refine hH1.mono ?_; rintro e w4 ⟨rfl, hF4⟩; have hA4 := hA3.far hF4; have F4 := F3.trans hF4; have b3 := hA4.c3; have b7 := hA4.c7; have b8 := hA4.c8)
    | (go_at_call 70; refine (hK _).mono ?_; rintro e w7 ⟨rfl, rfl⟩))
  have FZ := ((F6.alloc (.cells #[.int .i64 0, .int .i64 0] 24)).alloc (.cells #[.int .i64 0, .int .i64 (-1)] 24)).alloc (.cells #[.int .i64 0, .int .i64 (-2)] 24)
  have hA9 := hA6.far (((Far.refl w6).alloc (.cells #[.int .i64 0, .int .i64 0] 24)).alloc (.cells #[.int .i64 0, .int .i64 (-1)] 24) |>.alloc (.cells #[.int .i64 0, .int .i64 (-2)] 24))
  have hn00 : (((w6.alloc (.cells #[.int .i64 0, .int .i64 0] 24)).alloc (.cells #[.int .i64 0, .int .i64 (-1)] 24)).alloc (.cells #[.int .i64 0, .int .i64 (-2)] 24)).cell? ⟨w6.heap.size, 0, none⟩ = some (.int .i64 0) := by go_simp
  have hn01 : (((w6.alloc (.cells #[.int .i64 0, .int .i64 0] 24)).alloc (.cells #[.int .i64 0, .int .i64 (-1)] 24)).alloc (.cells #[.int .i64 0, .int .i64 (-2)] 24)).cell? ⟨w6.heap.size, 1, none⟩ = some (.int .i64 0) := by go_simp
  have hn10 : (((w6.alloc (.cells #[.int .i64 0, .int .i64 0] 24)).alloc (.cells #[.int .i64 0, .int .i64 (-1)] 24)).alloc (.cells #[.int .i64 0, .int .i64 (-2)] 24)).cell? ⟨w6.heap.size + 1, 0, none⟩ = some (.int .i64 0) := by go_simp
  have hn11 : (((w6.alloc (.cells #[.int .i64 0, .int .i64 0] 24)).alloc (.cells #[.int .i64 0, .int .i64 (-1)] 24)).alloc (.cells #[.int .i64 0, .int .i64 (-2)] 24)).cell? ⟨w6.heap.size + 1, 1, none⟩ = some (.int .i64 (-1)) := by go_simp
  have hn20 : (((w6.alloc (.cells #[.int .i64 0, .int .i64 0] 24)).alloc (.cells #[.int .i64 0, .int .i64 (-1)] 24)).alloc (.cells #[.int .i64 0, .int .i64 (-2)] 24)).cell? ⟨w6.heap.size + 1 + 1, 0, none⟩ = some (.int .i64 0) := by go_simp
  have hn21 : (((w6.alloc (.cells #[.int .i64 0, .int .i64 0] 24)).alloc (.cells #[.int .i64 0, .int .i64 (-1)] 24)).alloc (.cells #[.int .i64 0, .int .i64 (-2)] 24)).cell? ⟨w6.heap.size + 1 + 1, 1, none⟩ = some (.int .i64 (-2)) := by go_simp
  generalize ((w6.alloc (.cells #[.int .i64 0, .int .i64 0] 24)).alloc (.cells #[.int .i64 0, .int .i64 (-1)] 24)).alloc (.cells #[.int .i64 0, .int .i64 (-2)] 24) = w9 at FZ hA9 hn00 hn01 hn10 hn11 hn20 hn21 ⊢
  clear F6 F5 hH1 hH2 hH3 hK hA6 E3 E5 E6 b3 b7 b8 c3 c11 c12 e0 e1 e2 e3 e4 e5 e6 e7 e8 e9 e10 e11 e12 e13 hlt
  have e0 := hA9.c0
  have e1 := hA9.c1
  have e4 := hA9.c4
  have e5 := hA9.c5
  have e6 := hA9.c6
  have e7 := hA9.c7
  have e8 := hA9.c8
  have e9 := hA9.c9
  have e10 := hA9.c10
  have e11 := hA9.c11
  have e12 := hA9.c12
  have e13 := hA9.c13
  clear hA9
  go_wp2_with fail
  all_goals go_ret
  all_goals (refine ⟨?_, FZ⟩; have hb := hb.out; rw [hb]; clear FZ e0 e1 e4 e5 e6 e7 e8 e9 e10 e11 e12 e13 hn00 hn01 hn10 hn11 hn20 hn21 hb)
  all_goals (first | (simp_all; done) | (simp_all; omega) | skip)
end

section
open Go.RowKit
open Go.Sort (grow)

theorem chk_mov {o : OpIn} {V : List Dt} (h : headb o V = true) (k : o.kind = 3) : chk o V = (((o.at0 == 0) && (o.at1 == 0)) && (o.side == 0) && (o.char == 0) && ((((o.bl0 == o.id0) && (o.bl1 == o.id1)) || hasv V o.blk) && ((((o.pa0 == 0) && (o.pa1 == -1)) || ((o.pa0 == 0) && (o.pa1 == -2)) || hasv V o.par) && !((o.pa0 == o.bl0) && (o.pa1 == o.bl1))) && kyb o.key.toList)) := by
  simp [chk, h, partb_mov V k, barb, parb, pat, pch, ppl, k, Bool.and_assoc]

set_option maxRecDepth 100000 in
set_option maxHeartbeats 16000000 in
theorem rchk_mov (o : OpIn) (a : Option Addr) (n c : Nat) (V : List Dt) (w : World) (hs : PS w a n c V) (hn : n ≤ 9223372036854775807) (hk : o.key.size ≤ maxLen) (hh : headb o V = true) (hkd : o.kind = 3) : Tells 48 #[ov o (.slice a n c)] w (.bool (chk o V)) := by
  have hb := hid (chk_mov hh hkd)
  have k1 : (o.kind == 1) = false := by simp [hkd]
  have k2 : (o.kind == 2) = false := by simp [hkd]
  have k3 : (o.kind == 3) = true := by simp [hkd]
  have hi : 0 ≤ o.id0 ∧ o.id0 < 16777216 ∧ 1 ≤ o.id1 ∧ o.id1 ≤ 1073741824 := (mayd_iff o.id).1 (by simp [headb] at hh; exact hh.1.1.1.1)
  have hg := ((vmb_iff V).1 (by simp [headb] at hh; exact hh.1.2)).gt_bounds o.id0
  have x1 : mayd o.id = true := by simp [headb] at hh; exact hh.1.1.1.1
  have x2 : vmb V = true := by simp [headb] at hh; exact hh.1.2
  have x3 : gt V o.id0 = o.id1 - 1 := by simp [headb] at hh; exact hh.2
  have x4 : 1 ≤ o.time := by simp [headb] at hh; exact hh.1.1.1.2
  have x5 : o.time ≤ 1099511627776 := by simp [headb] at hh; exact hh.1.1.2
  have hH := fun W (h : Far w W) x y => rhas_any a n c V (x, y) W (hs.far h) hn
  have hK := fun W => rkmay_any o.key W hk
  clear hh hk hkd
  have mixed := mixed
  have hA := opAt_alloc w o (.slice a n c) 58
  have hF := (Far.refl w).alloc (.cells (o.cells (.slice a n c)) 58)
  have hI := rmay_any o.id (w.alloc (.cells (o.cells (.slice a n c)) 58))
  have hV := fun W (h : Far w W) => rvmay_any a n c V W (hs.far h) hn
  have E0 := hA.c0
  have E1 := hA.c1
  have E3 := hA.c3
  generalize mayd o.id = r1 at hI x1
  generalize vmb V = r2 at hV x2
  go_enter Try.func48, Try.ntmps48
  go_upto_region 3 with (first
    | (go_at_call 64; refine hI.mono ?_; rintro e w1 ⟨rfl, hF1⟩; have hA1 := hA.far hF1; have F1 := hF.trans hF1; have e3 := hA1.c3)
    | (go_at_call 69; refine (hV _ F1).mono ?_; rintro e w2 ⟨rfl, hF2⟩; have hA2 := hA1.far hF2; have F2 := F1.trans hF2))
  clear E0 E1 E3 e3 hI hV hF hF1 hF2 F1 hA hA1
  generalize w.heap.size = q at hA2 ⊢
  have E0 := fun m os => (hA2.grow m os).c0
  have E1 := fun m os => (hA2.grow m os).c1
  have E2 := fun m os => (hA2.grow m os).c2
  have E3 := fun m os => (hA2.grow m os).c3
  have hG := fun m os => tells_q (rget_far (y := o.id0) ((hs.far F2).far ⟨m, os, rfl⟩) hn)
  subst x1 x2
  have h4 : ¬ o.time < 1 := by omega
  have h5 : ¬ 1099511627776 < o.time := by omega
  have hb3 : (gt V o.id0 == o.id1 - 1) = true := by simp [x3]
  have hb4 : (gt V o.id0 != o.id1 - 1) = false := by simp [x3]
  generalize gt V o.id0 = g at hG hg hb3 hb4
  clear x3 hs hn
  refine wp_region_quiet_grown mixed (by kernel_rfl) ?_
  repeat (go_big_quiet_step ((first | (go_at_call 63; exact hG _ _))))
  refine wpQuiet_nil ?_
  intro _ hw'
  obtain ⟨⟨nq, osq⟩, hw''⟩ := hw'
  subst hw''
  simp only []
  have hA3 := hA2.grow nq osq
  have F3 := F2.more nq osq
  generalize grow (w2.drewN nq) osq = w3 at hA3 F3 ⊢
  clear hA2 F2 E0 E1 E2 E3 hG hi hg hb3 h4 h5 x4 x5
  have E3 := hA3.c3
  have E5 := hA3.c5
  have E6 := hA3.c6
  have hH1 := hH w3 F3 o.bl0 o.bl1
  have hH2 := fun W h => hH W h o.at0 o.at1
  have hH3 := fun W h => hH W h o.pa0 o.pa1
  clear hH
  try simp only [OpIn.at] at hb
  generalize hasv V (o.bl0, o.bl1) = r5 at hH1 hb
  generalize hasv V (o.at0, o.at1) = r6 at hH2 hb
  generalize hasv V (o.pa0, o.pa1) = r7 at hH3 hb
  generalize kyb o.key.toList = r8 at hK hb
  go_upto_region 12 with (first
    | (go_at_call 67; have hq := F5; refine (hH3 _ F5).mono ?_; rintro e w6 ⟨rfl, hF6⟩; have hA6 := hA5.far hF6; have F6 := F5.trans hF6; have hlt := hA6.lt; clear hA3 hA4 hA5 F3 F4 hF4 hF5 hF6; have e0 := hA6.c0; have e1 := hA6.c1; have e2 := hA6.c2; have e3 := hA6.c3; have e4 := hA6.c4; have e5 := hA6.c5; have e6 := hA6.c6; have e7 := hA6.c7; have e8 := hA6.c8; have e9 := hA6.c9; have e10 := hA6.c10; have e11 := hA6.c11; have e12 := hA6.c12; have e13 := hA6.c13)
    | (go_at_call 67; have hq := F4; refine (hH2 _ F4).mono ?_; rintro e w5 ⟨rfl, hF5⟩; have hA5 := hA4.far hF5; have F5 := F4.trans hF5; have c3 := hA5.c3; have c11 := hA5.c11; have c12 := hA5.c12)
    | (go_at_call 67; refine hH1.mono ?_; rintro e w4 ⟨rfl, hF4⟩; have hA4 := hA3.far hF4; have F4 := F3.trans hF4; have b3 := hA4.c3; have b7 := hA4.c7; have b8 := hA4.c8)
    | (go_at_call 70; refine (hK _).mono ?_; rintro e w7 ⟨rfl, rfl⟩))
  have FZ := ((F6.alloc (.cells #[.int .i64 0, .int .i64 0] 24)).alloc (.cells #[.int .i64 0, .int .i64 (-1)] 24)).alloc (.cells #[.int .i64 0, .int .i64 (-2)] 24)
  have hA9 := hA6.far (((Far.refl w6).alloc (.cells #[.int .i64 0, .int .i64 0] 24)).alloc (.cells #[.int .i64 0, .int .i64 (-1)] 24) |>.alloc (.cells #[.int .i64 0, .int .i64 (-2)] 24))
  have hn00 : (((w6.alloc (.cells #[.int .i64 0, .int .i64 0] 24)).alloc (.cells #[.int .i64 0, .int .i64 (-1)] 24)).alloc (.cells #[.int .i64 0, .int .i64 (-2)] 24)).cell? ⟨w6.heap.size, 0, none⟩ = some (.int .i64 0) := by go_simp
  have hn01 : (((w6.alloc (.cells #[.int .i64 0, .int .i64 0] 24)).alloc (.cells #[.int .i64 0, .int .i64 (-1)] 24)).alloc (.cells #[.int .i64 0, .int .i64 (-2)] 24)).cell? ⟨w6.heap.size, 1, none⟩ = some (.int .i64 0) := by go_simp
  have hn10 : (((w6.alloc (.cells #[.int .i64 0, .int .i64 0] 24)).alloc (.cells #[.int .i64 0, .int .i64 (-1)] 24)).alloc (.cells #[.int .i64 0, .int .i64 (-2)] 24)).cell? ⟨w6.heap.size + 1, 0, none⟩ = some (.int .i64 0) := by go_simp
  have hn11 : (((w6.alloc (.cells #[.int .i64 0, .int .i64 0] 24)).alloc (.cells #[.int .i64 0, .int .i64 (-1)] 24)).alloc (.cells #[.int .i64 0, .int .i64 (-2)] 24)).cell? ⟨w6.heap.size + 1, 1, none⟩ = some (.int .i64 (-1)) := by go_simp
  have hn20 : (((w6.alloc (.cells #[.int .i64 0, .int .i64 0] 24)).alloc (.cells #[.int .i64 0, .int .i64 (-1)] 24)).alloc (.cells #[.int .i64 0, .int .i64 (-2)] 24)).cell? ⟨w6.heap.size + 1 + 1, 0, none⟩ = some (.int .i64 0) := by go_simp
  have hn21 : (((w6.alloc (.cells #[.int .i64 0, .int .i64 0] 24)).alloc (.cells #[.int .i64 0, .int .i64 (-1)] 24)).alloc (.cells #[.int .i64 0, .int .i64 (-2)] 24)).cell? ⟨w6.heap.size + 1 + 1, 1, none⟩ = some (.int .i64 (-2)) := by go_simp
  generalize ((w6.alloc (.cells #[.int .i64 0, .int .i64 0] 24)).alloc (.cells #[.int .i64 0, .int .i64 (-1)] 24)).alloc (.cells #[.int .i64 0, .int .i64 (-2)] 24) = w9 at FZ hA9 hn00 hn01 hn10 hn11 hn20 hn21 ⊢
  clear F6 F5 hH1 hH2 hH3 hK hA6 E3 E5 E6 b3 b7 b8 c3 c11 c12 e0 e1 e2 e3 e4 e5 e6 e7 e8 e9 e10 e11 e12 e13 hlt
  have e0 := hA9.c0
  have e1 := hA9.c1
  have e4 := hA9.c4
  have e5 := hA9.c5
  have e6 := hA9.c6
  have e7 := hA9.c7
  have e8 := hA9.c8
  have e9 := hA9.c9
  have e10 := hA9.c10
  have e11 := hA9.c11
  have e12 := hA9.c12
  have e13 := hA9.c13
  clear hA9
  go_wp2_with fail
  all_goals go_ret
  all_goals (refine ⟨?_, FZ⟩; have hb := hb.out; rw [hb]; clear FZ e0 e1 e4 e5 e6 e7 e8 e9 e10 e11 e12 e13 hn00 hn01 hn10 hn11 hn20 hn21 hb)
  all_goals (first | (simp_all; done) | (simp_all; omega) | skip)
end

section
open Go.RowKit
open Go.Sort (grow)

theorem chk_nohead {o : OpIn} {V : List Dt} (h : headb o V = false) : chk o V = false := by simp [chk, h]

set_option maxRecDepth 100000 in
set_option maxHeartbeats 8000000 in
theorem rchk_head (o : OpIn) (a : Option Addr) (n c : Nat) (V : List Dt) (w : World) (hs : PS w a n c V) (hn : n ≤ 9223372036854775807) (hh : headb o V = false) : Tells 48 #[ov o (.slice a n c)] w (.bool (chk o V)) := by
  have hb := hid (chk_nohead hh)
  have hi := fun h => (mayd_iff o.id).1 h
  have hg := fun (hv : vmb V = true) => ((vmb_iff V).1 hv).gt_bounds o.id0
  have hd : Hid ((mayd o.id && decide (1 ≤ o.time) && decide (o.time ≤ 1099511627776) && vmb V && decide (gt V o.id0 = o.id1 - 1)) = false) := hid hh
  clear hh
  have mixed := mixed
  have hA := opAt_alloc w o (.slice a n c) 58
  have hF := (Far.refl w).alloc (.cells (o.cells (.slice a n c)) 58)
  have hI := rmay_any o.id (w.alloc (.cells (o.cells (.slice a n c)) 58))
  have hV := fun W (h : Far w W) => rvmay_any a n c V W (hs.far h) hn
  have E0 := hA.c0
  have E1 := hA.c1
  have E3 := hA.c3
  generalize mayd o.id = r1 at hI hi hd
  generalize vmb V = r2 at hV hg hd
  go_enter Try.func48, Try.ntmps48
  go_upto_region 3 with (first
    | (go_at_call 64; refine hI.mono ?_; rintro e w1 ⟨rfl, hF1⟩; have hA1 := hA.far hF1; have F1 := hF.trans hF1; have e3 := hA1.c3)
    | (go_at_call 69; refine (hV _ F1).mono ?_; rintro e w2 ⟨rfl, hF2⟩; have hA2 := hA1.far hF2; have F2 := F1.trans hF2))
  clear E0 E1 E3 e3 hI hV hF hF1 hF2 F1 hA hA1
  generalize w.heap.size = q at hA2 ⊢
  have E0 := fun m os => (hA2.grow m os).c0
  have E1 := fun m os => (hA2.grow m os).c1
  have E2 := fun m os => (hA2.grow m os).c2
  have E3 := fun m os => (hA2.grow m os).c3
  have hG := fun m os => tells_q (rget_far (y := o.id0) ((hs.far F2).far ⟨m, os, rfl⟩) hn)
  generalize gt V o.id0 = g at hG hg hd
  clear hA2 hs hn
  obtain ⟨i0, i1, time⟩ := o
  simp only at *
  cases r1
  · clear hG hg hi hd
    refine wp_region_quiet_grown mixed (by kernel_rfl) ?_
    repeat (go_big_quiet_step ((first | (go_at_call 63; exact hG _ _))))
    refine wpQuiet_nil ?_
    intro _ hw'
    obtain ⟨⟨nq, osq⟩, hw''⟩ := hw'
    subst hw''
    simp only []
    go_wp2
    go_ret
    exact ⟨by rw [hb.out]; rfl, F2.more nq osq⟩
  · cases r2
    · clear hG hg hi hd
      refine wp_region_quiet_grown mixed (by kernel_rfl) ?_
      repeat (go_big_quiet_step ((first | (go_at_call 63; exact hG _ _))))
      refine wpQuiet_nil ?_
      intro _ hw'
      obtain ⟨⟨nq, osq⟩, hw''⟩ := hw'
      subst hw''
      simp only []
      go_wp2
      go_ret
      exact ⟨by rw [hb.out]; rfl, F2.more nq osq⟩
    · by_cases h1 : 1 ≤ time
      · by_cases h2 : time ≤ 1099511627776
        · have hi := hi rfl
          have hg := hg rfl
          have h3 : ¬ g = i1 - 1 := by have := hd.out; simp only [h1, h2] at this; simpa using this
          have hb3 : (g == i1 - 1) = false := by simp [h3]
          have h4 : ¬ time < 1 := by omega
          have h5 : ¬ 1099511627776 < time := by omega
          clear hd
          refine wp_region_quiet_grown mixed (by kernel_rfl) ?_
          repeat (go_big_quiet_step ((first | (go_at_call 63; exact hG _ _))))
          refine wpQuiet_nil ?_
          intro _ hw'
          obtain ⟨⟨nq, osq⟩, hw''⟩ := hw'
          subst hw''
          simp only []
          go_wp2
          go_ret
          exact ⟨by rw [hb.out]; rfl, F2.more nq osq⟩
        · have h4 : ¬ time < 1 := by omega
          have h5 : 1099511627776 < time := by omega
          clear hG hg hi hd
          refine wp_region_quiet_grown mixed (by kernel_rfl) ?_
          repeat (go_big_quiet_step ((first | (go_at_call 63; exact hG _ _))))
          refine wpQuiet_nil ?_
          intro _ hw'
          obtain ⟨⟨nq, osq⟩, hw''⟩ := hw'
          subst hw''
          simp only []
          go_wp2
          go_ret
          exact ⟨by rw [hb.out]; rfl, F2.more nq osq⟩
      · have h4 : time < 1 := by omega
        clear hG hg hi hd
        refine wp_region_quiet_grown mixed (by kernel_rfl) ?_
        repeat (go_big_quiet_step ((first | (go_at_call 63; exact hG _ _))))
        refine wpQuiet_nil ?_
        intro _ hw'
        obtain ⟨⟨nq, osq⟩, hw''⟩ := hw'
        subst hw''
        simp only []
        go_wp2
        go_ret
        exact ⟨by rw [hb.out]; rfl, F2.more nq osq⟩
end

section
open Go.RowKit
open Go.Sort (grow)

theorem chk_none {o : OpIn} {V : List Dt} (h1 : o.kind ≠ 1) (h2 : o.kind ≠ 2) (h3 : o.kind ≠ 3) : chk o V = false := by simp [chk, partb_no V h1 h2 h3]

set_option maxRecDepth 100000 in
set_option maxHeartbeats 8000000 in
theorem rchk_none (o : OpIn) (a : Option Addr) (n c : Nat) (V : List Dt) (w : World) (hs : PS w a n c V) (hn : n ≤ 9223372036854775807) (hk : o.key.size ≤ maxLen) (hh : headb o V = true) (h1 : o.kind ≠ 1) (h2 : o.kind ≠ 2) (h3 : o.kind ≠ 3) : Tells 48 #[ov o (.slice a n c)] w (.bool (chk o V)) := by
  have hb := hid (chk_none (V := V) h1 h2 h3)
  have k1 : (o.kind == 1) = false := by simp [h1]
  have k2 : (o.kind == 2) = false := by simp [h2]
  have k3 : (o.kind == 3) = false := by simp [h3]
  have hi : 0 ≤ o.id0 ∧ o.id0 < 16777216 ∧ 1 ≤ o.id1 ∧ o.id1 ≤ 1073741824 := (mayd_iff o.id).1 (by simp [headb] at hh; exact hh.1.1.1.1)
  have hg := ((vmb_iff V).1 (by simp [headb] at hh; exact hh.1.2)).gt_bounds o.id0
  have x1 : mayd o.id = true := by simp [headb] at hh; exact hh.1.1.1.1
  have x2 : vmb V = true := by simp [headb] at hh; exact hh.1.2
  have x3 : gt V o.id0 = o.id1 - 1 := by simp [headb] at hh; exact hh.2
  have x4 : 1 ≤ o.time := by simp [headb] at hh; exact hh.1.1.1.2
  have x5 : o.time ≤ 1099511627776 := by simp [headb] at hh; exact hh.1.1.2
  have hH := fun W (h : Far w W) x y => rhas_any a n c V (x, y) W (hs.far h) hn
  have hK := fun W => rkmay_any o.key W hk
  clear hh hk h1 h2 h3
  have mixed := mixed
  have hA := opAt_alloc w o (.slice a n c) 58
  have hF := (Far.refl w).alloc (.cells (o.cells (.slice a n c)) 58)
  have hI := rmay_any o.id (w.alloc (.cells (o.cells (.slice a n c)) 58))
  have hV := fun W (h : Far w W) => rvmay_any a n c V W (hs.far h) hn
  have E0 := hA.c0
  have E1 := hA.c1
  have E3 := hA.c3
  generalize mayd o.id = r1 at hI x1
  generalize vmb V = r2 at hV x2
  go_enter Try.func48, Try.ntmps48
  go_upto_region 3 with (first
    | (go_at_call 64; refine hI.mono ?_; rintro e w1 ⟨rfl, hF1⟩; have hA1 := hA.far hF1; have F1 := hF.trans hF1; have e3 := hA1.c3)
    | (go_at_call 69; refine (hV _ F1).mono ?_; rintro e w2 ⟨rfl, hF2⟩; have hA2 := hA1.far hF2; have F2 := F1.trans hF2))
  clear E0 E1 E3 e3 hI hV hF hF1 hF2 F1 hA hA1
  generalize w.heap.size = q at hA2 ⊢
  have E0 := fun m os => (hA2.grow m os).c0
  have E1 := fun m os => (hA2.grow m os).c1
  have E2 := fun m os => (hA2.grow m os).c2
  have E3 := fun m os => (hA2.grow m os).c3
  have hG := fun m os => tells_q (rget_far (y := o.id0) ((hs.far F2).far ⟨m, os, rfl⟩) hn)
  subst x1 x2
  have h4 : ¬ o.time < 1 := by omega
  have h5 : ¬ 1099511627776 < o.time := by omega
  have hb3 : (gt V o.id0 == o.id1 - 1) = true := by simp [x3]
  have hb4 : (gt V o.id0 != o.id1 - 1) = false := by simp [x3]
  generalize gt V o.id0 = g at hG hg hb3 hb4
  clear x3 hs hn
  refine wp_region_quiet_grown mixed (by kernel_rfl) ?_
  repeat (go_big_quiet_step ((first | (go_at_call 63; exact hG _ _))))
  refine wpQuiet_nil ?_
  intro _ hw'
  obtain ⟨⟨nq, osq⟩, hw''⟩ := hw'
  subst hw''
  simp only []
  have hA3 := hA2.grow nq osq
  have F3 := F2.more nq osq
  generalize grow (w2.drewN nq) osq = w3 at hA3 F3 ⊢
  clear hA2 F2 E0 E1 E2 E3 hG hi hg hb3 h4 h5 x4 x5
  have E3 := hA3.c3
  have E5 := hA3.c5
  have E6 := hA3.c6
  have hH1 := hH w3 F3 o.bl0 o.bl1
  have hH2 := fun W h => hH W h o.at0 o.at1
  have hH3 := fun W h => hH W h o.pa0 o.pa1
  clear hH
  generalize hasv V (o.bl0, o.bl1) = r5 at hH1
  generalize hasv V (o.at0, o.at1) = r6 at hH2
  generalize hasv V (o.pa0, o.pa1) = r7 at hH3
  generalize kyb o.key.toList = r8 at hK
  go_upto_region 12 with (first
    | (go_at_call 67; have hq := F5; refine (hH3 _ F5).mono ?_; rintro e w6 ⟨rfl, hF6⟩; have hA6 := hA5.far hF6; have F6 := F5.trans hF6; have hlt := hA6.lt; clear hA3 hA4 hA5 F3 F4 hF4 hF5 hF6; have e0 := hA6.c0; have e1 := hA6.c1; have e2 := hA6.c2; have e3 := hA6.c3; have e4 := hA6.c4; have e5 := hA6.c5; have e6 := hA6.c6; have e7 := hA6.c7; have e8 := hA6.c8; have e9 := hA6.c9; have e10 := hA6.c10; have e11 := hA6.c11; have e12 := hA6.c12; have e13 := hA6.c13)
    | (go_at_call 67; have hq := F4; refine (hH2 _ F4).mono ?_; rintro e w5 ⟨rfl, hF5⟩; have hA5 := hA4.far hF5; have F5 := F4.trans hF5; have c3 := hA5.c3; have c11 := hA5.c11; have c12 := hA5.c12)
    | (go_at_call 67; refine hH1.mono ?_; rintro e w4 ⟨rfl, hF4⟩; have hA4 := hA3.far hF4; have F4 := F3.trans hF4; have b3 := hA4.c3; have b7 := hA4.c7; have b8 := hA4.c8)
    | (go_at_call 70; refine (hK _).mono ?_; rintro e w7 ⟨rfl, rfl⟩))
  have FZ := ((F6.alloc (.cells #[.int .i64 0, .int .i64 0] 24)).alloc (.cells #[.int .i64 0, .int .i64 (-1)] 24)).alloc (.cells #[.int .i64 0, .int .i64 (-2)] 24)
  have hA9 := hA6.far (((Far.refl w6).alloc (.cells #[.int .i64 0, .int .i64 0] 24)).alloc (.cells #[.int .i64 0, .int .i64 (-1)] 24) |>.alloc (.cells #[.int .i64 0, .int .i64 (-2)] 24))
  have hn00 : (((w6.alloc (.cells #[.int .i64 0, .int .i64 0] 24)).alloc (.cells #[.int .i64 0, .int .i64 (-1)] 24)).alloc (.cells #[.int .i64 0, .int .i64 (-2)] 24)).cell? ⟨w6.heap.size, 0, none⟩ = some (.int .i64 0) := by go_simp
  have hn01 : (((w6.alloc (.cells #[.int .i64 0, .int .i64 0] 24)).alloc (.cells #[.int .i64 0, .int .i64 (-1)] 24)).alloc (.cells #[.int .i64 0, .int .i64 (-2)] 24)).cell? ⟨w6.heap.size, 1, none⟩ = some (.int .i64 0) := by go_simp
  have hn10 : (((w6.alloc (.cells #[.int .i64 0, .int .i64 0] 24)).alloc (.cells #[.int .i64 0, .int .i64 (-1)] 24)).alloc (.cells #[.int .i64 0, .int .i64 (-2)] 24)).cell? ⟨w6.heap.size + 1, 0, none⟩ = some (.int .i64 0) := by go_simp
  have hn11 : (((w6.alloc (.cells #[.int .i64 0, .int .i64 0] 24)).alloc (.cells #[.int .i64 0, .int .i64 (-1)] 24)).alloc (.cells #[.int .i64 0, .int .i64 (-2)] 24)).cell? ⟨w6.heap.size + 1, 1, none⟩ = some (.int .i64 (-1)) := by go_simp
  have hn20 : (((w6.alloc (.cells #[.int .i64 0, .int .i64 0] 24)).alloc (.cells #[.int .i64 0, .int .i64 (-1)] 24)).alloc (.cells #[.int .i64 0, .int .i64 (-2)] 24)).cell? ⟨w6.heap.size + 1 + 1, 0, none⟩ = some (.int .i64 0) := by go_simp
  have hn21 : (((w6.alloc (.cells #[.int .i64 0, .int .i64 0] 24)).alloc (.cells #[.int .i64 0, .int .i64 (-1)] 24)).alloc (.cells #[.int .i64 0, .int .i64 (-2)] 24)).cell? ⟨w6.heap.size + 1 + 1, 1, none⟩ = some (.int .i64 (-2)) := by go_simp
  generalize ((w6.alloc (.cells #[.int .i64 0, .int .i64 0] 24)).alloc (.cells #[.int .i64 0, .int .i64 (-1)] 24)).alloc (.cells #[.int .i64 0, .int .i64 (-2)] 24) = w9 at FZ hA9 hn00 hn01 hn10 hn11 hn20 hn21 ⊢
  clear F6 F5 hH1 hH2 hH3 hK hA6 E3 E5 E6 b3 b7 b8 c3 c11 c12 e0 e1 e2 e3 e4 e5 e6 e7 e8 e9 e10 e11 e12 e13 hlt
  have e0 := hA9.c0
  have e1 := hA9.c1
  have e4 := hA9.c4
  have e5 := hA9.c5
  have e6 := hA9.c6
  have e7 := hA9.c7
  have e8 := hA9.c8
  have e9 := hA9.c9
  have e10 := hA9.c10
  have e11 := hA9.c11
  have e12 := hA9.c12
  have e13 := hA9.c13
  clear hA9
  go_wp2_with fail
  go_ret
  exact ⟨by rw [hb.out]; rfl, FZ⟩

/-- The reference's Check. -/
theorem rcheck_any (o : OpIn) (a : Option Addr) (n c : Nat) (V : List Dt) (w : World) (hs : PS w a n c V) (hn : n ≤ 9223372036854775807) (hk : o.key.size ≤ maxLen) : Tells 48 #[ov o (.slice a n c)] w (.bool (chk o V)) := by
  cases hh : headb o V with
  | false => exact rchk_head o a n c V w hs hn hh
  | true =>
    by_cases h1 : o.kind = 1
    · exact rchk_ins o a n c V w hs hn hk hh h1
    by_cases h2 : o.kind = 2
    · exact rchk_del o a n c V w hs hn hk hh h2
    by_cases h3 : o.kind = 3
    · exact rchk_mov o a n c V w hs hn hk hh h3
    exact rchk_none o a n c V w hs hn hk hh h1 h2 h3
end

section
open Go.RowKit
open Go.Sort (grow)

theorem belv_snoc (l : List Dt) (d : Dt) (B : List Dt) : belv (l ++ [d]) B = (belv l B && decide (d.2 ≤ gt B d.1)) := by simp [belv]
theorem belv_take {A B : List Dt} (k : Nat) (h : belv (A.take k) B = false) : belv A B = false := by
  cases hb : belv A B with
  | false => rfl
  | true =>
    unfold belv at *
    rw [List.all_eq_true] at hb
    have : (A.take k).all (fun d => decide (d.2 ≤ gt B d.1)) = true := List.all_eq_true.2 fun d hd => hb d (List.mem_of_mem_take hd)
    rw [h] at this
    cases this

set_option maxRecDepth 100000 in
set_option maxHeartbeats 1000000 in
theorem rbelow_any {a : Option Addr} {n c : Nat} {A : List Dt} {a' : Option Addr} {n' c' : Nat} {B : List Dt} {w : World} (hs : PS w a n c A) (hn : n ≤ 1000000) (hs' : PS w a' n' c' B) (hn' : n' ≤ 1000000) :
    Tells 45 #[.slice a n c, .slice a' n' c'] w (.bool (belv A B)) := by
  have mixed := mixed
  have HL := hid hs.len
  have HS := hid hs'
  clear hs'
  go_enter Try.func45, Try.ntmps45
  go_wp2
  go_loopw [5] (fun i wr => ∃ k : Nat, k ≤ n ∧ i = .int .i64 k ∧ Hid (belv (A.take k) B = true) ∧ Far w wr) (fun i _ => n - (intOf i).toNat)
  case atStart => exact ⟨0, by omega, rfl, hid rfl, Far.refl _⟩
  case round =>
    obtain ⟨k, hk, rfl, hb, hW⟩ := hrel
    by_cases hlt : k < n
    · have hl := HL.out
      obtain ⟨g, o, rfl, hg, hcell⟩ := (hs.far hW).at (by omega)
      obtain ⟨hc0, hc1⟩ := hcell k (by omega)
      have hts : Hid _ := hid (take_snoc (L := A) (k := k) (by omega))
      generalize (A[k]'(by omega)) = d at hc0 hc1 hts
      obtain ⟨d1, d2⟩ := d
      have hsn : Hid (belv (A.take (k + 1)) B = decide (d2 ≤ gt B d1)) := hid (by rw [hts.out, belv_snoc, hb.out]; rfl)
      have hG := fun m os => tells_q (rget_far (y := d1) (HS.out.far (hW.more m os)) (Nat.le_trans hn' (by decide)))
      have C0 := fun m os => cell_grown (cell_in hc0) hc0 m os
      have C1 := fun m os => cell_grown (cell_in hc1) hc1 m os
      have hk1 : (k : Int) < (n : Int) := by omega
      have hk0 : (0 : Int) ≤ (k : Int) := by omega
      generalize gt B d1 = z at hG hsn
      clear hs hcell hl hc0 hc1
      by_cases hz : z < d2
      · go_wp2_with fail
        refine wp_region_quiet_grown mixed (by kernel_rfl) ?_
        repeat (go_big_quiet_step ((first | (go_at_call 63; exact hG _ _))))
        refine wpQuiet_nil ?_
        intro _ hw'
        obtain ⟨⟨nq, osq⟩, hw''⟩ := hw'
        subst hw''
        simp only []
        go_wp2
        go_ret
        exact ⟨by rw [belv_take (k + 1) (by rw [hsn.out]; simp; omega)]; rfl, hW.more nq osq⟩
      · go_wp2_with fail
        refine wp_region_quiet_grown mixed (by kernel_rfl) ?_
        repeat (go_big_quiet_step ((first | (go_at_call 63; exact hG _ _))))
        refine wpQuiet_nil ?_
        intro _ hw'
        obtain ⟨⟨nq, osq⟩, hw''⟩ := hw'
        subst hw''
        simp only []
        go_wp2
        go_roundw
        case rel => exact ⟨k + 1, by omega, by go_num, hid (by rw [hsn.out]; simp; omega), hW.more nq osq⟩
        case measure => simp [intOf]; omega
    · obtain rfl : k = n := by omega
      go_wp2
      go_ret
      have h := hb.out
      rw [List.take_of_length_le (by rw [HL.out]; exact Nat.le_refl _)] at h
      exact ⟨by rw [h]; rfl, hW⟩
end

section
open Go.RowKit
open Go.Sort (grow)

/-- Can it be taken in where these are had? -/
def rdyE (V : List Dt) (o : OpIn) (D : List Dt) : Int := if chk o D = false then 30 else if hasv V o.id = true then 32 else if belv D V = false then 31 else 0
end

section

theorem chk_head {o : OpIn} {V : List Dt} (h : chk o V = true) : mayd o.id = true ∧ VM V ∧ gt V o.id0 = o.id1 - 1 ∧ 1 ≤ o.time := by
  unfold chk headb at h
  simp only [Bool.and_eq_true, decide_eq_true_eq] at h
  exact ⟨h.1.1.1.1.1.1, (vmb_iff V).1 h.1.1.1.2, h.1.1.2, h.1.1.1.1.1.2⟩

theorem mem_take_at {α : Type} {l : List α} {k : Nat} {a : α} : a ∈ l.take k ↔ ∃ j, j < k ∧ l[j]? = some a := by
  rw [List.mem_iff_getElem?]
  constructor
  · rintro ⟨j, hj⟩
    rw [List.getElem?_take] at hj
    by_cases h : j < k
    · rw [if_pos h] at hj; exact ⟨j, h, hj⟩
    · rw [if_neg h] at hj; cases hj
  · rintro ⟨j, h, hj⟩
    exact ⟨j, by rw [List.getElem?_take, if_pos h]; exact hj⟩

/-- Each may be, its Deps come ahead of it, no two have one identity. -/
structure Cl (A : List Mop) : Prop where
  may : ∀ x ∈ A, chk x.1 x.2 = true
  dep : ∀ (k : Nat) (x : Mop), A[k]? = some x → ∀ d ∈ x.2, ∃ (j : Nat) (y : Mop), j < k ∧ A[j]? = some y ∧ y.1.id = d
  ids : (A.map (fun x => x.1.id)).Nodup

theorem ids_inj {A : List Mop} (h : (A.map (fun x => x.1.id)).Nodup) {i j : Nat} {x y : Mop} (hx : A[i]? = some x) (hy : A[j]? = some y) (e : x.1.id = y.1.id) : i = j := by
  have hi : i < (A.map (fun x => x.1.id)).length := by have := (List.getElem?_eq_some_iff.1 hx).1; simpa using this
  refine (List.getElem?_inj hi h).1 ?_
  rw [List.getElem?_map, List.getElem?_map, hx, hy]
  simp [e]

theorem Cl.down {A : List Mop} (h : Cl A) : ∀ (k : Nat) (x : Mop), A[k]? = some x → ∀ s : Int, 1 ≤ s → s ≤ x.1.id1 → ∃ (j : Nat) (y : Mop), j ≤ k ∧ A[j]? = some y ∧ y.1.id = (x.1.id0, s) := by
  intro k
  induction k using Nat.strongRecOn with
  | _ k ih =>
    intro x hx s h1 h2
    by_cases e : s = x.1.id1
    · exact ⟨k, x, Nat.le_refl _, hx, by rw [e]⟩
    · obtain ⟨_, hv, hg, _⟩ := chk_head (h.may x (List.mem_of_getElem? hx))
      have hp : 0 < gt x.2 x.1.id0 := by omega
      obtain ⟨j, y, hj, hy, hid⟩ := h.dep k x hx _ (hv.gt_pos hp).2
      have e0 : y.1.id0 = x.1.id0 := congrArg Prod.fst hid
      have e1 : y.1.id1 = gt x.2 x.1.id0 := congrArg Prod.snd hid
      obtain ⟨i, z, hi, hz, hzid⟩ := ih j hj y hy s h1 (by omega)
      exact ⟨i, z, by omega, hz, by rw [hzid, e0]⟩

theorem Cl.has {A : List Mop} (h : Cl A) {k : Nat} {x : Mop} (hx : A[k]? = some x) {d : Dt} (hd : hasv x.2 d = true) : ∃ (j : Nat) (y : Mop), j < k ∧ A[j]? = some y ∧ y.1.id = d := by
  unfold hasv at hd
  simp only [Bool.and_eq_true, decide_eq_true_eq] at hd
  obtain ⟨_, hv, _, _⟩ := chk_head (h.may x (List.mem_of_getElem? hx))
  have hm := (mayd_iff d).1 hd.1
  obtain ⟨j, y, hj, hy, hid⟩ := h.dep k x hx _ (hv.gt_pos (a := d.1) (by omega)).2
  have e0 : y.1.id0 = d.1 := congrArg Prod.fst hid
  have e1 : y.1.id1 = gt x.2 d.1 := congrArg Prod.snd hid
  obtain ⟨i, z, hi, hz, hzid⟩ := h.down j y hy d.2 hm.2.2.1 (by omega)
  exact ⟨i, z, by omega, hz, by rw [hzid, e0]⟩

/-- The vector of operations. -/
def verv (l : List Mop) : List Dt := (l.map (fun x => x.1.id)).foldl vwith []

theorem foldl_gt (ds : List Dt) : ∀ A : List Dt, VM A → ∀ (a s : Int), (s ≤ gt (ds.foldl vwith A) a ↔ s ≤ gt A a ∨ ∃ d ∈ ds, mayd d = true ∧ d.1 = a ∧ s ≤ d.2) := by
  induction ds with
  | nil => intro A _ a s; simp
  | cons d r ih =>
    intro A hA a s
    rw [List.foldl_cons, ih _ (vwith_vm hA d) a s]
    by_cases hm : mayd d = true
    · rw [vwith_gt hA hm]
      by_cases hda : d.1 = a
      · rw [if_pos hda]
        constructor
        · rintro (h | ⟨e, he, h⟩)
          · by_cases hs : s ≤ gt A a
            · exact Or.inl hs
            · exact Or.inr ⟨d, by simp, hm, hda, by omega⟩
          · exact Or.inr ⟨e, List.mem_cons_of_mem _ he, h⟩
        · rintro (h | ⟨e, he, h⟩)
          · exact Or.inl (by omega)
          · rcases List.mem_cons.1 he with rfl | he
            · exact Or.inl (by have := h.2.2; omega)
            · exact Or.inr ⟨e, he, h⟩
      · rw [if_neg hda]
        constructor
        · rintro (h | ⟨e, he, h⟩)
          · exact Or.inl h
          · exact Or.inr ⟨e, List.mem_cons_of_mem _ he, h⟩
        · rintro (h | ⟨e, he, h⟩)
          · exact Or.inl h
          · rcases List.mem_cons.1 he with rfl | he
            · exact absurd h.2.1 hda
            · exact Or.inr ⟨e, he, h⟩
    · have e : vwith A d = A := by unfold vwith; rw [if_neg hm]
      rw [e]
      constructor
      · rintro (h | ⟨e, he, h⟩)
        · exact Or.inl h
        · exact Or.inr ⟨e, List.mem_cons_of_mem _ he, h⟩
      · rintro (h | ⟨e, he, h⟩)
        · exact Or.inl h
        · rcases List.mem_cons.1 he with rfl | he
          · exact absurd h.1 hm
          · exact Or.inr ⟨e, he, h⟩

theorem Cl.ver {A : List Mop} (h : Cl A) {d : Dt} (hd : 1 ≤ d.2) : d.2 ≤ gt (verv A) d.1 ↔ ∃ x ∈ A, x.1.id = d := by
  unfold verv
  rw [foldl_gt _ [] vm_nil]
  constructor
  · rintro (h0 | ⟨e, he, _, h1, h2⟩)
    · have : gt [] d.1 = 0 := rfl
      omega
    · obtain ⟨x, hx, rfl⟩ := List.mem_map.1 he
      obtain ⟨k, hk⟩ := List.mem_iff_getElem?.1 hx
      obtain ⟨j, y, _, hy, hid⟩ := h.down k x hk d.2 hd h2
      have h1' : x.1.id0 = d.1 := h1
      exact ⟨y, List.mem_of_getElem? hy, by rw [hid, h1']⟩
  · rintro ⟨x, hx, rfl⟩
    exact Or.inr ⟨x.1.id, List.mem_map.2 ⟨x, hx, rfl⟩, (chk_head (h.may x hx)).1, rfl, Int.le_refl _⟩

theorem Cl.ready {A : List Mop} (h : Cl A) {o : OpIn} {D : List Dt} (hc : chk o D = true) (hn : ∀ x ∈ A, x.1.id ≠ o.id) (hdn : ∀ d ∈ D, ∃ x ∈ A, x.1.id = d) : rdyE (verv A) o D = 0 := by
  obtain ⟨hm, hv, _, _⟩ := chk_head hc
  have h1 : hasv (verv A) o.id = false := by
    unfold hasv
    rw [hm, Bool.true_and, decide_eq_false_iff_not, h.ver (d := o.id) ((mayd_iff o.id).1 hm).2.2.1]
    rintro ⟨x, hx, e⟩
    exact hn x hx e
  have h2 : belv D (verv A) = true := by
    unfold belv
    rw [List.all_eq_true]
    intro d hd
    have := ((mayd_iff _).1 (hv.may d hd)).2.2.1
    rw [decide_eq_true_eq, h.ver this]
    exact hdn d hd
  unfold rdyE
  rw [hc, h1, h2]
  simp

/-! What Order tells. -/

/-! Times. -/

def tmA (tm : Dt → Option Int) (A : List Mop) : Dt → Option Int := A.foldl (fun t y => upd t y.1.id y.1.time) tm

theorem latF_iff (A : List Mop) : ∀ tm, latF tm A = true ↔ ∀ (k : Nat) (x : Mop), A[k]? = some x → ∀ d ∈ x.2, (tmA tm (A.take k) d).getD 0 < x.1.time := by
  induction A with
  | nil => intro tm; simp [latF]
  | cons x r ih =>
    intro tm
    rw [latF, Bool.and_eq_true, ih, List.all_eq_true]
    constructor
    · rintro ⟨h1, h2⟩ k y hy d hd
      cases k with
      | zero =>
        simp at hy
        subst hy
        simpa [tmA] using h1 d hd
      | succ k => exact h2 k y (by simpa using hy) d hd
    · intro h
      exact ⟨fun d hd => by simpa [tmA] using h 0 x rfl d hd, fun k y hy d hd => h (k + 1) y (by simpa using hy) d hd⟩

theorem tmA_none (A : List Mop) : ∀ (tm : Dt → Option Int) (d : Dt), (∀ y ∈ A, y.1.id ≠ d) → tmA tm A d = tm d := by
  induction A with
  | nil => intro tm d _; rfl
  | cons x r ih =>
    intro tm d h
    show tmA (upd tm x.1.id x.1.time) r d = tm d
    rw [ih _ d (fun y hy => h y (List.mem_cons_of_mem _ hy))]
    unfold upd
    rw [if_neg (fun e => h x (by simp) e.symm)]

theorem tmA_some (A : List Mop) : ∀ (tm : Dt → Option Int), (A.map (fun x => x.1.id)).Nodup → ∀ y ∈ A, tmA tm A y.1.id = some y.1.time := by
  induction A with
  | nil => intro tm _ y hy; simp at hy
  | cons x r ih =>
    intro tm h y hy
    rw [List.map_cons, List.nodup_cons] at h
    show tmA (upd tm x.1.id x.1.time) r y.1.id = some y.1.time
    rcases List.mem_cons.1 hy with rfl | hy
    · rw [tmA_none]
      · simp [upd]
      · intro z hz e
        exact h.1 (List.mem_map.2 ⟨z, hz, e⟩)
    · exact ih _ h.2 y hy

/-- Each one's time is above those of its Deps. -/
theorem Cl.lat {A : List Mop} (h : Cl A) : latF (fun _ => none) A = true ↔ ∀ (k j : Nat) (x y : Mop), A[k]? = some x → A[j]? = some y → y.1.id ∈ x.2 → y.1.time < x.1.time := by
  rw [latF_iff]
  have key : ∀ (k j : Nat) (y : Mop), j < k → A[j]? = some y → tmA (fun _ => none) (A.take k) y.1.id = some y.1.time := by
    intro k j y hjk hy
    refine tmA_some _ _ ?_ y (mem_take_at.2 ⟨j, hjk, hy⟩)
    rw [List.map_take]
    exact h.ids.sublist (List.take_sublist _ _)
  constructor
  · intro hl k j x y hx hy hd
    have h1 := hl k x hx _ hd
    obtain ⟨i, z, hi, hz, hzd⟩ := h.dep k x hx _ hd
    have hij := ids_inj h.ids hz hy hzd
    subst hij
    rw [key k i y hi hy] at h1
    exact h1
  · intro hl k x hx d hd
    obtain ⟨i, z, hi, hz, hzd⟩ := h.dep k x hx d hd
    subst hzd
    rw [key k i z hi hz]
    exact hl k i x z hx hz hd

/-! There is one answer alone. -/
end

section

/-- Is one's time above that of another one, if it has it? -/
def okT (x y : Mop) : Bool := !(hasv x.2 y.1.id) || decide (y.1.time < x.1.time)

theorem okT_iff {x y : Mop} : okT x y = true ↔ (hasv x.2 y.1.id = true → y.1.time < x.1.time) := by
  unfold okT
  cases hasv x.2 y.1.id <;> simp

theorem Cl.chain {A : List Mop} (h : Cl A) (hl : latF (fun _ => none) A = true) : ∀ (k : Nat) (z : Mop), A[k]? = some z → ∀ y ∈ A, y.1.id0 = z.1.id0 → y.1.id1 ≤ z.1.id1 → y.1.time ≤ z.1.time := by
  intro k
  induction k using Nat.strongRecOn with
  | _ k ih =>
    intro z hz y hy h0 h1
    obtain ⟨i, hi⟩ := List.mem_iff_getElem?.1 hy
    by_cases e : y.1.id1 = z.1.id1
    · have := ids_inj h.ids hi hz (by show (y.1.id0, y.1.id1) = (z.1.id0, z.1.id1); rw [h0, e])
      subst this
      rw [hz] at hi
      cases hi
      exact Int.le_refl _
    · obtain ⟨hm, hv, hg, _⟩ := chk_head (h.may z (List.mem_of_getElem? hz))
      have hmy := (mayd_iff _).1 (chk_head (h.may y hy)).1
      have hy1 : 1 ≤ y.1.id1 := hmy.2.2.1
      have hp : 0 < gt z.2 z.1.id0 := by omega
      have hin := (hv.gt_pos hp).2
      obtain ⟨j, u, hj, hu, hid⟩ := h.dep k z hz _ hin
      have e0 : u.1.id0 = z.1.id0 := congrArg Prod.fst hid
      have e1 : u.1.id1 = gt z.2 z.1.id0 := congrArg Prod.snd hid
      have h2 := ih j hj u hu y hy (by omega) (by omega)
      have h3 := h.lat.1 hl k j z u hz hu (by rw [hid]; exact hin)
      omega

theorem Cl.ok {A : List Mop} (h : Cl A) : latF (fun _ => none) A = true ↔ ∀ x ∈ A, ∀ y ∈ A, okT x y = true := by
  constructor
  · intro hl x hx y hy
    rw [okT_iff]
    intro hh
    unfold hasv at hh
    simp only [Bool.and_eq_true, decide_eq_true_eq] at hh
    have hm := (mayd_iff y.1.id).1 hh.1
    obtain ⟨k, hk⟩ := List.mem_iff_getElem?.1 hx
    obtain ⟨_, hv, _, _⟩ := chk_head (h.may x hx)
    have h9 : y.1.id1 ≤ gt x.2 y.1.id0 := hh.2
    have h8 : 1 ≤ y.1.id1 := hm.2.2.1
    have hin := (hv.gt_pos (a := y.1.id0) (by omega)).2
    obtain ⟨j, z, hj, hz, hid⟩ := h.dep k x hk _ hin
    have e0 : z.1.id0 = y.1.id0 := congrArg Prod.fst hid
    have e1 : z.1.id1 = gt x.2 y.1.id0 := congrArg Prod.snd hid
    have h1 := h.chain hl j z hz y hy e0.symm (by omega)
    have h2 := h.lat.1 hl k j x z hk hz (by rw [hid]; exact hin)
    omega
  · intro ha
    rw [h.lat]
    intro k j x y hx hy hd
    refine okT_iff.1 (ha x (List.mem_of_getElem? hx) y (List.mem_of_getElem? hy)) ?_
    obtain ⟨_, hv, _, _⟩ := chk_head (h.may x (List.mem_of_getElem? hx))
    unfold hasv
    rw [hv.may _ hd, gt_some hv.ac hd]
    simp
end
end Go.Proofs.Ytplcohjpchfkkaa
