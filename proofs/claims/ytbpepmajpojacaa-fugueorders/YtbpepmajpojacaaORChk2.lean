/- The reference's Check of a Delete. -/
import Derived.Test.YtbpepmajpojacaaMPlaces
import Derived.Deep.CutBlock
import Derived.Deep.CutRange
namespace Go.Proofs.Ytbpepmajpojacaa
open Go.RowKit
open Go.Sort (grow)

theorem chk_del {o : OpIn} {V : List Dt} (h : headb o V = true) (k : o.kind = 2) : chk o V = ((o.side == 0) && (o.char == 0) && (o.pa0 == 0) && (o.pa1 == 0) && o.key.toList.isEmpty && hasv V o.blk && hasv V o.at) := by
  simp [chk, h, partb_del V k, barb, pat, pch, ppl, k, Bool.and_assoc]

set_option maxRecDepth 100000 in
set_option maxHeartbeats 16000000 in
theorem rchk_del (o : OpIn) (a : Option Addr) (n c : Nat) (V : List Dt) (w : World) (hs : PS w a n c V) (hn : n ≤ 9223372036854775807) (hk : o.key.size ≤ maxLen) (hh : headb o V = true) (hkd : o.kind = 2) : Tells 44 #[ov o (.slice a n c)] w (.bool (chk o V)) := by
  have hb := hid (chk_del hh hkd)
  have k1 : (o.kind == 1) = false := by simp [hkd]
  have k2 : (o.kind == 2) = true := by simp [hkd]
  have hi : 0 ≤ o.id0 ∧ o.id0 < 16777216 ∧ 1 ≤ o.id1 ∧ o.id1 ≤ 1073741824 := (mayd_iff o.id).1 (by simp [headb] at hh; exact hh.1.1.1.1)
  have hg := ((vmb_iff V).1 (by simp [headb] at hh; exact hh.1.2)).gt_bounds o.id0
  have x1 : mayd o.id = true := by simp [headb] at hh; exact hh.1.1.1.1
  have x2 : vmb V = true := by simp [headb] at hh; exact hh.1.2
  have x3 : gt V o.id0 = o.id1 - 1 := by simp [headb] at hh; exact hh.2
  have x4 : 1 ≤ o.time := by simp [headb] at hh; exact hh.1.1.1.2
  have x5 : o.time ≤ 1099511627776 := by simp [headb] at hh; exact hh.1.1.2
  have hH := fun W (h : Far w W) x y => rhas_any a n c V (x, y) W (hs.far h) hn
  have hK := fun W => rkmay_any o.key W hk
  clear hh hk hkd
  have mixed := mixed
  have hA := opAt_alloc w o (.slice a n c) 52
  have hF := (Far.refl w).alloc (.cells (o.cells (.slice a n c)) 52)
  have hI := rmay_any o.id (w.alloc (.cells (o.cells (.slice a n c)) 52))
  have hV := fun W (h : Far w W) => rvmay_any a n c V W (hs.far h) hn
  have E0 := hA.c0
  have E1 := hA.c1
  have E3 := hA.c3
  generalize mayd o.id = r1 at hI x1
  generalize vmb V = r2 at hV x2
  go_enter Try.func44, Try.ntmps44
  go_upto_region 3 with (first
    | (go_at_call 60; refine hI.mono ?_; rintro e w1 ⟨rfl, hF1⟩; have hA1 := hA.far hF1; have F1 := hF.trans hF1; have e3 := hA1.c3)
    | (go_at_call 65; refine (hV _ F1).mono ?_; rintro e w2 ⟨rfl, hF2⟩; have hA2 := hA1.far hF2; have F2 := F1.trans hF2))
  clear E0 E1 E3 e3 hI hV hF hF1 hF2 F1 hA hA1
  generalize w.heap.size = q at hA2 ⊢
  have E0 := fun m os => (hA2.grow m os).c0
  have E1 := fun m os => (hA2.grow m os).c1
  have E2 := fun m os => (hA2.grow m os).c2
  have E3 := fun m os => (hA2.grow m os).c3
  have hG := fun m os => tells_q (rget_far (y := o.id0) ((hs.far F2).far ⟨m, os, rfl⟩) hn)
  subst x1 x2
  have h4 : ¬ o.time < 1 := by omega
  have h5 : ¬ 1099511627776 < o.time := by omega
  have hb3 : (gt V o.id0 == o.id1 - 1) = true := by simp [x3]
  have hb4 : (gt V o.id0 != o.id1 - 1) = false := by simp [x3]
  generalize gt V o.id0 = g at hG hg hb3 hb4
  clear x3 hs hn
  refine wp_region_quiet_grown mixed (by kernel_rfl) ?_
  repeat (go_big_quiet_step ((first | (go_at_call 59; exact hG _ _))))
  refine wpQuiet_nil ?_
  intro _ hw'
  obtain ⟨⟨nq, osq⟩, hw''⟩ := hw'
  subst hw''
  simp only []
  have hA3 := hA2.grow nq osq
  have F3 := F2.more nq osq
  generalize grow (w2.drewN nq) osq = w3 at hA3 F3 ⊢
  clear hA2 F2 E0 E1 E2 E3 hG hi hg hb3 h4 h5 x4 x5
  have E3 := hA3.c3
  have E5 := hA3.c5
  have E6 := hA3.c6
  have hH1 := hH w3 F3 o.bl0 o.bl1
  have hH2 := fun W h => hH W h o.at0 o.at1
  have hH3 := fun W h => hH W h o.pa0 o.pa1
  clear hH
  try simp only [OpIn.at] at hb
  generalize hasv V (o.bl0, o.bl1) = r5 at hH1 hb
  generalize hasv V (o.at0, o.at1) = r6 at hH2 hb
  generalize hasv V (o.pa0, o.pa1) = r7 at hH3 hb
  generalize kyb o.key.toList = r8 at hK hb
  go_upto_region 12 with (first
    | (go_at_call 63; have hq := F5; refine (hH3 _ F5).mono ?_; rintro e w6 ⟨rfl, hF6⟩; have hA6 := hA5.far hF6; have F6 := F5.trans hF6; have hlt := hA6.lt; clear hA3 hA4 hA5 F3 F4 hF4 hF5 hF6; have e0 := hA6.c0; have e1 := hA6.c1; have e2 := hA6.c2; have e3 := hA6.c3; have e4 := hA6.c4; have e5 := hA6.c5; have e6 := hA6.c6; have e7 := hA6.c7; have e8 := hA6.c8; have e9 := hA6.c9; have e10 := hA6.c10; have e11 := hA6.c11; have e12 := hA6.c12; have e13 := hA6.c13)
    | (go_at_call 63; have hq := F4; refine (hH2 _ F4).mono ?_; rintro e w5 ⟨rfl, hF5⟩; have hA5 := hA4.far hF5; have F5 := F4.trans hF5; have c3 := hA5.c3; have c11 := hA5.c11; have c12 := hA5.c12)
    | (go_at_call 63; refine hH1.mono ?_; rintro e w4 ⟨rfl, hF4⟩; have hA4 := hA3.far hF4; have F4 := F3.trans hF4; have b3 := hA4.c3; have b7 := hA4.c7; have b8 := hA4.c8)
    | (go_at_call 66; refine (hK _).mono ?_; rintro e w7 ⟨rfl, rfl⟩))
  have FZ := ((F6.alloc (.cells #[.int .i64 0, .int .i64 0] 24)).alloc (.cells #[.int .i64 0, .int .i64 (-1)] 24)).alloc (.cells #[.int .i64 0, .int .i64 (-2)] 24)
  have hA9 := hA6.far (((Far.refl w6).alloc (.cells #[.int .i64 0, .int .i64 0] 24)).alloc (.cells #[.int .i64 0, .int .i64 (-1)] 24) |>.alloc (.cells #[.int .i64 0, .int .i64 (-2)] 24))
  have hn00 : (((w6.alloc (.cells #[.int .i64 0, .int .i64 0] 24)).alloc (.cells #[.int .i64 0, .int .i64 (-1)] 24)).alloc (.cells #[.int .i64 0, .int .i64 (-2)] 24)).cell? ⟨w6.heap.size, 0, none⟩ = some (.int .i64 0) := by go_simp
  have hn01 : (((w6.alloc (.cells #[.int .i64 0, .int .i64 0] 24)).alloc (.cells #[.int .i64 0, .int .i64 (-1)] 24)).alloc (.cells #[.int .i64 0, .int .i64 (-2)] 24)).cell? ⟨w6.heap.size, 1, none⟩ = some (.int .i64 0) := by go_simp
  have hn10 : (((w6.alloc (.cells #[.int .i64 0, .int .i64 0] 24)).alloc (.cells #[.int .i64 0, .int .i64 (-1)] 24)).alloc (.cells #[.int .i64 0, .int .i64 (-2)] 24)).cell? ⟨w6.heap.size + 1, 0, none⟩ = some (.int .i64 0) := by go_simp
  have hn11 : (((w6.alloc (.cells #[.int .i64 0, .int .i64 0] 24)).alloc (.cells #[.int .i64 0, .int .i64 (-1)] 24)).alloc (.cells #[.int .i64 0, .int .i64 (-2)] 24)).cell? ⟨w6.heap.size + 1, 1, none⟩ = some (.int .i64 (-1)) := by go_simp
  have hn20 : (((w6.alloc (.cells #[.int .i64 0, .int .i64 0] 24)).alloc (.cells #[.int .i64 0, .int .i64 (-1)] 24)).alloc (.cells #[.int .i64 0, .int .i64 (-2)] 24)).cell? ⟨w6.heap.size + 1 + 1, 0, none⟩ = some (.int .i64 0) := by go_simp
  have hn21 : (((w6.alloc (.cells #[.int .i64 0, .int .i64 0] 24)).alloc (.cells #[.int .i64 0, .int .i64 (-1)] 24)).alloc (.cells #[.int .i64 0, .int .i64 (-2)] 24)).cell? ⟨w6.heap.size + 1 + 1, 1, none⟩ = some (.int .i64 (-2)) := by go_simp
  generalize ((w6.alloc (.cells #[.int .i64 0, .int .i64 0] 24)).alloc (.cells #[.int .i64 0, .int .i64 (-1)] 24)).alloc (.cells #[.int .i64 0, .int .i64 (-2)] 24) = w9 at FZ hA9 hn00 hn01 hn10 hn11 hn20 hn21 ⊢
  clear F6 F5 hH1 hH2 hH3 hK hA6 E3 E5 E6 b3 b7 b8 c3 c11 c12 e0 e1 e2 e3 e4 e5 e6 e7 e8 e9 e10 e11 e12 e13 hlt
  have e0 := hA9.c0
  have e1 := hA9.c1
  have e4 := hA9.c4
  have e5 := hA9.c5
  have e6 := hA9.c6
  have e7 := hA9.c7
  have e8 := hA9.c8
  have e9 := hA9.c9
  have e10 := hA9.c10
  have e11 := hA9.c11
  have e12 := hA9.c12
  have e13 := hA9.c13
  clear hA9
  go_wp2_with fail
  all_goals go_ret
  all_goals (refine ⟨?_, FZ⟩; have hb := hb.out; rw [hb]; clear FZ e0 e1 e4 e5 e6 e7 e8 e9 e10 e11 e12 e13 hn00 hn01 hn10 hn11 hn20 hn21 hb)
  all_goals (first | (simp_all; done) | (simp_all; omega) | skip)
end Go.Proofs.Ytbpepmajpojacaa
