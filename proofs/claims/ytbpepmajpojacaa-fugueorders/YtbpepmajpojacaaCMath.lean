/- What is taken in, in numbers: each one's Deps come ahead of it; of right ones the times rise; what is left isn't ready. No function of the program. -/
import Derived.Test.YtbpepmajpojacaaMPlaces
import Derived.Deep.CutBlock
import Derived.Deep.CutRange
import Derived.Test.YtbpepmajpojacaaORChk1
import Derived.Test.YtbpepmajpojacaaORChk2
import Derived.Test.YtbpepmajpojacaaORChk3
import Derived.Maps.AppendAt
import Derived.WalkMore
import Derived.Test.YtbpepmajpojacaaMCmp
import Derived.Test.YtbpepmajpojacaaCRight
namespace Go.Proofs.Ytbpepmajpojacaa
section
open Go.RowKit
open Go.Sort (grow)

theorem chk_nohead {o : OpIn} {V : List Dt} (h : headb o V = false) : chk o V = false := by simp [chk, h]

set_option maxRecDepth 100000 in
set_option maxHeartbeats 8000000 in
theorem rchk_head (o : OpIn) (a : Option Addr) (n c : Nat) (V : List Dt) (w : World) (hs : PS w a n c V) (hn : n ≤ 9223372036854775807) (hh : headb o V = false) : Tells 44 #[ov o (.slice a n c)] w (.bool (chk o V)) := by
  have hb := hid (chk_nohead hh)
  have hi := fun h => (mayd_iff o.id).1 h
  have hg := fun (hv : vmb V = true) => ((vmb_iff V).1 hv).gt_bounds o.id0
  have hd : Hid ((mayd o.id && decide (1 ≤ o.time) && decide (o.time ≤ 1099511627776) && vmb V && decide (gt V o.id0 = o.id1 - 1)) = false) := hid hh
  clear hh
  have mixed := mixed
  have hA := opAt_alloc w o (.slice a n c) 52
  have hF := (Far.refl w).alloc (.cells (o.cells (.slice a n c)) 52)
  have hI := rmay_any o.id (w.alloc (.cells (o.cells (.slice a n c)) 52))
  have hV := fun W (h : Far w W) => rvmay_any a n c V W (hs.far h) hn
  have E0 := hA.c0
  have E1 := hA.c1
  have E3 := hA.c3
  generalize mayd o.id = r1 at hI hi hd
  generalize vmb V = r2 at hV hg hd
  go_enter Try.func44, Try.ntmps44
  go_upto_region 3 with (first
    | (go_at_call 60; refine hI.mono ?_; rintro e w1 ⟨rfl, hF1⟩; have hA1 := hA.far hF1; have F1 := hF.trans hF1; have e3 := hA1.c3)
    | (go_at_call 65; refine (hV _ F1).mono ?_; rintro e w2 ⟨rfl, hF2⟩; have hA2 := hA1.far hF2; have F2 := F1.trans hF2))
  clear E0 E1 E3 e3 hI hV hF hF1 hF2 F1 hA hA1
  generalize w.heap.size = q at hA2 ⊢
  have E0 := fun m os => (hA2.grow m os).c0
  have E1 := fun m os => (hA2.grow m os).c1
  have E2 := fun m os => (hA2.grow m os).c2
  have E3 := fun m os => (hA2.grow m os).c3
  have hG := fun m os => tells_q (rget_far (y := o.id0) ((hs.far F2).far ⟨m, os, rfl⟩) hn)
  generalize gt V o.id0 = g at hG hg hd
  clear hA2 hs hn
  obtain ⟨i0, i1, time⟩ := o
  simp only at *
  cases r1
  · clear hG hg hi hd
    refine wp_region_quiet_grown mixed (by kernel_rfl) ?_
    repeat (go_big_quiet_step ((first | (go_at_call 59; exact hG _ _))))
    refine wpQuiet_nil ?_
    intro _ hw'
    obtain ⟨⟨nq, osq⟩, hw''⟩ := hw'
    subst hw''
    simp only []
    go_wp2
    go_ret
    exact ⟨by rw [hb.out]; rfl, F2.more nq osq⟩
  · cases r2
    · clear hG hg hi hd
      refine wp_region_quiet_grown mixed (by kernel_rfl) ?_
      repeat (go_big_quiet_step ((first | (go_at_call 59; exact hG _ _))))
      refine wpQuiet_nil ?_
      intro _ hw'
      obtain ⟨⟨nq, osq⟩, hw''⟩ := hw'
      subst hw''
      simp only []
      go_wp2
      go_ret
      exact ⟨by rw [hb.out]; rfl, F2.more nq osq⟩
    · by_cases h1 : 1 ≤ time
      · by_cases h2 : time ≤ 1099511627776
        · have hi := hi rfl
          have hg := hg rfl
          have h3 : ¬ g = i1 - 1 := by have := hd.out; simp only [h1, h2] at this; simpa using this
          have hb3 : (g == i1 - 1) = false := by simp [h3]
          have h4 : ¬ time < 1 := by omega
          have h5 : ¬ 1099511627776 < time := by omega
          clear hd
          refine wp_region_quiet_grown mixed (by kernel_rfl) ?_
          repeat (go_big_quiet_step ((first | (go_at_call 59; exact hG _ _))))
          refine wpQuiet_nil ?_
          intro _ hw'
          obtain ⟨⟨nq, osq⟩, hw''⟩ := hw'
          subst hw''
          simp only []
          go_wp2
          go_ret
          exact ⟨by rw [hb.out]; rfl, F2.more nq osq⟩
        · have h4 : ¬ time < 1 := by omega
          have h5 : 1099511627776 < time := by omega
          clear hG hg hi hd
          refine wp_region_quiet_grown mixed (by kernel_rfl) ?_
          repeat (go_big_quiet_step ((first | (go_at_call 59; exact hG _ _))))
          refine wpQuiet_nil ?_
          intro _ hw'
          obtain ⟨⟨nq, osq⟩, hw''⟩ := hw'
          subst hw''
          simp only []
          go_wp2
          go_ret
          exact ⟨by rw [hb.out]; rfl, F2.more nq osq⟩
      · have h4 : time < 1 := by omega
        clear hG hg hi hd
        refine wp_region_quiet_grown mixed (by kernel_rfl) ?_
        repeat (go_big_quiet_step ((first | (go_at_call 59; exact hG _ _))))
        refine wpQuiet_nil ?_
        intro _ hw'
        obtain ⟨⟨nq, osq⟩, hw''⟩ := hw'
        subst hw''
        simp only []
        go_wp2
        go_ret
        exact ⟨by rw [hb.out]; rfl, F2.more nq osq⟩
end

section
open Go.RowKit
open Go.Sort (grow)

theorem chk_none {o : OpIn} {V : List Dt} (h1 : o.kind ≠ 1) (h2 : o.kind ≠ 2) (h3 : o.kind ≠ 3) : chk o V = false := by simp [chk, partb_no V h1 h2 h3]

set_option maxRecDepth 100000 in
set_option maxHeartbeats 8000000 in
theorem rchk_none (o : OpIn) (a : Option Addr) (n c : Nat) (V : List Dt) (w : World) (hs : PS w a n c V) (hn : n ≤ 9223372036854775807) (hk : o.key.size ≤ maxLen) (hh : headb o V = true) (h1 : o.kind ≠ 1) (h2 : o.kind ≠ 2) (h3 : o.kind ≠ 3) : Tells 44 #[ov o (.slice a n c)] w (.bool (chk o V)) := by
  have hb := hid (chk_none (V := V) h1 h2 h3)
  have k1 : (o.kind == 1) = false := by simp [h1]
  have k2 : (o.kind == 2) = false := by simp [h2]
  have k3 : (o.kind == 3) = false := by simp [h3]
  have hi : 0 ≤ o.id0 ∧ o.id0 < 16777216 ∧ 1 ≤ o.id1 ∧ o.id1 ≤ 1073741824 := (mayd_iff o.id).1 (by simp [headb] at hh; exact hh.1.1.1.1)
  have hg := ((vmb_iff V).1 (by simp [headb] at hh; exact hh.1.2)).gt_bounds o.id0
  have x1 : mayd o.id = true := by simp [headb] at hh; exact hh.1.1.1.1
  have x2 : vmb V = true := by simp [headb] at hh; exact hh.1.2
  have x3 : gt V o.id0 = o.id1 - 1 := by simp [headb] at hh; exact hh.2
  have x4 : 1 ≤ o.time := by simp [headb] at hh; exact hh.1.1.1.2
  have x5 : o.time ≤ 1099511627776 := by simp [headb] at hh; exact hh.1.1.2
  have hH := fun W (h : Far w W) x y => rhas_any a n c V (x, y) W (hs.far h) hn
  have hK := fun W => rkmay_any o.key W hk
  clear hh hk h1 h2 h3
  have mixed := mixed
  have hA := opAt_alloc w o (.slice a n c) 52
  have hF := (Far.refl w).alloc (.cells (o.cells (.slice a n c)) 52)
  have hI := rmay_any o.id (w.alloc (.cells (o.cells (.slice a n c)) 52))
  have hV := fun W (h : Far w W) => rvmay_any a n c V W (hs.far h) hn
  have E0 := hA.c0
  have E1 := hA.c1
  have E3 := hA.c3
  generalize mayd o.id = r1 at hI x1
  generalize vmb V = r2 at hV x2
  go_enter Try.func44, Try.ntmps44
  go_upto_region 3 with (first
    | (go_at_call 60; refine hI.mono ?_; rintro e w1 ⟨rfl, hF1⟩; have hA1 := hA.far hF1; have F1 := hF.trans hF1; have e3 := hA1.c3)
    | (go_at_call 65; refine (hV _ F1).mono ?_; rintro e w2 ⟨rfl, hF2⟩; have hA2 := hA1.far hF2; have F2 := F1.trans hF2))
  clear E0 E1 E3 e3 hI hV hF hF1 hF2 F1 hA hA1
  generalize w.heap.size = q at hA2 ⊢
  have E0 := fun m os => (hA2.grow m os).c0
  have E1 := fun m os => (hA2.grow m os).c1
  have E2 := fun m os => (hA2.grow m os).c2
  have E3 := fun m os => (hA2.grow m os).c3
  have hG := fun m os => tells_q (rget_far (y := o.id0) ((hs.far F2).far ⟨m, os, rfl⟩) hn)
  subst x1 x2
  have h4 : ¬ o.time < 1 := by omega
  have h5 : ¬ 1099511627776 < o.time := by omega
  have hb3 : (gt V o.id0 == o.id1 - 1) = true := by simp [x3]
  have hb4 : (gt V o.id0 != o.id1 - 1) = false := by simp [x3]
  generalize gt V o.id0 = g at hG hg hb3 hb4
  clear x3 hs hn
  refine wp_region_quiet_grown mixed (by kernel_rfl) ?_
  repeat (go_big_quiet_step ((first | (go_at_call 59; exact hG _ _))))
  refine wpQuiet_nil ?_
  intro _ hw'
  obtain ⟨⟨nq, osq⟩, hw''⟩ := hw'
  subst hw''
  simp only []
  have hA3 := hA2.grow nq osq
  have F3 := F2.more nq osq
  generalize grow (w2.drewN nq) osq = w3 at hA3 F3 ⊢
  clear hA2 F2 E0 E1 E2 E3 hG hi hg hb3 h4 h5 x4 x5
  have E3 := hA3.c3
  have E5 := hA3.c5
  have E6 := hA3.c6
  have hH1 := hH w3 F3 o.bl0 o.bl1
  have hH2 := fun W h => hH W h o.at0 o.at1
  have hH3 := fun W h => hH W h o.pa0 o.pa1
  clear hH
  generalize hasv V (o.bl0, o.bl1) = r5 at hH1
  generalize hasv V (o.at0, o.at1) = r6 at hH2
  generalize hasv V (o.pa0, o.pa1) = r7 at hH3
  generalize kyb o.key.toList = r8 at hK
  go_upto_region 12 with (first
    | (go_at_call 63; have hq := F5; refine (hH3 _ F5).mono ?_; rintro e w6 ⟨rfl, hF6⟩; have hA6 := hA5.far hF6; have F6 := F5.trans hF6; have hlt := hA6.lt; clear hA3 hA4 hA5 F3 F4 hF4 hF5 hF6; have e0 := hA6.c0; have e1 := hA6.c1; have e2 := hA6.c2; have e3 := hA6.c3; have e4 := hA6.c4; have e5 := hA6.c5; have e6 := hA6.c6; have e7 := hA6.c7; have e8 := hA6.c8; have e9 := hA6.c9; have e10 := hA6.c10; have e11 := hA6.c11; have e12 := hA6.c12; have e13 := hA6.c13)
    | (go_at_call 63; have hq := F4; refine (hH2 _ F4).mono ?_; rintro e w5 ⟨rfl, hF5⟩; have hA5 := hA4.far hF5; have F5 := F4.trans hF5; have c3 := hA5.c3; have c11 := hA5.c11; have c12 := hA5.c12)
    | (go_at_call 63; refine hH1.mono ?_; rintro e w4 ⟨rfl, hF4⟩; have hA4 := hA3.far hF4; have F4 := F3.trans hF4; have b3 := hA4.c3; have b7 := hA4.c7; have b8 := hA4.c8)
    | (go_at_call 66; refine (hK _).mono ?_; rintro e w7 ⟨rfl, rfl⟩))
  have FZ := ((F6.alloc (.cells #[.int .i64 0, .int .i64 0] 24)).alloc (.cells #[.int .i64 0, .int .i64 (-1)] 24)).alloc (.cells #[.int .i64 0, .int .i64 (-2)] 24)
  have hA9 := hA6.far (((Far.refl w6).alloc (.cells #[.int .i64 0, .int .i64 0] 24)).alloc (.cells #[.int .i64 0, .int .i64 (-1)] 24) |>.alloc (.cells #[.int .i64 0, .int .i64 (-2)] 24))
  have hn00 : (((w6.alloc (.cells #[.int .i64 0, .int .i64 0] 24)).alloc (.cells #[.int .i64 0, .int .i64 (-1)] 24)).alloc (.cells #[.int .i64 0, .int .i64 (-2)] 24)).cell? ⟨w6.heap.size, 0, none⟩ = some (.int .i64 0) := by go_simp
  have hn01 : (((w6.alloc (.cells #[.int .i64 0, .int .i64 0] 24)).alloc (.cells #[.int .i64 0, .int .i64 (-1)] 24)).alloc (.cells #[.int .i64 0, .int .i64 (-2)] 24)).cell? ⟨w6.heap.size, 1, none⟩ = some (.int .i64 0) := by go_simp
  have hn10 : (((w6.alloc (.cells #[.int .i64 0, .int .i64 0] 24)).alloc (.cells #[.int .i64 0, .int .i64 (-1)] 24)).alloc (.cells #[.int .i64 0, .int .i64 (-2)] 24)).cell? ⟨w6.heap.size + 1, 0, none⟩ = some (.int .i64 0) := by go_simp
  have hn11 : (((w6.alloc (.cells #[.int .i64 0, .int .i64 0] 24)).alloc (.cells #[.int .i64 0, .int .i64 (-1)] 24)).alloc (.cells #[.int .i64 0, .int .i64 (-2)] 24)).cell? ⟨w6.heap.size + 1, 1, none⟩ = some (.int .i64 (-1)) := by go_simp
  have hn20 : (((w6.alloc (.cells #[.int .i64 0, .int .i64 0] 24)).alloc (.cells #[.int .i64 0, .int .i64 (-1)] 24)).alloc (.cells #[.int .i64 0, .int .i64 (-2)] 24)).cell? ⟨w6.heap.size + 1 + 1, 0, none⟩ = some (.int .i64 0) := by go_simp
  have hn21 : (((w6.alloc (.cells #[.int .i64 0, .int .i64 0] 24)).alloc (.cells #[.int .i64 0, .int .i64 (-1)] 24)).alloc (.cells #[.int .i64 0, .int .i64 (-2)] 24)).cell? ⟨w6.heap.size + 1 + 1, 1, none⟩ = some (.int .i64 (-2)) := by go_simp
  generalize ((w6.alloc (.cells #[.int .i64 0, .int .i64 0] 24)).alloc (.cells #[.int .i64 0, .int .i64 (-1)] 24)).alloc (.cells #[.int .i64 0, .int .i64 (-2)] 24) = w9 at FZ hA9 hn00 hn01 hn10 hn11 hn20 hn21 ⊢
  clear F6 F5 hH1 hH2 hH3 hK hA6 E3 E5 E6 b3 b7 b8 c3 c11 c12 e0 e1 e2 e3 e4 e5 e6 e7 e8 e9 e10 e11 e12 e13 hlt
  have e0 := hA9.c0
  have e1 := hA9.c1
  have e4 := hA9.c4
  have e5 := hA9.c5
  have e6 := hA9.c6
  have e7 := hA9.c7
  have e8 := hA9.c8
  have e9 := hA9.c9
  have e10 := hA9.c10
  have e11 := hA9.c11
  have e12 := hA9.c12
  have e13 := hA9.c13
  clear hA9
  go_wp2_with fail
  go_ret
  exact ⟨by rw [hb.out]; rfl, FZ⟩

/-- The reference's Check. -/
theorem rcheck_any (o : OpIn) (a : Option Addr) (n c : Nat) (V : List Dt) (w : World) (hs : PS w a n c V) (hn : n ≤ 9223372036854775807) (hk : o.key.size ≤ maxLen) : Tells 44 #[ov o (.slice a n c)] w (.bool (chk o V)) := by
  cases hh : headb o V with
  | false => exact rchk_head o a n c V w hs hn hh
  | true =>
    by_cases h1 : o.kind = 1
    · exact rchk_ins o a n c V w hs hn hk hh h1
    by_cases h2 : o.kind = 2
    · exact rchk_del o a n c V w hs hn hk hh h2
    by_cases h3 : o.kind = 3
    · exact rchk_mov o a n c V w hs hn hk hh h3
    exact rchk_none o a n c V w hs hn hk hh h1 h2 h3
end

section
open Go.RowKit
open Go.Sort (grow)

theorem belv_snoc (l : List Dt) (d : Dt) (B : List Dt) : belv (l ++ [d]) B = (belv l B && decide (d.2 ≤ gt B d.1)) := by simp [belv]
theorem belv_take {A B : List Dt} (k : Nat) (h : belv (A.take k) B = false) : belv A B = false := by
  cases hb : belv A B with
  | false => rfl
  | true =>
    unfold belv at *
    rw [List.all_eq_true] at hb
    have : (A.take k).all (fun d => decide (d.2 ≤ gt B d.1)) = true := List.all_eq_true.2 fun d hd => hb d (List.mem_of_mem_take hd)
    rw [h] at this
    cases this

set_option maxRecDepth 100000 in
set_option maxHeartbeats 1000000 in
theorem rbelow_any {a : Option Addr} {n c : Nat} {A : List Dt} {a' : Option Addr} {n' c' : Nat} {B : List Dt} {w : World} (hs : PS w a n c A) (hn : n ≤ 1000000) (hs' : PS w a' n' c' B) (hn' : n' ≤ 1000000) :
    Tells 41 #[.slice a n c, .slice a' n' c'] w (.bool (belv A B)) := by
  have mixed := mixed
  have HL := hid hs.len
  have HS := hid hs'
  clear hs'
  go_enter Try.func41, Try.ntmps41
  go_wp2
  go_loopw [5] (fun i wr => ∃ k : Nat, k ≤ n ∧ i = .int .i64 k ∧ Hid (belv (A.take k) B = true) ∧ Far w wr) (fun i _ => n - (intOf i).toNat)
  case atStart => exact ⟨0, by omega, rfl, hid rfl, Far.refl _⟩
  case round =>
    obtain ⟨k, hk, rfl, hb, hW⟩ := hrel
    by_cases hlt : k < n
    · have hl := HL.out
      obtain ⟨g, o, rfl, hg, hcell⟩ := (hs.far hW).at (by omega)
      obtain ⟨hc0, hc1⟩ := hcell k (by omega)
      have hts : Hid _ := hid (take_snoc (L := A) (k := k) (by omega))
      generalize (A[k]'(by omega)) = d at hc0 hc1 hts
      obtain ⟨d1, d2⟩ := d
      have hsn : Hid (belv (A.take (k + 1)) B = decide (d2 ≤ gt B d1)) := hid (by rw [hts.out, belv_snoc, hb.out]; rfl)
      have hG := fun m os => tells_q (rget_far (y := d1) (HS.out.far (hW.more m os)) (Nat.le_trans hn' (by decide)))
      have C0 := fun m os => cell_grown (cell_in hc0) hc0 m os
      have C1 := fun m os => cell_grown (cell_in hc1) hc1 m os
      have hk1 : (k : Int) < (n : Int) := by omega
      have hk0 : (0 : Int) ≤ (k : Int) := by omega
      generalize gt B d1 = z at hG hsn
      clear hs hcell hl hc0 hc1
      by_cases hz : z < d2
      · go_wp2_with fail
        refine wp_region_quiet_grown mixed (by kernel_rfl) ?_
        repeat (go_big_quiet_step ((first | (go_at_call 59; exact hG _ _))))
        refine wpQuiet_nil ?_
        intro _ hw'
        obtain ⟨⟨nq, osq⟩, hw''⟩ := hw'
        subst hw''
        simp only []
        go_wp2
        go_ret
        exact ⟨by rw [belv_take (k + 1) (by rw [hsn.out]; simp; omega)]; rfl, hW.more nq osq⟩
      · go_wp2_with fail
        refine wp_region_quiet_grown mixed (by kernel_rfl) ?_
        repeat (go_big_quiet_step ((first | (go_at_call 59; exact hG _ _))))
        refine wpQuiet_nil ?_
        intro _ hw'
        obtain ⟨⟨nq, osq⟩, hw''⟩ := hw'
        subst hw''
        simp only []
        go_wp2
        go_roundw
        case rel => exact ⟨k + 1, by omega, by go_num, hid (by rw [hsn.out]; simp; omega), hW.more nq osq⟩
        case measure => simp [intOf]; omega
    · obtain rfl : k = n := by omega
      go_wp2
      go_ret
      have h := hb.out
      rw [List.take_of_length_le (by rw [HL.out]; exact Nat.le_refl _)] at h
      exact ⟨by rw [h]; rfl, hW⟩

/-- What is missing of one actor. -/
def ms1 (B : List Dt) (d : Dt) : List Dt := (List.range (d.2 - gt B d.1).toNat).map fun (j : Nat) => (d.1, gt B d.1 + 1 + (j : Int))

/-- What is missing. -/
def mss (A B : List Dt) : List Dt := A.flatMap (ms1 B)

theorem mss_snoc (l : List Dt) (d : Dt) (B : List Dt) : mss (l ++ [d]) B = mss l B ++ ms1 B d := by simp [mss]

theorem ms1_take {B : List Dt} {d : Dt} {j : Nat} (h : j < (d.2 - gt B d.1).toNat) : (ms1 B d).take (j + 1) = (ms1 B d).take j ++ [(d.1, gt B d.1 + 1 + (j : Int))] := by
  have hl : j < (ms1 B d).length := by simp [ms1, h]
  rw [List.take_succ_eq_append_getElem hl]
  simp [ms1]

theorem ms1_all {B : List Dt} {d : Dt} {j : Nat} (h : (d.2 - gt B d.1).toNat ≤ j) : (ms1 B d).take j = ms1 B d := List.take_of_length_le (by rw [show (ms1 B d).length = (d.2 - gt B d.1).toNat by simp [ms1]]; exact h)

theorem mss_append (l m B : List Dt) : mss (l ++ m) B = mss l B ++ mss m B := by simp [mss]
theorem mss_cons (d : Dt) (l B : List Dt) : mss (d :: l) B = ms1 B d ++ mss l B := by simp [mss]

theorem mss_split {A B : List Dt} {k : Nat} (h : k < A.length) (j : Nat) : ∃ r, mss A B = (mss (A.take k) B ++ (ms1 B A[k]).take j) ++ r := by
  refine ⟨(ms1 B A[k]).drop j ++ mss (A.drop (k + 1)) B, ?_⟩
  have e : A.take k ++ (A[k] :: A.drop (k + 1)) = A := by rw [← List.drop_eq_getElem_cons h, List.take_append_drop]
  have e2 : mss A B = mss (A.take k) B ++ (ms1 B A[k] ++ mss (A.drop (k + 1)) B) := by
    rw [← mss_cons, ← mss_append, e]
  have e3 : (ms1 B A[k]).take j ++ (ms1 B A[k]).drop j = ms1 B A[k] := List.take_append_drop j _
  rw [e2, List.append_assoc, ← List.append_assoc ((ms1 B A[k]).take j), e3]

/-- A row that is full. -/
theorem take_full {R r : List Dt} {m : Int} (h1 : m ≤ (R.length : Int)) (h2 : R.length ≤ m.toNat) : (R ++ r).take m.toNat = R := by
  have : m.toNat = R.length := by omega
  rw [this, List.take_left]

theorem cell_kept {w w' : World} {p : Addr} {v : Value} {row : Option Nat} (h : w.cell? p = some v) (hg : w.grownBy w' row) (hne : some p.block ≠ row) : w'.cell? p = some v := by
  rw [World.cell?_of_block (w := w) (hg.block p.block (cell_in h) hne)]
  exact h

theorem wpList_append_dot_at {y z : Int} {w : World} {ops : Array Oper} {rest : List Oper} {o : Oper} {a : Act} {Q : Exit → Act → World → Prop} (hgd : o.guard = none) (s x : Operand)
    (ho : o.op = .call { callee := .builtin .append, args := #[s, x], argTypes := #[49, 49] }) (base : Nat) (v : Value) (n : Nat) (xs : List Value) (hs : a.eval s = v) (w0 : World) (hw : w = w0.alloc (.cells #[.int .i64 y, .int .i64 z] 24)) (hown : w0.ownsRow base 24 2 v n xs)
    (hx : a.eval x = .slice (some ⟨w0.heap.size, 0, none⟩) 1 1) (hb : n ≤ 4000000) (hbase : base ≤ w0.heap.size)
    (h : ∀ v' w', w'.ownsRow base 24 2 v' (n + 1) (xs ++ flat [(y, z)]) → w.grownBy w' v.ownBlock → (v'.ownBlock = v.ownBlock ∨ v'.ownBlock = some w.heap.size) → wpList Try.prog ops Q rest (a.put o.dst v') w') : wpList Try.prog ops Q (o :: rest) a w := by
  obtain ⟨i0, hi, hz0, hz1, hz2⟩ := info_parts Try.info24
  subst hw
  exact wpList_append_own_at _ hgd s x 49 ho base 24 i0 _ 2 16 Try.underlying49 hi hz0 hz1 hz2 rfl (by decide) v n xs hs (hown.alloc _) ⟨w0.heap.size, 0, none⟩ 1 1 (flat [(y, z)]) hx rfl (cell_two_new w0 _ _ 24) (flat_one _) (by unfold maxLen; omega) (by omega) (by simp; omega)
      (fun v' w' h1 h2 _ h4 => h v' w' h1 h2 h4)

/-- Of two rows, one behind the other, the first so many. -/
theorem take_room {R S : List Dt} {m : Nat} (h : R.length < m) (x : Dt) (hx : R = S.take m) : R ++ [x] = (S ++ [x]).take m := by
  have hS : S.take m = S := List.take_of_length_le (by
    rcases Nat.lt_or_ge m S.length with h' | h'
    · rw [hx, List.length_take] at h
      omega
    · exact h')
  rw [hS] at hx
  subst hx
  rw [List.take_of_length_le (by simp; omega)]

theorem take_no_room {R S r : List Dt} {m : Int} (h : ¬ ((R.length : Int) < m)) (hx : R = S.take m.toNat) : R = (S ++ r).take m.toNat := by
  have hl : R.length = m.toNat := by
    have : R.length ≤ m.toNat := by rw [hx, List.length_take]; omega
    omega
  have hS : m.toNat ≤ S.length := by
    rw [hx, List.length_take] at hl
    omega
  rw [List.take_append_of_le_length hS]
  exact hx

end

section
open Go.RowKit
open Go.Sort (grow)

/-- Can it be taken in where these are had? -/
def rdyE (V : List Dt) (o : OpIn) (D : List Dt) : Int := if chk o D = false then 30 else if hasv V o.id = true then 32 else if belv D V = false then 31 else 0

theorem chk_vm {o : OpIn} {D : List Dt} (h : chk o D = true) : VM D := by
  unfold chk headb at h
  simp only [Bool.and_eq_true] at h
  exact (vmb_iff D).1 h.1.1.1.2

set_option maxRecDepth 100000 in
set_option maxHeartbeats 2000000 in
theorem rready_any (a : Option Addr) (n c : Nat) (V : List Dt) (o : OpIn) (xa : Option Addr) (xn xc : Nat) (D : List Dt) (w : World) (hs : PS w a n c V) (hn : n ≤ 1000000) (hx : PS w xa xn xc D) (hxn : xn ≤ 1000000) (hk : o.key.size ≤ maxLen) :
    Tells 45 #[.slice a n c, ov o (.slice xa xn xc)] w (.int .i64 (rdyE V o D)) := by
  have hA := opAt_alloc w o (.slice xa xn xc) 52
  have hF := (Far.refl w).alloc (.cells (o.cells (.slice xa xn xc)) 52)
  have hC := fun W (h : Far w W) => rcheck_any o xa xn xc D W (hx.far h) (by omega) hk
  have hH := fun W (h : Far w W) => rhas_any a n c V o.id W (hs.far h) (by omega)
  have hB := fun W (h : Far w W) => rbelow_any (hx.far h) hxn (hs.far h) hn
  have hr : Hid (rdyE V o D = if chk o D = false then 30 else if hasv V o.id = true then 32 else if belv D V = false then 31 else 0) := hid rfl
  obtain ⟨a0, a1, a2, a3, a4, a5, a6, a7, a8, a9, a10, a11, a12, a13⟩ := hA
  generalize chk o D = r1 at hC hr
  generalize hasv V o.id = r2 at hH hr
  generalize belv D V = r3 at hB hr
  cases r1
  · go_enter Try.func45, Try.ntmps45
    go_wp2_with (first
      | (go_at_call 44; refine (hC _ hF).mono ?_; rintro e w1 ⟨rfl, hF1⟩))
    go_ret
    exact ⟨by rw [hr.out]; rfl, hF.trans hF1⟩
  · cases r2
    · cases r3
      all_goals
        go_enter Try.func45, Try.ntmps45
        go_wp2_with (first
          | (go_at_call 41; refine (hB _ F2).mono ?_; rintro e w3 ⟨rfl, hF3⟩)
          | (go_at_call 63; refine (hH _ F1).mono ?_; rintro e w2 ⟨rfl, hF2⟩; have F2 := F1.trans hF2; have hA2 := hAc.far hF2; obtain ⟨b0, b1, b2, b3, b4, b5, b6, b7, b8, b9, b10, b11, b12, b13⟩ := hA2)
          | (go_at_call 44; refine (hC _ hF).mono ?_; rintro e w1 ⟨rfl, hF1⟩; have F1 := hF.trans hF1; have hA1 := (opAt_alloc w o (.slice xa xn xc) 52).far hF1; have hAc := hA1; obtain ⟨b0, b1, b2, b3, b4, b5, b6, b7, b8, b9, b10, b11, b12, b13⟩ := hA1))
        go_ret
        exact ⟨by rw [hr.out]; rfl, F2.trans hF3⟩
    · go_enter Try.func45, Try.ntmps45
      go_wp2_with (first
        | (go_at_call 63; refine (hH _ F1).mono ?_; rintro e w2 ⟨rfl, hF2⟩; have F2 := F1.trans hF2)
        | (go_at_call 44; refine (hC _ hF).mono ?_; rintro e w1 ⟨rfl, hF1⟩; have F1 := hF.trans hF1; have hA1 := (opAt_alloc w o (.slice xa xn xc) 52).far hF1; have hAc := hA1; obtain ⟨b0, b1, b2, b3, b4, b5, b6, b7, b8, b9, b10, b11, b12, b13⟩ := hA1))
      go_ret
      exact ⟨by rw [hr.out]; rfl, F2⟩

end

section

theorem chk_head {o : OpIn} {V : List Dt} (h : chk o V = true) : mayd o.id = true ∧ VM V ∧ gt V o.id0 = o.id1 - 1 ∧ 1 ≤ o.time := by
  unfold chk headb at h
  simp only [Bool.and_eq_true, decide_eq_true_eq] at h
  exact ⟨h.1.1.1.1.1.1, (vmb_iff V).1 h.1.1.1.2, h.1.1.2, h.1.1.1.1.1.2⟩

theorem mem_take_at {α : Type} {l : List α} {k : Nat} {a : α} : a ∈ l.take k ↔ ∃ j, j < k ∧ l[j]? = some a := by
  rw [List.mem_iff_getElem?]
  constructor
  · rintro ⟨j, hj⟩
    rw [List.getElem?_take] at hj
    by_cases h : j < k
    · rw [if_pos h] at hj; exact ⟨j, h, hj⟩
    · rw [if_neg h] at hj; cases hj
  · rintro ⟨j, h, hj⟩
    exact ⟨j, by rw [List.getElem?_take, if_pos h]; exact hj⟩

theorem fold_chk (l : List Mop) : ∀ out : List Mop, (∀ y ∈ out, chk y.1 y.2 = true) → ∀ y ∈ l.foldl cnt1 out, chk y.1 y.2 = true := by
  induction l with
  | nil => exact fun _ h => h
  | cons x r ih =>
    intro out h
    refine ih _ fun y hy => ?_
    unfold cnt1 at hy
    split at hy
    · rename_i hc
      rcases List.mem_append.1 hy with hy | hy
      · exact h y hy
      · simp at hy; rw [hy]; exact hc.2
    · exact h y hy

theorem cnt_chk {l : List Mop} {y : Mop} (h : y ∈ cnt l) : chk y.1 y.2 = true := fold_chk l [] (fun y hy => by simp at hy) y h

/-- Each may be, its Deps come ahead of it, no two have one identity. -/
structure Cl (A : List Mop) : Prop where
  may : ∀ x ∈ A, chk x.1 x.2 = true
  dep : ∀ (k : Nat) (x : Mop), A[k]? = some x → ∀ d ∈ x.2, ∃ (j : Nat) (y : Mop), j < k ∧ A[j]? = some y ∧ y.1.id = d
  ids : (A.map (fun x => x.1.id)).Nodup

theorem ids_inj {A : List Mop} (h : (A.map (fun x => x.1.id)).Nodup) {i j : Nat} {x y : Mop} (hx : A[i]? = some x) (hy : A[j]? = some y) (e : x.1.id = y.1.id) : i = j := by
  have hi : i < (A.map (fun x => x.1.id)).length := by have := (List.getElem?_eq_some_iff.1 hx).1; simpa using this
  refine (List.getElem?_inj hi h).1 ?_
  rw [List.getElem?_map, List.getElem?_map, hx, hy]
  simp [e]

theorem Cl.down {A : List Mop} (h : Cl A) : ∀ (k : Nat) (x : Mop), A[k]? = some x → ∀ s : Int, 1 ≤ s → s ≤ x.1.id1 → ∃ (j : Nat) (y : Mop), j ≤ k ∧ A[j]? = some y ∧ y.1.id = (x.1.id0, s) := by
  intro k
  induction k using Nat.strongRecOn with
  | _ k ih =>
    intro x hx s h1 h2
    by_cases e : s = x.1.id1
    · exact ⟨k, x, Nat.le_refl _, hx, by rw [e]⟩
    · obtain ⟨_, hv, hg, _⟩ := chk_head (h.may x (List.mem_of_getElem? hx))
      have hp : 0 < gt x.2 x.1.id0 := by omega
      obtain ⟨j, y, hj, hy, hid⟩ := h.dep k x hx _ (hv.gt_pos hp).2
      have e0 : y.1.id0 = x.1.id0 := congrArg Prod.fst hid
      have e1 : y.1.id1 = gt x.2 x.1.id0 := congrArg Prod.snd hid
      obtain ⟨i, z, hi, hz, hzid⟩ := ih j hj y hy s h1 (by omega)
      exact ⟨i, z, by omega, hz, by rw [hzid, e0]⟩

theorem Cl.has {A : List Mop} (h : Cl A) {k : Nat} {x : Mop} (hx : A[k]? = some x) {d : Dt} (hd : hasv x.2 d = true) : ∃ (j : Nat) (y : Mop), j < k ∧ A[j]? = some y ∧ y.1.id = d := by
  unfold hasv at hd
  simp only [Bool.and_eq_true, decide_eq_true_eq] at hd
  obtain ⟨_, hv, _, _⟩ := chk_head (h.may x (List.mem_of_getElem? hx))
  have hm := (mayd_iff d).1 hd.1
  obtain ⟨j, y, hj, hy, hid⟩ := h.dep k x hx _ (hv.gt_pos (a := d.1) (by omega)).2
  have e0 : y.1.id0 = d.1 := congrArg Prod.fst hid
  have e1 : y.1.id1 = gt x.2 d.1 := congrArg Prod.snd hid
  obtain ⟨i, z, hi, hz, hzid⟩ := h.down j y hy d.2 hm.2.2.1 (by omega)
  exact ⟨i, z, by omega, hz, by rw [hzid, e0]⟩

/-- None is ahead of one that came ahead of it. -/
theorem Cl.behind {A : List Mop} (h : Cl A) {k i : Nat} {x y : Mop} (hx : A[k]? = some x) (hy : A[i]? = some y) (hki : k < i) : hasv x.2 y.1.id = false := by
  cases e : hasv x.2 y.1.id with
  | false => rfl
  | true =>
    obtain ⟨j, z, hj, hz, hid⟩ := h.has hx e
    have := ids_inj h.ids hz hy hid
    omega

/-- The vector of operations. -/
def verv (l : List Mop) : List Dt := (l.map (fun x => x.1.id)).foldl vwith []

theorem verv_vm (l : List Mop) : VM (verv l) := foldl_vm _ [] vm_nil

theorem foldl_gt (ds : List Dt) : ∀ A : List Dt, VM A → ∀ (a s : Int), (s ≤ gt (ds.foldl vwith A) a ↔ s ≤ gt A a ∨ ∃ d ∈ ds, mayd d = true ∧ d.1 = a ∧ s ≤ d.2) := by
  induction ds with
  | nil => intro A _ a s; simp
  | cons d r ih =>
    intro A hA a s
    rw [List.foldl_cons, ih _ (vwith_vm hA d) a s]
    by_cases hm : mayd d = true
    · rw [vwith_gt hA hm]
      by_cases hda : d.1 = a
      · rw [if_pos hda]
        constructor
        · rintro (h | ⟨e, he, h⟩)
          · by_cases hs : s ≤ gt A a
            · exact Or.inl hs
            · exact Or.inr ⟨d, by simp, hm, hda, by omega⟩
          · exact Or.inr ⟨e, List.mem_cons_of_mem _ he, h⟩
        · rintro (h | ⟨e, he, h⟩)
          · exact Or.inl (by omega)
          · rcases List.mem_cons.1 he with rfl | he
            · exact Or.inl (by have := h.2.2; omega)
            · exact Or.inr ⟨e, he, h⟩
      · rw [if_neg hda]
        constructor
        · rintro (h | ⟨e, he, h⟩)
          · exact Or.inl h
          · exact Or.inr ⟨e, List.mem_cons_of_mem _ he, h⟩
        · rintro (h | ⟨e, he, h⟩)
          · exact Or.inl h
          · rcases List.mem_cons.1 he with rfl | he
            · exact absurd h.2.1 hda
            · exact Or.inr ⟨e, he, h⟩
    · have e : vwith A d = A := by unfold vwith; rw [if_neg hm]
      rw [e]
      constructor
      · rintro (h | ⟨e, he, h⟩)
        · exact Or.inl h
        · exact Or.inr ⟨e, List.mem_cons_of_mem _ he, h⟩
      · rintro (h | ⟨e, he, h⟩)
        · exact Or.inl h
        · rcases List.mem_cons.1 he with rfl | he
          · exact absurd h.1 hm
          · exact Or.inr ⟨e, he, h⟩

theorem Cl.ver {A : List Mop} (h : Cl A) {d : Dt} (hd : 1 ≤ d.2) : d.2 ≤ gt (verv A) d.1 ↔ ∃ x ∈ A, x.1.id = d := by
  unfold verv
  rw [foldl_gt _ [] vm_nil]
  constructor
  · rintro (h0 | ⟨e, he, _, h1, h2⟩)
    · have : gt [] d.1 = 0 := rfl
      omega
    · obtain ⟨x, hx, rfl⟩ := List.mem_map.1 he
      obtain ⟨k, hk⟩ := List.mem_iff_getElem?.1 hx
      obtain ⟨j, y, _, hy, hid⟩ := h.down k x hk d.2 hd h2
      have h1' : x.1.id0 = d.1 := h1
      exact ⟨y, List.mem_of_getElem? hy, by rw [hid, h1']⟩
  · rintro ⟨x, hx, rfl⟩
    exact Or.inr ⟨x.1.id, List.mem_map.2 ⟨x, hx, rfl⟩, (chk_head (h.may x hx)).1, rfl, Int.le_refl _⟩

/-- Of one that isn't there, and of whose Deps one isn't there: it comes early. -/
theorem Cl.early {A : List Mop} (h : Cl A) {o : OpIn} {D : List Dt} (hc : chk o D = true) (hn : ∀ x ∈ A, x.1.id ≠ o.id) {d : Dt} (hd : d ∈ D) (hdn : ∀ x ∈ A, x.1.id ≠ d) : rdyE (verv A) o D = 31 := by
  obtain ⟨hm, hv, _, _⟩ := chk_head hc
  have h1 : hasv (verv A) o.id = false := by
    unfold hasv
    rw [hm, Bool.true_and, decide_eq_false_iff_not, h.ver (d := o.id) ((mayd_iff o.id).1 hm).2.2.1]
    rintro ⟨x, hx, e⟩
    exact hn x hx e
  have h2 : belv D (verv A) = false := by
    unfold belv
    rw [List.all_eq_false]
    refine ⟨d, hd, ?_⟩
    have := ((mayd_iff _).1 (hv.may d hd)).2.2.1
    rw [decide_eq_true_eq, h.ver this]
    rintro ⟨x, hx, e⟩
    exact hdn x hx e
  unfold rdyE
  rw [hc, h1, h2]
  simp

theorem Cl.ready {A : List Mop} (h : Cl A) {o : OpIn} {D : List Dt} (hc : chk o D = true) (hn : ∀ x ∈ A, x.1.id ≠ o.id) (hdn : ∀ d ∈ D, ∃ x ∈ A, x.1.id = d) : rdyE (verv A) o D = 0 := by
  obtain ⟨hm, hv, _, _⟩ := chk_head hc
  have h1 : hasv (verv A) o.id = false := by
    unfold hasv
    rw [hm, Bool.true_and, decide_eq_false_iff_not, h.ver (d := o.id) ((mayd_iff o.id).1 hm).2.2.1]
    rintro ⟨x, hx, e⟩
    exact hn x hx e
  have h2 : belv D (verv A) = true := by
    unfold belv
    rw [List.all_eq_true]
    intro d hd
    have := ((mayd_iff _).1 (hv.may d hd)).2.2.1
    rw [decide_eq_true_eq, h.ver this]
    exact hdn d hd
  unfold rdyE
  rw [hc, h1, h2]
  simp

/-! What Order tells. -/

theorem inL_get {R : List Mo} {T : List Nat} (h : ∀ p ∈ T, p < R.length) (k : Nat) : (inL R T)[k]? = T[k]?.bind (fun p => R[p]?) := by
  induction T generalizing k with
  | nil => simp [inL]
  | cons p r ih =>
    have hp := h p (by simp)
    have e : inL R (p :: r) = R[p] :: inL R r := by unfold inL; rw [List.filterMap_cons_some (List.getElem?_eq_getElem hp)]
    rw [e]
    cases k with
    | zero => simp [List.getElem?_eq_getElem hp]
    | succ k => simpa using ih (fun q hq => h q (List.mem_cons_of_mem _ hq)) k

theorem thT_iff {R : List Mo} {T : List Nat} (h : ∀ p ∈ T, p < R.length) (d : Dt) : thT (R.map (fun x => x.o.id)) T d = true ↔ ∃ y ∈ inL R T, y.o.id = d := by
  unfold thT inL
  rw [decide_eq_true_eq]
  constructor
  · intro hd
    obtain ⟨p, hp, rfl⟩ := List.mem_map.1 hd
    have hl := h p hp
    refine ⟨R[p], List.mem_filterMap.2 ⟨p, hp, List.getElem?_eq_getElem hl⟩, ?_⟩
    simp [List.getD_eq_getElem?_getD, List.getElem?_eq_getElem hl]
  · rintro ⟨y, hy, rfl⟩
    obtain ⟨p, hp, he⟩ := List.mem_filterMap.1 hy
    refine List.mem_map.2 ⟨p, hp, ?_⟩
    simp [List.getD_eq_getElem?_getD, he]

theorem Taken.lt {l : List Mop} {R : List Mo} {T : List Nat} (h : Taken l R T) : ∀ p ∈ T, p < R.length := fun p hp => by
  have := h.2.2.2.1.lt hp
  simpa using this

theorem Taken.nodup {l : List Mop} {R : List Mo} {T : List Nat} (h : Taken l R T) : (R.map (fun x => x.o.id)).Nodup := by
  have h1 := cnt_nodup l
  have h2 := h.2.1.map (fun x : Mop => x.1.id)
  have h3 := h2.nodup_iff.2 h1
  rw [List.map_map] at h3
  exact h3

theorem Taken.may {l : List Mop} {R : List Mo} {T : List Nat} (h : Taken l R T) {x : Mo} (hx : x ∈ R) : chk x.o x.V = true :=
  cnt_chk (y := x.m) (h.2.1.mem_iff.1 (List.mem_map.2 ⟨x, hx, rfl⟩))

theorem Taken.at {l : List Mop} {R : List Mo} {T : List Nat} (h : Taken l R T) {k : Nat} {x : Mo} (hx : (inL R T)[k]? = some x) : ∃ p, T[k]? = some p ∧ R[p]? = some x := by
  rw [inL_get h.lt] at hx
  cases hp : T[k]? with
  | none => rw [hp] at hx; simp at hx
  | some p => rw [hp] at hx; exact ⟨p, rfl, hx⟩

theorem inL_take {R : List Mo} {T : List Nat} (h : ∀ p ∈ T, p < R.length) (k : Nat) : inL R (T.take k) = (inL R T).take k := by
  apply List.ext_getElem?
  intro j
  rw [inL_get (fun p hp => h p (List.mem_of_mem_take hp)), List.getElem?_take]
  by_cases hj : j < k
  · rw [if_pos hj, List.getElem?_take, if_pos hj, inL_get h]
  · rw [if_neg hj, List.getElem?_take, if_neg hj]; rfl

theorem vs_at {R : List Mo} {p : Nat} {x : Mo} (h : R[p]? = some x) : (R.map Mo.V).getD p [] = x.V := by
  simp [List.getD_eq_getElem?_getD, h]

theorem Taken.cl {l : List Mop} {R : List Mo} {T : List Nat} (h : Taken l R T) : Cl ((inL R T).map Mo.m) := by
  refine ⟨fun x hx => ?_, fun k x hx d hd => ?_, ?_⟩
  · obtain ⟨y, hy, rfl⟩ := List.mem_map.1 hx
    exact h.may (inL_mem hy)
  · rw [List.getElem?_map] at hx
    cases hy : (inL R T)[k]? with
    | none => rw [hy] at hx; simp at hx
    | some y =>
      rw [hy] at hx
      have hxy : y.m = x := by simpa using hx
      obtain ⟨p, hp, hR⟩ := h.at hy
      have hk := (List.getElem?_eq_some_iff.1 hp).1
      have hpe := (List.getElem?_eq_some_iff.1 hp).2
      have hn := (nxt_some_iff.1 (h.2.2.2.1 k hk)).1.2.2 d (by rw [hpe, vs_at hR]; rw [← hxy] at hd; exact hd)
      have hlt : ∀ q ∈ T.take k, q < R.length := fun q hq => h.lt q (List.mem_of_mem_take hq)
      obtain ⟨z, hz, hzd⟩ := (thT_iff hlt d).1 hn
      rw [inL_take h.lt] at hz
      obtain ⟨j, hj⟩ := List.mem_iff_getElem?.1 hz
      rw [List.getElem?_take] at hj
      by_cases hjk : j < k
      · rw [if_pos hjk] at hj
        exact ⟨j, z.m, hjk, by rw [List.getElem?_map, hj]; rfl, hzd⟩
      · rw [if_neg hjk] at hj; cases hj
  · rw [List.map_map]
    refine List.pairwise_iff_getElem.2 fun i j hi hj hij e => ?_
    have hi' : i < (inL R T).length := by simpa using hi
    have hj' : j < (inL R T).length := by simpa using hj
    obtain ⟨p, hp, hRp⟩ := h.at (List.getElem?_eq_getElem hi')
    obtain ⟨q, hq, hRq⟩ := h.at (List.getElem?_eq_getElem hj')
    have e' : (inL R T)[i].o.id = (inL R T)[j].o.id := by simpa using e
    have hpl := (List.getElem?_eq_some_iff.1 hRp).1
    have hpq : p = q := by
      refine (List.getElem?_inj (by simpa using hpl) h.nodup).1 ?_
      rw [List.getElem?_map, List.getElem?_map, hRp, hRq]
      simp [e']
    subst hpq
    have hiT := (List.getElem?_eq_some_iff.1 hp).1
    have := (List.getElem?_inj hiT h.2.2.2.1.nodup).1 (hp.trans hq.symm)
    omega

/-- One that is left comes early. -/
theorem Taken.left {l : List Mop} {R : List Mo} {T : List Nat} (h : Taken l R T) {x : Mo} (hx : x ∈ lf R T) : rdyE (verv ((inL R T).map Mo.m)) x.o x.V = 31 := by
  unfold lf at hx
  obtain ⟨hxR, hxn⟩ := List.mem_filter.1 hx
  obtain ⟨q, hq⟩ := List.mem_iff_getElem?.1 hxR
  have hno : ∀ d, thT (R.map (fun x => x.o.id)) T d = false → ∀ y ∈ (inL R T).map Mo.m, y.1.id ≠ d := by
    intro d hd y hy e
    obtain ⟨z, hz, rfl⟩ := List.mem_map.1 hy
    have := (thT_iff h.lt d).2 ⟨z, hz, e⟩
    rw [this] at hd
    cases hd
  have hqT : q ∉ T := by
    intro hqT
    have : thT (R.map (fun x => x.o.id)) T x.o.id = true := (thT_iff h.lt _).2 ⟨x, List.mem_filterMap.2 ⟨q, hqT, hq⟩, rfl⟩
    rw [this] at hxn
    cases hxn
  have hql := (List.getElem?_eq_some_iff.1 hq).1
  obtain ⟨d, hd, hf⟩ := nxt_none_iff.1 h.2.2.2.2 q (by simpa using hql) hqT
  rw [vs_at hq] at hd
  exact h.cl.early (h.may hxR) (hno _ (by simpa using hxn)) hd (hno _ hf)

/-! Times. -/

def tmA (tm : Dt → Option Int) (A : List Mop) : Dt → Option Int := A.foldl (fun t y => upd t y.1.id y.1.time) tm

theorem latF_iff (A : List Mop) : ∀ tm, latF tm A = true ↔ ∀ (k : Nat) (x : Mop), A[k]? = some x → ∀ d ∈ x.2, (tmA tm (A.take k) d).getD 0 < x.1.time := by
  induction A with
  | nil => intro tm; simp [latF]
  | cons x r ih =>
    intro tm
    rw [latF, Bool.and_eq_true, ih, List.all_eq_true]
    constructor
    · rintro ⟨h1, h2⟩ k y hy d hd
      cases k with
      | zero =>
        simp at hy
        subst hy
        simpa [tmA] using h1 d hd
      | succ k => exact h2 k y (by simpa using hy) d hd
    · intro h
      exact ⟨fun d hd => by simpa [tmA] using h 0 x rfl d hd, fun k y hy d hd => h (k + 1) y (by simpa using hy) d hd⟩

theorem tmA_none (A : List Mop) : ∀ (tm : Dt → Option Int) (d : Dt), (∀ y ∈ A, y.1.id ≠ d) → tmA tm A d = tm d := by
  induction A with
  | nil => intro tm d _; rfl
  | cons x r ih =>
    intro tm d h
    show tmA (upd tm x.1.id x.1.time) r d = tm d
    rw [ih _ d (fun y hy => h y (List.mem_cons_of_mem _ hy))]
    unfold upd
    rw [if_neg (fun e => h x (by simp) e.symm)]

theorem tmA_some (A : List Mop) : ∀ (tm : Dt → Option Int), (A.map (fun x => x.1.id)).Nodup → ∀ y ∈ A, tmA tm A y.1.id = some y.1.time := by
  induction A with
  | nil => intro tm _ y hy; simp at hy
  | cons x r ih =>
    intro tm h y hy
    rw [List.map_cons, List.nodup_cons] at h
    show tmA (upd tm x.1.id x.1.time) r y.1.id = some y.1.time
    rcases List.mem_cons.1 hy with rfl | hy
    · rw [tmA_none]
      · simp [upd]
      · intro z hz e
        exact h.1 (List.mem_map.2 ⟨z, hz, e⟩)
    · exact ih _ h.2 y hy

/-- Each one's time is above those of its Deps. -/
theorem Cl.lat {A : List Mop} (h : Cl A) : latF (fun _ => none) A = true ↔ ∀ (k j : Nat) (x y : Mop), A[k]? = some x → A[j]? = some y → y.1.id ∈ x.2 → y.1.time < x.1.time := by
  rw [latF_iff]
  have key : ∀ (k j : Nat) (y : Mop), j < k → A[j]? = some y → tmA (fun _ => none) (A.take k) y.1.id = some y.1.time := by
    intro k j y hjk hy
    refine tmA_some _ _ ?_ y (mem_take_at.2 ⟨j, hjk, hy⟩)
    rw [List.map_take]
    exact h.ids.sublist (List.take_sublist _ _)
  constructor
  · intro hl k j x y hx hy hd
    have h1 := hl k x hx _ hd
    obtain ⟨i, z, hi, hz, hzd⟩ := h.dep k x hx _ hd
    have hij := ids_inj h.ids hz hy hzd
    subst hij
    rw [key k i y hi hy] at h1
    exact h1
  · intro hl k x hx d hd
    obtain ⟨i, z, hi, hz, hzd⟩ := h.dep k x hx d hd
    subst hzd
    rw [key k i z hi hz]
    exact hl k i x z hx hz hd

theorem lo_time {o p : OpIn} (h : lo o p = true) : o.time ≤ p.time := by
  have := (lo_iff o p).1 h
  omega

/-- Of right ones two neighbours' times. -/
theorem Taken.step {l : List Mop} {R : List Mo} {T : List Nat} (h : Taken l R T) (hl : latF (fun _ => none) ((inL R T).map Mo.m) = true) {k : Nat} {x y : Mo} (hx : (inL R T)[k]? = some x) (hy : (inL R T)[k + 1]? = some y) : x.o.time ≤ y.o.time := by
  obtain ⟨p, hp, hRp⟩ := h.at hx
  obtain ⟨q, hq, hRq⟩ := h.at hy
  have hk := (List.getElem?_eq_some_iff.1 hp).1
  have hk1 := (List.getElem?_eq_some_iff.1 hq).1
  have hpe := (List.getElem?_eq_some_iff.1 hp).2
  have hqe := (List.getElem?_eq_some_iff.1 hq).2
  have hpl := (List.getElem?_eq_some_iff.1 hRp).1
  have hql := (List.getElem?_eq_some_iff.1 hRq).1
  rcases Nat.lt_trichotomy p q with hlt | heq | hgt
  · have := List.pairwise_iff_getElem.1 h.1 p q hpl hql hlt
    rw [(List.getElem?_eq_some_iff.1 hRp).2, (List.getElem?_eq_some_iff.1 hRq).2] at this
    exact lo_time this
  · subst heq
    have := (List.getElem?_inj hk h.2.2.2.1.nodup).1 (hp.trans hq.symm)
    omega
  · have h1 := (nxt_some_iff.1 (h.2.2.2.1 k hk)).2 q (by rw [hpe]; exact hgt) (fun hqt => by
      obtain ⟨j, hj, hje⟩ := mem_take_at.1 hqt
      have := (List.getElem?_inj hk1 h.2.2.2.1.nodup).1 (hq.trans hje.symm)
      omega)
    obtain ⟨d, hd, hf⟩ := h1
    have h2 := (nxt_some_iff.1 (h.2.2.2.1 (k + 1) hk1)).1.2.2 d (by rw [hqe]; exact hd)
    rw [List.take_succ_eq_append_getElem hk, thT_snoc, hf, Bool.false_or, decide_eq_true_eq, hpe] at h2
    have hdx : d = x.o.id := by rw [h2]; simp [List.getD_eq_getElem?_getD, hRp]
    rw [vs_at hRq] at hd
    have := h.cl.lat.1 hl (k + 1) k y.m x.m (by rw [List.getElem?_map, hy]; rfl) (by rw [List.getElem?_map, hx]; rfl) (by rw [hdx] at hd; exact hd)
    exact Int.le_of_lt this

theorem Taken.times {l : List Mop} {R : List Mo} {T : List Nat} (h : Taken l R T) (hl : latF (fun _ => none) ((inL R T).map Mo.m) = true) {k : Nat} {x : Mo} (hx : (inL R T)[k]? = some x) : ∀ (n : Nat) (y : Mo), (inL R T)[k + n]? = some y → x.o.time ≤ y.o.time := by
  intro n
  induction n with
  | zero => intro y hy; rw [Nat.add_zero, hx] at hy; cases hy; exact Int.le_refl _
  | succ n ih =>
    intro y hy
    have hlt := (List.getElem?_eq_some_iff.1 hy).1
    have hz : (inL R T)[k + n]? = some ((inL R T)[k + n]'(by omega)) := List.getElem?_eq_getElem (by omega)
    exact Int.le_trans (ih _ hz) (h.step hl hz hy)

/-! There is one answer alone. -/

theorem upo_unique : ∀ {A B : List Mop}, A.Pairwise (fun x y => lo x.1 y.1 = true) → B.Pairwise (fun x y => lo x.1 y.1 = true) → A.Perm B → A = B := by
  intro A
  induction A with
  | nil => intro B _ _ h; exact h.symm.eq_nil ▸ rfl
  | cons x r ih =>
    intro B hA hB h
    cases B with
    | nil => exact absurd h.eq_nil (by simp)
    | cons y s =>
      have hxy : x = y := by
        rcases List.mem_cons.1 (h.mem_iff.1 (List.mem_cons_self ..)) with e | hx
        · exact e
        · rcases List.mem_cons.1 (h.mem_iff.2 (List.mem_cons_self ..)) with e | hy
          · exact e.symm
          · have h1 := (List.pairwise_cons.1 hA).1 y hy
            have h2 := (List.pairwise_cons.1 hB).1 x hx
            rw [lo_iff] at h1 h2
            omega
      subst hxy
      rw [ih (List.pairwise_cons.1 hA).2 (List.pairwise_cons.1 hB).2 (List.Perm.cons_inv h)]

theorem Taken.unique {l : List Mop} {R R' : List Mo} {T T' : List Nat} (h : Taken l R T) (h' : Taken l R' T') : R.map Mo.m = R'.map Mo.m ∧ T = T' := by
  have e : R.map Mo.m = R'.map Mo.m := upo_unique (List.pairwise_map.2 h.1) (List.pairwise_map.2 h'.1) (h.2.1.trans h'.2.1.symm)
  refine ⟨e, ?_⟩
  have eV : R.map Mo.V = R'.map Mo.V := by
    have := congrArg (List.map Prod.snd) e
    rw [List.map_map, List.map_map] at this
    exact this
  have eI : R.map (fun x => x.o.id) = R'.map (fun x => x.o.id) := by
    have := congrArg (List.map (fun x : Mop => x.1.id)) e
    rw [List.map_map, List.map_map] at this
    exact this
  obtain ⟨_, _, _, h1, h2⟩ := h
  obtain ⟨_, _, _, h3, h4⟩ := h'
  rw [eV, eI] at h1 h2
  exact h1.unique h2 h3 h4

theorem inL_m (R : List Mo) (T : List Nat) : (inL R T).map Mo.m = T.filterMap (fun p => (R.map Mo.m)[p]?) := by
  unfold inL
  rw [List.map_filterMap]
  congr 1
  funext p
  rw [List.getElem?_map]

theorem Taken.same {l : List Mop} {R R' : List Mo} {T T' : List Nat} (h : Taken l R T) (h' : Taken l R' T') : (inL R T).map Mo.m = (inL R' T').map Mo.m ∧ T = T' := by
  obtain ⟨e, rfl⟩ := h.unique h'
  refine ⟨?_, rfl⟩
  rw [inL_m, inL_m, e]

end
end Go.Proofs.Ytbpepmajpojacaa
