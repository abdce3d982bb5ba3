/- For any dots VectorWith answers true: with an operation a vector has it, and all ahead of it, and else what it had. No condition. -/
import Derived.Test.YtliahpjlmgplkaaVCalls
import Derived.WalkKit
import Derived.WalkSpells
import Derived.WalkLawsBesides
import Derived.ProofKit
import Derived.OpenShut
import Derived.ShutString
import Derived.ChangeOld
import Derived.Below
import Derived.Lib.SmallJoins
import Derived.Deep.CutRange
import Derived.Deep.RegionHeld
namespace Go.Proofs.Ytliahpjlmgplkaa
open Go.RowKit
open Go.Sort (grow)

section
variable {V : List Dt} {x y : Int}
theorem with_has (hV : VM V) (hd : mayd (x, y) = true) : hasv (vwith V (x, y)) (x, y) = true := by
  unfold hasv
  rw [hd, vwith_gt hV hd]
  simp
  omega
theorem with_ahead (hV : VM V) (hd : mayd (x, y) = true) {z : Int} (h1 : 1 ≤ z) (h2 : z ≤ y) : hasv (vwith V (x, y)) (x, z) = true := by
  have h := (mayd_iff _).1 hd
  simp only at h
  have hz : mayd (x, z) = true := (mayd_iff _).2 ⟨h.1, h.2.1, h1, by omega⟩
  unfold hasv
  rw [hz, vwith_gt hV hd]
  simp
  omega
theorem with_behind (hV : VM V) (hd : mayd (x, y) = true) : hasv (vwith V (x, y)) (x, y + 1) = hasv V (x, y + 1) := by
  unfold hasv
  rw [vwith_gt hV hd]
  simp only [if_true]
  congr 1
  rw [decide_eq_decide]
  omega
theorem with_other (hV : VM V) (hd : mayd (x, y) = true) {o : Dt} (h : o.1 ≠ x) : hasv (vwith V (x, y)) o = hasv V o := by
  unfold hasv
  rw [vwith_gt hV hd]
  rw [if_neg (by simp only; omega)]
theorem with_below (hV : VM V) (d : Dt) (a : Int) : gt V a ≤ gt (vwith V d) a := by
  by_cases hd : mayd d = true
  · rw [vwith_gt hV hd]
    split <;> omega
  · unfold vwith
    rw [if_neg hd]
    omega
theorem with_twice (hV : VM V) (d : Dt) : vwith (vwith V d) d = vwith V d := by
  by_cases hd : mayd d = true
  · refine vm_ext (vwith_vm (vwith_vm hV d) d) (vwith_vm hV d) fun a => ?_
    rw [vwith_gt (vwith_vm hV d) hd, vwith_gt hV hd]
    split <;> omega
  · have e : ∀ A, vwith A d = A := fun A => by unfold vwith; rw [if_neg hd]
    rw [e, e]
theorem with_none (hd : ¬ mayd (x, y) = true) : V = vwith V (x, y) := by unfold vwith; rw [if_neg hd]
end

theorem below_drew (w : World) : RowKit.Below w.heap.size w w.drew := ((Far.refl w).drew).below

theorem tell_has {a : Option Addr} {n c : Nat} {A : List Dt} {w : World} {d : Dt} {r : Bool} (h : hasv A d = r) (hs : PS w a n c A) (hn : n ≤ 1000000) (hA : VM A) : Tells 15 #[.slice a n c, dv d] w (.bool r) := by
  have := has_any a n c A d w hs hn hA.ac
  rw [h] at this
  exact this

set_option maxRecDepth 100000 in
set_option maxHeartbeats 16000000 in
theorem vwith_walk (a : Option Addr) (n c : Nat) (L : List Dt) (x y u v : Int) (w : World) (hs0 : PS w a n c L) :
    Calls Try.prog 8 #[.slice a n c, dv (x, y), dv (u, v)] w fun e w' => e = .returned (.bool true) ∧ RowKit.Below w.heap.size w w' := by
  have mixed := mixed
  have b00 : RowKit.Below w.heap.size w (w.alloc (.cells #[.int .i64 x, .int .i64 y] 24)) := (Below.refl _ w).alloc (Nat.le_refl _) _
  have b0 : RowKit.Below w.heap.size w ((w.alloc (.cells #[.int .i64 x, .int .i64 y] 24)).alloc (.cells #[.int .i64 u, .int .i64 v] 24)) := b00.alloc (by simp) _
  have k0 : ((w.alloc (.cells #[.int .i64 x, .int .i64 y] 24)).alloc (.cells #[.int .i64 u, .int .i64 v] 24)).cell? ⟨w.heap.size, 0, none⟩ = some (.int .i64 x) := by go_simp
  have k1 : ((w.alloc (.cells #[.int .i64 x, .int .i64 y] 24)).alloc (.cells #[.int .i64 u, .int .i64 v] 24)).cell? ⟨w.heap.size, 1, none⟩ = some (.int .i64 y) := by go_simp
  have k2 : ((w.alloc (.cells #[.int .i64 x, .int .i64 y] 24)).alloc (.cells #[.int .i64 u, .int .i64 v] 24)).cell? ⟨w.heap.size + 1, 0, none⟩ = some (.int .i64 u) := by go_simp
  have k3 : ((w.alloc (.cells #[.int .i64 x, .int .i64 y] 24)).alloc (.cells #[.int .i64 u, .int .i64 v] 24)).cell? ⟨w.heap.size + 1, 1, none⟩ = some (.int .i64 v) := by go_simp
  have aw := awake_any ((w.alloc (.cells #[.int .i64 x, .int .i64 y] 24)).alloc (.cells #[.int .i64 u, .int .i64 v] 24))
  have mV := made_vm L
  have lv := made_length L
  have mW := vwith_vm mV (x, y)
  have lw : (vwith (made L) (x, y)).length ≤ 1000000 := Nat.le_trans (vwith_length _ _) (by omega)
  have mk := fun W (hW : RowKit.Below w.heap.size w W) => made_any (hs0.below hW)
  clear hs0
  by_cases hd : mayd (x, y) = true
  · have hM := fun W => rmay_any (x, y) W
    rw [hd] at hM
    go_enter Try.func8, Try.ntmps8
    go_upto_region 9 with (first
      | (go_at_call 40; have hq := g0; refine (hM _).mono ?_; rintro e w4 ⟨rfl, f4⟩; have j0 := (f4.below.cell (p := ⟨w.heap.size, 0, none⟩) (cell_in g0)).trans g0; have j1 := (f4.below.cell (p := ⟨w.heap.size, 1, none⟩) (cell_in g1)).trans g1)
      | (go_at_call 23; have hq := h0; refine (c_with (x, y) p2 (by omega) mV).mono ?_; rintro e w3 ⟨a3, c3, rfl, p3, b3⟩; have g0 := (b3.cell (p := ⟨w.heap.size, 0, none⟩) (cell_in h0)).trans h0; have g1 := (b3.cell (p := ⟨w.heap.size, 1, none⟩) (cell_in h1)).trans h1)
      | (go_at_call 10; have hq := b1; refine (mk _ (below2 b0 b1)).mono ?_; rintro e w2 ⟨a2, c2, rfl, p2, b2⟩; have h0 := ((below2 b1 b2).cell (p := ⟨w.heap.size, 0, none⟩) (cell_in k0)).trans k0; have h1 := ((below2 b1 b2).cell (p := ⟨w.heap.size, 1, none⟩) (cell_in k1)).trans k1)
      | (go_at_call 9; refine aw.mono ?_; rintro e w1 ⟨rfl, b1⟩))
    have lt4 : w.heap.size < w4.heap.size := cell_in j0
    have J0 : ∀ o, (w4.alloc o).cell? ⟨w.heap.size, 0, none⟩ = some (.int .i64 x) := fun o => by rw [World.cell?_alloc_lt _ _ _ lt4]; exact j0
    have J1 : ∀ o, (w4.alloc o).cell? ⟨w.heap.size, 1, none⟩ = some (.int .i64 y) := fun o => by rw [World.cell?_alloc_lt _ _ _ lt4]; exact j1
    have hxy := (mayd_iff _).1 hd
    simp only at hxy
    obtain ⟨hx0, hx1, hy0, hy1⟩ := hxy
    have B14 := below2 b1 (below2 b2 (below2 b3 f4.below))
    have o0 := (B14.cell (p := ⟨w.heap.size + 1, 0, none⟩) (cell_in k2)).trans k2
    have o1 := (B14.cell (p := ⟨w.heap.size + 1, 1, none⟩) (cell_in k3)).trans k3
    have P2 := hid (p2.below (below2 b3 f4.below))
    have P3 := hid (p3.far f4)
    have HB := hid (below2 b0 B14)
    clear aw mk k0 k1 k2 k3 h0 h1 g0 g1 hq b00 b0 b1 b2 b3 f4 p2 p3 B14 hM
    go_upto_region 11 with (first | fail)
    have f5 : Far w4 (w4.alloc (.cells #[.int .i64 x, .int .i64 (1 + (y - 1) / 2)] 24)) := (Far.refl w4).alloc _
    have r0 : (w4.alloc (.cells #[.int .i64 x, .int .i64 (1 + (y - 1) / 2)] 24)).cell? ⟨w4.heap.size, 0, none⟩ = some (.int .i64 x) := by go_simp
    have r1 : (w4.alloc (.cells #[.int .i64 x, .int .i64 (1 + (y - 1) / 2)] 24)).cell? ⟨w4.heap.size, 1, none⟩ = some (.int .i64 (1 + (y - 1) / 2)) := by go_simp
    have d0 := J0 (.cells #[.int .i64 x, .int .i64 (1 + (y - 1) / 2)] 24)
    have d1 := J1 (.cells #[.int .i64 x, .int .i64 (1 + (y - 1) / 2)] 24)
    generalize hz : 1 + (y - 1) / 2 = z at f5 r0 r1 d0 d1 ⊢
    have hz1 : 1 ≤ z := by omega
    have hz2 : z ≤ y := by omega
    clear hz J0 J1
    generalize w4.heap.size = q1 at r0 r1 ⊢
    generalize w4.alloc (.cells #[.int .i64 x, .int .i64 z] 24) = w5 at f5 r0 r1 d0 d1 ⊢
    have lt5 := cell_in d0
    have J0 : ∀ o, (w5.alloc o).cell? ⟨w.heap.size, 0, none⟩ = some (.int .i64 x) := fun o => by rw [World.cell?_alloc_lt _ _ _ lt5]; exact d0
    have J1 : ∀ o, (w5.alloc o).cell? ⟨w.heap.size, 1, none⟩ = some (.int .i64 y) := fun o => by rw [World.cell?_alloc_lt _ _ _ (cell_in d1)]; exact d1
    have hr0 := hid r0
    have hr1 := hid r1
    clear r0 r1 j0 j1
    go_upto_region 13 with (first | fail)
    have f6 : Far w5 (w5.alloc (.cells #[.int .i64 x, .int .i64 (y + 1)] 24)) := (Far.refl w5).alloc _
    have t0 : (w5.alloc (.cells #[.int .i64 x, .int .i64 (y + 1)] 24)).cell? ⟨w5.heap.size, 0, none⟩ = some (.int .i64 x) := by go_simp
    have t1 : (w5.alloc (.cells #[.int .i64 x, .int .i64 (y + 1)] 24)).cell? ⟨w5.heap.size, 1, none⟩ = some (.int .i64 (y + 1)) := by go_simp
    have e0 := J0 (.cells #[.int .i64 x, .int .i64 (y + 1)] 24)
    have e1 := J1 (.cells #[.int .i64 x, .int .i64 (y + 1)] 24)
    have F46 := f5.trans f6
    have r0 := (f6.below.cell (cell_in hr0.out)).trans hr0.out
    have r1 := (f6.below.cell (cell_in hr1.out)).trans hr1.out
    have s0 := (F46.below.cell (cell_in o0)).trans o0
    have s1 := (F46.below.cell (cell_in o1)).trans o1
    have P2' := hid (P2.out.far F46)
    have P3' := hid (P3.out.far F46)
    have HB' := hid (below2 HB.out F46.below)
    clear J0 J1 d0 d1 o0 o1 hr0 hr1 P2 P3 HB f5 f6 F46 lt4 lt5
    generalize w5.heap.size = q2 at t0 t1 ⊢
    generalize w5.alloc (.cells #[.int .i64 x, .int .i64 (y + 1)] 24) = w6 at t0 t1 e0 e1 r0 r1 s0 s1 P2' P3' HB' ⊢
    go_cut [13] from 41 to 54 (fun v wc => v = .bool true ∧ Far w6 wc)
    case first =>
      have E0 := fun m os => cell_grown (cell_in e0) e0 m os
      have S0 := fun m os => cell_grown (cell_in s0) s0 m os
      have S1 := fun m os => cell_grown (cell_in s1) s1 m os
      have hA := fun m os => tells_q (has_any a2 _ c2 (made L) (u, v) _ (P2'.out.far ((Far.refl w6).more m os)) (by omega) mV.ac)
      clear e0 e1 r0 r1 s0 s1 t0 t1
      by_cases hux : u = x
      · have huxb : (u == x) = true := by simpa using hux
        refine wp_region_quiet_grown mixed (by kernel_rfl) ?_
        repeat (go_big_quiet_step (fail))
        refine wpQuiet_nil ?_
        intro _ hw'
        obtain ⟨⟨nq, osq⟩, hw''⟩ := hw'
        subst hw''
        simp only []
        go_wp2_with fail
        go_meet
        exact ⟨rfl, (Far.refl w6).more nq osq⟩
      · have huxb : (u == x) = false := by simpa using hux
        have hB := fun m os => tells_q (tell_has (with_other (V := made L) mV hd (o := (u, v)) hux) (P3'.out.far ((Far.refl w6).more m os)) lw mW)
        generalize hasv (made L) (u, v) = rr at hA hB
        refine wp_region_quiet_grown mixed (by kernel_rfl) ?_
        repeat (go_big_quiet_step ((first | (go_at_call_of 15 c3; exact hB _ _) | (go_at_call 15; exact hA _ _))))
        refine wpQuiet_nil ?_
        intro _ hw'
        obtain ⟨⟨nq, osq⟩, hw''⟩ := hw'
        subst hw''
        simp only []
        go_wp2_with fail
        go_meet
        exact ⟨by first | rfl | simp, (Far.refl w6).more nq osq⟩
    case rest =>
      obtain ⟨rfl, f7⟩ := hcut
      have hD := f7.drew
      have HB7 := hid (below2 HB'.out f7.below)
      have H : Hid (∀ W, RowKit.Below w6.heap.size w6 W → W.cell? ⟨w.heap.size, 0, none⟩ = some (.int .i64 x) ∧ W.cell? ⟨w.heap.size, 1, none⟩ = some (.int .i64 y) ∧ W.cell? ⟨q1, 0, none⟩ = some (.int .i64 x) ∧ W.cell? ⟨q1, 1, none⟩ = some (.int .i64 z) ∧ W.cell? ⟨q2, 0, none⟩ = some (.int .i64 x) ∧ W.cell? ⟨q2, 1, none⟩ = some (.int .i64 (y + 1))) := hid (fun W hW => by
        have q := fun (p : Addr) (v : Value) (h : w6.cell? p = some v) => (hW.cell (cell_in h)).trans h
        exact ⟨q _ _ e0, q _ _ e1, q _ _ r0, q _ _ r1, q _ _ t0, q _ _ t1⟩)
      have D0 := hD.below
      have kh1 := hid (fun W (hW : RowKit.Below w6.heap.size w6 W) => (tell_has (with_has mV hd) (P3'.out.below hW) lw mW).b)
      have kh2 := hid (fun W (hW : RowKit.Below w6.heap.size w6 W) => (tell_has (with_ahead mV hd hz1 hz2) (P3'.out.below hW) lw mW).b)
      have kh3 := hid (fun W (hW : RowKit.Below w6.heap.size w6 W) => (tell_has (with_behind mV hd) (P3'.out.below hW) lw mW).b)
      have kh4 := hid (fun W (hW : RowKit.Below w6.heap.size w6 W) => (has_any a2 _ c2 (made L) (x, y + 1) W (P2'.out.below hW) (by omega) mV.ac).b)
      have kb := hid (fun W (hW : RowKit.Below w6.heap.size w6 W) => c_below (P2'.out.below hW) (by omega) mV (P3'.out.below hW) lw mW (with_below mV (x, y)))
      have km := hid (fun W (hW : RowKit.Below w6.heap.size w6 W) => c_may (P3'.out.below hW) lw mW)
      have kw := hid (fun W (hW : RowKit.Below w6.heap.size w6 W) => c_with (x, y) (P3'.out.below hW) lw mW)
      have ht := hid (with_twice mV (x, y))
      have lw2 : (vwith (vwith (made L) (x, y)) (x, y)).length ≤ 1000000 := by rw [ht.out]; exact lw
      clear e0 e1 r0 r1 s0 s1 t0 t1 hD
      go_wp2_with fail
      go_region_held (fun W => W.cell? ⟨w.heap.size, 0, none⟩ = some (.int .i64 x) ∧ W.cell? ⟨w.heap.size, 1, none⟩ = some (.int .i64 y) ∧ W.cell? ⟨q1, 0, none⟩ = some (.int .i64 x) ∧ W.cell? ⟨q1, 1, none⟩ = some (.int .i64 z) ∧ W.cell? ⟨q2, 0, none⟩ = some (.int .i64 x) ∧ W.cell? ⟨q2, 1, none⟩ = some (.int .i64 (y + 1)))
        (first | exact H.out _ (by assumption))
        (first
          | (go_at_call 11; refine (km.out _ D0).mono ?_; rintro e x1 ⟨rfl, y1⟩; have D1 := below2 D0 y1)
          | (go_at_call 15; have hq := D5; refine (kh4.out _ D5).mono ?_; rintro e x6 ⟨rfl, y6⟩; have D6 := below2 D5 y6)
          | (go_at_call 15; have hq := D4; refine (kh3.out _ D4).mono ?_; rintro e x5 ⟨rfl, y5⟩; have D5 := below2 D4 y5)
          | (go_at_call 15; have hq := D2; refine (kh2.out _ D2).mono ?_; rintro e x3 ⟨rfl, y3⟩; have D3 := below2 D2 y3)
          | (go_at_call 15; refine (kh1.out _ D1).mono ?_; rintro e x2 ⟨rfl, y2⟩; have D2 := below2 D1 y2)
          | (go_at_call 25; refine (kb.out _ D3).mono ?_; rintro e x4 ⟨rfl, y4⟩; have D4 := below2 D3 y4)
          | (go_at_call 23; refine (kw.out _ D6).mono ?_; rintro e x7 ⟨a7, c7, rfl, p7, y7⟩; have D7 := below2 D6 y7)
          | (go_at_call 27; refine (c_same p7 lw2 (P3'.out.below D7) lw ht.out).mono ?_; rintro e x8 ⟨rfl, y8⟩; have D8 := below2 D7 y8))
      all_goals go_wp2_with fail
      all_goals go_ret
      all_goals exact ⟨by first | rfl | simp, below2 HB'.out D8⟩
  · have hd' : mayd (x, y) = false := by simpa using hd
    have hM := fun W => rmay_any (x, y) W
    rw [hd'] at hM
    have he := hid (with_none (V := made L) hd)
    go_enter Try.func8, Try.ntmps8
    go_wp2_with (first
      | (go_at_call 27; have hq := f4; refine (c_same (p2.below (below2 b3 f4.below)) (by omega) (p3.far f4) lw he.out).mono ?_; rintro e w5 ⟨rfl, b5⟩)
      | (go_at_call 40; have hq := g0; refine (hM _).mono ?_; rintro e w4 ⟨rfl, f4⟩)
      | (go_at_call 23; have hq := h0; refine (c_with (x, y) p2 (by omega) mV).mono ?_; rintro e w3 ⟨a3, c3, rfl, p3, b3⟩; have g0 := (b3.cell (p := ⟨w.heap.size, 0, none⟩) (cell_in h0)).trans h0; have g1 := (b3.cell (p := ⟨w.heap.size, 1, none⟩) (cell_in h1)).trans h1)
      | (go_at_call 10; have hq := b1; refine (mk _ (below2 b0 b1)).mono ?_; rintro e w2 ⟨a2, c2, rfl, p2, b2⟩; have h0 := ((below2 b1 b2).cell (p := ⟨w.heap.size, 0, none⟩) (cell_in k0)).trans k0; have h1 := ((below2 b1 b2).cell (p := ⟨w.heap.size, 1, none⟩) (cell_in k1)).trans k1)
      | (go_at_call 9; refine aw.mono ?_; rintro e w1 ⟨rfl, b1⟩))
    go_ret
    exact ⟨rfl, below2 b0 (below2 b1 (below2 b2 (below2 b3 (below2 f4.below b5))))⟩

namespace vectorWith
open Go.ChangeShapes Go.WideShapes Go.ChangeAt Go.RowKit
open Go.ChangeMaps (open_string shut_string)
set_option linter.unusedVariables false

theorem own : ownKnob Try.prog.godebug = none := by kernel_rfl
theorem laidOut : laidOutB Try.prog = true := by kernel_rfl

set_option maxRecDepth 100000 in
theorem lifted (os : Os) (started : os.Started) (H : Type) (enc : TypeId × Value → H) :
    ReturnsInHanded {} Try.checked os 8 .any (Rows.vectorWithSpec.pre6 enc Try.prog Try.f8 Rows.vectorWithRow.domain false) (Rows.vectorWithSpec.post enc Try.prog Try.f8 false true false false) := by
  refine returnsInHanded_of_change (C := Try.checked) own started (by kernel_rfl) Try.func8
    (ChangeSpec.witness6 (enc := enc) (C := Try.checked) false ⟨#[], #[.slice none 0 0, .agg #[.int .i64 0, .int .i64 0], .agg #[.int .i64 0, .int .i64 0]], []⟩ 8 (by kernel_rfl) (by kernel_rfl) (by kernel_rfl) (by kernel_rfl)) ?_
  intro W base args ds gs before hval0 hW hcnd _
  have hval : ∀ (j : Nat) t v, Try.f8.params[j]? = some t → args[j]? = some v → Value.okWide Try.prog W .any base t v := hval0
  have hW' := hW
  obtain ⟨p, q, hA0, hV, rfl, hfz, hnd⟩ := hW
  have hA : DataW.TrodAll enc Try.prog W 0 (fun _ => true) true Try.f8.params.toList args.toList ds p := hA0
  rw [Try.params8] at hA hval
  obtain ⟨v0, vs0, d0, ds0, p0, q0, hargs, rfl, rfl, h0, r0⟩ := trodAll_cons hA
  obtain ⟨v1, vs1, d1, ds1, p1, q1, rfl, rfl, rfl, h1, r1⟩ := trodAll_cons r0
  obtain ⟨v2, vs2, d2, ds2, p2, q2, rfl, rfl, rfl, h2, r2⟩ := trodAll_cons r1
  obtain ⟨rfl, rfl, rfl⟩ := trodAll_nil r2
  obtain rfl : args = #[v0, v1, v2] := by cases args; simp_all
  obtain ⟨rfl, rfl⟩ := trodVars_none hV
  obtain ⟨a0, len0, cap0, rfl⟩ := okWide_slice Try.underlying22 (hval 0 22 v0 rfl rfl)
  obtain ⟨x1, y1, rfl⟩ : ∃ x y : Int, v1 = dv (x, y) := by
    obtain ⟨e0, e1, z0, z1, m, rfl, rfl, rfl, hz0, hz1⟩ := Go.Joins.open_agg2 Try.underlying24 (by kernel_rfl) dotCells (hval 1 24 v1 rfl rfl) h1
    obtain ⟨n0, f0, _, _⟩ := DataW.trod_int Try.underlying3 hz0
    obtain ⟨n1, f1, _, _⟩ := DataW.trod_int Try.underlying3 hz1
    simp at f0 f1
    subst f0 f1
    exact ⟨n0, n1, rfl⟩
  obtain ⟨x2, y2, rfl⟩ : ∃ x y : Int, v2 = dv (x, y) := by
    obtain ⟨e0, e1, z0, z1, m, rfl, rfl, rfl, hz0, hz1⟩ := Go.Joins.open_agg2 Try.underlying24 (by kernel_rfl) dotCells (hval 2 24 v2 rfl rfl) h2
    obtain ⟨n0, f0, _, _⟩ := DataW.trod_int Try.underlying3 hz0
    obtain ⟨n1, f1, _, _⟩ := DataW.trod_int Try.underlying3 hz1
    simp at f0 f1
    subst f0 f1
    exact ⟨n0, n1, rfl⟩
  have k0 := h0
  have k1 := h1
  have k2 := h2
  have lt0 : ∀ x ∈ p0, x.block < W.heap.size := by obtain ⟨m, hm⟩ := k0; exact DataW.trod_lt m _ _ _ hm
  have lt1 : ∀ x ∈ p1, x.block < W.heap.size := by obtain ⟨m, hm⟩ := k1; exact DataW.trod_lt m _ _ _ hm
  have lt2 : ∀ x ∈ p2, x.block < W.heap.size := by obtain ⟨m, hm⟩ := k2; exact DataW.trod_lt m _ _ _ hm
  obtain ⟨z0, w0, u0⟩ := open_dots h0
  clear hA0 hval0
  refine (vwith_walk a0 len0 cap0 z0 x1 y1 x2 y2 W w0).mono fun e W' ⟨he, bel⟩ => ?_
  subst he
  exact ⟨_, rfl, _, _, _, [], _, [], hW', trodAll_mk1 (shut_bool Try.underlying4 _),
    (trodAll_cons_mk (Below.trod laidOut (by kernel_rfl) (of_decide_eq_true (by kernel_rfl)) k0 bel lt0) (trodAll_cons_mk (Below.trod laidOut (by kernel_rfl) (of_decide_eq_true (by kernel_rfl)) k1 bel lt1) (trodAll_cons_mk (Below.trod laidOut (by kernel_rfl) (of_decide_eq_true (by kernel_rfl)) k2 bel lt2) trodAll_mk0))), rfl, bel.frame _, fun h => by cases h⟩

theorem over : Rows.vectorWithRow.holds Try.pinned (OpenSpec.ofChange Rows.vectorWithSpec) :=
  OpenClaim.holds_of_wide 8 Try.f8 rfl rfl rfl rfl rfl rfl rfl ⟨rfl, rfl, rfl, rfl, rfl⟩ rfl rfl rfl rfl rfl (by kernel_rfl) Try.func8 (by kernel_rfl)
    (of_decide_eq_true (by kernel_rfl)) (by unfold Func.isWrapper; first | (rw [if_pos (by decide +kernel)]; kernel_rfl) | (rw [if_neg (by decide +kernel)]; exact ⟨rfl, rfl⟩))
    (fun os started H enc _ => lifted os started H enc)

end vectorWith

/-- The statement. -/
theorem vectorWith_holds : Rows.VectorWithSaid := vectorWith.over
#print axioms vectorWith_holds
end Go.Proofs.Ytliahpjlmgplkaa
