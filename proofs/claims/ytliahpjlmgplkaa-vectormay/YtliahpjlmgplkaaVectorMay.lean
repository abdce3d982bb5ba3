/- For any dots VectorMay answers true: May, Get, Has and Count are the document's. No condition. -/
import Derived.Test.YtliahpjlmgplkaaVArg
import Derived.WalkKit
import Derived.WalkSpells
import Derived.WalkLawsBesides
import Derived.ProofKit
import Derived.OpenShut
import Derived.ShutString
import Derived.ChangeOld
import Derived.Below
import Derived.Lib.SmallJoins
namespace Go.Proofs.Ytliahpjlmgplkaa
open Go.RowKit
open Go.Sort (grow)

set_option maxRecDepth 100000 in
set_option maxHeartbeats 8000000 in
theorem vmay_walk (a : Option Addr) (n c : Nat) (L : List Dt) (x y : Int) (a' : Option Addr) (n' c' : Nat) (K : List Dt) (w : World) (hs : PS w a n c L) (hs' : PS w a' n' c' K) :
    Calls Try.prog 3 #[.slice a n c, dv (x, y), .slice a' n' c'] w fun e w' => e = .returned (.bool true) ∧ RowKit.Below w.heap.size w w' := by
  have mixed := mixed
  have b0 : RowKit.Below w.heap.size w (w.alloc (.cells #[.int .i64 x, .int .i64 y] 24)) := (Below.refl _ w).alloc (Nat.le_refl _) _
  have k0 : (w.alloc (.cells #[.int .i64 x, .int .i64 y] 24)).cell? ⟨w.heap.size, 0, none⟩ = some (.int .i64 x) := by go_simp
  have k1 : (w.alloc (.cells #[.int .i64 x, .int .i64 y] 24)).cell? ⟨w.heap.size, 1, none⟩ = some (.int .i64 y) := by go_simp
  have aw := awake_any (w.alloc (.cells #[.int .i64 x, .int .i64 y] 24))
  by_cases hbig : 200 < n
  · clear hs hs'
    go_enter Try.func3, Try.ntmps3
    go_wp2_with (first | (go_at_call 9; refine aw.mono ?_; rintro e w1 ⟨rfl, b1⟩))
    go_ret
    exact ⟨rfl, below2 b0 b1⟩
  · have mk := fun W (hW : RowKit.Below w.heap.size w W) => made_any (hs'.below hW)
    have ml := made_length K
    have mv := hid (made_vm K)
    have ma := fun W (hW : RowKit.Below w.heap.size w W) => vmay_any a n c L W (hs.below hW) (by omega)
    have mb := fun W (hW : RowKit.Below w.heap.size w W) => rvmay_any a n c L W (hs.below hW) (by omega)
    generalize vmb L = r at ma mb
    generalize made K = V at mk ml mv
    clear hs hs'
    go_enter Try.func3, Try.ntmps3
    go_wp2_with (first
      | (go_at_call 12; have hq := B3; refine (mb _ B3).mono ?_; rintro e w4 ⟨rfl, f4⟩; have B4 := below2 B3 f4.below)
      | (go_at_call 11; have hq := B2; refine (ma _ B2).mono ?_; rintro e w3 ⟨rfl, f3⟩; have B3 := below2 B2 f3.below)
      | (go_at_call 10; have hq := B1; refine (mk _ B1).mono ?_; rintro e w2 ⟨av, cv, rfl, pv, b2⟩; have B2 := below2 B1 b2)
      | (go_at_call 9; refine aw.mono ?_; rintro e w1 ⟨rfl, b1⟩; have B1 := below2 b0 b1))
    have hF := f3.trans f4
    have p4 := pv.far hF
    have c0 := ((b1.trans ((below2 b2 hF.below).mono b1.size)).cell (p := ⟨w.heap.size, 0, none⟩) (cell_in k0)).trans k0
    have c1 := ((b1.trans ((below2 b2 hF.below).mono b1.size)).cell (p := ⟨w.heap.size, 1, none⟩) (cell_in k1)).trans k1
    have HB4 := hid B4
    clear mk ma mb k0 k1 aw b0 b1 b2 B1 B2 B3 B4 hF f3 f4 pv
    have C0 := fun m os => cell_grown (cell_in c0) c0 m os
    have C1 := fun m os => cell_grown (cell_in c1) c1 m os
    have hG := fun m os => tells_q (get_any av V.length cv V x _ (p4.far ((Far.refl w4).more m os)) (by omega) mv.out.ac)
    have hg := fun m os => tells_q (rget_far (y := x) (p4.far ((Far.refl w4).more m os)) (by omega))
    have hH := fun m os => tells_q (has_any av V.length cv V (x, y) _ (p4.far ((Far.refl w4).more m os)) (by omega) mv.out.ac)
    have hh := fun m os => tells_q (rhas_any av V.length cv V (x, y) _ (p4.far ((Far.refl w4).more m os)) (by omega))
    have cC := hid (fun W (hW : Far w4 W) => count_any av V.length cv V W (p4.far hW) (by omega) mv.out)
    have cc := hid (fun W (hW : Far w4 W) => rcount_any av V.length cv V W (p4.far hW) (by omega) mv.out)
    have cM := hid (fun W (hW : Far w4 W) => by have := vmay_any av V.length cv V W (p4.far hW) (by omega); rw [(vmb_iff V).2 mv.out] at this; exact this)
    generalize gt V x = z1 at hG hg
    generalize hasv V (x, y) = z2 at hH hh
    generalize cntv V = z3 at cC cc
    clear c0 c1 p4
    refine wp_region_quiet_grown mixed (by kernel_rfl) ?_
    repeat (go_big_quiet_step ((first | (go_at_call 13; exact hG _ _) | (go_at_call 14; exact hg _ _) | (go_at_call 15; exact hH _ _) | (go_at_call 16; exact hh _ _))))
    refine wpQuiet_nil ?_
    intro _ hw'
    obtain ⟨⟨nq, osq⟩, hw''⟩ := hw'
    subst hw''
    simp only []
    have f5 : Far w4 (grow (w4.drewN nq) osq) := (Far.refl w4).more nq osq
    clear hG hg hH hh C0 C1
    generalize grow (w4.drewN nq) osq = w5 at f5 ⊢
    go_wp2_with (first
      | (go_at_call 11; have hq := F7; refine (cM.out _ F7).mono ?_; rintro e w8 ⟨rfl, f8⟩; have F8 := F7.trans f8)
      | (go_at_call 18; have hq := F6; refine (cc.out _ F6).mono ?_; rintro e w7 ⟨rfl, f7⟩; have F7 := F6.trans f7)
      | (go_at_call 17; refine (cC.out _ f5).mono ?_; rintro e w6 ⟨rfl, f6⟩; have F6 := f5.trans f6))
    go_ret
    exact ⟨rfl, HB4.out.trans (F8.below.mono HB4.out.size)⟩

namespace vectorMay
open Go.ChangeShapes Go.WideShapes Go.ChangeAt Go.RowKit
open Go.ChangeMaps (open_string shut_string)
set_option linter.unusedVariables false

theorem own : ownKnob Try.prog.godebug = none := by kernel_rfl
theorem laidOut : laidOutB Try.prog = true := by kernel_rfl

set_option maxRecDepth 100000 in
theorem lifted (os : Os) (started : os.Started) (H : Type) (enc : TypeId × Value → H) :
    ReturnsInHanded {} Try.checked os 3 .any (Rows.vectorMaySpec.pre6 enc Try.prog Try.f3 Rows.vectorMayRow.domain false) (Rows.vectorMaySpec.post enc Try.prog Try.f3 false true false false) := by
  refine returnsInHanded_of_change (C := Try.checked) own started (by kernel_rfl) Try.func3
    (ChangeSpec.witness6 (enc := enc) (C := Try.checked) false ⟨#[], #[.slice none 0 0, .agg #[.int .i64 0, .int .i64 0], .slice none 0 0], []⟩ 8 (by kernel_rfl) (by kernel_rfl) (by kernel_rfl) (by kernel_rfl)) ?_
  intro W base args ds gs before hval0 hW hcnd _
  have hval : ∀ (j : Nat) t v, Try.f3.params[j]? = some t → args[j]? = some v → Value.okWide Try.prog W .any base t v := hval0
  have hW' := hW
  obtain ⟨p, q, hA0, hV, rfl, hfz, hnd⟩ := hW
  have hA : DataW.TrodAll enc Try.prog W 0 (fun _ => true) true Try.f3.params.toList args.toList ds p := hA0
  rw [Try.params3] at hA hval
  obtain ⟨v0, vs0, d0, ds0, p0, q0, hargs, rfl, rfl, h0, r0⟩ := trodAll_cons hA
  obtain ⟨v1, vs1, d1, ds1, p1, q1, rfl, rfl, rfl, h1, r1⟩ := trodAll_cons r0
  obtain ⟨v2, vs2, d2, ds2, p2, q2, rfl, rfl, rfl, h2, r2⟩ := trodAll_cons r1
  obtain ⟨rfl, rfl, rfl⟩ := trodAll_nil r2
  obtain rfl : args = #[v0, v1, v2] := by cases args; simp_all
  obtain ⟨rfl, rfl⟩ := trodVars_none hV
  obtain ⟨a0, len0, cap0, rfl⟩ := okWide_slice Try.underlying22 (hval 0 22 v0 rfl rfl)
  obtain ⟨x1, y1, rfl⟩ : ∃ x y : Int, v1 = dv (x, y) := by
    obtain ⟨e0, e1, z0, z1, m, rfl, rfl, rfl, hz0, hz1⟩ := Go.Joins.open_agg2 Try.underlying24 (by kernel_rfl) dotCells (hval 1 24 v1 rfl rfl) h1
    obtain ⟨n0, f0, _, _⟩ := DataW.trod_int Try.underlying3 hz0
    obtain ⟨n1, f1, _, _⟩ := DataW.trod_int Try.underlying3 hz1
    simp at f0 f1
    subst f0 f1
    exact ⟨n0, n1, rfl⟩
  obtain ⟨a2, len2, cap2, rfl⟩ := okWide_slice Try.underlying22 (hval 2 22 v2 rfl rfl)
  have k0 := h0
  have k1 := h1
  have k2 := h2
  have lt0 : ∀ x ∈ p0, x.block < W.heap.size := by obtain ⟨m, hm⟩ := k0; exact DataW.trod_lt m _ _ _ hm
  have lt1 : ∀ x ∈ p1, x.block < W.heap.size := by obtain ⟨m, hm⟩ := k1; exact DataW.trod_lt m _ _ _ hm
  have lt2 : ∀ x ∈ p2, x.block < W.heap.size := by obtain ⟨m, hm⟩ := k2; exact DataW.trod_lt m _ _ _ hm
  obtain ⟨z0, w0, u0⟩ := open_dots h0
  obtain ⟨z2, w2, u2⟩ := open_dots h2
  clear hA0 hval0
  refine (vmay_walk a0 len0 cap0 z0 x1 y1 a2 len2 cap2 z2 W w0 w2).mono fun e W' ⟨he, bel⟩ => ?_
  subst he
  exact ⟨_, rfl, _, _, _, [], _, [], hW', trodAll_mk1 (shut_bool Try.underlying4 _),
    (trodAll_cons_mk (Below.trod laidOut (by kernel_rfl) (of_decide_eq_true (by kernel_rfl)) k0 bel lt0) (trodAll_cons_mk (Below.trod laidOut (by kernel_rfl) (of_decide_eq_true (by kernel_rfl)) k1 bel lt1) (trodAll_cons_mk (Below.trod laidOut (by kernel_rfl) (of_decide_eq_true (by kernel_rfl)) k2 bel lt2) trodAll_mk0))), rfl, bel.frame _, fun h => by cases h⟩

theorem over : Rows.vectorMayRow.holds Try.pinned (OpenSpec.ofChange Rows.vectorMaySpec) :=
  OpenClaim.holds_of_wide 3 Try.f3 rfl rfl rfl rfl rfl rfl rfl ⟨rfl, rfl, rfl, rfl, rfl⟩ rfl rfl rfl rfl rfl (by kernel_rfl) Try.func3 (by kernel_rfl)
    (of_decide_eq_true (by kernel_rfl)) (by unfold Func.isWrapper; first | (rw [if_pos (by decide +kernel)]; kernel_rfl) | (rw [if_neg (by decide +kernel)]; exact ⟨rfl, rfl⟩))
    (fun os started H enc _ => lifted os started H enc)

end vectorMay

/-- The statement. -/
theorem vectorMay_holds : Rows.VectorMaySaid := vectorMay.over
#print axioms vectorMay_holds
end Go.Proofs.Ytliahpjlmgplkaa
