/- For any dots VectorJoins answers true: Join, Meet, With, Below, Same and Missing are the document's. No condition. -/
import Derived.Test.YtliahpjlmgplkaaVCalls
import Derived.WalkKit
import Derived.WalkSpells
import Derived.WalkLawsBesides
import Derived.ProofKit
import Derived.OpenShut
import Derived.ShutString
import Derived.ChangeOld
import Derived.Below
import Derived.Lib.SmallJoins
import Derived.Deep.CutRange
import Derived.Deep.RegionHeld
namespace Go.Proofs.Ytliahpjlmgplkaa
open Go.RowKit
open Go.Sort (grow)

theorem miss_both {a a' : Option Addr} {c c' : Nat} {A B : List Dt} {m : Int} (hn : A.length ≤ 1000000) (hA : VM A) (hn' : B.length ≤ 1000000) (hB : VM B) (hm : m ≤ 1000000) :
    ∃ T : List Dt, T.length ≤ 1000000 ∧ (∀ W, PS W a A.length c A → PS W a' B.length c' B → Calls Try.prog 29 #[.slice a A.length c, .slice a' B.length c', .int .i64 m] W (Ans W T)) ∧
      (∀ W, PS W a A.length c A → PS W a' B.length c' B → Calls Try.prog 30 #[.slice a A.length c, .slice a' B.length c', .int .i64 m] W (Ans W T)) :=
  ⟨(mss A B).take m.toNat, by rw [List.length_take]; omega, fun _ h h' => c_missing h hn hA h' hn' hB hm, fun _ h h' => c_rmissing h hn hA h' hn' hB hm⟩

theorem below_drew (w : World) : RowKit.Below w.heap.size w w.drew := ((Far.refl w).drew).below

set_option maxRecDepth 100000 in
set_option maxHeartbeats 16000000 in
theorem vjoins_walk (a : Option Addr) (n c : Nat) (L : List Dt) (a' : Option Addr) (n' c' : Nat) (K : List Dt) (x y m : Int) (w : World) (hs0 : PS w a n c L) (hs1 : PS w a' n' c' K) :
    Calls Try.prog 4 #[.slice a n c, .slice a' n' c', dv (x, y), .int .i64 m] w fun e w' => e = .returned (.bool true) ∧ RowKit.Below w.heap.size w w' := by
  have mixed := mixed
  have b0 : RowKit.Below w.heap.size w (w.alloc (.cells #[.int .i64 x, .int .i64 y] 24)) := (Below.refl _ w).alloc (Nat.le_refl _) _
  have k0 : (w.alloc (.cells #[.int .i64 x, .int .i64 y] 24)).cell? ⟨w.heap.size, 0, none⟩ = some (.int .i64 x) := by go_simp
  have k1 : (w.alloc (.cells #[.int .i64 x, .int .i64 y] 24)).cell? ⟨w.heap.size, 1, none⟩ = some (.int .i64 y) := by go_simp
  have aw := awake_any (w.alloc (.cells #[.int .i64 x, .int .i64 y] 24))
  have mV := made_vm L
  have mU := made_vm K
  have lv := made_length L
  have lu := made_length K
  have lj : (vj (fun x y => max x y) (made L) (made K)).length ≤ 1000000 := Nat.le_trans (vj_length _ _ _) (by omega)
  have lm : (vj (fun x y => min x y) (made L) (made K)).length ≤ 1000000 := Nat.le_trans (vj_length _ _ _) (by omega)
  have lw : (vwith (made L) (x, y)).length ≤ 1000000 := Nat.le_trans (vwith_length _ _) (by omega)
  go_enter Try.func4, Try.ntmps4
  go_wp2_with (first
      | (go_at_call 19; have hq9 := b8; refine (c_rsame (p7.below b8) lm p8 lm rfl).mono ?_; rintro e w9 ⟨rfl, b9⟩)
      | (go_at_call 21; have hq8 := b7; refine (c_rmeet (p2.below (below2 (below2 (below2 (below2 b3 b4) b5) b6) b7)) (by omega) mV (p3.below (below2 (below2 (below2 b4 b5) b6) b7)) (by omega) mU).mono ?_; rintro e w8 ⟨a8, c8, rfl, p8, b8⟩)
      | (go_at_call 22; have hq7 := b6; refine (c_meet (p2.below (below2 (below2 (below2 b3 b4) b5) b6)) (by omega) mV (p3.below (below2 (below2 b4 b5) b6)) (by omega) mU).mono ?_; rintro e w7 ⟨a7, c7, rfl, p7, b7⟩)
      | (go_at_call 19; have hq6 := b5; refine (c_rsame (p4.below b5) lj p5 lj rfl).mono ?_; rintro e w6 ⟨rfl, b6⟩)
      | (go_at_call 21; have hq5 := b4; refine (c_rjoin (p2.below (below2 b3 b4)) (by omega) mV (p3.below b4) (by omega) mU).mono ?_; rintro e w5 ⟨a5, c5, rfl, p5, b5⟩)
      | (go_at_call 20; have hq4 := b3; refine (c_join (p2.below b3) (by omega) mV p3 (by omega) mU).mono ?_; rintro e w4 ⟨a4, c4, rfl, p4, b4⟩)
      | (go_at_call 10; have hq3 := b2; refine (made_any (hs1.below (below2 b0 (below2 b1 b2)))).mono ?_; rintro e w3 ⟨a3, c3, rfl, p3, b3⟩)
      | (go_at_call 10; have hq2 := b1; refine (made_any (hs0.below (below2 b0 b1))).mono ?_; rintro e w2 ⟨a2, c2, rfl, p2, b2⟩)
      | (go_at_call 9; refine aw.mono ?_; rintro e w1 ⟨rfl, b1⟩))
  have B19 : RowKit.Below w1.heap.size w1 w9 := (below2 (below2 (below2 (below2 (below2 (below2 (below2 b2 b3) b4) b5) b6) b7) b8) b9)
  have c0 := ((b1.trans (B19.mono b1.size)).cell (p := ⟨w.heap.size, 0, none⟩) (cell_in k0)).trans k0
  have c1 := ((b1.trans (B19.mono b1.size)).cell (p := ⟨w.heap.size, 1, none⟩) (cell_in k1)).trans k1
  have HB := hid (below2 b0 (below2 b1 B19))
  have P2 := hid (p2.below (below2 (below2 (below2 (below2 (below2 (below2 b3 b4) b5) b6) b7) b8) b9))
  have P3 := hid (p3.below (below2 (below2 (below2 (below2 (below2 b4 b5) b6) b7) b8) b9))
  have H : Hid (∀ W, RowKit.Below w9.heap.size w9 W → W.cell? ⟨w.heap.size, 0, none⟩ = some (.int .i64 x) ∧ W.cell? ⟨w.heap.size, 1, none⟩ = some (.int .i64 y)) := hid (fun W hW => ⟨(hW.cell (cell_in c0)).trans c0, (hW.cell (cell_in c1)).trans c1⟩)
  have hD := below_drew w9
  clear aw k0 k1 c0 c1 b0 b1 b2 b3 b4 b5 b6 b7 b8 b9 B19 p2 p3 p4 p5 p7 p8 hs0 hs1 hq2 hq3 hq4 hq5 hq6 hq7 hq8 hq9
  go_cut [13] from 38 to 62 (fun v wc => v = .bool true ∧ RowKit.Below w9.heap.size w9 wc)
  case first =>
    go_region_held (fun W => W.cell? ⟨w.heap.size, 0, none⟩ = some (.int .i64 x) ∧ W.cell? ⟨w.heap.size, 1, none⟩ = some (.int .i64 y))
      (first | exact H.out _ (by assumption))
      (first
        | (go_at_call 23; refine (c_with (x, y) (P2.out.below hD) (by omega) mV).mono ?_; rintro e w10 ⟨a10, c10, rfl, p10, b10⟩; have B10 := below2 hD b10)
        | (go_at_call 24; refine (rwith_any (x, y) (P2.out.below B10) (by omega) mV).mono ?_; rintro e w11 ⟨a11, c11, rfl, p11, b11⟩; have B11 := below2 B10 b11)
        | (go_at_call 19; have hq := B15; refine (rsame_any (P2.out.below B15) (by omega) (P3.out.below B15) (by omega)).b.mono ?_; rintro e w16 ⟨rfl, b16⟩; have B16 := below2 B15 b16)
        | (go_at_call 19; refine (c_rsame (p10.below b11) lw p11 lw rfl).mono ?_; rintro e w12 ⟨rfl, b12⟩; have B12 := below2 B11 b12)
        | (go_at_call 25; refine (below_any (P2.out.below B12) (by omega) (P3.out.below B12) (by omega) mV mU).b.mono ?_; rintro e w13 ⟨rfl, b13⟩; have B13 := below2 B12 b13)
        | (go_at_call 26; refine (rbelow_any (P2.out.below B13) (by omega) (P3.out.below B13) (by omega)).b.mono ?_; rintro e w14 ⟨rfl, b14⟩; have B14 := below2 B13 b14)
        | (go_at_call 27; refine (same_any (P2.out.below B14) (by omega) (P3.out.below B14) (by omega)).b.mono ?_; rintro e w15 ⟨rfl, b15⟩; have B15 := below2 B14 b15))
    all_goals go_wp2_with fail
    all_goals go_meet
    all_goals exact ⟨by first | rfl | simp, B16⟩
  case rest =>
    obtain ⟨rfl, hbc⟩ := hcut
    have hbb : RowKit.Below w.heap.size w wc := HB.out.trans (hbc.mono HB.out.size)
    have q2 := P2.out.below hbc
    have q3 := P3.out.below hbc
    clear HB P2 P3 H hD hbc
    by_cases hm : 1000 < m
    · obtain ⟨T, lt, k29, k30⟩ := miss_both (a := a2) (c := c2) (a' := a3) (c' := c3) (A := made L) (B := made K) (m := 1000) (by omega) mV (by omega) mU (by omega)
      have k1 := k29 wc q2 q3
      have k2 := fun W (hW : RowKit.Below wc.heap.size wc W) => k30 W (q2.below hW) (q3.below hW)
      clear k29 k30 q2 q3 lj lm lw
      go_wp2_with (first
        | (go_at_call 28; have hq := b18; refine (c_rsame3 (p17.below b18) lt p18 lt rfl).mono ?_; rintro e w19 ⟨rfl, b19⟩)
        | (go_at_call 30; have hq := b17; refine (k2 _ b17).mono ?_; rintro e w18 ⟨a18, c18, rfl, p18, b18⟩)
        | (go_at_call 29; refine k1.mono ?_; rintro e w17 ⟨a17, c17, rfl, p17, b17⟩))
      go_ret
      exact ⟨rfl, below2 hbb (below2 (below2 b17 b18) b19)⟩
    · obtain ⟨T, lt, k29, k30⟩ := miss_both (a := a2) (c := c2) (a' := a3) (c' := c3) (A := made L) (B := made K) (m := m) (by omega) mV (by omega) mU (by omega)
      have k1 := k29 wc q2 q3
      have k2 := fun W (hW : RowKit.Below wc.heap.size wc W) => k30 W (q2.below hW) (q3.below hW)
      clear k29 k30 q2 q3 lj lm lw
      go_wp2_with (first
        | (go_at_call 28; have hq := b18; refine (c_rsame3 (p17.below b18) lt p18 lt rfl).mono ?_; rintro e w19 ⟨rfl, b19⟩)
        | (go_at_call 30; have hq := b17; refine (k2 _ b17).mono ?_; rintro e w18 ⟨a18, c18, rfl, p18, b18⟩)
        | (go_at_call 29; refine k1.mono ?_; rintro e w17 ⟨a17, c17, rfl, p17, b17⟩))
      go_ret
      exact ⟨rfl, below2 hbb (below2 (below2 b17 b18) b19)⟩

namespace vectorJoins
open Go.ChangeShapes Go.WideShapes Go.ChangeAt Go.RowKit
open Go.ChangeMaps (open_string shut_string)
set_option linter.unusedVariables false

theorem own : ownKnob Try.prog.godebug = none := by kernel_rfl
theorem laidOut : laidOutB Try.prog = true := by kernel_rfl

set_option maxRecDepth 100000 in
theorem lifted (os : Os) (started : os.Started) (H : Type) (enc : TypeId × Value → H) :
    ReturnsInHanded {} Try.checked os 4 .any (Rows.vectorJoinsSpec.pre6 enc Try.prog Try.f4 Rows.vectorJoinsRow.domain false) (Rows.vectorJoinsSpec.post enc Try.prog Try.f4 false true false false) := by
  refine returnsInHanded_of_change (C := Try.checked) own started (by kernel_rfl) Try.func4
    (ChangeSpec.witness6 (enc := enc) (C := Try.checked) false ⟨#[], #[.slice none 0 0, .slice none 0 0, .agg #[.int .i64 0, .int .i64 0], .int .i64 0], []⟩ 8 (by kernel_rfl) (by kernel_rfl) (by kernel_rfl) (by kernel_rfl)) ?_
  intro W base args ds gs before hval0 hW hcnd _
  have hval : ∀ (j : Nat) t v, Try.f4.params[j]? = some t → args[j]? = some v → Value.okWide Try.prog W .any base t v := hval0
  have hW' := hW
  obtain ⟨p, q, hA0, hV, rfl, hfz, hnd⟩ := hW
  have hA : DataW.TrodAll enc Try.prog W 0 (fun _ => true) true Try.f4.params.toList args.toList ds p := hA0
  rw [Try.params4] at hA hval
  obtain ⟨v0, vs0, d0, ds0, p0, q0, hargs, rfl, rfl, h0, r0⟩ := trodAll_cons hA
  obtain ⟨v1, vs1, d1, ds1, p1, q1, rfl, rfl, rfl, h1, r1⟩ := trodAll_cons r0
  obtain ⟨v2, vs2, d2, ds2, p2, q2, rfl, rfl, rfl, h2, r2⟩ := trodAll_cons r1
  obtain ⟨v3, vs3, d3, ds3, p3, q3, rfl, rfl, rfl, h3, r3⟩ := trodAll_cons r2
  obtain ⟨rfl, rfl, rfl⟩ := trodAll_nil r3
  obtain rfl : args = #[v0, v1, v2, v3] := by cases args; simp_all
  obtain ⟨rfl, rfl⟩ := trodVars_none hV
  obtain ⟨a0, len0, cap0, rfl⟩ := okWide_slice Try.underlying22 (hval 0 22 v0 rfl rfl)
  obtain ⟨a1, len1, cap1, rfl⟩ := okWide_slice Try.underlying22 (hval 1 22 v1 rfl rfl)
  obtain ⟨x2, y2, rfl⟩ : ∃ x y : Int, v2 = dv (x, y) := by
    obtain ⟨e0, e1, z0, z1, m, rfl, rfl, rfl, hz0, hz1⟩ := Go.Joins.open_agg2 Try.underlying24 (by kernel_rfl) dotCells (hval 2 24 v2 rfl rfl) h2
    obtain ⟨n0, f0, _, _⟩ := DataW.trod_int Try.underlying3 hz0
    obtain ⟨n1, f1, _, _⟩ := DataW.trod_int Try.underlying3 hz1
    simp at f0 f1
    subst f0 f1
    exact ⟨n0, n1, rfl⟩
  obtain ⟨x3, rfl, w3⟩ : ∃ n, v3 = .int .i64 n ∧ (Lit.int .i64 n).wf = true := by
    obtain ⟨n, e, _, _, h⟩ := open_int Try.underlying3 (hval 3 3 v3 rfl rfl) h3
    exact ⟨n, e, h⟩
  have k0 := h0
  have k1 := h1
  have k2 := h2
  have k3 := h3
  have lt0 : ∀ x ∈ p0, x.block < W.heap.size := by obtain ⟨m, hm⟩ := k0; exact DataW.trod_lt m _ _ _ hm
  have lt1 : ∀ x ∈ p1, x.block < W.heap.size := by obtain ⟨m, hm⟩ := k1; exact DataW.trod_lt m _ _ _ hm
  have lt2 : ∀ x ∈ p2, x.block < W.heap.size := by obtain ⟨m, hm⟩ := k2; exact DataW.trod_lt m _ _ _ hm
  have lt3 : ∀ x ∈ p3, x.block < W.heap.size := by obtain ⟨m, hm⟩ := k3; exact DataW.trod_lt m _ _ _ hm
  obtain ⟨z0, w0, u0⟩ := open_dots h0
  obtain ⟨z1, w1, u1⟩ := open_dots h1
  clear hA0 hval0
  refine (vjoins_walk a0 len0 cap0 z0 a1 len1 cap1 z1 x2 y2 x3 W w0 w1).mono fun e W' ⟨he, bel⟩ => ?_
  subst he
  exact ⟨_, rfl, _, _, _, [], _, [], hW', trodAll_mk1 (shut_bool Try.underlying4 _),
    (trodAll_cons_mk (Below.trod laidOut (by kernel_rfl) (of_decide_eq_true (by kernel_rfl)) k0 bel lt0) (trodAll_cons_mk (Below.trod laidOut (by kernel_rfl) (of_decide_eq_true (by kernel_rfl)) k1 bel lt1) (trodAll_cons_mk (Below.trod laidOut (by kernel_rfl) (of_decide_eq_true (by kernel_rfl)) k2 bel lt2) (trodAll_cons_mk (Below.trod laidOut (by kernel_rfl) (of_decide_eq_true (by kernel_rfl)) k3 bel lt3) trodAll_mk0)))), rfl, bel.frame _, fun h => by cases h⟩

theorem over : Rows.vectorJoinsRow.holds Try.pinned (OpenSpec.ofChange Rows.vectorJoinsSpec) :=
  OpenClaim.holds_of_wide 4 Try.f4 rfl rfl rfl rfl rfl rfl rfl ⟨rfl, rfl, rfl, rfl, rfl⟩ rfl rfl rfl rfl rfl (by kernel_rfl) Try.func4 (by kernel_rfl)
    (of_decide_eq_true (by kernel_rfl)) (by unfold Func.isWrapper; first | (rw [if_pos (by decide +kernel)]; kernel_rfl) | (rw [if_neg (by decide +kernel)]; exact ⟨rfl, rfl⟩))
    (fun os started H enc _ => lifted os started H enc)

end vectorJoins

/-- The statement. -/
theorem vectorJoins_holds : Rows.VectorJoinsSaid := vectorJoins.over
#print axioms vectorJoins_holds
end Go.Proofs.Ytliahpjlmgplkaa
