/- For any dots VectorMissing answers true: what is missing isn't had, rises, and makes the join when it was put in. No condition. -/
import Derived.Test.YtliahpjlmgplkaaVCalls
import Derived.Test.YtliahpjlmgplkaaVMissM
import Derived.WalkKit
import Derived.WalkSpells
import Derived.WalkLawsBesides
import Derived.ProofKit
import Derived.OpenShut
import Derived.ShutString
import Derived.ChangeOld
import Derived.Below
import Derived.Lib.SmallJoins
import Derived.Deep.CutRange
namespace Go.Proofs.Ytliahpjlmgplkaa
open Go.RowKit
open Go.Sort (grow)

/-- What is told of what is missing. -/
structure MT (V U T : List Dt) : Prop where
  has : ∀ d ∈ T, hasv V d = true
  hasnt : ∀ d ∈ T, hasv U d = false
  up : Up T
  fold : T.foldl vwith U = vjoin V U
  cnt : cntv (vjoin V U) = cntv U + (T.length : Int)

theorem miss_told {a a' : Option Addr} {c c' : Nat} {A B : List Dt} (hn : A.length ≤ 1000000) (hA : VM A) (hn' : B.length ≤ 1000000) (hB : VM B) :
    ∃ T : List Dt, T.length ≤ 2000 ∧ Hid (T.length < 2000 → MT A B T) ∧ (∀ W, PS W a A.length c A → PS W a' B.length c' B → Calls Try.prog 29 #[.slice a A.length c, .slice a' B.length c', .int .i64 2000] W (Ans W T)) := by
  refine ⟨(mss A B).take (2000 : Int).toNat, ?_, hid fun h => ?_, fun _ h h' => c_missing h hn hA h' hn' hB (by omega)⟩
  · rw [List.length_take]
    omega
  · have e : (mss A B).take (2000 : Int).toNat = mss A B := List.take_of_length_le (by
      rw [List.length_take] at h
      omega)
    rw [e]
    exact ⟨fun d hd => (mss_has hA hB hd).1, fun d hd => (mss_has hA hB hd).2, up_mss hA, fold_mss hA hB, cnt_join hB hA⟩

theorem tell_has {a : Option Addr} {n c : Nat} {A : List Dt} {w : World} {d : Dt} {r : Bool} (h : hasv A d = r) (hs : PS w a n c A) (hn : n ≤ 1000000) (hA : VM A) : Tells 15 #[.slice a n c, dv d] w (.bool r) := by
  have := has_any a n c A d w hs hn hA.ac
  rw [h] at this
  exact this

theorem tell_count {a : Option Addr} {n c : Nat} {A : List Dt} {w : World} {z : Int} (h : cntv A = z) (hs : PS w a n c A) (hn : n ≤ 1000000) (hA : VM A) : Calls Try.prog 17 #[.slice a n c] w fun e w' => e = .returned (.int .i64 z) ∧ RowKit.Below w.heap.size w w' := by
  have := (count_any a n c A w hs hn hA).b
  rw [h] at this
  exact this

theorem up_step {T : List Dt} (h : Up T) {k : Nat} {d e : Dt} (hd : T[k]? = some d) (he : T[k + 1]? = some e) : dl d e = true := by
  obtain ⟨h1, rfl⟩ := List.getElem?_eq_some_iff.1 hd
  obtain ⟨h2, rfl⟩ := List.getElem?_eq_some_iff.1 he
  exact List.pairwise_iff_getElem.1 h k (k + 1) h1 h2 (by omega)

set_option maxRecDepth 100000 in
set_option maxHeartbeats 16000000 in
theorem vmissing_walk (a : Option Addr) (n c : Nat) (L : List Dt) (a' : Option Addr) (n' c' : Nat) (K : List Dt) (w : World) (hs0 : PS w a n c L) (hs1 : PS w a' n' c' K) :
    Calls Try.prog 6 #[.slice a n c, .slice a' n' c'] w fun e w' => e = .returned (.bool true) ∧ RowKit.Below w.heap.size w w' := by
  have mixed := mixed
  have mV := made_vm L
  have mU := made_vm K
  have lv := made_length L
  have lu := made_length K
  have mk := fun W (hW : RowKit.Below w.heap.size w W) => made_any (hs0.below hW)
  have mk' := fun W (hW : RowKit.Below w.heap.size w W) => made_any (hs1.below hW)
  clear hs0 hs1
  generalize made L = V at mV lv mk
  generalize made K = U at mU lu mk'
  go_enter Try.func6, Try.ntmps6
  go_upto_region 6 with (first
    | (go_at_call 10; have hq := b2; refine (mk' _ (below2 b1 b2)).mono ?_; rintro e w3 ⟨a3, c3, rfl, p3, b3⟩)
    | (go_at_call 10; have hq := b1; refine (mk _ b1).mono ?_; rintro e w2 ⟨a2, c2, rfl, p2, b2⟩)
    | (go_at_call 9; refine (awake_any w).mono ?_; rintro e w1 ⟨rfl, b1⟩))
  obtain ⟨T, hT, hMT, k29⟩ := miss_told (a := a2) (c := c2) (a' := a3) (c' := c3) (A := V) (B := U) (by omega) mV (by omega) mU
  have km := k29 w3 (p2.below b3) p3
  clear k29
  by_cases hbig : 2000 ≤ T.length
  · go_wp2_with (first | (go_at_call 29; refine km.mono ?_; rintro e w4 ⟨a4, c4, rfl, p4, b4⟩))
    go_ret
    exact ⟨rfl, below2 b1 (below2 b2 (below2 b3 b4))⟩
  · have hM := hid (hMT.out (by omega))
    go_wp2_with (first | (go_at_call 29; refine km.mono ?_; rintro e w4 ⟨a4, c4, rfl, p4, b4⟩))
    have HB := hid (below2 b1 (below2 b2 (below2 b3 b4)))
    have P2 := hid (p2.below (below2 b3 b4))
    have P3 := hid (p3.below b4)
    have P4 := hid p4
    clear km b1 b2 b3 b4 p2 p3 p4 mk mk' hMT
    go_loopw [10, 9] (fun i x wr => ∃ (k : Nat) (ax : Option Addr) (cx : Nat), k ≤ T.length ∧ i = .int .i64 k ∧ x = .slice ax ((T.take k).foldl vwith U).length cx ∧ Hid (PS wr ax ((T.take k).foldl vwith U).length cx ((T.take k).foldl vwith U)) ∧ Hid (RowKit.Below w4.heap.size w4 wr)) (fun i _ _ => T.length - (intOf i).toNat)
    case atStart => exact ⟨0, a3, c3, by omega, rfl, rfl, hid P3.out, hid (Below.refl _ _)⟩
    case round =>
      obtain ⟨k, ax, cx, hk, rfl, rfl, hPX, hbl⟩ := hrel
      have hXm := hid (foldl_vm (T.take k) U mU)
      have hXl : ((T.take k).foldl vwith U).length ≤ 3000 := by
        have := foldl_length (T.take k) U
        rw [List.length_take] at this
        omega
      by_cases hlt : k < T.length
      · obtain ⟨g, o, rfl, hg, hcell⟩ := (P4.out.below hbl.out).at (by omega)
        obtain ⟨hc0, hc1⟩ := hcell k hlt
        have hTk := hid (List.getElem?_eq_getElem hlt)
        have hsn : Hid (((T.take (k + 1)).foldl vwith U) = vwith ((T.take k).foldl vwith U) T[k]) := hid (by rw [take_snoc hlt, List.foldl_append]; rfl)
        have hv1 := hM.out.has _ (List.getElem_mem hlt)
        have hv2 := hM.out.hasnt _ (List.getElem_mem hlt)
        have hp : 0 < k → ∃ p, T[k - 1]? = some p ∧ wr.cell? ⟨g, o + (k - 1) * 2, none⟩ = some (.int .i64 p.1) ∧ wr.cell? ⟨g, o + (k - 1) * 2 + 1, none⟩ = some (.int .i64 p.2) := fun _ => ⟨_, List.getElem?_eq_getElem (by omega), (hcell (k - 1) (by omega)).1, (hcell (k - 1) (by omega)).2⟩
        generalize T[k] = d at hc0 hc1 hTk hsn hv1 hv2
        obtain ⟨d1, d2⟩ := d
        have kw := hid (fun W (_ : RowKit.Below w4.heap.size w4 W) (hW2 : PS W ax ((T.take k).foldl vwith U).length cx ((T.take k).foldl vwith U)) => c_with (d1, d2) hW2 (by omega) hXm.out)
        have hA := fun m os => tells_q (tell_has hv1 (P2.out.below (hbl.out.trans ((below_class wr m os).mono hbl.out.size))) (by omega) mV)
        have hB := fun m os => tells_q (tell_has hv2 (P3.out.below (hbl.out.trans ((below_class wr m os).mono hbl.out.size))) (by omega) mU)
        have C0 := fun m os => cell_grown (cell_in hc0) hc0 m os
        have C1 := fun m os => cell_grown (cell_in hc1) hc1 m os
        have hk1 : (k : Int) < (T.length : Int) := by omega
        have hk0 : (0 : Int) ≤ (k : Int) := by omega
        clear hcell hc0 hc1 hv1 hv2
        generalize (T.take k).foldl vwith U = X at hPX hXl hsn kw hXm ⊢
        by_cases h0 : k = 0
        · subst h0
          simp only [Nat.zero_mul, Nat.add_zero] at C0 C1
          go_wp2_with fail
          refine wp_region_quiet_grown mixed (by kernel_rfl) ?_
          repeat (go_big_quiet_step ((first | (go_at_call_of 15 c2; exact hA _ _) | (go_at_call 15; exact hB _ _))))
          refine wpQuiet_nil ?_
          intro _ hw'
          obtain ⟨⟨nq, osq⟩, hw''⟩ := hw'
          subst hw''
          simp only []
          have f5 : Far wr (grow (wr.drewN nq) osq) := (Far.refl wr).more nq osq
          have l0 := C0 nq osq
          have l1 := C1 nq osq
          clear hA hB C0 C1 
          generalize grow (wr.drewN nq) osq = w5 at f5 l0 l1 ⊢
          have kw' := kw.out w5 (below2 hbl.out f5.below) (hPX.out.far f5)
          go_wp2_with (first | (go_at_call 23; refine kw'.mono ?_; rintro e w6 ⟨a6, c6, rfl, p6, b6⟩))
          go_roundw
          case rel => exact ⟨0 + 1, a6, c6, by omega, by go_num, by rw [hsn.out], hid (by rw [hsn.out]; exact p6), hid (below2 hbl.out (below2 f5.below b6))⟩
          case measure => simp [intOf]; omega
        · obtain ⟨p, hTp, hp0, hp1⟩ := hp (by omega)
          obtain ⟨j, rfl⟩ : ∃ j, k = j + 1 := ⟨k - 1, by omega⟩
          simp only [Nat.add_sub_cancel] at hTp hp0 hp1
          obtain ⟨p1, p2⟩ := p
          have hlt2 := up_step hM.out.up hTp hTk.out
          have hL := fun m os => tells_q (show Tells 31 #[dv (p1, p2), dv (d1, d2)] (grow (wr.drewN m) os) (.bool true) from by have := rless_any (p1, p2) (d1, d2) (grow (wr.drewN m) os); rw [hlt2] at this; exact this)
          have G0 := fun m os => cell_grown (cell_in hp0) hp0 m os
          have G1 := fun m os => cell_grown (cell_in hp1) hp1 m os
          have hj1 : ((j + 1 : Nat) : Int) - 1 = (j : Int) := by omega
          have hj2 : (j : Int) < (T.length : Int) := by omega
          have hj0 : (0 : Int) ≤ (j : Int) := by omega
          have hjp : (0 : Int) < ((j + 1 : Nat) : Int) := by omega
          clear hTp hp0 hp1 hlt2 hp
          go_wp2_with fail
          refine wp_region_quiet_grown mixed (by kernel_rfl) ?_
          repeat (go_big_quiet_step ((first | (go_at_call_of 15 c2; exact hA _ _) | (go_at_call 15; exact hB _ _) | (go_at_call 31; exact hL _ _))))
          refine wpQuiet_nil ?_
          intro _ hw'
          obtain ⟨⟨nq, osq⟩, hw''⟩ := hw'
          subst hw''
          simp only []
          have f5 : Far wr (grow (wr.drewN nq) osq) := (Far.refl wr).more nq osq
          have l0 := C0 nq osq
          have l1 := C1 nq osq
          clear hA hB hL C0 C1 G0 G1
          generalize grow (wr.drewN nq) osq = w5 at f5 l0 l1 ⊢
          have kw' := kw.out w5 (below2 hbl.out f5.below) (hPX.out.far f5)
          go_wp2_with (first | (go_at_call 23; refine kw'.mono ?_; rintro e w6 ⟨a6, c6, rfl, p6, b6⟩))
          go_roundw
          case rel => exact ⟨j + 1 + 1, a6, c6, by omega, by go_num, by rw [hsn.out], hid (by rw [hsn.out]; exact p6), hid (below2 hbl.out (below2 f5.below b6))⟩
          case measure => simp [intOf]; omega
      · obtain rfl : k = T.length := by omega
        have hX : Hid ((T.take T.length).foldl vwith U = vjoin V U) := hid (by rw [List.take_length]; exact hM.out.fold)
        have hlj : (vjoin V U).length ≤ 1000000 := Nat.le_trans (vj_length _ _ _) (by omega)
        have hcn := hid hM.out.cnt
        have hcb := cntv_bounds mU
        generalize (T.take T.length).foldl vwith U = X at hPX hXl hX hXm ⊢
        have kj := c_join (P2.out.below hbl.out) (by omega) mV (P3.out.below hbl.out) (by omega) mU
        have kc1 := fun W (p : ∃ aj cj, PS W aj (vjoin V U).length cj (vjoin V U)) => True
        have hz : Hid (cntv U = cntv U) := hid rfl
        have kU := hid (fun W (hW : RowKit.Below wr.heap.size wr W) => tell_count hz.out (P3.out.below (below2 hbl.out hW)) (by omega) mU)
        have mJ := vj_vm pick_max mV mU
        clear kc1 hz
        generalize cntv U = z at hcn hcb kU
        have hz0 : 0 ≤ z := hcb.1
        have hz1 : z ≤ 1073741824000000 := by
          have := hcb.2
          omega
        clear hcb
        go_wp2_with (first
          | (go_at_call 17; have hq := b7; refine (kU.out _ (below2 b5 (below2 b6 b7))).mono ?_; rintro e w8 ⟨rfl, b8⟩)
          | (go_at_call 17; have hq := b6; refine (tell_count hcn.out (p5.below b6) hlj mJ).mono ?_; rintro e w7 ⟨rfl, b7⟩)
          | (go_at_call 27; have hq := b5; refine (c_same (hPX.out.below b5) (by omega) p5 hlj hX.out).mono ?_; rintro e w6 ⟨rfl, b6⟩)
          | (go_at_call 20; refine kj.mono ?_; rintro e w5 ⟨a5, c5, rfl, p5, b5⟩))
        go_ret
        exact ⟨by first | rfl | simp, below2 HB.out (below2 hbl.out (below2 b5 (below2 b6 (below2 b7 b8))))⟩

namespace vectorMissing
open Go.ChangeShapes Go.WideShapes Go.ChangeAt Go.RowKit
open Go.ChangeMaps (open_string shut_string)
set_option linter.unusedVariables false

theorem own : ownKnob Try.prog.godebug = none := by kernel_rfl
theorem laidOut : laidOutB Try.prog = true := by kernel_rfl

set_option maxRecDepth 100000 in
theorem lifted (os : Os) (started : os.Started) (H : Type) (enc : TypeId × Value → H) :
    ReturnsInHanded {} Try.checked os 6 .any (Rows.vectorMissingSpec.pre6 enc Try.prog Try.f6 Rows.vectorMissingRow.domain false) (Rows.vectorMissingSpec.post enc Try.prog Try.f6 false true false false) := by
  refine returnsInHanded_of_change (C := Try.checked) own started (by kernel_rfl) Try.func6
    (ChangeSpec.witness6 (enc := enc) (C := Try.checked) false ⟨#[], #[.slice none 0 0, .slice none 0 0], []⟩ 8 (by kernel_rfl) (by kernel_rfl) (by kernel_rfl) (by kernel_rfl)) ?_
  intro W base args ds gs before hval0 hW hcnd _
  have hval : ∀ (j : Nat) t v, Try.f6.params[j]? = some t → args[j]? = some v → Value.okWide Try.prog W .any base t v := hval0
  have hW' := hW
  obtain ⟨p, q, hA0, hV, rfl, hfz, hnd⟩ := hW
  have hA : DataW.TrodAll enc Try.prog W 0 (fun _ => true) true Try.f6.params.toList args.toList ds p := hA0
  rw [Try.params6] at hA hval
  obtain ⟨v0, vs0, d0, ds0, p0, q0, hargs, rfl, rfl, h0, r0⟩ := trodAll_cons hA
  obtain ⟨v1, vs1, d1, ds1, p1, q1, rfl, rfl, rfl, h1, r1⟩ := trodAll_cons r0
  obtain ⟨rfl, rfl, rfl⟩ := trodAll_nil r1
  obtain rfl : args = #[v0, v1] := by cases args; simp_all
  obtain ⟨rfl, rfl⟩ := trodVars_none hV
  obtain ⟨a0, len0, cap0, rfl⟩ := okWide_slice Try.underlying22 (hval 0 22 v0 rfl rfl)
  obtain ⟨a1, len1, cap1, rfl⟩ := okWide_slice Try.underlying22 (hval 1 22 v1 rfl rfl)
  have k0 := h0
  have k1 := h1
  have lt0 : ∀ x ∈ p0, x.block < W.heap.size := by obtain ⟨m, hm⟩ := k0; exact DataW.trod_lt m _ _ _ hm
  have lt1 : ∀ x ∈ p1, x.block < W.heap.size := by obtain ⟨m, hm⟩ := k1; exact DataW.trod_lt m _ _ _ hm
  obtain ⟨z0, w0, u0⟩ := open_dots h0
  obtain ⟨z1, w1, u1⟩ := open_dots h1
  clear hA0 hval0
  refine (vmissing_walk a0 len0 cap0 z0 a1 len1 cap1 z1 W w0 w1).mono fun e W' ⟨he, bel⟩ => ?_
  subst he
  exact ⟨_, rfl, _, _, _, [], _, [], hW', trodAll_mk1 (shut_bool Try.underlying4 _),
    (trodAll_cons_mk (Below.trod laidOut (by kernel_rfl) (of_decide_eq_true (by kernel_rfl)) k0 bel lt0) (trodAll_cons_mk (Below.trod laidOut (by kernel_rfl) (of_decide_eq_true (by kernel_rfl)) k1 bel lt1) trodAll_mk0)), rfl, bel.frame _, fun h => by cases h⟩

theorem over : Rows.vectorMissingRow.holds Try.pinned (OpenSpec.ofChange Rows.vectorMissingSpec) :=
  OpenClaim.holds_of_wide 6 Try.f6 rfl rfl rfl rfl rfl rfl rfl ⟨rfl, rfl, rfl, rfl, rfl⟩ rfl rfl rfl rfl rfl (by kernel_rfl) Try.func6 (by kernel_rfl)
    (of_decide_eq_true (by kernel_rfl)) (by unfold Func.isWrapper; first | (rw [if_pos (by decide +kernel)]; kernel_rfl) | (rw [if_neg (by decide +kernel)]; exact ⟨rfl, rfl⟩))
    (fun os started H enc _ => lifted os started H enc)

end vectorMissing

/-- The statement. -/
theorem vectorMissing_holds : Rows.VectorMissingSaid := vectorMissing.over
#print axioms vectorMissing_holds
end Go.Proofs.Ytliahpjlmgplkaa
