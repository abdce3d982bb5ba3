/- For any two rows of dots DotsJoins answers true: put in order, joined, met, taken off as the reference says, and places told. No condition. -/
import Derived.Test.YtmkjfgedhcidcaaDCalls
import Derived.BigQuiet
import Derived.WalkKit
import Derived.WalkSpells
import Derived.WalkLawsBesides
import Derived.ProofKit
import Derived.OpenShut
import Derived.ShutString
import Derived.ChangeOld
import Derived.Below
namespace Go.Proofs.Ytmkjfgedhcidcaa
open Go.RowKit
open Go.Sort (grow)

theorem c_places {a : Option Addr} {n c : Nat} {L : List Dt} {w : World} (hs : PS w a n c L) (hd : Dws L) (hn : n ≤ 1000) :
    Calls Try.prog 20 #[.slice a n c] w fun e w' => ∃ q D, e = .returned (.map (some q)) ∧ w'.ownsMap Try.prog 23 (plainElem (H := Unit) Try.prog 3) q n D ∧ Tells D (pl L) ∧ RowKit.Below w.heap.size w w' :=
  (places_any a n c L w hs hd (by omega)).mono fun _ _ ⟨he, ⟨D, h1, h2⟩, hb⟩ => ⟨_, D, he, h1, h2, hb⟩

theorem own_below {w w' : World} {b n : Nat} {D : DataW Unit} (h : w.ownsMap Try.prog 23 (plainElem (H := Unit) Try.prog 3) b n D) (hb : RowKit.Below w.heap.size w w') : w'.ownsMap Try.prog 23 (plainElem (H := Unit) Try.prog 3) b n D := by
  have hlt := h.lt
  obtain ⟨es, clock, h1, h2⟩ := h
  exact ⟨es, clock, by rw [hb.block b hlt]; exact h1, h2⟩

theorem look_ok_run {w : World} {b n : Nat} {D : DataW Unit} {f : Dt → Option Int} (hown : w.ownsMap Try.prog 23 (plainElem (H := Unit) Try.prog 3) b n D) (hT : Tells D f) {d : Dt} (hd : Dw d) {c : Int} (hc : f d = some c) :
    (Instr.lookup 33 (.map (some b)) (dv d) true).run Try.prog w = .ok (.tuple #[.int .i64 c, .bool true]) w := by
  obtain ⟨v, ps, hrun, hv⟩ := hown.look_ok law Try.underlying33 (zero3 w) (plainElem_int Try.underlying3 (by decide)) (keyOf_dot hd)
  obtain ⟨hh, ha⟩ := hT d hd
  rw [ha c hc] at hv
  obtain ⟨x, rfl, hx, _⟩ := plainElem_int_inv Try.underlying3 hv
  rw [hrun, hh, hc]
  simp at hx
  rw [hx.1]
  rfl

theorem pl_get {A : List Dt} {j : Nat} (h : j < A.length) : ∃ p : Nat, pl A A[j] = some (p : Int) ∧ p ≤ j ∧ A[p]? = some A[j] := by
  have hm : A[j] ∈ A := List.getElem_mem h
  have hp := List.idxOf_lt_length_of_mem hm
  refine ⟨A.idxOf A[j], by simp [pl, hm], idx_le (List.getElem?_eq_getElem h), ?_⟩
  rw [List.getElem?_eq_getElem hp, List.getElem_idxOf hp]

theorem drewN_below (w : World) (q : Nat) : RowKit.Below w.heap.size w (w.drewN q) := ⟨rfl, rfl, rfl, Nat.le_refl _, fun _ _ => rfl⟩

set_option maxRecDepth 100000 in
set_option maxHeartbeats 8000000 in
theorem joins_walk (a : Option Addr) (n c : Nat) (L : List Dt) (a' : Option Addr) (n' c' : Nat) (M : List Dt) (w : World) (hs0 : PS w a n c L) (hd0 : Dws L) (hs1 : PS w a' n' c' M) (hd1 : Dws M) :
    Calls Try.prog 4 #[.slice a n c, .slice a' n' c'] w fun e w' => e = .returned (.bool true) ∧ RowKit.Below w.heap.size w w' := by
  by_cases hbig : 200 < n ∨ 200 < n'
  · have hcs : 200 < n ∨ (¬ 200 < n ∧ 200 < n') := by omega
    clear hbig hs0 hs1
    rcases hcs with h1 | ⟨h1, h2⟩
    all_goals
      go_enter Try.func4, Try.ntmps4
      go_wp2_with (first | (go_at_call 8; refine (awake_any w).mono ?_; rintro e w1 ⟨rfl, b1⟩))
      go_ret
      exact ⟨rfl, b1⟩
  · have hn0 : n ≤ 200 := by omega
    have hn1 : n' ≤ 200 := by omega
    have HL := hid hs0.len
    have HA : Hid ((L ++ M).length = n + n') := hid (by rw [List.length_append, hs0.len, hs1.len])
    have l1 : (rise L).length ≤ 200 := Nat.le_trans (rise_length L) (by rw [hs0.len]; exact hn0)
    have l2 : (uni L M).length ≤ 400 := Nat.le_trans (uni_length L M) (by rw [hs0.len, hs1.len]; omega)
    have l3 : (rise (L ++ M)).length ≤ 400 := Nat.le_trans (rise_length _) (by rw [HA.out]; omega)
    have l4 : (mee L M).length ≤ 200 := Nat.le_trans (mee_length L M) (by rw [hs0.len]; omega)
    have l6 : (mis L M).length ≤ 200 := Nat.le_trans (mis_length L M) (by rw [hs0.len]; omega)
    clear hbig
    go_enter Try.func4, Try.ntmps4
    go_wp2_with (first
      | (go_at_call 15; have hq17 := b16; refine (c_rrising (pa3.below (below2 (below2 (below2 (below2 (below2 (below2 (below2 (below2 (below2 (below2 (below2 (below2 b4 b5) b6) b7) b8) b9) b10) b11) b12) b13) b14) b15) b16)) (by omega)).mono ?_; rintro e w17 ⟨a17, c17, rfl, p17, b17⟩)
      | (go_at_call 20; have hq16 := b15; refine (c_places (pa3.below (below2 (below2 (below2 (below2 (below2 (below2 (below2 (below2 (below2 (below2 (below2 b4 b5) b6) b7) b8) b9) b10) b11) b12) b13) b14) b15)) (hd0.append hd1) (by omega)).mono ?_; rintro e w16 ⟨q, D, rfl, hown, hT, b16⟩; have hszD := hT.size hown (up_nodup (up_rise (L ++ M))) (hd0.append hd1).rise (fun d _ => by rw [pl_some, mem_rise]); have hlr := hown.len Try.underlying33 3; rw [hszD] at hlr; clear hszD)
      | (go_at_call 13; have hq15 := b14; refine (c_same (p13.below b14) (by omega) p14 (by omega) rfl).mono ?_; rintro e w15 ⟨rfl, b15⟩)
      | (go_at_call 18; have hq14 := b13; refine (c_one (h03.below (below2 (below2 (below2 (below2 (below2 (below2 (below2 (below2 (below2 b4 b5) b6) b7) b8) b9) b10) b11) b12) b13)) (by omega) (h13.below (below2 (below2 (below2 (below2 (below2 (below2 (below2 (below2 (below2 b4 b5) b6) b7) b8) b9) b10) b11) b12) b13)) (by omega)).mono ?_; rintro e w14 ⟨a14, c14, rfl, p14, b14⟩)
      | (go_at_call 19; have hq13 := b12; refine (c_minus (h03.below (below2 (below2 (below2 (below2 (below2 (below2 (below2 (below2 b4 b5) b6) b7) b8) b9) b10) b11) b12)) hd0 (by omega) (h13.below (below2 (below2 (below2 (below2 (below2 (below2 (below2 (below2 b4 b5) b6) b7) b8) b9) b10) b11) b12)) hd1 (by omega)).mono ?_; rintro e w13 ⟨a13, c13, rfl, p13, b13⟩)
      | (go_at_call 13; have hq12 := b11; refine (c_same (p10.below b11) (by omega) p11 (by omega) rfl).mono ?_; rintro e w12 ⟨rfl, b12⟩)
      | (go_at_call 18; have hq11 := b10; refine (c_both (h03.below (below2 (below2 (below2 (below2 (below2 (below2 b4 b5) b6) b7) b8) b9) b10)) (by omega) (h13.below (below2 (below2 (below2 (below2 (below2 (below2 b4 b5) b6) b7) b8) b9) b10)) (by omega)).mono ?_; rintro e w11 ⟨a11, c11, rfl, p11, b11⟩)
      | (go_at_call 17; have hq10 := b9; refine (c_meet (h03.below (below2 (below2 (below2 (below2 (below2 b4 b5) b6) b7) b8) b9)) hd0 (by omega) (h13.below (below2 (below2 (below2 (below2 (below2 b4 b5) b6) b7) b8) b9)) hd1 (by omega)).mono ?_; rintro e w10 ⟨a10, c10, rfl, p10, b10⟩)
      | (go_at_call 13; have hq9 := b8; refine (c_same (p7.below b8) (by omega) p8 (by omega) rfl).mono ?_; rintro e w9 ⟨rfl, b9⟩)
      | (go_at_call 15; have hq8 := b7; refine (c_rrising (pa3.below (below2 (below2 (below2 b4 b5) b6) b7)) (by omega)).mono ?_; rintro e w8 ⟨a8, c8, rfl, p8, b8⟩)
      | (go_at_call 16; have hq7 := b6; refine (c_union (h03.below (below2 (below2 b4 b5) b6)) hd0 (by omega) (h13.below (below2 (below2 b4 b5) b6)) hd1 (by omega)).mono ?_; rintro e w7 ⟨a7, c7, rfl, p7, b7⟩)
      | (go_at_call 13; have hq6 := b5; refine (c_same (p4.below b5) (by omega) p5 (by omega) rfl).mono ?_; rintro e w6 ⟨rfl, b6⟩)
      | (go_at_call 15; have hq5 := b4; refine (c_rrising (h03.below b4) (by omega)).mono ?_; rintro e w5 ⟨a5, c5, rfl, p5, b5⟩)
      | (go_at_call 14; have hq4 := b3; refine (c_rising h03 hd0 (by omega)).mono ?_; rintro e w4 ⟨a4, c4, rfl, p4, b4⟩)
      | (at_builtin; have hq3 := ho2; refine wpList_append_dots rfl _ _ rfl w1.heap.size v2 _ _ rfl ho2 a' n' c' M rfl (hs1.below (below2 b1 b2)) (by omega) b2.size ?_; intro v3 w3 ho3 hg3; have b3 : RowKit.Below w1.heap.size w1 w3 := b2.grown hg3 b2.size (fun j hj => (ho2.lt j hj).1); have h03 := hs0.below (below2 b1 b3); have h13 := hs1.below (below2 b1 b3); obtain ⟨aw, cw, rfl, pa3⟩ := owned_ps (n := n + n') (L := L ++ M) (by rw [flat_append]; simpa using ho3) HA.out)
      | (at_builtin; refine wpList_append_dots rfl _ _ rfl w1.heap.size (.slice none 0 0) 0 [] rfl (World.ownsRow_nil _ _ _ _) a n c L rfl (hs0.below b1) (by omega) (Nat.le_refl _) ?_; intro v2 w2 ho2 hg2; have b2 : RowKit.Below w1.heap.size w1 w2 := (Below.refl _ _).grown hg2 (Nat.le_refl _) (fun j hj => by simp [Value.ownBlock] at hj))
      | (go_at_call 8; refine (awake_any w).mono ?_; rintro e w1 ⟨rfl, b1⟩))
    have pa := pa3.below (below2 (below2 (below2 (below2 (below2 (below2 (below2 (below2 (below2 (below2 (below2 (below2 (below2 b4 b5) b6) b7) b8) b9) b10) b11) b12) b13) b14) b15) b16) b17)
    have hownL := own_below hown b17
    have bw := below2 (below2 b1 b3) (below2 (below2 (below2 (below2 (below2 (below2 (below2 (below2 (below2 (below2 (below2 (below2 (below2 b4 b5) b6) b7) b8) b9) b10) b11) b12) b13) b14) b15) b16) b17)
    have hcw := pa.cap
    have hAw := hd0.append hd1
    have HT := hid hT
    clear p4 p5 p7 p8 p10 p11 p13 p14 p17 hown hlr hT pa3 h03 h13 hs0 hs1
    go_loopw [12] (fun i wr => (i = .int .i64 (-1) ∨ ∃ j : Nat, j < n + n' ∧ i = .int .i64 j) ∧ ∃ q0, wr = w17.drewN q0) (fun i _ => (intOf i + 1).toNat)
    case atStart =>
      refine ⟨?_, 0, rfl⟩
      by_cases h0 : n + n' = 0
      · left
        congr 1
        omega
      · right
        exact ⟨n + n' - 1, by omega, by congr 1; omega⟩
    case round =>
      obtain ⟨hi, hw0⟩ := hrel
      have hW := hid hw0
      have pr : PS wr aw (n + n') cw (L ++ M) := by obtain ⟨q0, h⟩ := hw0; rw [h]; exact pa.drewN q0
      have hor : wr.ownsMap Try.prog 23 (plainElem (H := Unit) Try.prog 3) q (n + n') D := by obtain ⟨q0, h⟩ := hw0; rw [h]; exact hownL
      clear hw0
      rcases hi with rfl | ⟨j, hj, rfl⟩
      · go_wp2
        go_ret
        refine ⟨rfl, ?_⟩
        obtain ⟨q0, h⟩ := hW.out
        rw [h]
        exact below2 bw (drewN_below w17 q0)
      · obtain ⟨g, o, rfl, hg, hcell⟩ := pr.at (by omega)
        have hjA : j < (L ++ M).length := by rw [HA.out]; exact hj
        obtain ⟨p, hpl, hpj, hpA⟩ := pl_get hjA
        have hpA2 : p < (L ++ M).length := by omega
        obtain ⟨hc0, hc1⟩ := hcell j hjA
        obtain ⟨he0, he1⟩ := hcell p hpA2
        have hep : (L ++ M)[p]'hpA2 = (L ++ M)[j]'hjA := by
          rw [List.getElem?_eq_getElem hpA2] at hpA
          simpa using hpA
        rw [hep] at he0 he1
        have hdw := hAw _ (List.getElem_mem hjA)
        have hrun := look_ok_run hor HT.out hdw hpl
        generalize ((L ++ M)[j]'hjA) = d at hc0 hc1 he0 he1 hrun
        obtain ⟨d1, d2⟩ := d
        have C0 : ∀ m, (wr.drewN m).cell? ⟨g, o + j * 2, none⟩ = some (.int .i64 d1) := fun _ => hc0
        have C1 : ∀ m, (wr.drewN m).cell? ⟨g, o + j * 2 + 1, none⟩ = some (.int .i64 d2) := fun _ => hc1
        have E0 : ∀ m, (wr.drewN m).cell? ⟨g, o + p * 2, none⟩ = some (.int .i64 d1) := fun _ => he0
        have E1 : ∀ m, (wr.drewN m).cell? ⟨g, o + p * 2 + 1, none⟩ = some (.int .i64 d2) := fun _ => he1
        have hdec : decide ((j : Int) < (p : Int)) = false := by simp; omega
        have hp1 : (p : Int) < (n : Int) + (n' : Int) := by have := HA.out; omega
        have hj1 : (j : Int) < (n : Int) + (n' : Int) := by omega
        have hp0 : (0 : Int) ≤ (p : Int) := by omega
        have hj0 : (0 : Int) ≤ (j : Int) := by omega
        clear hcell hpl hpA hep hpA2 hdw hjA pr hor HT
        go_wp2_with fail
        go_quiet (fail)
        go_wp2
        go_roundw
        case rel =>
          refine ⟨?_, drew_more hW.out _⟩
          by_cases h0 : j = 0
          · left
            subst h0
            simp
          · right
            exact ⟨j - 1, by omega, by congr 1; omega⟩
        case measure => simp [intOf]

namespace dotsJoins
open Go.ChangeShapes Go.WideShapes Go.ChangeAt Go.RowKit
open Go.ChangeMaps (open_string shut_string)
set_option linter.unusedVariables false

theorem own : ownKnob Try.prog.godebug = none := by kernel_rfl
theorem laidOut : laidOutB Try.prog = true := by kernel_rfl

set_option maxRecDepth 100000 in
theorem lifted (os : Os) (started : os.Started) (H : Type) (enc : TypeId × Value → H) :
    ReturnsInHanded {} Try.checked os 4 .any (Rows.dotsJoinsSpec.pre6 enc Try.prog Try.f4 Rows.dotsJoinsRow.domain false) (Rows.dotsJoinsSpec.post enc Try.prog Try.f4 false true false false) := by
  refine returnsInHanded_of_change (C := Try.checked) own started (by kernel_rfl) Try.func4
    (ChangeSpec.witness6 (enc := enc) (C := Try.checked) false ⟨#[], #[.slice none 0 0, .slice none 0 0], []⟩ 8 (by kernel_rfl) (by kernel_rfl) (by kernel_rfl) (by kernel_rfl)) ?_
  intro W base args ds gs before hval0 hW hcnd _
  have hval : ∀ (j : Nat) t v, Try.f4.params[j]? = some t → args[j]? = some v → Value.okWide Try.prog W .any base t v := hval0
  have hW' := hW
  obtain ⟨p, q, hA0, hV, rfl, hfz, hnd⟩ := hW
  have hA : DataW.TrodAll enc Try.prog W 0 (fun _ => true) true Try.f4.params.toList args.toList ds p := hA0
  rw [Try.params4] at hA hval
  obtain ⟨v0, vs0, d0, ds0, p0, q0, hargs, rfl, rfl, h0, r0⟩ := trodAll_cons hA
  obtain ⟨v1, vs1, d1, ds1, p1, q1, rfl, rfl, rfl, h1, r1⟩ := trodAll_cons r0
  obtain ⟨rfl, rfl, rfl⟩ := trodAll_nil r1
  obtain rfl : args = #[v0, v1] := by cases args; simp_all
  obtain ⟨rfl, rfl⟩ := trodVars_none hV
  obtain ⟨a0, len0, cap0, rfl⟩ := okWide_slice Try.underlying28 (hval 0 28 v0 rfl rfl)
  obtain ⟨a1, len1, cap1, rfl⟩ := okWide_slice Try.underlying28 (hval 1 28 v1 rfl rfl)
  have k0 := h0
  have k1 := h1
  have lt0 : ∀ x ∈ p0, x.block < W.heap.size := by obtain ⟨m, hm⟩ := k0; exact DataW.trod_lt m _ _ _ hm
  have lt1 : ∀ x ∈ p1, x.block < W.heap.size := by obtain ⟨m, hm⟩ := k1; exact DataW.trod_lt m _ _ _ hm
  obtain ⟨z0, w0, u0⟩ := open_dots h0
  obtain ⟨z1, w1, u1⟩ := open_dots h1
  clear hA0 hval0
  refine (joins_walk a0 len0 cap0 z0 a1 len1 cap1 z1 W w0 u0 w1 u1).mono fun e W' ⟨he, bel⟩ => ?_
  subst he
  exact ⟨_, rfl, _, _, _, [], _, [], hW', trodAll_mk1 (shut_bool Try.underlying4 _),
    (trodAll_cons_mk (Below.trod laidOut (by kernel_rfl) (of_decide_eq_true (by kernel_rfl)) k0 bel lt0) (trodAll_cons_mk (Below.trod laidOut (by kernel_rfl) (of_decide_eq_true (by kernel_rfl)) k1 bel lt1) trodAll_mk0)), rfl, bel.frame _, fun h => by cases h⟩

theorem over : Rows.dotsJoinsRow.holds Try.pinned (OpenSpec.ofChange Rows.dotsJoinsSpec) :=
  OpenClaim.holds_of_wide 4 Try.f4 rfl rfl rfl rfl rfl rfl rfl ⟨rfl, rfl, rfl, rfl, rfl⟩ rfl rfl rfl rfl rfl (by kernel_rfl) Try.func4 (by kernel_rfl)
    (of_decide_eq_true (by kernel_rfl)) (by unfold Func.isWrapper; first | (rw [if_pos (by decide +kernel)]; kernel_rfl) | (rw [if_neg (by decide +kernel)]; exact ⟨rfl, rfl⟩))
    (fun os started H enc _ => lifted os started H enc)

end dotsJoins

/-- The statement. -/
theorem dotsJoins_holds : Rows.DotsJoinsSaid := dotsJoins.over
#print axioms dotsJoins_holds
end Go.Proofs.Ytmkjfgedhcidcaa
