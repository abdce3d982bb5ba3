/- For any row of dots DotsRises answers true: put in order it rises, has just the dots that were there, and is the same when put in order once more. No condition. -/
import Derived.Test.YtmkjfgedhcidcaaDArg
import Derived.Shelf.SlSortCmp.QuietGrown
import Derived.BigQuiet
import Derived.WalkKit
import Derived.WalkSpells
import Derived.WalkLawsBesides
import Derived.ProofKit
import Derived.OpenShut
import Derived.ShutString
import Derived.ChangeOld
import Derived.Below
namespace Go.Proofs.Ytmkjfgedhcidcaa
open Go.RowKit
open Go.Sort (grow)

theorem up_get {l : List Dt} (h : Up l) {i j : Nat} (hi : i < l.length) (hj : j < l.length) (hij : i < j) : dl l[i] l[j] = true := List.pairwise_iff_getElem.1 h i j hi hj hij

theorem in_cls {a : Option Addr} {n c : Nat} {L : List Dt} {x : Dt} {w : World} (hs : PS w a n c L) (hn : n ≤ 1000000) (hx : x ∈ L) (m : Nat) (os : Array Obj) :
    Calls Try.prog 29 #[.slice a n c, dv x] (grow (w.drewN m) os) fun e w'' => e = .returned (.bool true) ∧ ∃ p : GrownBy, w'' = grow (w.drewN p.n) p.os := by
  have h := in_any a n c L x (grow (w.drewN m) os) (hs.below (below_class w m os)) hn
  have e : decide (x ∈ L) = true := by simp [hx]
  rw [e] at h
  exact Calls.grown_of h

set_option maxRecDepth 100000 in
set_option maxHeartbeats 4000000 in
theorem rises_walk (a : Option Addr) (n c : Nat) (L : List Dt) (w : World) (hs : PS w a n c L) (hd : Dws L) :
    Calls Try.prog 7 #[.slice a n c] w fun e w' => e = .returned (.bool true) ∧ RowKit.Below w.heap.size w w' := by
  have mixed : Try.prog.follows .mixedOrders = true := by kernel_rfl
  have hcap := hs.cap
  have hmax := hs.max
  unfold maxLen at hmax
  by_cases hbig : 200 < n
  · clear hs
    go_enter Try.func7, Try.ntmps7
    go_wp2_with (first | (go_at_call 8; refine (awake_any w).mono ?_; rintro e w1 ⟨rfl, b1⟩))
    go_ret
    exact ⟨rfl, b1⟩
  · have hn : n ≤ 200 := by omega
    have HL := hid hs.len
    have hrl : (rise L).length ≤ 200 := Nat.le_trans (rise_length L) (by rw [HL.out]; exact hn)
    have hup := up_rise L
    have hmem := fun d => mem_rise d L
    have hrw := hd.rise
    have hrr := rise_of_up hup
    have hmis := hid (mis_rise L)
    have HRR := hid hrr
    clear hrr
    obtain ⟨R, hR0⟩ : ∃ R, rise L = R := ⟨_, rfl⟩
    have HR0 := hid hR0
    rw [hR0] at hrl hup hmem hrw hmis HRR
    clear hR0
    have hr0 := fun w1 (b1 : RowKit.Below w.heap.size w w1) => rising_any sortSays a n c L w1 (hs.below b1) hd (by omega)
    rw [HR0.out] at hr0
    go_enter Try.func7, Try.ntmps7
    go_wp2_with (first
      | (go_at_call 14; refine (hr0 w1 b1).mono ?_; rintro e w2 ⟨g, c2, rfl, ho2, b2⟩)
      | (go_at_call 8; refine (awake_any w).mono ?_; rintro e w1 ⟨rfl, b1⟩))
    have hp2 := ho2.ps rfl
    have hcap2 := hp2.cap
    have b2' := below2 b1 b2
    have hs2 := hs.below b2'
    clear hr0 hs ho2
    go_loopw [5] (fun i wr => ∃ k : Nat, k ≤ R.length ∧ i = .int .i64 k ∧ RowKit.Below w2.heap.size w2 wr) (fun i _ => R.length - (intOf i).toNat)
    case atStart => exact ⟨0, by omega, rfl, Below.refl _ _⟩
    case round =>
      obtain ⟨k, hk, rfl, hbl⟩ := hrel
      have hs3 := hs2.below hbl
      have hp3 := hp2.below hbl
      by_cases hlt : k < R.length
      · obtain ⟨g', o', hge, hg, hcell⟩ := hp3.at (by omega)
        cases hge
        obtain ⟨hc0, hc1⟩ := hcell k (by omega)
        have hin := fun m os => in_cls hs3 (by omega) ((hmem _).1 (List.getElem_mem (l := R) (n := k) hlt)) m os
        cases k with
        | zero =>
          simp only [Nat.zero_mul, Nat.add_zero] at hc0 hc1
          generalize (R[0]'(by omega)) = d at hc0 hc1 hin
          obtain ⟨d1, d2⟩ := d
          have C0 := fun m os => cell_grown (a := ⟨g, 0, none⟩) hg hc0 m os
          have C1 := fun m os => cell_grown (a := ⟨g, 1, none⟩) hg hc1 m os
          have hdec : decide ((0 : Int) < ((0 : Nat) : Int)) = false := by simp
          have hlt' : (0 : Int) < (R.length : Int) := by omega
          clear hcell hs3 hp3 hs2 hp2 hc0 hc1
          go_wp2_with fail
          refine wp_region_quiet_grown mixed (by kernel_rfl) ?_
          repeat (go_big_quiet_step ((first | (go_at_call 29; exact hin _ _))))
          refine wpQuiet_nil ?_
          intro _ hw'
          obtain ⟨⟨nq, osq⟩, hw''⟩ := hw'
          subst hw''
          simp only []
          go_wp2
          go_roundw
          case rel => exact ⟨1, by omega, by go_num, hbl.trans ((below_class wr nq osq).mono hbl.size)⟩
          case measure => simp [intOf]; omega
        | succ k =>
          obtain ⟨he0, he1⟩ := hcell k (by omega)
          have hle := up_get hup (i := k) (j := k + 1) (by omega) hlt (by omega)
          simp only [Nat.zero_add] at hc0 hc1 he0 he1
          generalize (R[k + 1]'(by omega)) = d at hc0 hc1 hin hle
          generalize (R[k]'(by omega)) = e at he0 he1 hle
          obtain ⟨d1, d2⟩ := d
          obtain ⟨e1, e2⟩ := e
          have hles := fun m os => Calls.grown_of (w := wr) (n := m) (os := os) (less_q (e1, e2) (d1, d2) _)
          rw [hle] at hles
          have C0 := fun m os => cell_grown (a := ⟨g, (k + 1) * 2, none⟩) hg hc0 m os
          have C1 := fun m os => cell_grown (a := ⟨g, (k + 1) * 2 + 1, none⟩) hg hc1 m os
          have E0 := fun m os => cell_grown (a := ⟨g, k * 2, none⟩) hg he0 m os
          have E1 := fun m os => cell_grown (a := ⟨g, k * 2 + 1, none⟩) hg he1 m os
          have hlt1 : (k : Int) + 1 < (R.length : Int) := by omega
          have hlt2 : (k : Int) < (R.length : Int) := by omega
          have hk0 : (0 : Int) ≤ (k : Int) := by omega
          have hk1 : (0 : Int) < (k : Int) + 1 := by omega
          clear hcell hs3 hp3 hs2 hp2 hc0 hc1 he0 he1 hle
          go_wp2_with fail
          refine wp_region_quiet_grown mixed (by kernel_rfl) ?_
          repeat (go_big_quiet_step ((first | (go_at_call 9; exact hles _ _) | (go_at_call 29; exact hin _ _))))
          refine wpQuiet_nil ?_
          intro _ hw'
          obtain ⟨⟨nq, osq⟩, hw''⟩ := hw'
          subst hw''
          simp only []
          go_wp2
          go_roundw
          case rel => exact ⟨k + 1 + 1, by omega, by go_num, hbl.trans ((below_class wr nq osq).mono hbl.size)⟩
          case measure => simp [intOf]; omega
      · obtain rfl : k = R.length := by omega
        have b3 := below2 b2' hbl
        have hl := HL.out
        have hin2 : ∀ (wq : World), RowKit.Below wr.heap.size wr wq → ∀ k (hk : k < L.length), Calls Try.prog 29 #[.slice (some ⟨g, 0, none⟩) R.length c2, dv L[k]] wq fun e w' => e = .returned (.bool true) ∧ Far wq w' := fun wq hq k hk => by
          have h := in_any (some ⟨g, 0, none⟩) R.length c2 R L[k] wq (hp3.below hq) (by omega)
          have e : decide (L[k] ∈ R) = true := by simp [(hmem _).2 (List.getElem_mem hk)]
          rw [e] at h
          exact h
        clear hs2 hp2
        go_wp2
        clear hl
        go_loopw [6] (fun i wq => ∃ k : Nat, k ≤ n ∧ i = .int .i64 k ∧ RowKit.Below wr.heap.size wr wq) (fun i _ => n - (intOf i).toNat)
        case atStart => exact ⟨0, by omega, rfl, Below.refl _ _⟩
        case round =>
          obtain ⟨k2, hk2, rfl, hbl2⟩ := hrel
          have hs4 := hs3.below hbl2
          have hp4 := hp3.below hbl2
          by_cases hlt2 : k2 < n
          · obtain ⟨g1, o1, rfl, hg1, hcell1⟩ := hs4.at (by omega)
            obtain ⟨hc0, hc1⟩ := hcell1 k2 (by rw [HL.out]; exact hlt2)
            have h2 := hin2 wr hbl2 k2 (by rw [HL.out]; exact hlt2)
            generalize (L[k2]'(by rw [HL.out]; exact hlt2)) = d at hc0 hc1 h2
            obtain ⟨d1, d2⟩ := d
            clear hcell1 hs4 hp4 hin2 hs3 hp3
            go_wp2_with (first | (go_at_call 29; refine h2.mono ?_; rintro e w4 ⟨rfl, f4⟩))
            go_roundw
            case rel => exact ⟨k2 + 1, by omega, by go_num, below2 hbl2 f4.below⟩
            case measure => simp [intOf]; omega
          · obtain rfl : k2 = n := by omega
            have hri : Calls Try.prog 14 #[.slice (some ⟨g, 0, none⟩) R.length c2] wr (Gives wr R) := by
              have := rising_any sortSays (some ⟨g, 0, none⟩) R.length c2 R wr hp4 hrw (by omega)
              rw [HRR.out] at this
              exact this
            have hmi : ∀ w6, RowKit.Below wr.heap.size wr w6 → Calls Try.prog 19 #[.slice a k2 c, .slice (some ⟨g, 0, none⟩) R.length c2] w6 (Gives w6 []) := fun w6 b => by
              have := minus_any sortSays a k2 c L (some ⟨g, 0, none⟩) R.length c2 R w6 (hs4.below b) hd (by omega) (hp4.below b) hrw (by omega)
              rw [hmis.out] at this
              exact this
            have hsa : ∀ g5 c5 w5, PS w5 (some ⟨g5, 0, none⟩) R.length c5 R → RowKit.Below wr.heap.size wr w5 → Calls Try.prog 13 #[.slice (some ⟨g5, 0, none⟩) R.length c5, .slice (some ⟨g, 0, none⟩) R.length c2] w5 fun e w' => e = .returned (.bool true) ∧ ∃ q, w' = w5.drewN q := fun g5 c5 w5 hp5 b => by
              have := same_any (some ⟨g5, 0, none⟩) R.length c5 R (some ⟨g, 0, none⟩) R.length c2 R w5 hp5 (hp4.below b) (by omega) (by omega)
              have e : decide (R = R) = true := by simp
              rw [e] at this
              exact this
            have b4 := below2 b3 hbl2
            clear hs4 hp4 hin2 hs3 hp3
            go_wp2_with (first
              | (go_at_call 19; refine (hmi w6 b6).mono ?_; rintro e w7 ⟨g7, c7, rfl, ho7, b7⟩)
              | (go_at_call 13; refine (hsa g5 c5 w5 (ho5.ps rfl) b5).mono ?_; rintro e w6 ⟨rfl, q6, h6⟩; have b6 : RowKit.Below wr.heap.size wr w6 := (by rw [h6]; exact b5.trans ⟨rfl, rfl, rfl, Nat.le_refl _, fun _ _ => rfl⟩); clear h6)
              | (go_at_call 14; refine hri.mono ?_; rintro e w5 ⟨g5, c5, rfl, ho5, b5⟩))
            go_ret
            exact ⟨rfl, below2 b4 (below2 b6 b7)⟩

namespace dotsRises
open Go.ChangeShapes Go.WideShapes Go.ChangeAt Go.RowKit
open Go.ChangeMaps (open_string shut_string)
set_option linter.unusedVariables false

theorem own : ownKnob Try.prog.godebug = none := by kernel_rfl
theorem laidOut : laidOutB Try.prog = true := by kernel_rfl

set_option maxRecDepth 100000 in
theorem lifted (os : Os) (started : os.Started) (H : Type) (enc : TypeId × Value → H) :
    ReturnsInHanded {} Try.checked os 7 .any (Rows.dotsRisesSpec.pre6 enc Try.prog Try.f7 Rows.dotsRisesRow.domain false) (Rows.dotsRisesSpec.post enc Try.prog Try.f7 false true false false) := by
  refine returnsInHanded_of_change (C := Try.checked) own started (by kernel_rfl) Try.func7
    (ChangeSpec.witness6 (enc := enc) (C := Try.checked) false ⟨#[], #[.slice none 0 0], []⟩ 8 (by kernel_rfl) (by kernel_rfl) (by kernel_rfl) (by kernel_rfl)) ?_
  intro W base args ds gs before hval0 hW hcnd _
  have hval : ∀ (j : Nat) t v, Try.f7.params[j]? = some t → args[j]? = some v → Value.okWide Try.prog W .any base t v := hval0
  have hW' := hW
  obtain ⟨p, q, hA0, hV, rfl, hfz, hnd⟩ := hW
  have hA : DataW.TrodAll enc Try.prog W 0 (fun _ => true) true Try.f7.params.toList args.toList ds p := hA0
  rw [Try.params7] at hA hval
  obtain ⟨v0, vs0, d0, ds0, p0, q0, hargs, rfl, rfl, h0, r0⟩ := trodAll_cons hA
  obtain ⟨rfl, rfl, rfl⟩ := trodAll_nil r0
  obtain rfl : args = #[v0] := by cases args; simp_all
  obtain ⟨rfl, rfl⟩ := trodVars_none hV
  obtain ⟨a0, len0, cap0, rfl⟩ := okWide_slice Try.underlying28 (hval 0 28 v0 rfl rfl)
  have k0 := h0
  have lt0 : ∀ x ∈ p0, x.block < W.heap.size := by obtain ⟨m, hm⟩ := k0; exact DataW.trod_lt m _ _ _ hm
  obtain ⟨z0, w0, u0⟩ := open_dots h0
  clear hA0 hval0
  refine (rises_walk a0 len0 cap0 z0 W w0 u0).mono fun e W' ⟨he, bel⟩ => ?_
  subst he
  exact ⟨_, rfl, _, _, _, [], _, [], hW', trodAll_mk1 (shut_bool Try.underlying4 _),
    (trodAll_cons_mk (Below.trod laidOut (by kernel_rfl) (of_decide_eq_true (by kernel_rfl)) k0 bel lt0) trodAll_mk0), rfl, bel.frame _, fun h => by cases h⟩

theorem over : Rows.dotsRisesRow.holds Try.pinned (OpenSpec.ofChange Rows.dotsRisesSpec) :=
  OpenClaim.holds_of_wide 7 Try.f7 rfl rfl rfl rfl rfl rfl rfl ⟨rfl, rfl, rfl, rfl, rfl⟩ rfl rfl rfl rfl rfl (by kernel_rfl) Try.func7 (by kernel_rfl)
    (of_decide_eq_true (by kernel_rfl)) (by unfold Func.isWrapper; first | (rw [if_pos (by decide +kernel)]; kernel_rfl) | (rw [if_neg (by decide +kernel)]; exact ⟨rfl, rfl⟩))
    (fun os started H enc _ => lifted os started H enc)

end dotsRises

/-- The statement. -/
theorem dotsRises_holds : Rows.DotsRisesSaid := dotsRises.over
#print axioms dotsRises_holds
end Go.Proofs.Ytmkjfgedhcidcaa
