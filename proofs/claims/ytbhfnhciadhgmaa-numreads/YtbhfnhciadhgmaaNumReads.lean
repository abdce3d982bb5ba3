/- For any bytes and any row of calls NumReads answers true: what the program's reader answers is what the reference's does. No condition. -/
import Derived.Test.YtbhfnhciadhgmaaRefW
import Derived.WalkKit
import Derived.ProofKit
import Derived.OpenShut
import Derived.ShutString
import Derived.ChangeOld
import Derived.Below
import Derived.Deep.QuietTactic
import Derived.BigQuiet
import Derived.Deep.CutBlock
namespace Go.Proofs.Ytbhfnhciadhgmaa
open Go.RowKit

/-- Both readers have the same bytes left and the same error. -/
def Both (w : World) (rb cb z : Nat) (wr : World) : Prop :=
  ∃ L e, Rdr wr rb z L e ∧ Rdr wr cb z L e ∧ Below w.heap.size w wr

def ReadsRel (w : World) (rb cb z : Nat) (n : Nat) (i : Value) (wr : World) : Prop :=
  ∃ k : Nat, k ≤ n ∧ i = .int .i64 k ∧ Both w rb cb z wr

theorem test_in {k n len : Nat} (h : n ≤ 100 ∧ n ≤ len ∧ (100 ≤ n ∨ len ≤ n)) (hk : k < len) : decide ((k : Int) < 100) = decide (k < n) := by
  rw [decide_eq_decide]; omega
theorem test_out {k n len : Nat} (h : n ≤ 100 ∧ n ≤ len ∧ (100 ≤ n ∨ len ≤ n)) (hk : ¬ k < len) : false = decide (k < n) := by
  symm; rw [decide_eq_false_iff_not]; omega

theorem ISrc.cut100 {k : IntKind} {w : World} {a : Option Addr} {len : Nat} {Z : List Int} (h : ISrc k w a len Z) : ∃ X : List Int, (X.length ≤ 100 ∧ X.length ≤ len ∧ (100 ≤ X.length ∨ len ≤ X.length)) ∧ len ≤ 9223372036854775807 ∧ (∀ i, i < X.length → (Lit.int k (X[i]?.getD 0)).wf = true) ∧
    (0 < len → ∃ g off, a = some ⟨g, off, none⟩ ∧ g < w.heap.size ∧ ∀ i, i < X.length → w.cell? ⟨g, off + i, none⟩ = some (.int k (X[i]?.getD 0))) := by
  obtain ⟨hl, hm, hw, hc⟩ := h
  refine ⟨Z.take 100, by rw [List.length_take, hl]; omega, hm, fun i hi => ?_, fun hp => ?_⟩
  · rw [List.getElem?_eq_getElem hi]
    exact hw _ (List.mem_of_mem_take (List.getElem_mem hi))
  · obtain ⟨g, off, ha, hg, hcc⟩ := hc hp
    refine ⟨g, off, ha, hg, fun i hi => ?_⟩
    rw [List.length_take, hl] at hi
    rw [hcc i (by omega), List.getElem?_take_of_lt (by omega)]

theorem two_readers {w : World} {b c n cap : Nat} {a : Option Addr} {L : List Int} (hb : Rd w b (.slice a n cap) 0) (hc : Rd w c (.slice a n cap) 0) (hs : Src w a n L) (hl : n ≤ cap) (hcap : cap ≤ 9223372036854775807) (hB : Bts L) (hlt : ∀ ad, 0 < n → a = some ad → ad.block < b ∧ ad.block < c) :
    ∃ z, z ≠ b ∧ z ≠ c ∧ Rdr w b z L 0 ∧ Rdr w c z L 0 := by
  by_cases hp : 0 < n
  · obtain ⟨g, off, rfl, _⟩ := hs.flat hp
    have := hlt _ hp rfl
    simp at this
    exact ⟨g, by omega, by omega, ⟨_, n, cap, hb, hs, hl, hcap, ⟨fun ad _ h => by simp at h; subst h; rfl, by omega⟩, hB, fun h => absurd rfl h⟩, ⟨_, n, cap, hc, hs, hl, hcap, ⟨fun ad _ h => by simp at h; subst h; rfl, by omega⟩, hB, fun h => absurd rfl h⟩⟩
  · exact ⟨b + c + 1, by omega, by omega, ⟨_, n, cap, hb, hs, hl, hcap, ⟨fun ad h _ => absurd h hp, by omega⟩, hB, fun h => absurd rfl h⟩, ⟨_, n, cap, hc, hs, hl, hcap, ⟨fun ad h _ => absurd h hp, by omega⟩, hB, fun h => absurd rfl h⟩⟩

theorem rerr_any (w : World) (b z : Nat) (L : List Int) (e : Int) (h : Rdr w b z L e) :
    Calls Try.prog 28 #[.pointer (some ⟨b, 0, none⟩)] w fun r w' => r = .returned (.int .i64 e) ∧ w = w' := by
  obtain ⟨a, len, cap, hr, _⟩ := h
  exact err_any w b _ e hr

theorem Rdr.drewN {w : World} {b z : Nat} {L : List Int} {e : Int} (h : Rdr w b z L e) (q : Nat) : Rdr (w.drewN q) b z L e := by
  obtain ⟨a, len, cap, hr, hs, rest⟩ := h
  exact ⟨a, len, cap, ⟨hr.c0, hr.c1, hr.f0, hr.f1⟩, hs, rest⟩

theorem tdiv6 (x : Int) (h0 : -9223372036854775808 ≤ x) (h1 : x ≤ 9223372036854775807) : -9223372036854775808 ≤ x.tdiv 6 ∧ x.tdiv 6 ≤ 9223372036854775807 := by
  rcases Int.le_total 0 x with h | h
  · rw [Int.tdiv_eq_ediv_of_nonneg h]; omega
  · have : x.tdiv 6 = - ((-x).tdiv 6) := by rw [Int.neg_tdiv, Int.neg_neg]
    rw [this, Int.tdiv_eq_ediv_of_nonneg (by omega)]; omega

/-- What is left, and the error, behind an error that is made. -/
def fl (L : List Int) (e y : Int) : List Int × Int := if e = 0 ∧ y ≠ 0 then ([], y) else (L, e)

theorem rfail_all (w : World) (b z : Nat) (L : List Int) (e y : Int) (h : Rdr w b z L e) :
    Calls Try.prog 25 #[.pointer (some ⟨b, 0, none⟩), .int .i64 y] w fun r w' => r = .returned (.tuple #[]) ∧ Rdr w' b z (fl L e y).1 (fl L e y).2 ∧ Only b w w' := by
  unfold fl
  by_cases he : e = 0
  · subst he
    by_cases hy : y = 0
    · subst hy
      rw [if_neg (by simp)]
      obtain ⟨a, len, cap, hr, rest⟩ := id h
      refine (fail_zero w b _ 0 hr).mono ?_
      rintro r w' ⟨rfl, rfl⟩
      exact ⟨rfl, h, Only.refl _ _⟩
    · rw [if_pos ⟨rfl, hy⟩]
      exact rfail_any h y (by simpa using hy)
  · rw [if_neg (by simp [he])]
    obtain ⟨a, len, cap, hr, rest⟩ := id h
    refine (fail_dead w b _ e y hr (by simpa using he)).mono ?_
    rintro r w' ⟨rfl, rfl⟩
    exact ⟨rfl, h, Only.refl _ _⟩

theorem wfail_all (w : World) (b z : Nat) (L : List Int) (e y : Int) (h : Rdr w b z L e) :
    Calls Try.prog 26 #[.pointer (some ⟨b, 0, none⟩), .int .i64 y] w fun r w' => r = .returned (.tuple #[]) ∧ Rdr w' b z (fl L e y).1 (fl L e y).2 ∧ Only b w w' := by
  unfold fl
  by_cases he : e = 0
  · subst he
    by_cases hy : y = 0
    · subst hy
      rw [if_neg (by simp)]
      obtain ⟨a, len, cap, hr, rest⟩ := id h
      refine (wfail_zero w b _ 0 hr).mono ?_
      rintro r w' ⟨rfl, rfl⟩
      exact ⟨rfl, h, Only.refl _ _⟩
    · rw [if_pos ⟨rfl, hy⟩]
      exact wrfail_any h y (by simpa using hy)
  · rw [if_neg (by simp [he])]
    obtain ⟨a, len, cap, hr, rest⟩ := id h
    refine (wfail_dead w b _ e y hr (by simpa using he)).mono ?_
    rintro r w' ⟨rfl, rfl⟩
    exact ⟨rfl, h, Only.refl _ _⟩

set_option maxRecDepth 20000 in
set_option maxHeartbeats 4000000 in
theorem numReads_walk (a0 : Option Addr) (len0 cap0 : Nat) (z0 : List Int) (a1 : Option Addr) (len1 cap1 : Nat) (Z1 : List Int) (w : World) (w0 : IsRow .u8 w a0 len0 cap0 z0) (h1 : ISrc .i64 w a1 len1 Z1) :
    Calls Try.prog 4 #[.slice a0 len0 cap0, .slice a1 len1 cap1] w fun e w' => e = .returned (.bool true) ∧ Below w.heap.size w w' := by
  obtain ⟨hs, hB, hlc, hcap⟩ := w0.src
  have hblk := src_block hs
  generalize hBe : z0.take len0 = B at *
  clear hBe w0
  obtain ⟨X1, n1, m1, wf1, c1'⟩ := h1.cut100
  have c1 := hid c1'
  clear h1 c1'
  go_enter Try.func4, Try.ntmps4
  go_wp2_with (first
    | (go_at_call 9; refine (awake_any _).mono ?_; rintro e w1 ⟨rfl, hb1⟩)
    | (go_at_call 16; refine (read_any _ _ _ _ _ rfl).mono ?_; rintro e w2 ⟨rfl, hr2, hb2⟩))
  obtain ⟨w3, hw3⟩ : ∃ w3, w3 = w2.alloc (Obj.cells #[Value.slice a0 len0 cap0, Value.int IntKind.i64 0] 38) := ⟨_, rfl⟩
  have hr3 : Rd w3 w2.heap.size (.slice a0 len0 cap0) 0 := by
    subst hw3
    refine ⟨?_, ?_, ?_, ?_⟩
    all_goals go_simp
  have hb3 : Below w2.heap.size w2 w3 := by rw [hw3]; exact new_below w2 _
  rw [← hw3]
  clear hw3
  have hsz1 : w1.heap.size < w2.heap.size := hr2.lt
  obtain ⟨z, hzb, hzc, hRb, hRc⟩ := two_readers (hr2.below hb3) hr3 (((hs.below hb1).below hb2).below hb3) hlc hcap hB (fun ad hp ha => by have := hblk ad hp ha; have := hb1.size; omega)
  have hbb : Below w.heap.size w w3 := bnext (bnext hb1 hb2) hb3
  have hsz0 := hb1.size
  clear hr2 hr3 hb2 hb3 hs hB hlc hcap hblk hb1
  generalize hrb : w1.heap.size = rb at *
  generalize hcb : w2.heap.size = cb at *
  clear hrb hcb
  go_loopw [8] (fun i wr => ReadsRel w rb cb z X1.length i wr) (fun i _ => 100 - (intOf i).toNat)
  case atStart => exact ⟨0, by omega, rfl, B, 0, hRb, hRc, hbb⟩
  case round =>
    clear hRb hRc hbb
    obtain ⟨k, hk, rfl, L, e, hRb, hRc, hb⟩ := hrel
    go_upto_region 7 with fail
    go_cut [27] from 20 to 98 (fun s wc => s = .bool (decide (k < X1.length)) ∧ wc = wr)
    case first =>
      by_cases hkl : k < len1
      · go_wp2_with fail
        go_meet
        exact ⟨by rw [test_in n1 hkl], rfl⟩
      · go_wp2_with fail
        go_meet
        exact ⟨by rw [test_out n1 hkl], rfl⟩
    case rest =>
      obtain ⟨hbool, rfl⟩ := hcut
      by_cases hlt : k < X1.length
      · rw [decide_eq_true hlt] at hbool
        subst hbool
        obtain ⟨g, off, rfl, hg, hc⟩ := c1.out (by omega)
        have hck := hc k hlt
        rw [← hb.cell (p := ⟨g, off + k, none⟩) hg] at hck
        have hkl : k < len1 := by omega
        have hbd := bounds_i64 (wf1 k hlt)
        generalize hx : X1[k]?.getD 0 = x at *
        clear hx hc c1 wf1
        go_upto_block 2 with fail
        have hq := tdiv6 x hbd.1 hbd.2
        generalize hm6 : x.tmod 6 = m
        clear hm6
        go_cut [10] from 20 to 98 (fun s wd => s = .bool true ∧ Both w rb cb z wd)
        case first =>
          have hbc : rb ≠ cb := by omega
          have hcr : cb ≠ rb := by omega
          clear n1 m1 hk hlt hck hkl hg
          by_cases h0 : m = 0 ∨ m = 1
          · have hU := ruint_any _ _ _ _ _ hRb
            have hV := fun W => wuint_any W cb z L e
            generalize dec L e = d at hU hV
            obtain ⟨n, L', e'⟩ := d
            rcases h0 with rfl | rfl
            all_goals go_wp2_with (first
              | (go_at_call 17; refine hU.mono ?_; rintro r wA ⟨rfl, hA, hoA⟩)
              | (go_at_call 18; refine (hV _ (hRc.only hoA hcr hzb)).mono ?_; rintro r wB ⟨rfl, hB, hoB⟩))
            all_goals go_meet
            all_goals exact ⟨by simp, L', e', hA.only hoB hbc hzc, hB, (hb.trans (hoA.below (by omega))).trans (hoB.below (by omega))⟩
          · have b0 : (m == 0) = false := by simp; omega
            have b1 : (m == 1) = false := by simp; omega
            clear h0
            by_cases h2 : m = 2
            · have hU := rint_any _ _ _ _ _ hRb
              have hV := fun W => wint_any W cb z L e
              generalize dec L e = d at hU hV
              obtain ⟨n, L', e'⟩ := d
              subst h2
              go_wp2_with (first
                | (go_at_call 19; refine hU.mono ?_; rintro r wA ⟨rfl, hA, hoA⟩)
                | (go_at_call 20; refine (hV _ (hRc.only hoA hcr hzb)).mono ?_; rintro r wB ⟨rfl, hB, hoB⟩))
              go_meet
              exact ⟨by simp, L', e', hA.only hoB hbc hzc, hB, (hb.trans (hoA.below (by omega))).trans (hoB.below (by omega))⟩
            · have b2 : (m == 2) = false := by simp; omega
              by_cases h3 : m = 3
              · have hU := rtext_any _ _ _ _ _ hRb
                have hV := fun W => wtext_any W cb z L e
                generalize rtx L e = d at hU hV
                obtain ⟨T, L', e'⟩ := d
                subst h3
                go_wp2_with (first
                  | (go_at_call 21; refine hU.mono ?_; rintro r wA ⟨rfl, hA, hoA⟩)
                  | (go_at_call 22; refine (hV _ (hRc.only hoA hcr hzb)).mono ?_; rintro r wB ⟨rfl, hB, hoB⟩))
                go_meet
                exact ⟨by simp, L', e', hA.only hoB hbc hzc, hB, (hb.trans (hoA.below (by omega))).trans (hoB.below (by omega))⟩
              · have b3 : (m == 3) = false := by simp; omega
                by_cases h4 : m = 4
                · have hU := count_any _ _ _ _ _ (x.tdiv 6) hRb hq.1 hq.2
                  have hV := fun W h => wcount_any W cb z L e (x.tdiv 6) h hq.1 hq.2
                  generalize cnt L e (x.tdiv 6) = d at hU hV
                  obtain ⟨n, L', e'⟩ := d
                  subst h4
                  go_wp2_with (first
                    | (go_at_call 23; refine hU.mono ?_; rintro r wA ⟨rfl, hA, hoA⟩)
                    | (go_at_call 24; refine (hV _ (hRc.only hoA hcr hzb)).mono ?_; rintro r wB ⟨rfl, hB, hoB⟩))
                  go_meet
                  exact ⟨by simp, L', e', hA.only hoB hbc hzc, hB, (hb.trans (hoA.below (by omega))).trans (hoB.below (by omega))⟩
                · have b4 : (m == 4) = false := by simp; omega
                  have hU := fun y => rfail_all _ _ _ _ _ y hRb
                  have hV := fun W y => wfail_all W cb z L e y
                  go_wp2_with (first
                    | (go_at_call 25; refine (hU _).mono ?_; rintro r wA ⟨rfl, hA, hoA⟩)
                    | (go_at_call 26; refine (hV _ _ (hRc.only hoA hcr hzb)).mono ?_; rintro r wB ⟨rfl, hB, hoB⟩))
                  all_goals go_meet
                  all_goals exact ⟨by simp, _, _, hA.only hoB hbc hzc, hB, (hb.trans (hoA.below (by omega))).trans (hoB.below (by omega))⟩
        case rest =>
          obtain ⟨rfl, L2, e2, hRb2, hRc2, hb2⟩ := hcut
          clear hRb hRc hb hq hbd hck hg
          go_upto_region 27 with fail
          go_cut [98] from 20 to 98 (fun s we => s = .bool false ∧ ∃ q, we = wc.drewN q)
          case first =>
            obtain ⟨a2, l2, p2, hd2, hs2, _⟩ := id hRc2
            have hx0 := hd2.c0
            have hx1 := hd2.c1
            obtain rfl := hs2.1
            have hLf := fun q => Calls.quiet_of_same (w := wc) (n := q) ((rleft_any _ _ _ _ _ (hRb2.drewN q)).mono (fun _ _ h => ⟨h.1, h.2.symm⟩))
            have hEr := fun q => Calls.quiet_of_same (w := wc) (n := q) ((rerr_any _ _ _ _ _ (hRb2.drewN q)).mono (fun _ _ h => ⟨h.1, h.2.symm⟩))
            clear hRb2 hRc2 hd2 hs2
            go_quiet (first
              | (go_at_call 27; exact hLf _)
              | (go_at_call 28; exact hEr _))
            all_goals go_wp2_with fail
            all_goals go_meet
            all_goals exact ⟨by simp, _, rfl⟩
          case rest =>
            obtain ⟨rfl, q, rfl⟩ := hcut
            go_wp2_with fail
            go_roundw
            case rel => first | exact ⟨k + 1, by omega, by go_num, L2, e2, hRb2.drewN q, hRc2.drewN q, below_drewN hb2 q⟩ | ((repeat apply Exists.intro); exact ⟨⟨k + 1, by omega, by go_num, L2, e2, hRb2.drewN q, hRc2.drewN q, below_drewN hb2 q⟩, rfl⟩)
            case measure => simp [intOf]; omega
      · rw [decide_eq_false hlt] at hbool
        subst hbool
        clear hk n1 m1 wf1 c1
        by_cases hL : L = []
        · subst hL
          have hE1 := end_nil _ _ _ _ hRb
          have hE2 := wend_nil _ _ _ _ hRc
          have hF := rleft_any _ _ _ _ _ hRb
          go_wp2_with (first
            | (go_at_call 29; refine hE1.mono ?_; rintro e w' ⟨rfl, rfl⟩)
            | (go_at_call 30; refine hE2.mono ?_; rintro e w' ⟨rfl, rfl⟩)
            | (go_at_call 27; refine hF.mono ?_; rintro e w' ⟨rfl, rfl⟩))
          go_ret
          exact ⟨rfl, hb⟩
        · have hE1 := end_left _ _ _ _ _ hRb hL
          go_wp2_with (first
            | (go_at_call 29; refine hE1.mono ?_; rintro e w4 ⟨rfl, hR4, ho4⟩)
            | (go_at_call 30; refine (wend_left _ _ _ _ _ (hRc.only ho4 (by omega) hzb) hL).mono ?_; rintro e w5 ⟨rfl, hR5, ho5⟩)
            | (go_at_call 27; refine (rleft_any _ _ _ _ _ (hR4.only ho5 (by omega) hzc)).mono ?_; rintro e w' ⟨rfl, rfl⟩))
          go_ret
          exact ⟨rfl, (hb.trans (ho4.below (by omega))).trans (ho5.below (by omega))⟩

namespace numReads
open Go.ChangeShapes Go.WideShapes Go.ChangeAt Go.RowKit
open Go.ChangeMaps (open_string shut_string)
set_option linter.unusedVariables false

theorem own : ownKnob Try.prog.godebug = none := by kernel_rfl
theorem laidOut : laidOutB Try.prog = true := by kernel_rfl

set_option maxRecDepth 100000 in
theorem lifted (os : Os) (started : os.Started) (H : Type) (enc : TypeId × Value → H) :
    ReturnsInHanded {} Try.checked os 4 .any (Rows.numReadsSpec.pre6 enc Try.prog Try.f4 Rows.numReadsRow.domain false) (Rows.numReadsSpec.post enc Try.prog Try.f4 false true false false) := by
  refine returnsInHanded_of_change (C := Try.checked) own started (by kernel_rfl) Try.func4
    (ChangeSpec.witness6 (enc := enc) (C := Try.checked) false ⟨#[], #[.slice none 0 0, .slice none 0 0], []⟩ 8 (by kernel_rfl) (by kernel_rfl) (by kernel_rfl) (by kernel_rfl)) ?_
  intro W base args ds gs before hval0 hW hcnd _
  have hval : ∀ (j : Nat) t v, Try.f4.params[j]? = some t → args[j]? = some v → Value.okWide Try.prog W .any base t v := hval0
  have hW' := hW
  obtain ⟨p, q, hA0, hV, rfl, hfz, hnd⟩ := hW
  have hA : DataW.TrodAll enc Try.prog W 0 (fun _ => true) true Try.f4.params.toList args.toList ds p := hA0
  rw [Try.params4] at hA hval
  obtain ⟨v0, vs0, d0, ds0, p0, q0, hargs, rfl, rfl, h0, r0⟩ := trodAll_cons hA
  obtain ⟨v1, vs1, d1, ds1, p1, q1, rfl, rfl, rfl, h1, r1⟩ := trodAll_cons r0
  obtain ⟨rfl, rfl, rfl⟩ := trodAll_nil r1
  obtain rfl : args = #[v0, v1] := by cases args; simp_all
  obtain ⟨rfl, rfl⟩ := trodVars_none hV
  obtain ⟨a0, len0, cap0, rfl⟩ := okWide_slice Try.underlying22 (hval 0 22 v0 rfl rfl)
  obtain ⟨a1, len1, cap1, rfl⟩ := okWide_slice Try.underlying32 (hval 1 32 v1 rfl rfl)
  have k0 := h0
  have k1 := h1
  have lt0 : ∀ x ∈ p0, x.block < W.heap.size := by obtain ⟨m, hm⟩ := k0; exact DataW.trod_lt m _ _ _ hm
  have lt1 : ∀ x ∈ p1, x.block < W.heap.size := by obtain ⟨m, hm⟩ := k1; exact DataW.trod_lt m _ _ _ hm
  obtain ⟨z0, w0⟩ : ∃ zs, IsRow .u8 W a0 len0 cap0 zs := by
    obtain ⟨fuel, hf⟩ := h0
    rcases open_ints Try.underlying22 Try.underlying5 (by kernel_rfl) hf with ⟨hcs, _⟩ | ⟨x, l, c, zs, hcs, _, hl, hm, hz, _, hcell, hwz⟩
    · simp [Value.cells] at hcs
      obtain ⟨rfl, rfl, rfl⟩ := hcs
      exact ⟨[], .inl ⟨rfl, rfl, rfl, rfl⟩⟩
    · simp [Value.cells] at hcs
      obtain ⟨rfl, rfl, rfl⟩ := hcs
      exact ⟨zs, .inr ⟨_, rfl, hl, hm, by simpa using hz, hcell, hwz⟩⟩
  obtain ⟨z1, w1⟩ : ∃ zs, IsRow .i64 W a1 len1 cap1 zs := by
    obtain ⟨fuel, hf⟩ := h1
    rcases open_ints Try.underlying32 Try.underlying3 (by kernel_rfl) hf with ⟨hcs, _⟩ | ⟨x, l, c, zs, hcs, _, hl, hm, hz, _, hcell, hwz⟩
    · simp [Value.cells] at hcs
      obtain ⟨rfl, rfl, rfl⟩ := hcs
      exact ⟨[], .inl ⟨rfl, rfl, rfl, rfl⟩⟩
    · simp [Value.cells] at hcs
      obtain ⟨rfl, rfl, rfl⟩ := hcs
      exact ⟨zs, .inr ⟨_, rfl, hl, hm, by simpa using hz, hcell, hwz⟩⟩
  clear hA0 hval0
  refine (numReads_walk a0 len0 cap0 z0 a1 len1 cap1 _ W w0 w1.isrc).mono fun e W' ⟨he, bel⟩ => ?_
  subst he
  exact ⟨_, rfl, _, _, _, [], _, [], hW', trodAll_mk1 (shut_bool Try.underlying4 _),
    (trodAll_cons_mk (Below.trod laidOut (by kernel_rfl) (of_decide_eq_true (by kernel_rfl)) k0 bel lt0) (trodAll_cons_mk (Below.trod laidOut (by kernel_rfl) (of_decide_eq_true (by kernel_rfl)) k1 bel lt1) trodAll_mk0)), rfl, bel.frame _, fun h => by cases h⟩

theorem over : Rows.numReadsRow.holds Try.pinned (OpenSpec.ofChange Rows.numReadsSpec) :=
  OpenClaim.holds_of_wide 4 Try.f4 rfl rfl rfl rfl rfl rfl rfl ⟨rfl, rfl, rfl, rfl, rfl⟩ rfl rfl rfl rfl rfl (by kernel_rfl) Try.func4 (by kernel_rfl)
    (of_decide_eq_true (by kernel_rfl)) (by unfold Func.isWrapper; first | (rw [if_pos (by decide +kernel)]; kernel_rfl) | (rw [if_neg (by decide +kernel)]; exact ⟨rfl, rfl⟩))
    (fun os started H enc _ => lifted os started H enc)

end numReads

/-- The statement. -/
theorem numReads_holds : Rows.NumReadsSaid := numReads.over
#print axioms numReads_holds
end Go.Proofs.Ytbhfnhciadhgmaa
