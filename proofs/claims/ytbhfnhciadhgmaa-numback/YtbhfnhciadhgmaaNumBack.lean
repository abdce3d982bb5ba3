/- For any rows of numbers, of numbers of either sign and of texts NumBack answers true: what is written is read as it was. No condition. -/
import Derived.Test.YtbhfnhciadhgmaaRows3
import Derived.WalkKit
import Derived.ProofKit
import Derived.OpenShut
import Derived.ShutString
import Derived.ChangeOld
import Derived.Below
import Derived.SliceStrings
import Derived.Deep.QuietTactic
import Derived.BigQuiet
import Derived.Deep.RegionHeld3
import Derived.Deep.CutRange
namespace Go.Proofs.Ytbhfnhciadhgmaa
open Go.RowKit

/-- What a writing loop keeps: behind the bytes P lie those of the first k of the row. -/
def WRel {α : Type} (w : World) (P : List Int) (f : α → List Int) (xs : List α) (c0 c1 : Nat) (v i : Value) (wr : World) : Prop :=
  ∃ (k : Nat) (a : Option Addr) (n : Nat), k ≤ xs.length ∧ i = .int .i64 k ∧ v = .slice a n n ∧ n ≤ c0 + c1 * k ∧ Src wr a n (P ++ cat f (xs.take k)) ∧ Below w.heap.size w wr

/-- What a reading loop keeps: the bytes of all but the first k of the row are left, and the rest R. -/
def RRel {α : Type} (w : World) (rb z : Nat) (R : List Int) (f : α → List Int) (xs : List α) (i : Value) (wr : World) : Prop :=
  ∃ k : Nat, k ≤ xs.length ∧ i = .int .i64 k ∧ Rdr wr rb z (cat f (xs.drop k) ++ R) 0 ∧ Below w.heap.size w wr

theorem hid {p : Prop} (h : p) : Hid p := h

theorem test_in {k n len : Nat} (h : n ≤ 50 ∧ n ≤ len ∧ (50 ≤ n ∨ len ≤ n)) (hk : k < len) : decide ((k : Int) < 50) = decide (k < n) := by
  rw [decide_eq_decide]; omega
theorem test_out {k n len : Nat} (h : n ≤ 50 ∧ n ≤ len ∧ (50 ≤ n ∨ len ≤ n)) (hk : ¬ k < len) : false = decide (k < n) := by
  symm; rw [decide_eq_false_iff_not]; omega

theorem read_u {W : World} {b z : Nat} {x : Int} {R : List Int} (h0 : 0 ≤ x) (h1 : x < 18446744073709551616) (hB : Bts R) (h : Rdr W b z (enc x ++ R) 0) :
    Calls Try.prog 17 #[.pointer (some ⟨b, 0, none⟩)] W fun e w' => e = .returned (.int .u64 x) ∧ Rdr w' b z R 0 ∧ Only b W w' := by
  have := ruint_any W b z _ 0 h
  rw [dec_enc x R h0 h1 hB] at this
  exact this
theorem read_i {W : World} {b z : Nat} {x : Int} {R : List Int} (h0 : -9223372036854775808 ≤ x) (h1 : x ≤ 9223372036854775807) (hB : Bts R) (h : Rdr W b z (enc (zig x) ++ R) 0) :
    Calls Try.prog 19 #[.pointer (some ⟨b, 0, none⟩)] W fun e w' => e = .returned (.int .i64 x) ∧ Rdr w' b z R 0 ∧ Only b W w' := by
  have := rint_any W b z _ 0 h
  have hz := zig_range x h0 h1
  rw [dec_enc (zig x) R hz.1 hz.2 hB] at this
  simp only [dint_zig] at this
  exact this
theorem read_t {W : World} {b z : Nat} {x : ByteArray} {R : List Int} (h0 : x.size ≤ 1000) (hB : Bts R) (h : Rdr W b z (enc x.size ++ sb x ++ R) 0) :
    Calls Try.prog 21 #[.pointer (some ⟨b, 0, none⟩)] W fun e w' => e = .returned (.string x) ∧ Rdr w' b z R 0 ∧ Only b W w' := by
  have := rtext_any W b z _ 0 h
  rw [rtx_text x R hB h0] at this
  simp only [str_sb] at this
  exact this

theorem Rdr.drew {w : World} {b z : Nat} {L : List Int} {e : Int} (h : Rdr w b z L e) : Rdr w.drew b z L e := by
  obtain ⟨a, len, cap, hr, hs, rest⟩ := h
  exact ⟨a, len, cap, ⟨hr.c0, hr.c1, hr.f0, hr.f1⟩, hs, rest⟩
theorem Rdr.drewN {w : World} {b z : Nat} {L : List Int} {e : Int} (h : Rdr w b z L e) (q : Nat) : Rdr (w.drewN q) b z L e := by
  obtain ⟨a, len, cap, hr, hs, rest⟩ := h
  exact ⟨a, len, cap, ⟨hr.c0, hr.c1, hr.f0, hr.f1⟩, hs, rest⟩
theorem cat_nil {α : Type} (f : α → List Int) : cat f [] = [] := rfl
theorem encT_length {x : ByteArray} (h : x.size ≤ 1000) : (encT x).length = sz x.size + x.size := by unfold encT; rw [if_pos h, List.length_append, enc_length, sb_length]
theorem encT_none {x : ByteArray} (h : ¬ x.size ≤ 1000) : encT x = [] := by unfold encT; rw [if_neg h]
theorem row_encT {w : World} {g : Nat} {L : List Int} {x : ByteArray} (h : x.size ≤ 1000) (hr : Row w g (L ++ (enc x.size ++ sb x))) : Row w g (L ++ encT x) := by unfold encT; rw [if_pos h]; exact hr
theorem wrel_skip {α : Type} {w w1 : World} {P : List Int} {f : α → List Int} {xs : List α} {c0 c1 k n : Nat} {i : Int} {a : Option Addr} (d x : α) (hx : xs[k]?.getD d = x) (hk : k < xs.length) (hn : n ≤ c0 + c1 * k) (hb : Below w.heap.size w w1)
    (hs : Src w1 a n (P ++ cat f (xs.take k))) (hl : f x = []) (hi : (k : Int) + 1 = i) : WRel w P f xs c0 c1 (.slice a n n) (.int .i64 i) w1 := by
  subst hi
  subst hx
  refine ⟨k + 1, _, n, hk, by simp, rfl, by rw [Nat.mul_add]; omega, ?_, hb⟩
  rw [cat_take f xs d k hk, hl, List.append_nil]
  exact hs

theorem wrel_step {α : Type} {w w1 w2 : World} {P : List Int} {f : α → List Int} {xs : List α} {c0 c1 k n m : Nat} {g : Nat} {i : Int} {a : Option Addr} (d x : α) (hx : xs[k]?.getD d = x) (hk : k < xs.length) (hn : n ≤ c0 + c1 * k) (hb : Below w.heap.size w w1)
    (hs : Src w1 a n (P ++ cat f (xs.take k))) (hr : Row w2 g (P ++ cat f (xs.take k) ++ f x)) (hb2 : Below w1.heap.size w1 w2) (hm : m ≤ c1) (hl : (f x).length = m) (hi : (k : Int) + 1 = i) :
    WRel w P f xs c0 c1 (.slice (some ⟨g, 0, none⟩) (n + m) (n + m)) (.int .i64 i) w2 := by
  subst hi
  subst hx
  refine ⟨k + 1, _, n + m, hk, by simp, rfl, ?_, ?_, bnext hb hb2⟩
  · rw [Nat.mul_add]; omega
  · have := hr.src (n + m) (by rw [List.length_append, hs.1, hl])
    rw [cat_take f xs d k hk, ← List.append_assoc]
    exact this

theorem ISrc.cut {k : IntKind} {w : World} {a : Option Addr} {len : Nat} {Z : List Int} (h : ISrc k w a len Z) : ∃ X : List Int, (X.length ≤ 50 ∧ X.length ≤ len ∧ (50 ≤ X.length ∨ len ≤ X.length)) ∧ len ≤ 9223372036854775807 ∧ (∀ i, i < X.length → (Lit.int k (X[i]?.getD 0)).wf = true) ∧
    (0 < len → ∃ g off, a = some ⟨g, off, none⟩ ∧ g < w.heap.size ∧ ∀ i, i < X.length → w.cell? ⟨g, off + i, none⟩ = some (.int k (X[i]?.getD 0))) := by
  obtain ⟨hl, hm, hw, hc⟩ := h
  refine ⟨Z.take 50, by rw [List.length_take, hl]; omega, hm, fun i hi => ?_, fun hp => ?_⟩
  · rw [List.getElem?_eq_getElem hi]
    exact hw _ (List.mem_of_mem_take (List.getElem_mem hi))
  · obtain ⟨g, off, ha, hg, hcc⟩ := hc hp
    refine ⟨g, off, ha, hg, fun i hi => ?_⟩
    rw [List.length_take, hl] at hi
    rw [hcc i (by omega), List.getElem?_take_of_lt (by omega)]

theorem SSrc.cut {w : World} {a : Option Addr} {len : Nat} {S : List ByteArray} (h : SSrc w a len S) : ∃ X : List ByteArray, (X.length ≤ 50 ∧ X.length ≤ len ∧ (50 ≤ X.length ∨ len ≤ X.length)) ∧ len ≤ 9223372036854775807 ∧
    (0 < len → ∃ g off, a = some ⟨g, off, none⟩ ∧ g < w.heap.size ∧ ∀ i, i < X.length → w.cell? ⟨g, off + i, none⟩ = some (.string (X[i]?.getD ByteArray.empty))) := by
  obtain ⟨hl, hm, hc⟩ := h
  refine ⟨S.take 50, by rw [List.length_take, hl]; omega, hm, fun hp => ?_⟩
  obtain ⟨g, off, ha, hg, hcc⟩ := hc hp
  refine ⟨g, off, ha, hg, fun i hi => ?_⟩
  rw [List.length_take, hl] at hi
  rw [hcc i (by omega), List.getElem?_take_of_lt (by omega)]

set_option maxRecDepth 20000 in
set_option maxHeartbeats 8000000 in
theorem numBack_walk (a0 : Option Addr) (len0 cap0 : Nat) (Z0 : List Int) (a1 : Option Addr) (len1 cap1 : Nat) (Z1 : List Int) (a2 : Option Addr) (len2 cap2 : Nat) (S2 : List ByteArray) (w : World)
    (h0 : ISrc .u64 w a0 len0 Z0) (h1 : ISrc .i64 w a1 len1 Z1) (h2 : SSrc w a2 len2 S2) :
    Calls Try.prog 5 #[.slice a0 len0 cap0, .slice a1 len1 cap1, .slice a2 len2 cap2] w fun e w' => e = .returned (.bool true) ∧ Below w.heap.size w w' := by
  obtain ⟨X0, n0, m0, wf0, c0'⟩ := h0.cut
  obtain ⟨X1, n1, m1, wf1, c1'⟩ := h1.cut
  obtain ⟨X2, n2, m2, c2'⟩ := h2.cut
  have c0 := hid c0'
  have c1 := hid c1'
  have c2 := hid c2'
  clear h0 h1 h2 c0' c1' c2'
  go_enter Try.func5, Try.ntmps5
  go_wp2_with (go_at_call 9; refine (awake_any _).mono ?_; rintro e w1 ⟨rfl, hb1⟩)
  go_loopw [8, 9] (fun v i wr => WRel w [] enc X0 0 9 v i wr) (fun _ i _ => 50 - (intOf i).toNat)
  case atStart => exact ⟨0, none, 0, by omega, rfl, rfl, by omega, src_nil _, hb1⟩
  case round =>
    obtain ⟨k, a, n, hk, rfl, rfl, hn, hs, hb⟩ := hrel
    go_upto_region 6 with fail
    go_cut [26] from 19 to 34 (fun s wc => s = .bool (decide (k < X0.length)) ∧ wc = wr)
    case first =>
      by_cases hkl : k < len0
      · go_wp2_with fail
        go_meet
        exact ⟨by rw [test_in n0 hkl], rfl⟩
      · go_wp2_with fail
        go_meet
        exact ⟨by rw [test_out n0 hkl], rfl⟩
    case rest =>
      obtain ⟨hbool, rfl⟩ := hcut
      by_cases hlt : k < X0.length
      · rw [decide_eq_true hlt] at hbool
        subst hbool
        obtain ⟨g, off, rfl, hg, hc⟩ := c0.out (by omega)
        have hck := hc k hlt
        rw [← hb.cell (p := ⟨g, off + k, none⟩) hg] at hck
        have hbd := bounds_u64 (wf0 k hlt)
        have hz9 := sz_le (X0[k]?.getD 0)
        have hkl : k < len0 := by omega
        generalize hx : X0[k]?.getD 0 = x at *
        have hxH : Hid (X0[k]?.getD 0 = x) := hx
        clear hx c0 c1 c2 hc wf0 wf1
        go_wp2_with (go_at_call 10; refine (uint_any _ _ _ x _ _ hs (by omega) hbd.1 (by omega)).mono ?_; rintro e w2 ⟨rfl, hr2, hb2⟩)
        go_roundw
        case rel => first | exact wrel_step 0 x hxH.out hlt hn hb hs hr2 hb2 hz9 (enc_length x) rfl | ((repeat apply Exists.intro); exact ⟨wrel_step 0 x hxH.out hlt hn hb hs hr2 hb2 hz9 (enc_length x) rfl, rfl⟩)
        case measure => simp [intOf]; omega
      · rw [decide_eq_false hlt] at hbool
        subst hbool
        have hn0 : n ≤ 450 := by omega
        have hsA := hs
        rw [List.take_of_length_le (by omega), List.nil_append] at hsA
        clear hs hn hk hb1
        obtain ⟨P1, hP1⟩ : ∃ P1, P1 = cat enc X0 := ⟨_, rfl⟩
        rw [← hP1] at hsA
        replace hP1 := hid hP1
        go_wp2_with fail
        have hbA := hb
        go_loopw [8, 10] (fun v i wr => WRel w P1 (fun x => enc (zig x)) X1 450 9 v i wr) (fun _ i _ => 50 - (intOf i).toNat)
        case atStart => exact ⟨0, a, n, by omega, rfl, rfl, by omega, by rw [List.take_zero, cat_nil, List.append_nil]; exact hsA, hbA⟩
        case round =>
          clear hsA hbA hn0
          obtain ⟨k, a, n, hk, rfl, rfl, hn, hs, hb⟩ := hrel
          go_upto_region 10 with fail
          go_cut [42] from 35 to 50 (fun s wc => s = .bool (decide (k < X1.length)) ∧ wc = wr)
          case first =>
            by_cases hkl : k < len1
            · go_wp2_with fail
              go_meet
              exact ⟨by rw [test_in n1 hkl], rfl⟩
            · go_wp2_with fail
              go_meet
              exact ⟨by rw [test_out n1 hkl], rfl⟩
          case rest =>
            obtain ⟨hbool, rfl⟩ := hcut
            by_cases hlt : k < X1.length
            · rw [decide_eq_true hlt] at hbool
              subst hbool
              obtain ⟨g, off, rfl, hg, hc⟩ := c1.out (by omega)
              have hck := hc k hlt
              rw [← hb.cell (p := ⟨g, off + k, none⟩) hg] at hck
              have hbd := bounds_i64 (wf1 k hlt)
              have hz9 := sz_le (zig (X1[k]?.getD 0))
              have hkl : k < len1 := by omega
              generalize hx : X1[k]?.getD 0 = x at *
              have hxH : Hid (X1[k]?.getD 0 = x) := hx
              clear hx c0 c1 c2 hc wf0 wf1
              go_wp2_with (go_at_call 11; refine (int_any _ _ _ x _ _ hs (by omega) hbd.1 hbd.2).mono ?_; rintro e w2 ⟨rfl, hr2, hb2⟩)
              go_roundw
              case rel => first | exact wrel_step 0 x hxH.out hlt hn hb hs hr2 hb2 hz9 (enc_length (zig x)) rfl | ((repeat apply Exists.intro); exact ⟨wrel_step 0 x hxH.out hlt hn hb hs hr2 hb2 hz9 (enc_length (zig x)) rfl, rfl⟩)
              case measure => simp [intOf]; omega
            · rw [decide_eq_false hlt] at hbool
              subst hbool
              have hn1 : n ≤ 900 := by omega
              have hsB := hs
              rw [List.take_of_length_le (by omega)] at hsB
              clear hs hn hk
              obtain ⟨P2, hP2⟩ : ∃ P2, P2 = P1 ++ cat (fun x => enc (zig x)) X1 := ⟨_, rfl⟩
              rw [← hP2] at hsB
              replace hP2 := hid hP2
              go_wp2_with fail
              have hbB := hb
              go_loopw [8, 11] (fun v i wr => WRel w P2 encT X2 900 1009 v i wr) (fun _ i _ => 50 - (intOf i).toNat)
              case atStart => exact ⟨0, a, n, by omega, rfl, rfl, by omega, by rw [List.take_zero, cat_nil, List.append_nil]; exact hsB, hbB⟩
              case round =>
                clear hsB hbB hn1
                obtain ⟨k, a, n, hk, rfl, rfl, hn, hs, hb⟩ := hrel
                go_upto_region 14 with fail
                go_cut [58] from 51 to 72 (fun s wc => s = .bool (decide (k < X2.length)) ∧ wc = wr)
                case first =>
                  by_cases hkl : k < len2
                  · go_wp2_with fail
                    go_meet
                    exact ⟨by rw [test_in n2 hkl], rfl⟩
                  · go_wp2_with fail
                    go_meet
                    exact ⟨by rw [test_out n2 hkl], rfl⟩
                case rest =>
                  obtain ⟨hbool, rfl⟩ := hcut
                  by_cases hlt : k < X2.length
                  · rw [decide_eq_true hlt] at hbool
                    subst hbool
                    obtain ⟨g, off, rfl, hg, hc⟩ := c2.out (by omega)
                    have hck := hc k hlt
                    rw [← hb.cell (p := ⟨g, off + k, none⟩) hg] at hck
                    have hkl : k < len2 := by omega
                    generalize hx : X2[k]?.getD ByteArray.empty = x at *
                    have hxH : Hid (X2[k]?.getD ByteArray.empty = x) := hx
                    have hz9 := sz_le x.size
                    clear hx c0 c1 c2 hc wf0 wf1
                    by_cases hsz : x.size ≤ 1000
                    · go_wp2_with (go_at_call 12; refine (text_any _ _ _ x _ _ hs (by omega)).mono ?_; rintro e w2 ⟨rfl, hr2, hb2⟩)
                      go_roundw
                      case rel => first | exact wrel_step ByteArray.empty x hxH.out hlt hn hb hs (row_encT hsz hr2) hb2 (by omega) (encT_length hsz) rfl | ((repeat apply Exists.intro); exact ⟨wrel_step ByteArray.empty x hxH.out hlt hn hb hs (row_encT hsz hr2) hb2 (by omega) (encT_length hsz) rfl, rfl⟩)
                      case measure => simp [intOf]; omega
                    · go_wp2_with fail
                      go_roundw
                      case rel => first | exact wrel_skip ByteArray.empty x hxH.out hlt hn hb hs (encT_none hsz) rfl | ((repeat apply Exists.intro); exact ⟨wrel_skip ByteArray.empty x hxH.out hlt hn hb hs (encT_none hsz) rfl, rfl⟩)
                      case measure => simp [intOf]; omega
                  · rw [decide_eq_false hlt] at hbool
                    subst hbool
                    have hn2 : n ≤ 60000 := by omega
                    have hsC := hs
                    rw [List.take_of_length_le (by omega)] at hsC
                    clear hs hn hk
                    obtain ⟨P3, hP3⟩ : ∃ P3, P3 = P2 ++ cat encT X2 := ⟨_, rfl⟩
                    rw [← hP3] at hsC
                    replace hP3 := hid hP3
                    go_wp2_with (go_at_call 16; refine (read_any _ _ _ _ _ rfl).mono ?_; rintro e w3 ⟨rfl, hr3, hb3⟩)
                    have hbt : Bts P3 := by rw [hP3.out, hP2.out, hP1.out]; exact ((bts_cat enc bts_enc X0).append (bts_cat _ (fun x => bts_enc (zig x)) X1)).append (bts_cat encT bts_encT X2)
                    obtain ⟨z, hR⟩ := rdr_of hr3 (hsC.below hb3) (Nat.le_refl _) (by omega) hbt (src_block hsC)
                    have hbC := bnext hb hb3
                    have hwb := hb.size
                    obtain ⟨rb, hrb⟩ : ∃ rb, rb = wc.heap.size := ⟨_, rfl⟩
                    rw [← hrb] at hwb hR ⊢
                    rw [hP3.out, hP2.out, hP1.out, List.append_assoc] at hR
                    clear hsC hr3 hb3 hb hbt hlt hn2 hrb
                    go_loopw [13] (fun i wr => RRel w rb z (cat (fun x => enc (zig x)) X1 ++ cat encT X2) enc X0 i wr) (fun i _ => 50 - (intOf i).toNat)
                    case atStart => exact ⟨0, by omega, rfl, hR, hbC⟩
                    case round =>
                      clear hR hbC
                      obtain ⟨k, hk, rfl, hR, hb⟩ := hrel
                      go_upto_region 20 with fail
                      go_cut [82] from 75 to 91 (fun s wc => s = .bool (decide (k < X0.length)) ∧ wc = wr)
                      case first =>
                        by_cases hkl : k < len0
                        · go_wp2_with fail
                          go_meet
                          exact ⟨by rw [test_in n0 hkl], rfl⟩
                        · go_wp2_with fail
                          go_meet
                          exact ⟨by rw [test_out n0 hkl], rfl⟩
                      case rest =>
                        obtain ⟨hbool, rfl⟩ := hcut
                        by_cases hlt : k < X0.length
                        · rw [decide_eq_true hlt] at hbool
                          subst hbool
                          obtain ⟨g, off, rfl, hg, hc⟩ := c0.out (by omega)
                          have hck := hc k hlt
                          rw [← hb.cell (p := ⟨g, off + k, none⟩) hg] at hck
                          have hkl : k < len0 := by omega
                          have hbd := bounds_u64 (wf0 k hlt)
                          have hbt := hR.bts.1
                          rw [cat_drop enc X0 0 k hlt, List.append_assoc] at hR hbt
                          generalize hx : X0[k]?.getD 0 = x at *
                          clear hx
                          have hU := fun W => read_u (b := rb) (z := z) (W := W) hbd.1 (by omega) hbt.right
                          clear hbt
                          go_upto_region 22 with fail
                          go_cut [91] from 75 to 91 (fun s w' => s = .bool false ∧ Rdr w' rb z (cat enc (List.drop (k + 1) X0) ++ (cat (fun x => enc (zig x)) X1 ++ cat encT X2)) 0 ∧ Below w.heap.size w w')
                          case first =>
                            clear c0 c1 c2 wf0 wf1 hc
                            have hRd : Rdr wc.drew rb z (enc x ++ (cat enc (List.drop (k + 1) X0) ++ (cat (fun x => enc (zig x)) X1 ++ cat encT X2))) 0 := hR.drew
                            go_region_held3 (fun w' => w'.cell? ⟨g, off + k, none⟩ = some (.int .u64 x)) (first | assumption | go_keep) (first | (go_at_call 17; refine (hU wc.drew hRd).mono ?_; rintro e w4 ⟨rfl, hR4, ho4⟩; have hck4 := (ho4.cell (p := ⟨g, off + k, none⟩) (by show g ≠ rb; omega)).trans hck))
                            all_goals go_wp2_with fail
                            all_goals go_meet
                            all_goals exact ⟨by simp, hR4, hb.drew.trans (ho4.below hwb)⟩
                          case rest =>
                            obtain ⟨rfl, hR4, hb4⟩ := hcut
                            go_wp2_with fail
                            go_roundw
                            case rel => first | exact ⟨k + 1, by omega, by go_num, hR4, hb4⟩ | ((repeat apply Exists.intro); exact ⟨⟨k + 1, by omega, by go_num, hR4, hb4⟩, rfl⟩)
                            case measure => simp [intOf]; omega
                        · rw [decide_eq_false hlt] at hbool
                          subst hbool
                          rw [List.drop_of_length_le (by omega), cat_nil, List.nil_append] at hR
                          clear hk
                          go_wp2_with fail
                          have hbD := hb
                          have hRD := hR
                          clear hlt hb hR
                          go_loopw [14] (fun i wr => RRel w rb z (cat encT X2) (fun x => enc (zig x)) X1 i wr) (fun i _ => 50 - (intOf i).toNat)
                          case atStart => exact ⟨0, by omega, rfl, hRD, hbD⟩
                          case round =>
                            clear hRD hbD
                            obtain ⟨k, hk, rfl, hR, hb⟩ := hrel
                            go_upto_region 25 with fail
                            go_cut [99] from 92 to 108 (fun s wc => s = .bool (decide (k < X1.length)) ∧ wc = wr)
                            case first =>
                              by_cases hkl : k < len1
                              · go_wp2_with fail
                                go_meet
                                exact ⟨by rw [test_in n1 hkl], rfl⟩
                              · go_wp2_with fail
                                go_meet
                                exact ⟨by rw [test_out n1 hkl], rfl⟩
                            case rest =>
                              obtain ⟨hbool, rfl⟩ := hcut
                              by_cases hlt : k < X1.length
                              · rw [decide_eq_true hlt] at hbool
                                subst hbool
                                obtain ⟨g, off, rfl, hg, hc⟩ := c1.out (by omega)
                                have hck := hc k hlt
                                rw [← hb.cell (p := ⟨g, off + k, none⟩) hg] at hck
                                have hkl : k < len1 := by omega
                                have hbd := bounds_i64 (wf1 k hlt)
                                have hbt := hR.bts.1
                                rw [cat_drop (fun x => enc (zig x)) X1 0 k hlt, List.append_assoc] at hR hbt
                                generalize hx : X1[k]?.getD 0 = x at *
                                clear hx
                                have hU := fun W => read_i (b := rb) (z := z) (W := W) hbd.1 hbd.2 hbt.right
                                clear hbt
                                go_upto_region 27 with fail
                                go_cut [108] from 92 to 108 (fun s w' => s = .bool false ∧ Rdr w' rb z (cat (fun x => enc (zig x)) (List.drop (k + 1) X1) ++ cat encT X2) 0 ∧ Below w.heap.size w w')
                                case first =>
                                  clear c0 c1 c2 wf0 wf1 hc
                                  have hRd := hR.drew
                                  go_region_held3 (fun w' => w'.cell? ⟨g, off + k, none⟩ = some (.int .i64 x)) (first | assumption | go_keep) (first | (go_at_call 19; refine (hU wc.drew hRd).mono ?_; rintro e w4 ⟨rfl, hR4, ho4⟩; have hck4 := (ho4.cell (p := ⟨g, off + k, none⟩) (by show g ≠ rb; omega)).trans hck))
                                  all_goals go_wp2_with fail
                                  all_goals go_meet
                                  all_goals exact ⟨by simp, hR4, hb.drew.trans (ho4.below hwb)⟩
                                case rest =>
                                  obtain ⟨rfl, hR4, hb4⟩ := hcut
                                  go_wp2_with fail
                                  go_roundw
                                  case rel => first | exact ⟨k + 1, by omega, by go_num, hR4, hb4⟩ | ((repeat apply Exists.intro); exact ⟨⟨k + 1, by omega, by go_num, hR4, hb4⟩, rfl⟩)
                                  case measure => simp [intOf]; omega
                              · rw [decide_eq_false hlt] at hbool
                                subst hbool
                                rw [List.drop_of_length_le (by omega), cat_nil, List.nil_append] at hR
                                clear hk
                                go_wp2_with fail
                                have hbE := hb
                                have hRE := hR
                                clear hlt hb hR
                                go_loopw [15] (fun i wr => RRel w rb z [] encT X2 i wr) (fun i _ => 50 - (intOf i).toNat)
                                case atStart => exact ⟨0, by omega, rfl, by rw [List.append_nil]; exact hRE, hbE⟩
                                case round =>
                                  clear hRE hbE
                                  obtain ⟨k, hk, rfl, hR, hb⟩ := hrel
                                  go_upto_region 30 with fail
                                  go_cut [116] from 109 to 133 (fun s wc => s = .bool (decide (k < X2.length)) ∧ wc = wr)
                                  case first =>
                                    by_cases hkl : k < len2
                                    · go_wp2_with fail
                                      go_meet
                                      exact ⟨by rw [test_in n2 hkl], rfl⟩
                                    · go_wp2_with fail
                                      go_meet
                                      exact ⟨by rw [test_out n2 hkl], rfl⟩
                                  case rest =>
                                    obtain ⟨hbool, rfl⟩ := hcut
                                    by_cases hlt : k < X2.length
                                    · rw [decide_eq_true hlt] at hbool
                                      subst hbool
                                      obtain ⟨g, off, rfl, hg, hc⟩ := c2.out (by omega)
                                      have hck := hc k hlt
                                      rw [← hb.cell (p := ⟨g, off + k, none⟩) hg] at hck
                                      have hkl : k < len2 := by omega
                                      have hbt := hR.bts.1
                                      rw [cat_drop encT X2 ByteArray.empty k hlt, List.append_assoc] at hR hbt
                                      generalize hx : X2[k]?.getD ByteArray.empty = x at *
                                      clear hx
                                      go_upto_region 32 with fail
                                      go_cut [133] from 109 to 133 (fun s w' => s = .bool false ∧ Rdr w' rb z (cat encT (List.drop (k + 1) X2) ++ []) 0 ∧ Below w.heap.size w w')
                                      case first =>
                                        clear c0 c1 c2 wf0 wf1 hc
                                        by_cases hsz : x.size ≤ 1000
                                        · have hU := fun W => read_t (b := rb) (z := z) (W := W) hsz hbt.right
                                          have hszI : (x.size : Int) ≤ 1000 := by omega
                                          have hszd : decide ((x.size : Int) ≤ 1000) = true := by simp; omega
                                          have hRd := hR.drew
                                          rw [show encT x = enc x.size ++ sb x by unfold encT; rw [if_pos hsz]] at hRd
                                          clear hbt
                                          go_region_held3 (fun w' => w'.cell? ⟨g, off + k, none⟩ = some (.string x)) (first | assumption | go_keep) (first | (go_at_call 21; refine (hU wc.drew hRd).mono ?_; rintro e w4 ⟨rfl, hR4, ho4⟩; have hck4 := (ho4.cell (p := ⟨g, off + k, none⟩) (by show g ≠ rb; omega)).trans hck))
                                          all_goals go_wp2_with fail
                                          all_goals go_meet
                                          all_goals exact ⟨by simp, hR4, hb.drew.trans (ho4.below hwb)⟩
                                        · have hszd : decide ((x.size : Int) ≤ 1000) = false := by simp; omega
                                          have hR5 := fun q => hR.drewN q
                                          rw [encT_none hsz, List.nil_append] at hR5
                                          clear hbt
                                          go_quiet (fail)
                                          all_goals go_wp2_with fail
                                          all_goals go_meet
                                          all_goals exact ⟨by simp, hR5 _, below_drewN hb _⟩
                                      case rest =>
                                        obtain ⟨rfl, hR4, hb4⟩ := hcut
                                        go_wp2_with fail
                                        go_roundw
                                        case rel => first | exact ⟨k + 1, by omega, by go_num, hR4, hb4⟩ | ((repeat apply Exists.intro); exact ⟨⟨k + 1, by omega, by go_num, hR4, hb4⟩, rfl⟩)
                                        case measure => simp [intOf]; omega
                                    · rw [decide_eq_false hlt] at hbool
                                      subst hbool
                                      rw [List.drop_of_length_le (by omega), cat_nil, List.nil_append] at hR
                                      have hE := end_nil _ _ _ _ hR
                                      have hF := rleft_any _ _ _ _ _ hR
                                      go_wp2_with (first
                                        | (go_at_call 29; refine hE.mono ?_; rintro e w' ⟨rfl, rfl⟩)
                                        | (go_at_call 27; refine hF.mono ?_; rintro e w' ⟨rfl, rfl⟩))
                                      go_ret
                                      exact ⟨rfl, hb⟩

namespace numBack
open Go.ChangeShapes Go.WideShapes Go.ChangeAt Go.RowKit
open Go.ChangeMaps (open_string shut_string)
set_option linter.unusedVariables false

theorem own : ownKnob Try.prog.godebug = none := by kernel_rfl
theorem laidOut : laidOutB Try.prog = true := by kernel_rfl

set_option maxRecDepth 100000 in
theorem lifted (os : Os) (started : os.Started) (H : Type) (enc : TypeId × Value → H) :
    ReturnsInHanded {} Try.checked os 5 .any (Rows.numBackSpec.pre6 enc Try.prog Try.f5 Rows.numBackRow.domain false) (Rows.numBackSpec.post enc Try.prog Try.f5 false true false false) := by
  refine returnsInHanded_of_change (C := Try.checked) own started (by kernel_rfl) Try.func5
    (ChangeSpec.witness6 (enc := enc) (C := Try.checked) false ⟨#[], #[.slice none 0 0, .slice none 0 0, .slice none 0 0], []⟩ 8 (by kernel_rfl) (by kernel_rfl) (by kernel_rfl) (by kernel_rfl)) ?_
  intro W base args ds gs before hval0 hW hcnd _
  have hval : ∀ (j : Nat) t v, Try.f5.params[j]? = some t → args[j]? = some v → Value.okWide Try.prog W .any base t v := hval0
  have hW' := hW
  obtain ⟨p, q, hA0, hV, rfl, hfz, hnd⟩ := hW
  have hA : DataW.TrodAll enc Try.prog W 0 (fun _ => true) true Try.f5.params.toList args.toList ds p := hA0
  rw [Try.params5] at hA hval
  obtain ⟨v0, vs0, d0, ds0, p0, q0, hargs, rfl, rfl, h0, r0⟩ := trodAll_cons hA
  obtain ⟨v1, vs1, d1, ds1, p1, q1, rfl, rfl, rfl, h1, r1⟩ := trodAll_cons r0
  obtain ⟨v2, vs2, d2, ds2, p2, q2, rfl, rfl, rfl, h2, r2⟩ := trodAll_cons r1
  obtain ⟨rfl, rfl, rfl⟩ := trodAll_nil r2
  obtain rfl : args = #[v0, v1, v2] := by cases args; simp_all
  obtain ⟨rfl, rfl⟩ := trodVars_none hV
  obtain ⟨a0, len0, cap0, rfl⟩ := okWide_slice Try.underlying46 (hval 0 46 v0 rfl rfl)
  obtain ⟨a1, len1, cap1, rfl⟩ := okWide_slice Try.underlying32 (hval 1 32 v1 rfl rfl)
  obtain ⟨a2, len2, cap2, rfl⟩ := okWide_slice Try.underlying47 (hval 2 47 v2 rfl rfl)
  have k0 := h0
  have k1 := h1
  have k2 := h2
  have lt0 : ∀ x ∈ p0, x.block < W.heap.size := by obtain ⟨m, hm⟩ := k0; exact DataW.trod_lt m _ _ _ hm
  have lt1 : ∀ x ∈ p1, x.block < W.heap.size := by obtain ⟨m, hm⟩ := k1; exact DataW.trod_lt m _ _ _ hm
  have lt2 : ∀ x ∈ p2, x.block < W.heap.size := by obtain ⟨m, hm⟩ := k2; exact DataW.trod_lt m _ _ _ hm
  obtain ⟨z0, w0⟩ : ∃ zs, IsRow .u64 W a0 len0 cap0 zs := by
    obtain ⟨fuel, hf⟩ := h0
    rcases open_ints Try.underlying46 Try.underlying23 (by kernel_rfl) hf with ⟨hcs, _⟩ | ⟨x, l, c, zs, hcs, _, hl, hm, hz, _, hcell, hwz⟩
    · simp [Value.cells] at hcs
      obtain ⟨rfl, rfl, rfl⟩ := hcs
      exact ⟨[], .inl ⟨rfl, rfl, rfl, rfl⟩⟩
    · simp [Value.cells] at hcs
      obtain ⟨rfl, rfl, rfl⟩ := hcs
      exact ⟨zs, .inr ⟨_, rfl, hl, hm, by simpa using hz, hcell, hwz⟩⟩
  obtain ⟨z1, w1⟩ : ∃ zs, IsRow .i64 W a1 len1 cap1 zs := by
    obtain ⟨fuel, hf⟩ := h1
    rcases open_ints Try.underlying32 Try.underlying3 (by kernel_rfl) hf with ⟨hcs, _⟩ | ⟨x, l, c, zs, hcs, _, hl, hm, hz, _, hcell, hwz⟩
    · simp [Value.cells] at hcs
      obtain ⟨rfl, rfl, rfl⟩ := hcs
      exact ⟨[], .inl ⟨rfl, rfl, rfl, rfl⟩⟩
    · simp [Value.cells] at hcs
      obtain ⟨rfl, rfl, rfl⟩ := hcs
      exact ⟨zs, .inr ⟨_, rfl, hl, hm, by simpa using hz, hcell, hwz⟩⟩
  obtain ⟨z2, w2⟩ : ∃ ss, SSrc W a2 len2 ss := by
    obtain ⟨fuel, hf⟩ := h2
    rcases open_strings Try.underlying47 Try.underlying9 (by kernel_rfl) hf with ⟨hcs, _⟩ | ⟨x, l, c, ss, hcs, _, hl, hm, hz, _, hcell, _⟩
    · simp [Value.cells] at hcs
      obtain ⟨rfl, rfl, rfl⟩ := hcs
      exact ⟨[], rfl, by omega, fun h => absurd h (by omega)⟩
    · simp [Value.cells] at hcs
      obtain ⟨rfl, rfl, rfl⟩ := hcs
      exact ⟨_, SSrc.of hl hm (by simp at hz; omega) hcell⟩
  clear hA0 hval0
  refine (numBack_walk a0 len0 cap0 _ a1 len1 cap1 _ a2 len2 cap2 _ W w0.isrc w1.isrc w2).mono fun e W' ⟨he, bel⟩ => ?_
  subst he
  exact ⟨_, rfl, _, _, _, [], _, [], hW', trodAll_mk1 (shut_bool Try.underlying4 _),
    (trodAll_cons_mk (Below.trod laidOut (by kernel_rfl) (of_decide_eq_true (by kernel_rfl)) k0 bel lt0) (trodAll_cons_mk (Below.trod laidOut (by kernel_rfl) (of_decide_eq_true (by kernel_rfl)) k1 bel lt1) (trodAll_cons_mk (Below.trod laidOut (by kernel_rfl) (of_decide_eq_true (by kernel_rfl)) k2 bel lt2) trodAll_mk0))), rfl, bel.frame _, fun h => by cases h⟩

theorem over : Rows.numBackRow.holds Try.pinned (OpenSpec.ofChange Rows.numBackSpec) :=
  OpenClaim.holds_of_wide 5 Try.f5 rfl rfl rfl rfl rfl rfl rfl ⟨rfl, rfl, rfl, rfl, rfl⟩ rfl rfl rfl rfl rfl (by kernel_rfl) Try.func5 (by kernel_rfl)
    (of_decide_eq_true (by kernel_rfl)) (by unfold Func.isWrapper; first | (rw [if_pos (by decide +kernel)]; kernel_rfl) | (rw [if_neg (by decide +kernel)]; exact ⟨rfl, rfl⟩))
    (fun os started H enc _ => lifted os started H enc)

end numBack

/-- The statement. -/
theorem numBack_holds : Rows.NumBackSaid := numBack.over
#print axioms numBack_holds
end Go.Proofs.Ytbhfnhciadhgmaa
