/- The reference: String. -/
import Derived.Test.YtbpepmajpojacaaFgRChars
import Derived.Test.YtbpepmajpojacaaFgString
set_option linter.unusedVariables false
set_option linter.unusedSimpArgs false
namespace Go.Proofs.Ytbpepmajpojacaa
open Go.RowKit
open Go.Sort (grow)

theorem strB_more (L : List Cr) (c : Cr) : strB (L ++ [c]) = strB L ++ Lib.encodeRune (codeI c.ch) := by
  unfold strB
  rw [List.flatMap_append]
  simp

theorem encode_eq (r : Int) : Utf8.encode r = ⟨(Lib.encodeRune r).toArray⟩ := by
  by_cases h0 : r < 0 ∨ (55296 ≤ r ∧ r ≤ 57343) ∨ 1114111 < r
  · have hv : Utf8.valid r = false := by simp [Utf8.valid]; omega
    unfold Lib.encodeRune
    rw [Lib.encodeRuneZ_bad h0]
    simp [Utf8.encode, hv, Utf8.runeError]
  · obtain ⟨m, rfl⟩ := Int.eq_ofNat_of_zero_le (a := r) (by omega)
    have hv : Utf8.valid (m : Int) = true := by simp [Utf8.valid]; omega
    unfold Lib.encodeRune
    by_cases h1 : m < 128
    · rw [Lib.encodeRuneZ_one (by omega) (by omega)]
      simp [Utf8.encode, hv, h1]
    · by_cases h2 : m < 2048
      · rw [Lib.encodeRuneZ_two (by omega) (by omega)]
        have e1 : (192 + (m : Int) / 64).toNat = 192 + m / 64 := by omega
        have e2 : (128 + (m : Int) % 64).toNat = 128 + m % 64 := by omega
        simp [Utf8.encode, hv, h1, h2, e1, e2]
      · by_cases h3 : m < 65536
        · rw [Lib.encodeRuneZ_three (by omega)]
          have e1 : (224 + (m : Int) / 4096).toNat = 224 + m / 4096 := by omega
          have e2 : (128 + (m : Int) / 64 % 64).toNat = 128 + m / 64 % 64 := by omega
          have e3 : (128 + (m : Int) % 64).toNat = 128 + m % 64 := by omega
          simp [Utf8.encode, hv, h1, h2, h3, e1, e2, e3]
        · rw [Lib.encodeRuneZ_four (by omega) (by omega)]
          have e0 : (240 + (m : Int) / 262144).toNat = 240 + m / 262144 := by omega
          have e1 : (128 + (m : Int) / 4096 % 64).toNat = 128 + m / 4096 % 64 := by omega
          have e2 : (128 + (m : Int) / 64 % 64).toNat = 128 + m / 64 % 64 := by omega
          have e3 : (128 + (m : Int) % 64).toNat = 128 + m % 64 := by omega
          simp [Utf8.encode, hv, h1, h2, h3, e0, e1, e2, e3]

theorem cat_eq (x y : List UInt8) : (ByteArray.mk x.toArray ++ ByteArray.mk y.toArray) = ByteArray.mk (x ++ y).toArray := by
  apply ByteArray.ext
  simp [ByteArray.data_append]

set_option maxRecDepth 100000 in
set_option maxHeartbeats 4000000 in
theorem rstring_any (a : Option Addr) (n c : Nat) (T : List Cr) (hT : WT T) (hc : ∀ x ∈ T, I64 x.ch) (hn : n ≤ 100000) (w : World) (h : RT w a n c T) :
    Calls Try.prog 37 #[.agg #[.slice a n c]] w fun e w' => e = .returned (.string ⟨(strB (seenC T)).toArray⟩) ∧ Below w.heap.size w w' := by
  have mixed := mixed
  obtain ⟨W0, hW0⟩ : ∃ W0, W0 = w.alloc (.cells #[.slice a n c] 30) := ⟨_, rfl⟩
  have hB0 : Below w.heap.size w W0 := by rw [hW0]; exact (Below.refl _ w).alloc (Nat.le_refl _) _
  have hch := rchars_any a n c T hT hn W0 (h.below hB0)
  obtain ⟨L, hL⟩ : ∃ L, L = (seenC T).map Cr.ch := ⟨_, rfl⟩
  have HL := hid hL
  have HLl : Hid ((seenC T).length = L.length) := hid (by rw [hL, List.length_map])
  have Hch : Hid (∀ W1 v1, W1.ownsRow W0.heap.size 3 1 v1 (seenC T).length ((seenC T).map (fun c => Value.int .i64 c.ch)) → ∃ a1 c1, v1 = .slice a1 L.length c1 ∧ IS W1 a1 L.length c1 L) := hid (fun W1 v1 ho => by
    rw [HLl.out] at ho
    exact own_is (by rw [hL, List.map_map]; rw [hL] at ho; exact ho))
  have hLn : L.length ≤ 100000 := by
    rw [← HLl.out]
    refine Nat.le_trans (List.length_filter_le _ _) ?_
    rw [allC_len hT, h.len]
    exact hn
  clear hL
  go_enter Try.func37, Try.ntmps37
  go_wp2_with (go_at_call 36; rw [← hW0]; clear hW0; refine hch.mono ?_; intro e W1 hg1; obtain ⟨v1, rfl, ho1, b1⟩ := hg1; obtain ⟨a1, c1, rfl, q1⟩ := Hch.out _ _ ho1; clear ho1)
  have hq1 := hid q1
  have hcap1 := q1.cap
  have hmax1 := q1.max
  unfold maxLen at hmax1
  have Hb1 := hid b1
  clear q1 b1 hch
  go_loopw [3, 5] (fun u i wr => ∃ (k : Nat), k ≤ L.length ∧ i = .int .i64 k ∧ u = .string ⟨(strB ((seenC T).take k)).toArray⟩ ∧ wr = W1) (fun _ i _ => L.length - (intOf i).toNat)
  case atStart => exact ⟨0, by omega, rfl, rfl, rfl⟩
  case round =>
    obtain ⟨k, hk, rfl, rfl, rfl⟩ := hrel
    by_cases hlt : k < L.length
    · obtain ⟨g, o, rfl, hg, hat⟩ := hq1.out.at_ (by omega)
      have hc0 := hat k hlt
      have hkC : k < (seenC T).length := by rw [HLl.out]; exact hlt
      obtain ⟨x, hx⟩ : ∃ x, x = (seenC T)[k]'hkC := ⟨_, rfl⟩
      have hts : Hid ((seenC T).take (k + 1) = (seenC T).take k ++ [x]) := hid (by rw [hx]; exact List.take_succ_eq_append_getElem hkC)
      have hxT : x ∈ T := seenC_mem (by rw [hx]; exact List.getElem_mem hkC)
      have hxy : L[k]'hlt = x.ch := by
        have e1 : L[k]? = ((seenC T).map Cr.ch)[k]? := by rw [HL.out]
        rw [List.getElem?_map, List.getElem?_eq_getElem hlt, List.getElem?_eq_getElem hkC, ← hx] at e1
        exact Option.some.inj e1
      rw [hxy] at hc0
      have hcx := hc x hxT
      obtain ⟨ch, hch⟩ : ∃ ch, ch = x.ch := ⟨_, rfl⟩
      rw [← hch] at hc0 hcx
      have hnx : Hid (strB ((seenC T).take (k + 1)) = strB ((seenC T).take k) ++ Lib.encodeRune (codeI ch)) := hid (by rw [hts.out, strB_more, hch])
      have hk1 : (k : Int) < (L.length : Int) := by omega
      have hk0' : (0 : Int) ≤ (k : Int) := by omega
      clear hat hx hxT hxy hkC hch
      have hS0 : (strB ((seenC T).take k)).length ≤ 9223372036854775800 := by
        have h1 := strB_len ((seenC T).take k)
        rw [List.length_take] at h1
        omega
      generalize strB ((seenC T).take k) = S at hnx hS0 ⊢
      have hS1 : S.length ≤ 9223372036854775804 := by omega
      have hS2 : ¬ (9223372036854775807 < S.length + 3) := by omega
      have hS3 : S.length + 3 ≤ 9223372036854775807 := by omega
      by_cases h1 : ch < 0
      · have b1 : decide (ch < 0) = true := by simp [h1]
        have he : Hid (codeI ch = 65533) := hid (by unfold codeI; rw [if_pos (Or.inl h1)])
        clear h1
        go_wp2
        go_roundw
        case rel => exact ⟨k + 1, by omega, by go_num, by rw [hnx.out, he.out]; exact congrArg Value.string (cat_eq S [239, 191, 189]), trivial⟩
        case measure => simp [intOf]; omega
      · have b1 : decide (ch < 0) = false := by simp; omega
        by_cases h2 : 1114111 < ch
        · have b2 : decide (1114111 < ch) = true := by simp [h2]
          have he : Hid (codeI ch = 65533) := hid (by unfold codeI; rw [if_pos (Or.inr h2)])
          clear h1 h2
          go_wp2
          go_roundw
          case rel => exact ⟨k + 1, by omega, by go_num, by rw [hnx.out, he.out]; exact congrArg Value.string (cat_eq S [239, 191, 189]), trivial⟩
          case measure => simp [intOf]; omega
        · have b2 : decide (1114111 < ch) = false := by simp; omega
          have he : Hid (codeI ch = ch) := hid (by unfold codeI; rw [if_neg (by omega)])
          have hE := encode_eq ch
          have hEl := encodeRune_le ch
          rw [he.out] at hnx
          generalize Lib.encodeRune ch = E at hE hEl hnx
          have hS4 : ¬ (9223372036854775807 < S.length + E.length) := by omega
          have hS5 : S.length + E.length ≤ 9223372036854775807 := by omega
          clear hEl
          have hw : IntKind.i32.wrap ch = ch := by simp [IntKind.wrap, IntKind.bits, IntKind.signed]; omega
          go_wp2
          go_roundw
          case rel => exact ⟨k + 1, by omega, by go_num, by rw [hnx.out]; exact congrArg Value.string (cat_eq S E), trivial⟩
          case measure => simp [intOf]; omega
    · obtain rfl : k = L.length := by omega
      have hfi : Hid ((seenC T).take L.length = seenC T) := hid (List.take_of_length_le (by rw [HLl.out]; exact Nat.le_refl _))
      have hbe := hid (hB0.trans (Hb1.out.mono hB0.size))
      go_wp2
      go_ret
      exact ⟨by rw [hfi.out]; rfl, hbe.out⟩
end Go.Proofs.Ytbpepmajpojacaa
