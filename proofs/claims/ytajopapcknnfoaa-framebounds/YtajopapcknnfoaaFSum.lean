/- The program's sum is the document's. -/
import Derived.Test.YtajopapcknnfoaaMem
import Derived.Test.YtajopapcknnfoaaFSpec
namespace Go.Proofs.Ytajopapcknnfoaa
open Go.RowKit

theorem bits_low32 (S : Nat) (hS : S < 4294967296) : bits .and .u32 (S : Int) 1 = ((S % 2 : Nat) : Int) := by
  show IntKind.u32.wrap ((BitVec.ofInt 32 (S : Int) &&& BitVec.ofInt 32 ((1 : Nat) : Int)).toNat : Int) = _
  rw [BitVec.ofInt_natCast, BitVec.ofInt_natCast, BitVec.toNat_and, BitVec.toNat_ofNat, BitVec.toNat_ofNat, Nat.mod_eq_of_lt (by omega : S < 2 ^ 32), Nat.mod_eq_of_lt (by omega : 1 < 2 ^ 32), Nat.and_one_is_mod]
  simp [IntKind.wrap, IntKind.bits, IntKind.signed]
  omega
theorem bits_step32 (S : Nat) (hS : S < 4294967296) : bits .xor .u32 ((S : Int) / 2) (2197175160 * bits .and .u32 (S : Int) 1 % 4294967296) = ((cshift S : Nat) : Int) := by
  rw [bits_low32 S hS]
  have e2 : ((S : Int) / 2) = ((S / 2 : Nat) : Int) := by omega
  rw [e2]
  unfold cshift
  by_cases h : S % 2 = 1
  · rw [if_pos h, h]
    exact bits_xor32 (S / 2) 2197175160 (by omega) (by omega)
  · have h0 : S % 2 = 0 := by omega
    rw [if_neg h, h0]
    have := bits_xor32 (S / 2) 0 (by omega) (by omega)
    rw [Nat.xor_zero] at this
    exact this
theorem bits_flip32 (R : Nat) (hR : R < 4294967296) : bits .xor .u32 IntKind.u32.max (R : Int) = ((4294967295 - R : Nat) : Int) := by
  have e : IntKind.u32.max = ((4294967295 : Nat) : Int) := by rfl
  rw [e, bits_xor32 _ _ (by omega) hR]
  congr 1
  have h := BitVec.toNat_not (x := BitVec.ofNat 32 R)
  rw [BitVec.toNat_ofNat, Nat.mod_eq_of_lt (by omega : R < 2 ^ 32), BitVec.not_def, BitVec.toNat_xor, BitVec.toNat_allOnes, BitVec.toNat_ofNat, Nat.mod_eq_of_lt (by omega : R < 2 ^ 32)] at h
  have e2 : (2 : Nat) ^ 32 - 1 = 4294967295 := by decide
  rw [e2] at h
  exact h
theorem cshift_lt {S : Nat} (hS : S < 4294967296) : cshift S < 4294967296 := by
  unfold cshift
  split
  · exact xor_lt32 (by omega) (by omega)
  · omega

set_option maxHeartbeats 400000 in
theorem sum_any (a : Option Addr) (len cap : Nat) (L : List Int) (w : World) (hs : Src w a len L) (hb : Bts L) (hm : len ≤ 9223372036854775807) :
    Calls Try.prog 10 #[.slice a len cap] w fun e w' => e = .returned (.int .u32 (sumI L)) ∧ w = w' := by
  go_enter Try.func10, Try.ntmps10
  go_wp2
  go_loop [8, 3] (fun i r => ∃ (j R : Nat), j ≤ len ∧ i = .int .i64 j ∧ r = .int .u32 R ∧ R < 4294967296 ∧ Hid (creg R ((L.drop j).map Int.toNat) = creg 4294967295 (L.map Int.toNat))) (fun i _ => len - (intOf i).toNat)
  case atStart => exact ⟨0, 4294967295, by omega, rfl, rfl, by omega, rfl⟩
  case round =>
    obtain ⟨j, R, hj, rfl, rfl, hR, hreg⟩ := hrel
    by_cases hlt : j < len
    · obtain ⟨g, off, rfl, hc⟩ := hs.flat (by omega)
      have hcj := hc j hlt
      have hv := hb.at j
      obtain ⟨x, hx⟩ : ∃ x : Nat, L[j]?.getD 0 = (x : Int) := ⟨(L[j]?.getD 0).toNat, by omega⟩
      rw [hx] at hcj hv
      have hxx := bits_xor32 R x hR (by omega)
      go_wp2
      go_loop [16, 3] (fun i r => ∃ (k S : Nat), k ≤ 8 ∧ i = .int .i64 k ∧ r = .int .u32 S ∧ S < 4294967296 ∧ Hid (cshifts (8 - k) S = cbyte R x)) (fun i _ => 8 - (intOf i).toNat)
      case atStart => exact ⟨0, R ^^^ x, by omega, rfl, rfl, xor_lt32 hR (by omega), cshifts_byte R x (by omega)⟩
      case round =>
        obtain ⟨k, S, hk, rfl, rfl, hS, hsh⟩ := hrel
        by_cases hk8 : k < 8
        · go_wp2
          go_round
          case rel =>
            refine ⟨k + 1, cshift S, by omega, by go_num, by rw [bits_step32 S hS], cshift_lt hS, ?_⟩
            have e : 8 - k = (8 - (k + 1)) + 1 := by omega
            have h := hsh.out
            rw [e] at h
            exact h
          case measure => simp [intOf]; omega
        · obtain rfl : k = 8 := by omega
          go_wp2
          go_round
          case rel =>
            refine ⟨j + 1, S, by omega, by go_num, rfl, hS, ?_⟩
            have h1 : S = cbyte R x := hsh.out
            have h := hreg.out
            have hl : j < L.length := by rw [hs.1]; exact hlt
            rw [List.drop_eq_getElem_cons hl, List.map_cons, creg_cons] at h
            rw [List.getElem?_eq_getElem hl, Option.getD_some] at hx
            rw [hx, Int.toNat_natCast] at h
            rw [h1]
            exact h
          case measure => simp [intOf]; omega
    · obtain rfl : j = len := by omega
      go_wp2
      go_ret
      refine ⟨ret_int ?_, rfl⟩
      have h := hreg.out
      rw [List.drop_eq_nil_of_le (by rw [hs.1]; exact Nat.le_refl _)] at h
      have h' : R = creg 4294967295 (L.map Int.toNat) := h
      rw [bits_flip32 R hR]
      unfold sumI csum
      rw [h']
end Go.Proofs.Ytajopapcknnfoaa
