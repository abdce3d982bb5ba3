/- Plain facts about the sum of bytes; no program in sight. -/
import Derived.Below
import Derived.Laws.BitsLemmas
namespace Go.Proofs.Ytajopapcknnfoaa

/-- One bit of the sum: the register r, the bit b. -/
def cbit (r b : Nat) : Nat := if r % 2 ≠ b % 2 then (r / 2) ^^^ 2197175160 else r / 2
/-- So many bits of c, the lowest first. -/
def cbits : Nat → Nat → Nat → Nat
  | 0, r, _ => r
  | k + 1, r, c => cbits k (cbit r c) (c / 2)
/-- One byte. -/
def cbyte (r c : Nat) : Nat := cbits 8 r c
/-- The register behind some bytes. -/
def creg (r : Nat) (L : List Nat) : Nat := L.foldl cbyte r
/-- The sum of some bytes. -/
def csum (L : List Nat) : Nat := 4294967295 - creg 4294967295 L

theorem xor_lt32 {a b : Nat} (ha : a < 4294967296) (hb : b < 4294967296) : a ^^^ b < 4294967296 := Nat.xor_lt_two_pow (n := 32) ha hb
theorem cbit_lt {r b : Nat} (h : r < 4294967296) : cbit r b < 4294967296 := by
  unfold cbit
  split
  · exact xor_lt32 (by omega) (by omega)
  · omega
theorem cbits_lt {k r c : Nat} (h : r < 4294967296) : cbits k r c < 4294967296 := by
  induction k generalizing r c with
  | zero => exact h
  | succ k ih => exact ih (cbit_lt h)
theorem cbyte_lt {r c : Nat} (h : r < 4294967296) : cbyte r c < 4294967296 := cbits_lt h
theorem creg_lt {r : Nat} {L : List Nat} (h : r < 4294967296) : creg r L < 4294967296 := by
  unfold creg
  induction L generalizing r with
  | nil => exact h
  | cons c L ih => exact ih (cbyte_lt h)
theorem csum_lt (L : List Nat) : csum L < 4294967296 := by unfold csum; omega

/-- The highest bit of a half is 0, of the polynomial 1. -/
theorem poly_top {a : Nat} (h : a < 2147483648) : 2147483648 ≤ a ^^^ 2197175160 := by
  have h1 : a.testBit 31 = false := Nat.testBit_lt_two_pow (by omega)
  have h2 : (a ^^^ 2197175160).testBit 31 = true := by
    rw [Nat.testBit_xor, h1]; decide
  exact Nat.ge_two_pow_of_testBit h2
theorem xor_right_cancel {a b c : Nat} (h : a ^^^ c = b ^^^ c) : a = b := by
  have := congrArg (· ^^^ c) h
  simpa [Nat.xor_assoc] using this

theorem cbit_inj {r s b : Nat} (hr : r < 4294967296) (hs : s < 4294967296) (h : cbit r b = cbit s b) : r = s := by
  unfold cbit at h
  have h1 := poly_top (a := r / 2) (by omega)
  have h2 := poly_top (a := s / 2) (by omega)
  split at h <;> split at h
  · have := xor_right_cancel h; omega
  · omega
  · omega
  · omega
theorem cbits_inj {k r s c : Nat} (hr : r < 4294967296) (hs : s < 4294967296) (h : cbits k r c = cbits k s c) : r = s := by
  induction k generalizing r s c with
  | zero => exact h
  | succ k ih => exact cbit_inj hr hs (ih (cbit_lt hr) (cbit_lt hs) h)
theorem cbyte_inj {r s c : Nat} (hr : r < 4294967296) (hs : s < 4294967296) (h : cbyte r c = cbyte s c) : r = s := by
  unfold cbyte at h
  exact cbits_inj (k := 8) hr hs h
theorem creg_inj {r s : Nat} {L : List Nat} (hr : r < 4294967296) (hs : s < 4294967296) (h : creg r L = creg s L) : r = s := by
  unfold creg at h
  induction L generalizing r s with
  | nil => exact h
  | cons c L ih =>
    rw [List.foldl_cons, List.foldl_cons] at h
    have h1 := ih (r := cbyte r c) (s := cbyte s c) (cbyte_lt hr) (cbyte_lt hs) h
    exact cbyte_inj hr hs h1
theorem creg_append (r : Nat) (L M : List Nat) : creg r (L ++ M) = creg (creg r L) M := by unfold creg; rw [List.foldl_append]
theorem creg_cons (r c : Nat) (L : List Nat) : creg r (c :: L) = creg (cbyte r c) L := by unfold creg; rw [List.foldl_cons]

/-- The other way: the byte is added to the register first. -/
def cshift (r : Nat) : Nat := if r % 2 = 1 then (r / 2) ^^^ 2197175160 else r / 2
def cshifts : Nat → Nat → Nat
  | 0, r => r
  | k + 1, r => cshifts k (cshift r)

theorem xor_half (a b : Nat) : (a ^^^ b) / 2 = a / 2 ^^^ b / 2 := by
  have := Nat.shiftRight_xor_distrib (a := a) (b := b) (i := 1)
  simpa [Nat.shiftRight_succ] using this
theorem xor_odd (a b : Nat) : (a ^^^ b) % 2 = 1 ↔ a % 2 ≠ b % 2 := by
  have := Nat.xor_mod_two_eq_one (a := a) (b := b)
  omega
theorem cshift_xor (r c : Nat) : cshift (r ^^^ c) = cbit r c ^^^ c / 2 := by
  unfold cshift cbit
  rw [xor_half]
  by_cases h : r % 2 ≠ c % 2
  · rw [if_pos ((xor_odd r c).2 h), if_pos h, Nat.xor_assoc, Nat.xor_comm (c / 2), ← Nat.xor_assoc]
  · rw [if_neg (fun h' => h ((xor_odd r c).1 h')), if_neg h]
theorem cshifts_xor (k r c : Nat) (hc : c < 2 ^ k) : cshifts k (r ^^^ c) = cbits k r c := by
  induction k generalizing r c with
  | zero => obtain rfl : c = 0 := by simpa using hc
            simp [cshifts, cbits]
  | succ k ih =>
    show cshifts k (cshift (r ^^^ c)) = cbits k (cbit r c) (c / 2)
    rw [cshift_xor, ih _ _ (by rw [Nat.pow_succ] at hc; omega)]
theorem cshifts_byte (r c : Nat) (hc : c < 256) : cshifts 8 (r ^^^ c) = cbyte r c := cshifts_xor 8 r c hc

/-- Another byte, another register. -/
theorem cbyte_other {r c d : Nat} (hr : r < 4294967296) (hc : c < 256) (hd : d < 256) (h : cbyte r c = cbyte r d) : c = d := by
  rw [← cshifts_byte r c hc, ← cshifts_byte r d hd] at h
  have inj : ∀ k a b, a < 4294967296 → b < 4294967296 → cshifts k a = cshifts k b → a = b := by
    intro k
    have step : ∀ a, cshift a = cbit a 0 := by
      intro a; unfold cshift cbit
      by_cases h : a % 2 = 1
      · rw [if_pos h, if_pos (by omega)]
      · rw [if_neg h, if_neg (by omega)]
    induction k with
    | zero => intro a b _ _ h; exact h
    | succ k ih =>
      intro a b ha hb h
      have h' : cshifts k (cshift a) = cshifts k (cshift b) := h
      rw [step a, step b] at h'
      exact cbit_inj ha hb (ih _ _ (cbit_lt ha) (cbit_lt hb) h')
  have := inj 8 _ _ (xor_lt32 hr (by omega)) (xor_lt32 hr (by omega)) h
  rw [Nat.xor_comm r c, Nat.xor_comm r d] at this
  exact xor_right_cancel this

/-- One byte another one: another sum. -/
theorem csum_other (A B : List Nat) (c d : Nat) (hc : c < 256) (hd : d < 256) (hne : c ≠ d) : csum (A ++ c :: B) ≠ csum (A ++ d :: B) := by
  intro h
  have h0 : (4294967295 : Nat) < 4294967296 := by omega
  have l1 := creg_lt (L := A ++ c :: B) h0
  have l2 := creg_lt (L := A ++ d :: B) h0
  unfold csum at h
  have h1 : creg 4294967295 (A ++ c :: B) = creg 4294967295 (A ++ d :: B) := by omega
  rw [creg_append, creg_append, creg_cons, creg_cons] at h1
  have hA := creg_lt (L := A) h0
  exact hne (cbyte_other hA hc hd (creg_inj (cbyte_lt hA) (cbyte_lt hA) h1))

/-- The exclusive or of two registers, as the program's numbers have it. -/
theorem bits_xor32 (a b : Nat) (ha : a < 4294967296) (hb : b < 4294967296) : bits .xor .u32 (a : Int) (b : Int) = ((a ^^^ b : Nat) : Int) := by
  show IntKind.u32.wrap ((BitVec.ofInt 32 (a : Int) ^^^ BitVec.ofInt 32 (b : Int)).toNat : Int) = _
  rw [BitVec.ofInt_natCast, BitVec.ofInt_natCast, BitVec.toNat_xor, BitVec.toNat_ofNat, BitVec.toNat_ofNat, Nat.mod_eq_of_lt (by omega : a < 2 ^ 32), Nat.mod_eq_of_lt (by omega : b < 2 ^ 32)]
  have h := xor_lt32 ha hb
  generalize a ^^^ b = t at h ⊢
  simp [IntKind.wrap, IntKind.bits, IntKind.signed]
  omega
end Go.Proofs.Ytajopapcknnfoaa
