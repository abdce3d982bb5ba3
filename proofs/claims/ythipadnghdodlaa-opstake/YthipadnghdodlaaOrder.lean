/- Plain facts about the order of numbers' bytes, and that bytes are put together again; no program in sight. -/
import Derived.Test.YthipadnghdodlaaMath
import Derived.Laws.BytesArg
import Derived.Laws.Strings
namespace Go.Proofs.Ythipadnghdodlaa

theorem less_snoc (l1 l2 : List UInt8) (x y : UInt8) (h : l1.length = l2.length) : Op.bytesLess (l1 ++ [x]) (l2 ++ [y]) = (Op.bytesLess l1 l2 || (l1 == l2 && decide (x < y))) := by
  induction l1 generalizing l2 with
  | nil =>
    cases l2 with
    | nil => simp [Op.bytesLess]
    | cons b r => simp at h
  | cons a r ih =>
    cases l2 with
    | nil => simp at h
    | cons b s =>
      simp only [List.length_cons, Nat.add_right_cancel_iff] at h
      simp only [List.cons_append, Op.bytesLess, ih s h]
      by_cases hab : a = b
      · subst hab; simp
      · have e1 : (a == b) = false := by simpa using hab
        have e2 : ((a :: r : List UInt8) == b :: s) = false := by simp [hab]
        rw [e1, e2]; simp

/-- A byte, as strings have it. -/
def ub (x : Int) : UInt8 := UInt8.ofNat x.toNat
theorem ub_lt (x y : Int) (hx : 0 ≤ x) (hx1 : x < 256) (hy : 0 ≤ y) (hy1 : y < 256) : ub x < ub y ↔ x < y := by
  unfold ub
  rw [UInt8.lt_iff_toNat_lt, UInt8.toNat_ofNat', UInt8.toNat_ofNat']
  omega
theorem ub_inj (x y : Int) (hx : 0 ≤ x) (hx1 : x < 256) (hy : 0 ≤ y) (hy1 : y < 256) : ub x = ub y ↔ x = y := by
  constructor
  · intro h
    have := congrArg UInt8.toNat h
    unfold ub at this
    rw [UInt8.toNat_ofNat', UInt8.toNat_ofNat'] at this
    omega
  · intro h; rw [h]

theorem pow_256_succ (k : Nat) : (256 : Int) ^ (k + 1) = 256 ^ k * 256 := Int.pow_succ _ _

theorem be_inj (k : Nat) (m m' : Int) (h0 : 0 ≤ m) (h1 : m < 256 ^ k) (g0 : 0 ≤ m') (g1 : m' < 256 ^ k) : ((be k m).map ub = (be k m').map ub) ↔ m = m' := by
  induction k generalizing m m' with
  | zero => simp at h1 g1; simp [be]; omega
  | succ k ih =>
    rw [pow_256_succ] at h1 g1
    have i := ih (m / 256) (m' / 256) (by omega) (by omega) (by omega) (by omega)
    simp only [be, List.map_append, List.map_cons, List.map_nil]
    constructor
    · intro h
      have hlen : ((be k (m / 256)).map ub).length = ((be k (m' / 256)).map ub).length := by simp [be_length]
      have := List.append_inj h hlen
      have e1 := i.1 this.1
      have e2 := (ub_inj _ _ (by omega) (by omega) (by omega) (by omega)).1 (List.singleton_inj.1 this.2)
      omega
    · intro h; rw [h]

theorem be_less (k : Nat) (m m' : Int) (h0 : 0 ≤ m) (h1 : m < 256 ^ k) (g0 : 0 ≤ m') (g1 : m' < 256 ^ k) : Op.bytesLess ((be k m).map ub) ((be k m').map ub) = decide (m < m') := by
  induction k generalizing m m' with
  | zero => simp at h1 g1; simp [be, Op.bytesLess]; omega
  | succ k ih =>
    rw [pow_256_succ] at h1 g1
    have i := ih (m / 256) (m' / 256) (by omega) (by omega) (by omega) (by omega)
    have j := be_inj k (m / 256) (m' / 256) (by omega) (by omega) (by omega) (by omega)
    have u := ub_lt (m % 256) (m' % 256) (by omega) (by omega) (by omega) (by omega)
    simp only [be, List.map_append, List.map_cons, List.map_nil]
    rw [less_snoc _ _ _ _ (by simp [be_length]), i]
    rw [Bool.eq_iff_iff]
    simp only [Bool.or_eq_true, Bool.and_eq_true, decide_eq_true_eq, beq_iff_eq, j, u]
    omega

theorem enc_range (n : Int) (h0 : 0 ≤ n) (h1 : n < 18446744073709551616) : 0 ≤ n + hd (sz n) ∧ n + hd (sz n) < 256 ^ (sz n) := by
  rcases sz_cases n with h | h | h | h | h | h | h | h | h <;> (rw [h.1]; simp [hd]; omega)

theorem enc_less (a b : Int) (h0 : 0 ≤ a) (h1 : a < 18446744073709551616) (g0 : 0 ≤ b) (g1 : b < 18446744073709551616) (hs : sz a = sz b) : Op.bytesLess (strOfNums (enc a)).toList (strOfNums (enc b)).toList = decide (a < b) := by
  have e1 : ∀ n, (strOfNums (enc n)).toList = (enc n).map ub := by intro n; rw [ByteArray.toList_eq]; rfl
  rw [e1, e1]
  unfold enc
  have ra := enc_range a h0 h1
  have rb := enc_range b g0 g1
  rw [← hs] at rb ⊢
  rw [be_less _ _ _ ra.1 ra.2 rb.1 rb.2, decide_eq_decide]
  omega

theorem sz_less (a b : Int) (hs : sz a ≠ sz b) : (sz a < sz b) ↔ a < b := by
  have := sz_cases a
  have := sz_cases b
  omega

end Go.Proofs.Ythipadnghdodlaa
