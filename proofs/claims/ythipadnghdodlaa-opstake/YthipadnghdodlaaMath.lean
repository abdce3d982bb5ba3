/- Plain facts about how a number is cut into bytes; no program in sight. -/
import Derived.Below
import Derived.Laws.BitsLemmas
namespace Go.Proofs.Ythipadnghdodlaa

/-- How many bytes a number has. -/
def sz (n : Int) : Nat :=
  if n < 128 then 1 else if n < 16384 then 2 else if n < 2097152 then 3 else if n < 268435456 then 4 else if n < 34359738368 then 5
  else if n < 4398046511104 then 6 else if n < 562949953421312 then 7 else if n < 72057594037927936 then 8 else 9

theorem sz_cases (n : Int) : (sz n = 1 ∧ n < 128) ∨ (sz n = 2 ∧ 128 ≤ n ∧ n < 16384) ∨ (sz n = 3 ∧ 16384 ≤ n ∧ n < 2097152) ∨ (sz n = 4 ∧ 2097152 ≤ n ∧ n < 268435456)
    ∨ (sz n = 5 ∧ 268435456 ≤ n ∧ n < 34359738368) ∨ (sz n = 6 ∧ 34359738368 ≤ n ∧ n < 4398046511104) ∨ (sz n = 7 ∧ 4398046511104 ≤ n ∧ n < 562949953421312)
    ∨ (sz n = 8 ∧ 562949953421312 ≤ n ∧ n < 72057594037927936) ∨ (sz n = 9 ∧ 72057594037927936 ≤ n) := by
  unfold sz; (repeat' split) <;> omega
theorem sz_pos (n : Int) : 1 ≤ sz n := by have := sz_cases n; omega
theorem sz_le (n : Int) : sz n ≤ 9 := by have := sz_cases n; omega

/-- At the test of round k of the size's loop. -/
theorem sz_hit (n : Int) (k : Nat) (hk : k < 8) (hlo : k = 0 ∨ (n / 2 ^ (7 * k) == 0) = false) (hh : (n / 2 ^ (7 * (k + 1)) == 0) = true) (h0 : 0 ≤ n) : sz n = k + 1 := by
  have cases : k = 0 ∨ k = 1 ∨ k = 2 ∨ k = 3 ∨ k = 4 ∨ k = 5 ∨ k = 6 ∨ k = 7 := by omega
  have := sz_cases n
  rcases cases with rfl | rfl | rfl | rfl | rfl | rfl | rfl | rfl <;> simp at hlo hh <;> omega

theorem sz_nine (n : Int) (k : Nat) (hk : 8 ≤ k) (hk' : k ≤ 8) (hlo : k = 0 ∨ (n / 2 ^ (7 * k) == 0) = false) (h0 : 0 ≤ n) : sz n = 9 := by
  obtain rfl : k = 8 := by omega
  simp at hlo
  have := sz_cases n
  omega

/-- The k lowest bytes of a number, the highest first. -/
def be : Nat → Int → List Int
  | 0, _ => []
  | k + 1, n => be k (n / 256) ++ [n % 256]

theorem be_length (k : Nat) (n : Int) : (be k n).length = k := by
  induction k generalizing n with
  | zero => rfl
  | succ k ih => simp [be, ih]

theorem pow8 (j : Nat) : (2 : Int) ^ (8 * j) = 256 ^ j := by rw [Int.pow_mul]; rfl

theorem be_get (k : Nat) (n : Int) (i : Nat) (hi : i < k) : (be k n)[i]? = some (n / 2 ^ (8 * (k - 1 - i)) % 256) := by
  induction k generalizing n with
  | zero => omega
  | succ k ih =>
    unfold be
    by_cases h : i < k
    · rw [List.getElem?_append_left (by rw [be_length]; exact h), ih _ h]
      have e : 8 * (k + 1 - 1 - i) = 8 + 8 * (k - 1 - i) := by omega
      rw [e, Int.pow_add]
      rw [show ((2:Int) ^ 8) = 256 by rfl, Int.ediv_ediv_of_nonneg (by decide)]
    · obtain rfl : i = k := by omega
      rw [List.getElem?_append_right (by rw [be_length]; omega), be_length]
      simp

theorem be_byte (k : Nat) (n : Int) : ∀ x ∈ be k n, 0 ≤ x ∧ x < 256 := by
  induction k generalizing n with
  | zero => intro x hx; simp [be] at hx
  | succ k ih =>
    intro x hx
    simp only [be, List.mem_append, List.mem_singleton] at hx
    rcases hx with h | rfl
    · exact ih _ x h
    · omega

/-- What the loop has laid after i rounds. -/
def mid (n : Int) (k i : Nat) : List Int := (be k n).take i ++ List.replicate (k - i) 0
theorem mid_length (n : Int) (k i : Nat) (h : i ≤ k) : (mid n k i).length = k := by simp [mid, be_length]; omega
theorem mid_zero (n : Int) (k : Nat) : mid n k 0 = List.replicate k 0 := by simp [mid]
theorem mid_full (n : Int) (k : Nat) : mid n k k = be k n := by
  unfold mid; rw [List.take_of_length_le (by rw [be_length]; exact Nat.le_refl _)]; simp
theorem mid_step (n : Int) (k i : Nat) (hi : i < k) : (mid n k i).set i (n / 2 ^ (8 * (k - 1 - i)) % 256) = mid n k (i + 1) := by
  apply List.ext_getElem?
  intro j
  have hg := be_get k n
  have hl := be_length k n
  unfold mid
  rw [List.getElem?_set]
  by_cases hj : i = j
  · subst hj
    rw [if_pos rfl, if_pos (by simp [hl]; omega), List.getElem?_append_left (by simp [hl]; omega), List.getElem?_take_of_lt (by omega), hg i hi]
  · rw [if_neg hj]
    by_cases h2 : j < i
    · rw [List.getElem?_append_left (by simp [hl]; omega), List.getElem?_append_left (by simp [hl]; omega), List.getElem?_take_of_lt (by omega), List.getElem?_take_of_lt (by omega)]
    · rw [List.getElem?_append_right (by simp [hl]; omega), List.getElem?_append_right (by simp [hl]; omega)]
      simp [List.getElem?_replicate, hl]
      have e1 : min i k = i := by omega
      have e2 : min (i+1) k = i+1 := by omega
      rw [e1, e2]
      by_cases h3 : j < k
      · rw [if_pos (by omega), if_pos (by omega)]
      · rw [if_neg (by omega), if_neg (by omega)]

/-- What the first byte says of how many there are, at its place. -/
def hd (k : Nat) : Int := (256 - 2 ^ (9 - k)) * 256 ^ (k - 1)

theorem or_comm8 (a b : Int) : bits .or .u8 a b = bits .or .u8 b a := by simp [bits, BitVec.or_comm]

theorem or_mask (i : Nat) (d m : Int) (h0 : 0 ≤ d) (hd : d < 2 ^ i) (hd8 : d < 256) (m0 : 0 ≤ m) (m8 : m < 256) (hm : m % 2 ^ i = 0) : bits .or .u8 d m = d + m := by
  rw [or_comm8, bits_join .u8 8 (by decide) (fun n h k => wraps_u8 n h k) i m d m0 hm m8 h0 hd hd8]; omega

/-- A number fits so many bytes. -/
def Fits (k : Nat) (n : Int) : Prop := 1 ≤ k ∧ k ≤ 9 ∧ 0 ≤ n ∧ (n < 2 ^ (7 * k) ∨ k = 9 ∧ n < 18446744073709551616)

theorem fits_sz (n : Int) (h0 : 0 ≤ n) (h1 : n < 18446744073709551616) : Fits (sz n) n := by
  refine ⟨sz_pos n, sz_le n, h0, ?_⟩
  rcases sz_cases n with h | h | h | h | h | h | h | h | h <;> (rw [h.1]; simp; omega)

theorem be_head (k : Nat) (n : Int) (hf : Fits k n) : (be k n).set 0 (bits .or .u8 (n / 2 ^ (8 * (k - 1)) % 256) (65280 / 2 ^ (k - 1) % 256)) = be k (n + hd k) := by
  obtain ⟨h1, h9, h0, hn⟩ := hf
  have cases : k = 1 ∨ k = 2 ∨ k = 3 ∨ k = 4 ∨ k = 5 ∨ k = 6 ∨ k = 7 ∨ k = 8 ∨ k = 9 := by omega
  rcases cases with rfl | rfl | rfl | rfl | rfl | rfl | rfl | rfl | rfl
  · rw [or_mask 7 _ _ (by omega) (by simp at hn ⊢; omega) (by omega) (by decide) (by decide) (by decide)]; simp [be, hd] at hn ⊢
  · rw [or_mask 6 _ _ (by omega) (by simp at hn ⊢; omega) (by omega) (by decide) (by decide) (by decide)]; simp [be, hd] at hn ⊢; omega
  · rw [or_mask 5 _ _ (by omega) (by simp at hn ⊢; omega) (by omega) (by decide) (by decide) (by decide)]; simp [be, hd] at hn ⊢; omega
  · rw [or_mask 4 _ _ (by omega) (by simp at hn ⊢; omega) (by omega) (by decide) (by decide) (by decide)]; simp [be, hd] at hn ⊢; omega
  · rw [or_mask 3 _ _ (by omega) (by simp at hn ⊢; omega) (by omega) (by decide) (by decide) (by decide)]; simp [be, hd] at hn ⊢; omega
  · rw [or_mask 2 _ _ (by omega) (by simp at hn ⊢; omega) (by omega) (by decide) (by decide) (by decide)]; simp [be, hd] at hn ⊢; omega
  · rw [or_mask 1 _ _ (by omega) (by simp at hn ⊢; omega) (by omega) (by decide) (by decide) (by decide)]; simp [be, hd] at hn ⊢; omega
  · rw [or_mask 0 _ _ (by omega) (by simp at hn ⊢; omega) (by omega) (by decide) (by decide) (by decide)]; simp [be, hd] at hn ⊢; omega
  · rw [or_mask 0 _ _ (by omega) (by simp at hn ⊢; omega) (by omega) (by decide) (by decide) (by decide)]; simp [be, hd] at hn ⊢; omega

/-- The bytes of a number. -/
def enc (n : Int) : List Int := be (sz n) (n + hd (sz n))
theorem enc_length (n : Int) : (enc n).length = sz n := be_length _ _

/-- How many bytes a number has, by its first byte. -/
def sd (x : Int) : Nat :=
  if x < 128 then 1 else if x < 192 then 2 else if x < 224 then 3 else if x < 240 then 4 else if x < 248 then 5 else if x < 252 then 6 else if x < 254 then 7 else if x < 255 then 8 else 9

theorem sd_cases (x : Int) : (sd x = 1 ∧ x < 128) ∨ (sd x = 2 ∧ 128 ≤ x ∧ x < 192) ∨ (sd x = 3 ∧ 192 ≤ x ∧ x < 224) ∨ (sd x = 4 ∧ 224 ≤ x ∧ x < 240) ∨ (sd x = 5 ∧ 240 ≤ x ∧ x < 248)
    ∨ (sd x = 6 ∧ 248 ≤ x ∧ x < 252) ∨ (sd x = 7 ∧ 252 ≤ x ∧ x < 254) ∨ (sd x = 8 ∧ 254 ≤ x ∧ x < 255) ∨ (sd x = 9 ∧ 255 ≤ x) := by
  unfold sd; (repeat' split) <;> omega
theorem sd_pos (x : Int) : 1 ≤ sd x := by have := sd_cases x; omega
theorem sd_le (x : Int) : sd x ≤ 9 := by have := sd_cases x; omega

theorem sd_hit (x : Int) (k : Nat) (hk : k < 8) (h0 : 0 ≤ x) (h1 : x < 256) (hlo : 256 - 2 ^ (8 - k) ≤ x) (hh : (x * 2 ^ k % 256 / 128 == 0) = true) : sd x = k + 1 := by
  have cases : k = 0 ∨ k = 1 ∨ k = 2 ∨ k = 3 ∨ k = 4 ∨ k = 5 ∨ k = 6 ∨ k = 7 := by omega
  have := sd_cases x
  rcases cases with rfl | rfl | rfl | rfl | rfl | rfl | rfl | rfl <;> simp at hlo hh <;> omega
theorem sd_step (x : Int) (k : Nat) (hk : k < 8) (h0 : 0 ≤ x) (h1 : x < 256) (hlo : 256 - 2 ^ (8 - k) ≤ x) (hh : (x * 2 ^ k % 256 / 128 == 0) = false) : 256 - 2 ^ (8 - (k + 1)) ≤ x := by
  have cases : k = 0 ∨ k = 1 ∨ k = 2 ∨ k = 3 ∨ k = 4 ∨ k = 5 ∨ k = 6 ∨ k = 7 := by omega
  rcases cases with rfl | rfl | rfl | rfl | rfl | rfl | rfl | rfl <;> simp at hlo hh ⊢ <;> omega
theorem sd_nine (x : Int) (k : Nat) (hk : 8 ≤ k) (hk' : k ≤ 8) (h1 : x < 256) (hlo : 256 - 2 ^ (8 - k) ≤ x) : sd x = 9 := by
  obtain rfl : k = 8 := by omega
  have := sd_cases x
  simp at hlo; omega

/-- The number's bits of the first of k bytes. -/
def fb (k : Nat) (x : Int) : Int := x * 2 ^ min k 8 % 256 / 2 ^ min k 8
/-- What is put together of the first byte and j more. -/
def jacc (L : List Int) (k : Nat) : Nat → Int
  | 0 => fb k (L[0]?.getD 0)
  | j + 1 => jacc L k j * 256 + L[j + 1]?.getD 0

theorem fb_eq (k : Nat) (x : Int) (_h0 : 0 ≤ x) (_h1 : x < 256) (hk1 : 1 ≤ k) (hk9 : k ≤ 9) : 0 ≤ fb k x ∧ fb k x < 2 ^ (8 - k) ∧ (x - fb k x) % 2 ^ (8 - k) = 0 := by
  have cases : k = 1 ∨ k = 2 ∨ k = 3 ∨ k = 4 ∨ k = 5 ∨ k = 6 ∨ k = 7 ∨ k = 8 ∨ k = 9 := by omega
  rcases cases with rfl | rfl | rfl | rfl | rfl | rfl | rfl | rfl | rfl <;> simp [fb] <;> omega

theorem jacc_bound (L : List Int) (k : Nat) (hk1 : 1 ≤ k) (hk9 : k ≤ 9) (hb : ∀ j : Nat, 0 ≤ L[j]?.getD 0 ∧ L[j]?.getD 0 < 256) (j : Nat) : 0 ≤ jacc L k j ∧ jacc L k j < 2 ^ (8 - k) * 256 ^ j := by
  induction j with
  | zero => have := fb_eq k (L[0]?.getD 0) (hb 0).1 (hb 0).2 hk1 hk9; simp [jacc]; omega
  | succ j ih =>
    have := hb (j + 1)
    simp only [jacc]
    have e : (2 : Int) ^ (8 - k) * 256 ^ (j + 1) = 2 ^ (8 - k) * 256 ^ j * 256 := by rw [Int.pow_succ, Int.mul_assoc]
    rw [e]
    omega

theorem jacc_small (L : List Int) (k : Nat) (hk1 : 1 ≤ k) (hk9 : k ≤ 9) (hb : ∀ j : Nat, 0 ≤ L[j]?.getD 0 ∧ L[j]?.getD 0 < 256) (j : Nat) (hj : j + 1 < k) : 0 ≤ jacc L k j ∧ jacc L k j < 72057594037927936 := by
  have h := jacc_bound L k hk1 hk9 hb j
  have cases : k = 1 ∨ k = 2 ∨ k = 3 ∨ k = 4 ∨ k = 5 ∨ k = 6 ∨ k = 7 ∨ k = 8 ∨ k = 9 := by omega
  have cj : j = 0 ∨ j = 1 ∨ j = 2 ∨ j = 3 ∨ j = 4 ∨ j = 5 ∨ j = 6 ∨ j = 7 := by omega
  refine ⟨h.1, ?_⟩
  have h2 := h.2
  clear h
  generalize jacc L k j = t at *
  rcases cases with rfl | rfl | rfl | rfl | rfl | rfl | rfl | rfl | rfl <;> rcases cj with rfl | rfl | rfl | rfl | rfl | rfl | rfl | rfl <;> simp at h2 hj <;> omega
theorem jacc_u64 (L : List Int) (k : Nat) (hk1 : 1 ≤ k) (hk9 : k ≤ 9) (hb : ∀ j : Nat, 0 ≤ L[j]?.getD 0 ∧ L[j]?.getD 0 < 256) (j : Nat) (hj : j < k) : 0 ≤ jacc L k j ∧ jacc L k j < 18446744073709551616 := by
  cases j with
  | zero =>
    have h := jacc_bound L k hk1 hk9 hb 0
    refine ⟨h.1, ?_⟩
    have h2 := h.2
    clear h
    generalize jacc L k 0 = t at *
    have cases : k = 1 ∨ k = 2 ∨ k = 3 ∨ k = 4 ∨ k = 5 ∨ k = 6 ∨ k = 7 ∨ k = 8 ∨ k = 9 := by omega
    rcases cases with rfl | rfl | rfl | rfl | rfl | rfl | rfl | rfl | rfl <;> simp at h2 <;> omega
  | succ j =>
    have := jacc_small L k hk1 hk9 hb j hj
    have := hb (j + 1)
    simp only [jacc]; omega

theorem or_low (a x : Int) (h0 : 0 ≤ a) (h1 : a < 72057594037927936) (hx : 0 ≤ x) (hx1 : x < 256) : bits .or .u64 (a * 256) x = a * 256 + x := by
  refine bits_join .u64 64 (by decide) (fun n h k => ?_) 8 (a * 256) x (by omega) (by simp) (by simp; omega) hx (by simp; omega) (by simp; omega)
  simp [IntKind.wrap, IntKind.bits, IntKind.signed] at *; omega


/-- What the next number of so many bytes is, what is left, the error. -/
def dec (L : List Int) (e : Int) : Int × List Int × Int :=
  if e ≠ 0 then (0, [], e)
  else if L = [] then (0, [], 10)
  else if L.length < sd (L[0]?.getD 0) then (0, [], 10)
  else if sz (jacc L (sd (L[0]?.getD 0)) (sd (L[0]?.getD 0) - 1)) ≠ sd (L[0]?.getD 0) then (0, [], 11)
  else (jacc L (sd (L[0]?.getD 0)) (sd (L[0]?.getD 0) - 1), L.drop (sd (L[0]?.getD 0)), 0)

theorem dec_dead (L : List Int) (e : Int) (h : e ≠ 0) : dec L e = (0, [], e) := by simp [dec, h]
theorem dec_nil : dec [] 0 = (0, [], 10) := by simp [dec]
theorem dec_short (L : List Int) (k : Nat) (hk : sd (L[0]?.getD 0) = k) (h : L ≠ []) (h2 : L.length < k) : dec L 0 = (0, [], 10) := by subst hk; simp [dec, h, h2]
theorem dec_form (L : List Int) (k : Nat) (hk : sd (L[0]?.getD 0) = k) (h : L ≠ []) (h2 : ¬ L.length < k) (h3 : sz (jacc L k (k - 1)) ≠ k) : dec L 0 = (0, [], 11) := by subst hk; simp [dec, h, h2, h3]
theorem dec_ok (L : List Int) (k : Nat) (hk : sd (L[0]?.getD 0) = k) (h : L ≠ []) (h2 : ¬ L.length < k) (h3 : sz (jacc L k (k - 1)) = k) : dec L 0 = (jacc L k (k - 1), L.drop k, 0) := by subst hk; simp [dec, h, h2, h3]


/-- A list of bytes. -/
def Bts (L : List Int) : Prop := ∀ x ∈ L, 0 ≤ x ∧ x < 256
theorem Bts.at {L : List Int} (h : Bts L) (j : Nat) : 0 ≤ L[j]?.getD 0 ∧ L[j]?.getD 0 < 256 := by
  cases hj : L[j]? with
  | none => simp
  | some x => simpa using h x (List.mem_of_getElem? hj)
theorem Bts.drop {L : List Int} (h : Bts L) (k : Nat) : Bts (L.drop k) := fun x hx => h x (List.mem_of_mem_drop hx)

theorem dec_u64 (L : List Int) (e : Int) (h : Bts L) : 0 ≤ (dec L e).1 ∧ (dec L e).1 < 18446744073709551616 := by
  have hk1 := sd_pos (L[0]?.getD 0)
  have := jacc_u64 L _ hk1 (sd_le (L[0]?.getD 0)) h.at (sd (L[0]?.getD 0) - 1) (by omega)
  unfold dec
  (repeat' split) <;> first | exact this | simp

/-- The number of either sign that a number stands for. -/
def dint (n : Int) : Int := if n % 2 = 0 then n / 2 else - (n / 2) - 1

end Go.Proofs.Ythipadnghdodlaa
