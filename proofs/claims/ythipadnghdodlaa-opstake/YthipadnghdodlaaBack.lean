/- Plain facts: what is written of a number is read as it, and what is read is what is written; no program in sight. -/
import Derived.Test.YthipadnghdodlaaOrder
namespace Go.Proofs.Ythipadnghdodlaa

/-- The first j + 1 bytes as one number. -/
def vacc (L : List Int) : Nat → Int
  | 0 => L[0]?.getD 0
  | j + 1 => vacc L j * 256 + L[j + 1]?.getD 0

theorem be_vacc (L : List Int) (hb : Bts L) (j : Nat) (hj : j < L.length) : be (j + 1) (vacc L j) = L.take (j + 1) := by
  induction j with
  | zero =>
    have h0 := hb.at 0
    have e : L[0]? = some (L[0]) := List.getElem?_eq_getElem hj
    rw [List.take_add_one]
    simp only [be, vacc, List.nil_append, List.take_zero]
    rw [e] at h0 ⊢
    simp only [Option.getD_some] at h0 ⊢
    simp only [Option.toList_some]
    rw [Int.emod_eq_of_lt h0.1 h0.2]
  | succ j ih =>
    have h1 := hb.at (j + 1)
    have e : L[j + 1]? = some (L[j + 1]) := List.getElem?_eq_getElem hj
    have i := ih (by omega)
    rw [List.take_add_one, ← i]
    unfold be
    rw [show vacc L (j + 1) = vacc L j * 256 + L[j + 1]?.getD 0 from rfl]
    rw [e] at h1 ⊢
    simp only [Option.getD_some] at h1 ⊢
    simp only [Option.toList_some]
    have e1 : (vacc L j * 256 + L[j + 1]) / 256 = vacc L j := by omega
    have e2 : (vacc L j * 256 + L[j + 1]) % 256 = L[j + 1] := by omega
    rw [e1, e2]
    rfl

theorem vacc_jacc (L : List Int) (k j : Nat) : vacc L j = jacc L k j + (L[0]?.getD 0 - fb k (L[0]?.getD 0)) * 256 ^ j := by
  induction j with
  | zero => simp [vacc, jacc]; omega
  | succ j ih =>
    rw [show vacc L (j + 1) = vacc L j * 256 + L[j + 1]?.getD 0 from rfl, show jacc L k (j + 1) = jacc L k j * 256 + L[j + 1]?.getD 0 from rfl, ih, Int.pow_succ, ← Int.mul_assoc]
    omega

theorem vacc_range (L : List Int) (hb : Bts L) (j : Nat) : 0 ≤ vacc L j ∧ vacc L j < 256 ^ (j + 1) := by
  induction j with
  | zero => have := hb.at 0; simp [vacc]; omega
  | succ j ih =>
    have := hb.at (j + 1)
    rw [show vacc L (j + 1) = vacc L j * 256 + L[j + 1]?.getD 0 from rfl, pow_256_succ (j + 1)]
    omega

theorem head_part (x : Int) (h0 : 0 ≤ x) (h1 : x < 256) : x - fb (sd x) x = 256 - 2 ^ (9 - sd x) := by
  rcases sd_cases x with h | h | h | h | h | h | h | h | h <;> (rw [h.1]; simp [fb]; omega)

/-- The bytes that were read are those of the number and of how many there are. -/
theorem take_enc (L : List Int) (hb : Bts L) (k : Nat) (hk : sd (L[0]?.getD 0) = k) (hl : k ≤ L.length) : vacc L (k - 1) = jacc L k (k - 1) + hd k ∧ L.take k = be k (jacc L k (k - 1) + hd k) := by
  have hk1 := sd_pos (L[0]?.getD 0)
  rw [hk] at hk1
  have h0 := hb.at 0
  have hp := head_part _ h0.1 h0.2
  rw [hk] at hp
  have e1 : vacc L (k - 1) = jacc L k (k - 1) + hd k := by rw [vacc_jacc L k (k - 1), hp]; rfl
  refine ⟨e1, ?_⟩
  have := be_vacc L hb (k - 1) (by omega)
  rw [show k - 1 + 1 = k by omega] at this
  rw [← this, e1]

theorem dec_parts (L : List Int) (hb : Bts L) (h : (dec L 0).2.2 = 0) : L = enc (dec L 0).1 ++ (dec L 0).2.1 ∧ L ≠ [] := by
  by_cases hL : L = []
  · subst hL; rw [dec_nil] at h; simp at h
  · refine ⟨?_, hL⟩
    obtain ⟨k, hk⟩ : ∃ k, sd (L[0]?.getD 0) = k := ⟨_, rfl⟩
    by_cases h2 : L.length < k
    · rw [dec_short L k hk hL h2] at h; simp at h
    · by_cases h3 : sz (jacc L k (k - 1)) = k
      · rw [dec_ok L k hk hL h2 h3]
        have := (take_enc L hb k hk (by omega)).2
        unfold enc
        rw [h3, ← this, List.take_append_drop]
      · rw [dec_form L k hk hL h2 h3] at h; simp at h

theorem dec_fails (L : List Int) (h : (dec L 0).2.2 ≠ 0) : (dec L 0).1 = 0 ∧ (dec L 0).2.1 = [] := by
  by_cases hL : L = []
  · subst hL; rw [dec_nil]; exact ⟨rfl, rfl⟩
  · obtain ⟨k, hk⟩ : ∃ k, sd (L[0]?.getD 0) = k := ⟨_, rfl⟩
    by_cases h2 : L.length < k
    · rw [dec_short L k hk hL h2]; exact ⟨rfl, rfl⟩
    · by_cases h3 : sz (jacc L k (k - 1)) = k
      · rw [dec_ok L k hk hL h2 h3] at h; simp at h
      · rw [dec_form L k hk hL h2 h3]; exact ⟨rfl, rfl⟩

theorem Bts.append {A B : List Int} (h : Bts A) (k : Bts B) : Bts (A ++ B) := by
  intro x hx
  rcases List.mem_append.1 hx with h1 | h1
  · exact h x h1
  · exact k x h1
theorem Bts.right {A B : List Int} (h : Bts (A ++ B)) : Bts B := fun x hx => h x (List.mem_append_right _ hx)
theorem Bts.left {A B : List Int} (h : Bts (A ++ B)) : Bts A := fun x hx => h x (List.mem_append_left _ hx)
theorem bts_enc (n : Int) : Bts (enc n) := be_byte _ _

theorem enc_head (n : Int) (h0 : 0 ≤ n) (h1 : n < 18446744073709551616) : sd ((enc n)[0]?.getD 0) = sz n := by
  have hp := sz_pos n
  unfold enc
  rw [be_get _ _ 0 (by omega)]
  simp only [Option.getD_some]
  rcases sz_cases n with h | h | h | h | h | h | h | h | h <;> (rw [h.1]; simp [hd]; unfold sd; (repeat' split) <;> omega)

/-- What is written of a number is read as it. -/
theorem dec_enc (n : Int) (R : List Int) (h0 : 0 ≤ n) (h1 : n < 18446744073709551616) (hR : Bts R) : dec (enc n ++ R) 0 = (n, R, 0) := by
  have hp := sz_pos n
  have hl := enc_length n
  have hB := (bts_enc n).append hR
  have hne : enc n ++ R ≠ [] := by
    intro h
    have := congrArg List.length h
    simp [hl] at this; omega
  have hk : sd ((enc n ++ R)[0]?.getD 0) = sz n := by
    rw [List.getElem?_append_left (by omega)]; exact enc_head n h0 h1
  have hlen : sz n ≤ (enc n ++ R).length := by rw [List.length_append, hl]; omega
  have ht := take_enc _ hB _ hk hlen
  have hr := vacc_range _ hB (sz n - 1)
  rw [show sz n - 1 + 1 = sz n by omega, ht.1] at hr
  have hn := enc_range n h0 h1
  have e1 : (enc n ++ R).take (sz n) = enc n := by
    rw [List.take_append_of_le_length (by omega), List.take_of_length_le (by omega)]
  have e2 : be (sz n) (n + hd (sz n)) = be (sz n) (jacc (enc n ++ R) (sz n) (sz n - 1) + hd (sz n)) := by
    rw [← ht.2, e1]; rfl
  have e3 := (be_inj (sz n) _ _ hn.1 hn.2 hr.1 hr.2).1 (congrArg (List.map ub) e2)
  have e4 : jacc (enc n ++ R) (sz n) (sz n - 1) = n := by omega
  rw [dec_ok _ _ hk hne (by omega) (by rw [e4]), e4]
  have e5 : (enc n ++ R).drop (sz n) = R := by
    rw [← hl, List.drop_left]
  rw [e5]

end Go.Proofs.Ythipadnghdodlaa
