/- What is a key: May, and the reference's. -/
import Derived.Test.YtboaofaileafdaaRows
import Derived.Test.YtboaofaileafdaaVBase
import Derived.WalkKit
import Derived.WalkSpells
import Derived.WalkLawsBesides
namespace Go.Proofs.Ytboaofaileafdaa
open Go.RowKit

abbrev Bs := List UInt8

/-- A key. -/
structure Ky (k : Bs) : Prop where
  ne : k ≠ []
  len : k.length ≤ 200
  rng : ∀ c ∈ k, 97 ≤ c.toNat ∧ c.toNat ≤ 122
  last : ∀ i (h : i < k.length), i + 1 = k.length → k[i].toNat ≠ 97

/-- Whether a row of bytes is a key. -/
def kyb (k : Bs) : Bool := !(k == []) && decide (k.length ≤ 200) && k.all (fun c => decide (97 ≤ c.toNat) && decide (c.toNat ≤ 122)) && !(k.getLast? == some 97)

theorem kyb_iff (k : Bs) : kyb k = true ↔ Ky k := by
  unfold kyb
  simp only [Bool.and_eq_true, Bool.not_eq_true', beq_eq_false_iff_ne, decide_eq_true_eq, List.all_eq_true]
  constructor
  · rintro ⟨⟨⟨h1, h2⟩, h3⟩, h4⟩
    refine ⟨h1, h2, h3, fun i hi he hc => h4 ?_⟩
    rw [List.getLast?_eq_getElem?, show k.length - 1 = i by omega, List.getElem?_eq_getElem hi]
    congr 1
    exact UInt8.toNat_inj.1 hc
  · intro h
    refine ⟨⟨⟨h.ne, h.len⟩, h.rng⟩, fun hc => ?_⟩
    have hp : 0 < k.length := by
      rcases Nat.eq_zero_or_pos k.length with h0 | h0
      · exact absurd (List.eq_nil_of_length_eq_zero h0) h.ne
      · exact h0
    rw [List.getLast?_eq_getElem?, List.getElem?_eq_getElem (by omega : k.length - 1 < k.length)] at hc
    have := h.last (k.length - 1) (by omega) (by omega)
    rw [Option.some.inj hc] at this
    exact this rfl

theorem kyb_false {k : Bs} (h : ¬ Ky k) : kyb k = false := by
  cases hk : kyb k with
  | false => rfl
  | true => exact absurd ((kyb_iff k).1 hk) h

theorem tl_length (s : ByteArray) : s.toList.length = s.size := by rw [ByteArray.toList_eq]; rfl
theorem tl_get (s : ByteArray) (i : Nat) (h : i < s.size) : s.toList[i]'(by rw [tl_length]; exact h) = s[i] := by
  have e := ByteArray.toList_eq s
  simp only [e]
  rfl
theorem tl_mem (s : ByteArray) (i : Nat) (h : i < s.size) : s[i] ∈ s.toList := by
  rw [← tl_get s i h]; exact List.getElem_mem _
theorem tl_nil (s : ByteArray) : s.toList = [] ↔ s.size = 0 := by
  rw [← tl_length, List.length_eq_zero_iff]
theorem ret_bool {a b : Bool} (h : a = b) : Ending.returned (.bool a) = .returned (.bool b) := by rw [h]

theorem ky_short (s : ByteArray) (h : s.size = 0) : kyb s.toList = false := kyb_false fun k => k.ne ((tl_nil s).2 h)
theorem ky_long (s : ByteArray) (h : 200 < s.size) : kyb s.toList = false := kyb_false fun k => by have := k.len; rw [tl_length] at this; omega
theorem ky_out (s : ByteArray) (i : Nat) (h : i < s.size) (ho : s[i].toNat < 97 ∨ 122 < s[i].toNat) : kyb s.toList = false :=
  kyb_false fun k => by have := k.rng _ (tl_mem s i h); omega
theorem ky_last (s : ByteArray) (i : Nat) (h : i < s.size) (hi : i + 1 = s.size) (h97 : s[i].toNat = 97) : kyb s.toList = false :=
  kyb_false fun k => k.last i (by rw [tl_length]; exact h) (by rw [tl_length]; exact hi) (by rw [tl_get s i h]; exact h97)
theorem ky_all (s : ByteArray) (i : Nat) (h : i < s.size) (hi : i + 1 = s.size) (h200 : s.size ≤ 200) (hr : ∀ j (hj : j < s.size), 97 ≤ s[j].toNat ∧ s[j].toNat ≤ 122) (h97 : s[i].toNat ≠ 97) : kyb s.toList = true := by
  rw [kyb_iff]
  refine ⟨fun e => by rw [tl_nil] at e; omega, by rw [tl_length]; exact h200, fun c hc => ?_, fun j hj he => ?_⟩
  · obtain ⟨j, hj, rfl⟩ := List.mem_iff_getElem.1 hc
    have hj' : j < s.size := by rw [tl_length] at hj; exact hj
    rw [tl_get s j hj']; exact hr j hj'
  · have hj' : j < s.size := by rw [tl_length] at hj; exact hj
    obtain rfl : j = i := by rw [tl_length] at he; omega
    rw [tl_get s j hj']; exact h97

set_option maxHeartbeats 400000 in
theorem rkmay_any (s : ByteArray) (w : World) (hs : s.size ≤ maxLen) :
    Calls Try.prog 66 #[.string s] w fun e w' => e = .returned (.bool (kyb s.toList)) ∧ w = w' := by
  unfold maxLen at hs
  by_cases h0 : s.size = 0
  · rw [ky_short s h0]
    have hz : ((s.size : Int) == 0) = true := by rw [h0]; rfl
    clear h0
    go_enter Try.func66, Try.ntmps66
    go_wp2
    go_ret
    exact ⟨rfl, rfl⟩
  by_cases h2 : 200 < s.size
  · rw [ky_long s h2]
    have hz : ((s.size : Int) == 0) = false := beq_eq_false_iff_ne.2 (by omega)
    have hd : decide ((200 : Int) < (s.size : Int)) = true := decide_eq_true (by omega)
    go_enter Try.func66, Try.ntmps66
    go_wp2
    go_ret
    exact ⟨rfl, rfl⟩
  have hp : 0 < s.size := by omega
  have hz : ((s.size : Int) == 0) = false := beq_eq_false_iff_ne.2 (by omega)
  have hd : decide ((200 : Int) < (s.size : Int)) = false := decide_eq_false (by omega)
  clear h0
  obtain ⟨m, hm⟩ : ∃ m, m + 1 = s.size := ⟨s.size - 1, by omega⟩
  have hml : m < s.size := by omega
  have e1 : (s.size : Int) - 1 = m := by omega
  by_cases h97 : s[m].toNat = 97
  · rw [ky_last s m hml hm h97]
    have H97 : ((s[m].toNat : Int) == 97) = true := by rw [h97]; rfl
    clear hm
    go_enter Try.func66, Try.ntmps66
    go_wp2
    go_ret
    exact ⟨rfl, rfl⟩
  have H97 : ((s[m].toNat : Int) == 97) = false := beq_eq_false_iff_ne.2 (by omega)
  have Hm := hid hm
  clear hm
  go_enter Try.func66, Try.ntmps66
  go_wp2
  clear e1
  go_loop [3] (fun i => ∃ k : Nat, k ≤ s.size ∧ i = .int .i64 k ∧ Hid (∀ j (hj : j < s.size), j < k → 97 ≤ s[j].toNat ∧ s[j].toNat ≤ 122)) (fun i => s.size - (intOf i).toNat)
  case atStart => exact ⟨0, Nat.zero_le _, rfl, hid (fun j _ h => by omega)⟩
  case round =>
    obtain ⟨k, hk, rfl, HH⟩ := hrel
    by_cases hlt : k < s.size
    · by_cases h1 : s[k].toNat < 97
      · have e := hid (ky_out s k hlt (.inl h1))
        go_wp2
        go_ret
        rw [e.out]
        exact ⟨rfl, rfl⟩
      by_cases h3 : 122 < s[k].toNat
      · have e := hid (ky_out s k hlt (.inr h3))
        go_wp2
        go_ret
        rw [e.out]
        exact ⟨rfl, rfl⟩
      go_wp2
      go_round
      case rel => exact ⟨k + 1, by omega, by go_num, hid (fun j hj h => by
        by_cases hjk : j = k
        · subst hjk; omega
        · exact HH.out j hj (by omega))⟩
      case measure => simp [intOf]; omega
    · have e := hid (ky_all s m hml Hm.out (by omega) (fun j hj => HH.out j hj (by omega)) h97)
      go_wp2
      go_ret
      rw [e.out]
      exact ⟨rfl, rfl⟩

end Go.Proofs.Ytboaofaileafdaa
