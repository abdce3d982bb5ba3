/- What the reference's reader does: the same as the program's, over a block of its own. -/
import Derived.Test.YthipadnghdodlaaBRefS
import Derived.Deep.CutRange
namespace Go.Proofs.Ythipadnghdodlaa
open Go.RowKit

theorem wfail_dead (w : World) (b : Nat) (v : Value) (y x : Int) (h : Rd w b v y) (hy : (y == 0) = false) :
    Calls Try.prog 57 #[.pointer (some ⟨b, 0, none⟩), .int .i64 x] w fun e w' => e = .returned (.tuple #[]) ∧ w = w' := by
  have h1 := h.c1
  go_enter Try.func57, Try.ntmps57
  go_wp2
  go_end0
  exact ⟨rfl, rfl⟩

theorem wfail_zero (w : World) (b : Nat) (v : Value) (y : Int) (h : Rd w b v y) :
    Calls Try.prog 57 #[.pointer (some ⟨b, 0, none⟩), .int .i64 0] w fun e w' => e = .returned (.tuple #[]) ∧ w = w' := by
  have h1 := h.c1
  go_enter Try.func57, Try.ntmps57
  go_wp2
  all_goals go_end0
  all_goals exact ⟨rfl, rfl⟩

theorem wfail_any (w : World) (b : Nat) (v : Value) (x : Int) (h : Rd w b v 0) (hx : (x == 0) = false) :
    Calls Try.prog 57 #[.pointer (some ⟨b, 0, none⟩), .int .i64 x] w fun e w' => e = .returned (.tuple #[]) ∧ Rd w' b (.slice none 0 0) x ∧ Only b w w' := by
  obtain ⟨h0, h1, f0, f1⟩ := h
  go_enter Try.func57, Try.ntmps57
  go_wp2
  go_end0
  refine ⟨rfl, ⟨?_, ?_, ?_, ?_⟩, ((Only.refl b w).setCell _ _).setCell _ _⟩
  all_goals go_simp

theorem wrfail_any {w : World} {b z : Nat} {L : List Int} (h : Rdr w b z L 0) (x : Int) (hx : (x == 0) = false) :
    Calls Try.prog 57 #[.pointer (some ⟨b, 0, none⟩), .int .i64 x] w fun e w' => e = .returned (.tuple #[]) ∧ Rdr w' b z [] x ∧ Only b w w' := by
  obtain ⟨a, len, cap, hr, hs, hl, hc, hne, hB, hd⟩ := h
  refine (wfail_any w b _ x hr hx).mono ?_
  rintro e w' ⟨rfl, hr2, ho2⟩
  exact ⟨rfl, Rdr.dead hne.2 hr2, ho2⟩

theorem wuint_dead (w : World) (b z : Nat) (L : List Int) (e : Int) (h : Rdr w b z L e) (he : e ≠ 0) :
    Calls Try.prog 75 #[.pointer (some ⟨b, 0, none⟩)] w fun r w' => r = .returned (.int .u64 (dec L e).1) ∧ Rdr w' b z (dec L e).2.1 (dec L e).2.2 ∧ Only b w w' := by
  obtain ⟨a, len, cap, hr, hs, hlc, hcap, hne, hb, hd⟩ := id h
  obtain rfl := hd he
  have he' : (e == 0) = false := by simpa using he
  have h1 := hr.c1
  rw [dec_dead _ _ he]
  go_enter Try.func75, Try.ntmps75
  go_wp2_with fail
  go_ret
  exact ⟨rfl, h, Only.refl _ _⟩

theorem wuint_nil (w : World) (b z : Nat) (h : Rdr w b z [] 0) :
    Calls Try.prog 75 #[.pointer (some ⟨b, 0, none⟩)] w fun r w' => r = .returned (.int .u64 (dec [] 0).1) ∧ Rdr w' b z (dec [] 0).2.1 (dec [] 0).2.2 ∧ Only b w w' := by
  obtain ⟨a, len, cap, hr, hs, hlc, hcap, hne, hb, hd⟩ := id h
  obtain rfl : len = 0 := hs.1.symm
  have h0 := hr.c0
  have h1 := hr.c1
  rw [dec_nil]
  go_enter Try.func75, Try.ntmps75
  go_wp2_with (go_at_call 57; refine (wfail_any _ b _ 10 hr (by decide)).mono ?_; rintro r w' ⟨rfl, hr2, ho2⟩)
  go_ret
  exact ⟨rfl, Rdr.dead hne.2 hr2, ho2⟩

/-- What the loop over the first byte's bits has come to behind j rounds. -/
def Bits (x : Int) (j : Nat) (f t : Int) : Prop := f = x - (256 - 2 ^ (8 - j)) ∧ t = 128 / 2 ^ j ∧ 0 ≤ f

theorem bits_zero (x : Int) (h0 : 0 ≤ x) : Bits x 0 x 128 := by simp [Bits]; omega
theorem bits_small {x : Int} {j : Nat} {f t : Int} (h : Bits x j f t) (hj : j ≤ 8) (h1 : x < 256) : 0 ≤ f ∧ f < 256 ∧ 0 ≤ t ∧ t ≤ 128 ∧ (j = 8 → t ≤ 0) := by
  have cases : j = 0 ∨ j = 1 ∨ j = 2 ∨ j = 3 ∨ j = 4 ∨ j = 5 ∨ j = 6 ∨ j = 7 ∨ j = 8 := by omega
  obtain ⟨rfl, rfl, h2⟩ := h
  rcases cases with rfl | rfl | rfl | rfl | rfl | rfl | rfl | rfl | rfl <;> simp at h2 ⊢ <;> omega
theorem bits_step {x : Int} {j : Nat} {f t : Int} (h : Bits x j f t) (hj : j ≤ 7) (hf : t ≤ f) : Bits x (j + 1) (f - t) (t / 2) := by
  have cases : j = 0 ∨ j = 1 ∨ j = 2 ∨ j = 3 ∨ j = 4 ∨ j = 5 ∨ j = 6 ∨ j = 7 := by omega
  obtain ⟨rfl, rfl, h2⟩ := h
  rcases cases with rfl | rfl | rfl | rfl | rfl | rfl | rfl | rfl <;> simp [Bits] at h2 hf ⊢ <;> omega
theorem bits_end {x : Int} {j : Nat} {f t : Int} (h : Bits x j f t) (hj : j ≤ 8) (h0 : 0 ≤ x) (h1 : x < 256) (hf : ¬ (0 < t ∧ t ≤ f)) : sd x = j + 1 ∧ f = fb (j + 1) x := by
  have cases : j = 0 ∨ j = 1 ∨ j = 2 ∨ j = 3 ∨ j = 4 ∨ j = 5 ∨ j = 6 ∨ j = 7 ∨ j = 8 := by omega
  obtain ⟨rfl, rfl, h2⟩ := h
  have := sd_cases x
  rcases cases with rfl | rfl | rfl | rfl | rfl | rfl | rfl | rfl | rfl <;> simp [fb] at h2 hf ⊢ <;> omega
end Go.Proofs.Ythipadnghdodlaa
