/- Count of both readers: the next number of things, what is left, the error. -/
import Derived.Test.YthipadnghdodlaaEArg
namespace Go.Proofs.Ythipadnghdodlaa
open Go.RowKit

/-- The next number of things that have at least so many bytes each, what is left, the error. -/
def cnt (L : List Int) (e : Int) (least : Int) : Int × List Int × Int :=
  if ((dec L e).2.1.length : Int) / max least 1 < (dec L e).1 then (0, [], 10) else dec L e

theorem rleft_any (w : World) (b z : Nat) (L : List Int) (e : Int) (h : Rdr w b z L e) :
    Calls Try.prog 22 #[.pointer (some ⟨b, 0, none⟩)] w fun r w' => r = .returned (.int .i64 L.length) ∧ w = w' := by
  obtain ⟨a, len, cap, hr, hs, _⟩ := h
  have := left_any w b a len cap e hr
  rw [← hs.1] at this
  exact this

theorem rfail_any {w : World} {b z : Nat} {L : List Int} (h : Rdr w b z L 0) (x : Int) (hx : (x == 0) = false) :
    Calls Try.prog 52 #[.pointer (some ⟨b, 0, none⟩), .int .i64 x] w fun e w' => e = .returned (.tuple #[]) ∧ Rdr w' b z [] x ∧ Only b w w' := by
  obtain ⟨a, len, cap, hr, hs, hl, hc, hne, hB, hd⟩ := h
  refine (fail_any w b _ x hr hx).mono ?_
  rintro e w' ⟨rfl, hr2, ho2⟩
  exact ⟨rfl, Rdr.dead hne.2 hr2, ho2⟩

theorem dec_zero (L : List Int) (e : Int) (h : (dec L e).2.2 ≠ 0) : (dec L e).1 = 0 := by
  by_cases he : e = 0
  · subst he; exact (dec_fails L h).1
  · rw [dec_dead _ _ he]

set_option maxHeartbeats 400000 in
theorem rdcount_any (w : World) (b z : Nat) (L : List Int) (e least : Int) (h : Rdr w b z L e) (h0 : -9223372036854775808 ≤ least) (h1 : least ≤ 9223372036854775807) :
    Calls Try.prog 73 #[.pointer (some ⟨b, 0, none⟩), .int .i64 least] w fun r w' => r = .returned (.int .i64 (cnt L e least).1) ∧ Rdr w' b z (cnt L e least).2.1 (cnt L e least).2.2 ∧ Only b w w' := by
  have hu := dec_u64 L e h.bts.1
  have hc := ruint_any w b z L e h
  have hdz := dec_zero L e
  unfold cnt
  generalize dec L e = d at *
  obtain ⟨n, L', e'⟩ := d
  simp only at *
  by_cases hl : least < 1
  · rw [show max least 1 = 1 by omega, Int.ediv_one]
    by_cases ht : (L'.length : Int) < n
    · rw [if_pos ht]
      obtain rfl : e' = 0 := Classical.byContradiction fun hne => by have := hdz hne; omega
      go_enter Try.func73, Try.ntmps73
      go_wp2_with (first
        | (go_at_call 72; refine hc.mono ?_; rintro r w1 ⟨rfl, hR1, ho1⟩; have hb1 := hR1.bts)
        | (go_at_call 22; refine (rleft_any _ _ _ _ _ hR1).mono ?_; rintro r w' ⟨rfl, rfl⟩)
        | (go_at_call 52; refine (rfail_any hR1 10 (by decide)).mono ?_; rintro r w2 ⟨rfl, hR2, ho2⟩))
      go_ret
      exact ⟨rfl, hR2, ho1.trans ho2⟩
    · rw [if_neg ht]
      go_enter Try.func73, Try.ntmps73
      go_wp2_with (first
        | (go_at_call 72; refine hc.mono ?_; rintro r w1 ⟨rfl, hR1, ho1⟩; have hb1 := hR1.bts)
        | (go_at_call 22; refine (rleft_any _ _ _ _ _ hR1).mono ?_; rintro r w' ⟨rfl, rfl⟩))
      go_ret
      exact ⟨rfl, hR1, ho1⟩
  · rw [show max least 1 = least by omega]
    have hq0 : 0 ≤ (L'.length : Int) / least := Int.ediv_nonneg (by omega) (by omega)
    have hq1 : (L'.length : Int) / least ≤ (L'.length : Int) := Int.ediv_le_self _ (by omega)
    by_cases ht : (L'.length : Int) / least < n
    · rw [if_pos ht]
      obtain rfl : e' = 0 := Classical.byContradiction fun hne => by have := hdz hne; omega
      go_enter Try.func73, Try.ntmps73
      go_wp2_with (first
        | (go_at_call 72; refine hc.mono ?_; rintro r w1 ⟨rfl, hR1, ho1⟩; have hb1 := hR1.bts)
        | (go_at_call 22; refine (rleft_any _ _ _ _ _ hR1).mono ?_; rintro r w' ⟨rfl, rfl⟩)
        | (go_at_call 52; refine (rfail_any hR1 10 (by decide)).mono ?_; rintro r w2 ⟨rfl, hR2, ho2⟩))
      go_ret
      exact ⟨rfl, hR2, ho1.trans ho2⟩
    · rw [if_neg ht]
      go_enter Try.func73, Try.ntmps73
      go_wp2_with (first
        | (go_at_call 72; refine hc.mono ?_; rintro r w1 ⟨rfl, hR1, ho1⟩; have hb1 := hR1.bts)
        | (go_at_call 22; refine (rleft_any _ _ _ _ _ hR1).mono ?_; rintro r w' ⟨rfl, rfl⟩))
      go_ret
      exact ⟨rfl, hR1, ho1⟩

set_option maxHeartbeats 400000 in
theorem wcount_any (w : World) (b z : Nat) (L : List Int) (e least : Int) (h : Rdr w b z L e) (h0 : -9223372036854775808 ≤ least) (h1 : least ≤ 9223372036854775807) :
    Calls Try.prog 76 #[.pointer (some ⟨b, 0, none⟩), .int .i64 least] w fun r w' => r = .returned (.int .i64 (cnt L e least).1) ∧ Rdr w' b z (cnt L e least).2.1 (cnt L e least).2.2 ∧ Only b w w' := by
  have hu := dec_u64 L e h.bts.1
  have hc := wuint_any w b z L e h
  have hdz := dec_zero L e
  unfold cnt
  generalize dec L e = d at *
  obtain ⟨n, L', e'⟩ := d
  simp only at *
  by_cases hl : least < 1
  · rw [show max least 1 = 1 by omega, Int.ediv_one]
    by_cases ht : (L'.length : Int) < n
    · rw [if_pos ht]
      obtain rfl : e' = 0 := Classical.byContradiction fun hne => by have := hdz hne; omega
      go_enter Try.func76, Try.ntmps76
      go_wp2_with (first
        | (go_at_call 75; refine hc.mono ?_; rintro r w1 ⟨rfl, hR1, ho1⟩; have hb1 := hR1.bts; have hR1' := hR1; obtain ⟨a, len, cap, hrd, hs, _⟩ := hR1'; have hrc0 := hrd.c0; obtain rfl := hs.1)
        | (go_at_call 57; refine (wrfail_any hR1 10 (by decide)).mono ?_; rintro r w2 ⟨rfl, hR2, ho2⟩))
      go_ret
      exact ⟨rfl, hR2, ho1.trans ho2⟩
    · rw [if_neg ht]
      go_enter Try.func76, Try.ntmps76
      go_wp2_with (go_at_call 75; refine hc.mono ?_; rintro r w1 ⟨rfl, hR1, ho1⟩; have hb1 := hR1.bts; have hR1' := hR1; obtain ⟨a, len, cap, hrd, hs, _⟩ := hR1'; have hrc0 := hrd.c0; obtain rfl := hs.1)
      go_ret
      exact ⟨rfl, hR1, ho1⟩
  · rw [show max least 1 = least by omega]
    have hq0 : 0 ≤ (L'.length : Int) / least := Int.ediv_nonneg (by omega) (by omega)
    have hq1 : (L'.length : Int) / least ≤ (L'.length : Int) := Int.ediv_le_self _ (by omega)
    by_cases ht : (L'.length : Int) / least < n
    · rw [if_pos ht]
      obtain rfl : e' = 0 := Classical.byContradiction fun hne => by have := hdz hne; omega
      go_enter Try.func76, Try.ntmps76
      go_wp2_with (first
        | (go_at_call 75; refine hc.mono ?_; rintro r w1 ⟨rfl, hR1, ho1⟩; have hb1 := hR1.bts; have hR1' := hR1; obtain ⟨a, len, cap, hrd, hs, _⟩ := hR1'; have hrc0 := hrd.c0; obtain rfl := hs.1)
        | (go_at_call 57; refine (wrfail_any hR1 10 (by decide)).mono ?_; rintro r w2 ⟨rfl, hR2, ho2⟩))
      go_ret
      exact ⟨rfl, hR2, ho1.trans ho2⟩
    · rw [if_neg ht]
      go_enter Try.func76, Try.ntmps76
      go_wp2_with (go_at_call 75; refine hc.mono ?_; rintro r w1 ⟨rfl, hR1, ho1⟩; have hb1 := hR1.bts; have hR1' := hR1; obtain ⟨a, len, cap, hrd, hs, _⟩ := hR1'; have hrc0 := hrd.c0; obtain rfl := hs.1)
      go_ret
      exact ⟨rfl, hR1, ho1⟩

end Go.Proofs.Ythipadnghdodlaa
