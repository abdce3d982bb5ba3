/- What the reader's number of things, and its text, do to memory. -/
import Derived.Test.YtbhfnhciadhgmaaTexts
namespace Go.Proofs.Ytbhfnhciadhgmaa
open Go.RowKit

/-- The next number of things that have at least so many bytes each, what is left, the error. -/
def cnt (L : List Int) (e : Int) (least : Int) : Int × List Int × Int :=
  if ((dec L e).2.1.length : Int) / max least 1 < (dec L e).1 then (0, [], 10) else dec L e

theorem Rdr.bts {w : World} {b z : Nat} {L : List Int} {e : Int} (h : Rdr w b z L e) : Bts L ∧ L.length ≤ 9223372036854775807 ∧ z ≠ b := by
  obtain ⟨a, len, cap, hr, hs, hl, hc, hne, hB, hd⟩ := h
  exact ⟨hB, by rw [hs.1]; omega, hne.2⟩

theorem rfail_any {w : World} {b z : Nat} {L : List Int} (h : Rdr w b z L 0) (x : Int) (hx : (x == 0) = false) :
    Calls Try.prog 25 #[.pointer (some ⟨b, 0, none⟩), .int .i64 x] w fun e w' => e = .returned (.tuple #[]) ∧ Rdr w' b z [] x ∧ Only b w w' := by
  obtain ⟨a, len, cap, hr, hs, hl, hc, hne, hB, hd⟩ := h
  refine (fail_any w b _ x hr hx).mono ?_
  rintro e w' ⟨rfl, hr2, ho2⟩
  exact ⟨rfl, Rdr.dead hne.2 hr2, ho2⟩

theorem dec_zero (L : List Int) (e : Int) (h : (dec L e).2.2 ≠ 0) : (dec L e).1 = 0 := by
  by_cases he : e = 0
  · subst he; exact (dec_fails L h).1
  · rw [dec_dead _ _ he]

theorem src_take {w : World} {a : Option Addr} {len : Nat} {L : List Int} (h : Src w a len L) (m : Nat) (hm : m ≤ L.length) : Src w a m (L.take m) := by
  refine ⟨by rw [List.length_take]; omega, fun hp => ?_⟩
  obtain ⟨ad, ha, hc⟩ := h.2 (by rw [← h.1]; omega)
  refine ⟨ad, ha, fun j v hj => hc j v ?_⟩
  rw [List.getElem?_take] at hj
  split at hj
  · exact hj
  · simp at hj

set_option maxHeartbeats 400000 in
theorem count_any (w : World) (b z : Nat) (L : List Int) (e least : Int) (h : Rdr w b z L e) (h0 : -9223372036854775808 ≤ least) (h1 : least ≤ 9223372036854775807) :
    Calls Try.prog 23 #[.pointer (some ⟨b, 0, none⟩), .int .i64 least] w fun r w' => r = .returned (.int .i64 (cnt L e least).1) ∧ Rdr w' b z (cnt L e least).2.1 (cnt L e least).2.2 ∧ Only b w w' := by
  have hu := dec_u64 L e h.bts.1
  have hc := ruint_any w b z L e h
  have hdz := dec_zero L e
  unfold cnt
  generalize dec L e = d at *
  obtain ⟨n, L', e'⟩ := d
  simp only at *
  by_cases hl : least < 1
  · rw [show max least 1 = 1 by omega, Int.ediv_one]
    by_cases ht : (L'.length : Int) < n
    · rw [if_pos ht]
      obtain rfl : e' = 0 := Classical.byContradiction fun hne => by have := hdz hne; omega
      go_enter Try.func23, Try.ntmps23
      go_wp2_with (first
        | (go_at_call 17; refine hc.mono ?_; rintro r w1 ⟨rfl, hR1, ho1⟩; have hb1 := hR1.bts)
        | (go_at_call 27; refine (rleft_any _ _ _ _ _ hR1).mono ?_; rintro r w' ⟨rfl, rfl⟩)
        | (go_at_call 25; refine (rfail_any hR1 10 (by decide)).mono ?_; rintro r w2 ⟨rfl, hR2, ho2⟩))
      go_ret
      exact ⟨rfl, hR2, ho1.trans ho2⟩
    · rw [if_neg ht]
      go_enter Try.func23, Try.ntmps23
      go_wp2_with (first
        | (go_at_call 17; refine hc.mono ?_; rintro r w1 ⟨rfl, hR1, ho1⟩; have hb1 := hR1.bts)
        | (go_at_call 27; refine (rleft_any _ _ _ _ _ hR1).mono ?_; rintro r w' ⟨rfl, rfl⟩))
      go_ret
      exact ⟨rfl, hR1, ho1⟩
  · rw [show max least 1 = least by omega]
    have hq0 : 0 ≤ (L'.length : Int) / least := Int.ediv_nonneg (by omega) (by omega)
    have hq1 : (L'.length : Int) / least ≤ (L'.length : Int) := Int.ediv_le_self _ (by omega)
    by_cases ht : (L'.length : Int) / least < n
    · rw [if_pos ht]
      obtain rfl : e' = 0 := Classical.byContradiction fun hne => by have := hdz hne; omega
      go_enter Try.func23, Try.ntmps23
      go_wp2_with (first
        | (go_at_call 17; refine hc.mono ?_; rintro r w1 ⟨rfl, hR1, ho1⟩; have hb1 := hR1.bts)
        | (go_at_call 27; refine (rleft_any _ _ _ _ _ hR1).mono ?_; rintro r w' ⟨rfl, rfl⟩)
        | (go_at_call 25; refine (rfail_any hR1 10 (by decide)).mono ?_; rintro r w2 ⟨rfl, hR2, ho2⟩))
      go_ret
      exact ⟨rfl, hR2, ho1.trans ho2⟩
    · rw [if_neg ht]
      go_enter Try.func23, Try.ntmps23
      go_wp2_with (first
        | (go_at_call 17; refine hc.mono ?_; rintro r w1 ⟨rfl, hR1, ho1⟩; have hb1 := hR1.bts)
        | (go_at_call 27; refine (rleft_any _ _ _ _ _ hR1).mono ?_; rintro r w' ⟨rfl, rfl⟩))
      go_ret
      exact ⟨rfl, hR1, ho1⟩

/-- The next text, what is left, the error. -/
def rtx (L : List Int) (e : Int) : List Int × List Int × Int := ((cnt L e 1).2.1.take (cnt L e 1).1.toNat, (cnt L e 1).2.1.drop (cnt L e 1).1.toNat, (cnt L e 1).2.2)

theorem cnt_range (L : List Int) (e : Int) (h : Bts L) : 0 ≤ (cnt L e 1).1 ∧ (cnt L e 1).1 ≤ (cnt L e 1).2.1.length := by
  have hu := dec_u64 L e h
  unfold cnt
  split
  · simp
  · rename_i ht
    rw [show max (1 : Int) 1 = 1 by omega, Int.ediv_one] at ht
    omega

set_option maxHeartbeats 400000 in
theorem rtext_any (w : World) (b z : Nat) (L : List Int) (e : Int) (h : Rdr w b z L e) :
    Calls Try.prog 21 #[.pointer (some ⟨b, 0, none⟩)] w fun r w' => r = .returned (.string (strOfNums (rtx L e).1)) ∧ Rdr w' b z (rtx L e).2.1 (rtx L e).2.2 ∧ Only b w w' := by
  have hc := count_any w b z L e 1 h (by omega) (by omega)
  have hr := cnt_range L e h.bts.1
  unfold rtx
  generalize cnt L e 1 = d at *
  obtain ⟨n, L', e'⟩ := d
  simp only at *
  obtain ⟨m, rfl⟩ := Int.eq_ofNat_of_zero_le hr.1
  simp only [Int.toNat_natCast]
  have hm : m ≤ L'.length := by omega
  by_cases h0 : m = 0
  · subst h0
    go_enter Try.func21, Try.ntmps21
    go_wp2_with (go_at_call 23; refine hc.mono ?_; rintro r w1 ⟨rfl, hR1, ho1⟩)
    go_ret
    exact ⟨rfl, by simpa using hR1, ho1⟩
  · have hpos : (0 : Int) < (m : Int) := by omega
    have hne0 : ((m : Int) == 0) = false := by simp; omega
    go_enter Try.func21, Try.ntmps21
    go_wp2_with fail
    refine hc.mono ?_
    rintro r w1 ⟨rfl, hR1, ho1⟩
    obtain ⟨a, len, cap, hrd, hs, hlc, hcap, hne, hB, hd⟩ := hR1
    obtain ⟨g, off, rfl, hcell⟩ := hs.flat (by rw [← hs.1]; omega)
    have hll := hs.1
    have hc0 := hrd.c0
    have hf0 := hrd.f0
    have hcv := conv_src (src_take hs m hm) cap
    have hmc : m ≤ cap := by omega
    obtain rfl : e' = 0 := Classical.byContradiction fun hq => by have := hd hq; rw [this] at hm; simp at hm; omega
    have hz0H : Hid (g = z) := hne.1 _ (by omega) rfl
    have hzb := hne.2
    clear hc hne
    go_wp2_with fail
    all_goals go_ret
    · exact ⟨rfl, rdr_adv hrd hs (by omega) (by omega) hB (by omega) (fun hq => absurd hq (by omega)) ⟨fun ad _ h => by simp at h; subst h; exact hz0H.out, hzb⟩, ho1.trans ((Only.refl _ _).setCell _ _)⟩
    · exact ⟨rfl, rdr_adv hrd hs (by omega) (by omega) hB (by omega) (fun _ => rfl) ⟨fun ad _ h => by simp at h; subst h; exact hz0H.out, hzb⟩, ho1.trans ((Only.refl _ _).setCell _ _)⟩
end Go.Proofs.Ytbhfnhciadhgmaa
