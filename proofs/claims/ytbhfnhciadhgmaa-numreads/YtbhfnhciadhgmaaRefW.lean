/- The reference's reader: a number of either sign, of things, a text, the end. -/
import Derived.Test.YtbhfnhciadhgmaaRefV
namespace Go.Proofs.Ytbhfnhciadhgmaa
open Go.RowKit
theorem hid {p : Prop} (h : p) : Hid p := h

theorem wuint_any (w : World) (b z : Nat) (L : List Int) (e : Int) (h : Rdr w b z L e) :
    Calls Try.prog 18 #[.pointer (some ⟨b, 0, none⟩)] w fun r w' => r = .returned (.int .u64 (dec L e).1) ∧ Rdr w' b z (dec L e).2.1 (dec L e).2.2 ∧ Only b w w' := by
  by_cases he : e = 0
  · subst he
    by_cases hL : L = []
    · subst hL; exact wuint_nil w b z h
    · exact wuint_some w b z L h hL
  · exact wuint_dead w b z L e h he

set_option maxHeartbeats 400000 in
theorem wint_any (w : World) (b z : Nat) (L : List Int) (e : Int) (h : Rdr w b z L e) :
    Calls Try.prog 20 #[.pointer (some ⟨b, 0, none⟩)] w fun r w' => r = .returned (.int .i64 (dint (dec L e).1)) ∧ Rdr w' b z (dec L e).2.1 (dec L e).2.2 ∧ Only b w w' := by
  have hu := dec_u64 L e h.bts.1
  have hc := wuint_any w b z L e h
  generalize dec L e = d at *
  obtain ⟨n, L', e'⟩ := d
  simp only at *
  clear h
  by_cases hp : n % 2 = 0
  · have hd : dint n = n / 2 := by unfold dint; rw [if_pos hp]
    rw [hd]
    clear hd
    go_enter Try.func20, Try.ntmps20
    go_wp2_with (go_at_call 18; refine hc.mono ?_; rintro r w' ⟨rfl, hr2, ho2⟩)
    go_ret
    exact ⟨rfl, hr2, ho2⟩
  · have hd : dint n = - (n / 2) - 1 := by unfold dint; rw [if_neg hp]
    rw [hd]
    clear hd
    have hp' : (n % 2 == 0) = false := by simpa using hp
    go_enter Try.func20, Try.ntmps20
    go_wp2_with (go_at_call 18; refine hc.mono ?_; rintro r w' ⟨rfl, hr2, ho2⟩)
    go_ret
    exact ⟨rfl, hr2, ho2⟩

set_option maxHeartbeats 400000 in
theorem wend_nil (w : World) (b z : Nat) (e : Int) (h : Rdr w b z [] e) :
    Calls Try.prog 30 #[.pointer (some ⟨b, 0, none⟩)] w fun r w' => r = .returned (.int .i64 e) ∧ w = w' := by
  obtain ⟨a, len, cap, hr, hs, hlc, hcap, hne, hb, hd⟩ := id h
  obtain rfl : len = 0 := hs.1.symm
  have h0 := hr.c0
  have h1 := hr.c1
  go_enter Try.func30, Try.ntmps30
  go_wp2_with fail
  go_ret
  exact ⟨rfl, rfl⟩

set_option maxHeartbeats 400000 in
theorem wend_left (w : World) (b z : Nat) (L : List Int) (e : Int) (h : Rdr w b z L e) (hL : L ≠ []) :
    Calls Try.prog 30 #[.pointer (some ⟨b, 0, none⟩)] w fun r w' => r = .returned (.int .i64 11) ∧ Rdr w' b z [] 11 ∧ Only b w w' := by
  obtain ⟨a, len, cap, hr, hs, hlc, hcap, hne, hb, hd⟩ := id h
  obtain rfl : e = 0 := Classical.byContradiction fun hq => hL (hd hq)
  have hpos : 0 < len := by rw [← hs.1]; exact List.length_pos_iff.2 hL
  have h0 := hr.c0
  go_enter Try.func30, Try.ntmps30
  go_wp2_with (go_at_call 26; refine (wfail_any _ b _ 11 hr (by decide)).mono ?_; rintro r w2 ⟨rfl, hr2, ho2⟩; have hr21 := hr2.c1)
  go_ret
  exact ⟨rfl, Rdr.dead hne.2 hr2, ho2⟩

set_option maxHeartbeats 400000 in
theorem wcount_any (w : World) (b z : Nat) (L : List Int) (e least : Int) (h : Rdr w b z L e) (h0 : -9223372036854775808 ≤ least) (h1 : least ≤ 9223372036854775807) :
    Calls Try.prog 24 #[.pointer (some ⟨b, 0, none⟩), .int .i64 least] w fun r w' => r = .returned (.int .i64 (cnt L e least).1) ∧ Rdr w' b z (cnt L e least).2.1 (cnt L e least).2.2 ∧ Only b w w' := by
  have hu := dec_u64 L e h.bts.1
  have hc := wuint_any w b z L e h
  have hdz := dec_zero L e
  unfold cnt
  generalize dec L e = d at *
  obtain ⟨n, L', e'⟩ := d
  simp only at *
  by_cases hl : least < 1
  · rw [show max least 1 = 1 by omega, Int.ediv_one]
    by_cases ht : (L'.length : Int) < n
    · rw [if_pos ht]
      obtain rfl : e' = 0 := Classical.byContradiction fun hne => by have := hdz hne; omega
      go_enter Try.func24, Try.ntmps24
      go_wp2_with (first
        | (go_at_call 18; refine hc.mono ?_; rintro r w1 ⟨rfl, hR1, ho1⟩; have hb1 := hR1.bts; have hR1' := hR1; obtain ⟨a, len, cap, hrd, hs, _⟩ := hR1'; have hrc0 := hrd.c0; obtain rfl := hs.1)
        | (go_at_call 26; refine (wrfail_any hR1 10 (by decide)).mono ?_; rintro r w2 ⟨rfl, hR2, ho2⟩))
      go_ret
      exact ⟨rfl, hR2, ho1.trans ho2⟩
    · rw [if_neg ht]
      go_enter Try.func24, Try.ntmps24
      go_wp2_with (go_at_call 18; refine hc.mono ?_; rintro r w1 ⟨rfl, hR1, ho1⟩; have hb1 := hR1.bts; have hR1' := hR1; obtain ⟨a, len, cap, hrd, hs, _⟩ := hR1'; have hrc0 := hrd.c0; obtain rfl := hs.1)
      go_ret
      exact ⟨rfl, hR1, ho1⟩
  · rw [show max least 1 = least by omega]
    have hq0 : 0 ≤ (L'.length : Int) / least := Int.ediv_nonneg (by omega) (by omega)
    have hq1 : (L'.length : Int) / least ≤ (L'.length : Int) := Int.ediv_le_self _ (by omega)
    by_cases ht : (L'.length : Int) / least < n
    · rw [if_pos ht]
      obtain rfl : e' = 0 := Classical.byContradiction fun hne => by have := hdz hne; omega
      go_enter Try.func24, Try.ntmps24
      go_wp2_with (first
        | (go_at_call 18; refine hc.mono ?_; rintro r w1 ⟨rfl, hR1, ho1⟩; have hb1 := hR1.bts; have hR1' := hR1; obtain ⟨a, len, cap, hrd, hs, _⟩ := hR1'; have hrc0 := hrd.c0; obtain rfl := hs.1)
        | (go_at_call 26; refine (wrfail_any hR1 10 (by decide)).mono ?_; rintro r w2 ⟨rfl, hR2, ho2⟩))
      go_ret
      exact ⟨rfl, hR2, ho1.trans ho2⟩
    · rw [if_neg ht]
      go_enter Try.func24, Try.ntmps24
      go_wp2_with (go_at_call 18; refine hc.mono ?_; rintro r w1 ⟨rfl, hR1, ho1⟩; have hb1 := hR1.bts; have hR1' := hR1; obtain ⟨a, len, cap, hrd, hs, _⟩ := hR1'; have hrc0 := hrd.c0; obtain rfl := hs.1)
      go_ret
      exact ⟨rfl, hR1, ho1⟩

theorem rtx_eq (L : List Int) (e : Int) : rtx L e = if ((dec L e).2.1.length : Int) < (dec L e).1 then ([], [], 10) else ((dec L e).2.1.take (dec L e).1.toNat, (dec L e).2.1.drop (dec L e).1.toNat, (dec L e).2.2) := by
  unfold rtx cnt
  rw [show max (1 : Int) 1 = 1 by omega, Int.ediv_one]
  split <;> simp_all

theorem dec_left (L : List Int) (e : Int) (h : (dec L e).2.2 ≠ 0) : (dec L e).2.1 = [] := by
  by_cases he : e = 0
  · subst he; exact (dec_fails L h).2
  · rw [dec_dead _ _ he]

set_option maxHeartbeats 400000 in
theorem wtext_any (w : World) (b z : Nat) (L : List Int) (e : Int) (h : Rdr w b z L e) :
    Calls Try.prog 22 #[.pointer (some ⟨b, 0, none⟩)] w fun r w' => r = .returned (.string (strOfNums (rtx L e).1)) ∧ Rdr w' b z (rtx L e).2.1 (rtx L e).2.2 ∧ Only b w w' := by
  have hu := dec_u64 L e h.bts.1
  have hc := wuint_any w b z L e h
  have hdz := dec_zero L e
  have hdl := dec_left L e
  rw [rtx_eq]
  generalize dec L e = d at *
  obtain ⟨n, L', e'⟩ := d
  simp only at *
  obtain ⟨m, rfl⟩ := Int.eq_ofNat_of_zero_le hu.1
  simp only [Int.toNat_natCast]
  by_cases he : e' = 0
  · subst he
    clear hdz hdl
    by_cases ht : (L'.length : Int) < m
    · rw [if_pos ht]
      go_enter Try.func22, Try.ntmps22
      go_wp2_with (first
        | (go_at_call 18; refine hc.mono ?_; rintro r w1 ⟨rfl, hR1, ho1⟩; have hb1 := hR1.bts; have hR1' := hR1; obtain ⟨a, len, cap, hrd, hs, _⟩ := hR1'; have hrc0 := hrd.c0; have hrc1 := hrd.c1; obtain rfl := hs.1)
        | (go_at_call 26; refine (wfail_any _ _ _ 10 hrd (by decide)).mono ?_; rintro r w2 ⟨rfl, hr2, ho2⟩; have hr21 := hr2.c1))
      go_ret
      exact ⟨rfl, Rdr.dead hb1.2.2 hr2, ho1.trans ho2⟩
    · rw [if_neg ht]
      go_enter Try.func22, Try.ntmps22
      go_upto_region 2 with (go_at_call 18; refine hc.mono ?_; rintro r w1 ⟨rfl, hR1, ho1⟩)
      obtain ⟨a, len, cap, hrd, hs, hlc, hcap, hne, hB, hd⟩ := hR1
      have hm : m ≤ L'.length := by omega
      have hc0 := hrd.c0
      have hc1 := hrd.c1
      have hf0 := hrd.f0
      have hcv := conv_src (src_take hs m hm) cap
      have hll := hs.1
      have hmc : m ≤ cap := by omega
      have hml : m ≤ len := by omega
      have hzH := hid hne.1
      have hzb := hne.2
      clear hc hne hd
      by_cases hlen : len = 0
      · subst hlen
        obtain rfl : m = 0 := by omega
        have hL0 : L' = [] := List.eq_nil_of_length_eq_zero hll
        go_wp2_with fail
        go_ret
        subst hL0
        exact ⟨rfl, ⟨a, 0, cap, hrd.set _, ⟨rfl, fun h => absurd h (by omega)⟩, hlc, hcap, ⟨fun ad h => absurd h (by omega), hzb⟩, hB, fun h => absurd rfl h⟩, ho1.trans ((Only.refl _ _).setCell _ _)⟩
      · obtain ⟨g, off, rfl, hcell⟩ := hs.flat (by omega)
        go_wp2_with fail
        all_goals go_ret
        all_goals have hz0 : g = z := hzH.out _ (by omega) rfl
        · exact ⟨rfl, rdr_adv hrd hs (by omega) (by omega) hB (by omega) (fun hq => absurd hq (by omega)) ⟨fun ad _ h => by simp at h; subst h; exact hz0, hzb⟩, ho1.trans ((Only.refl _ _).setCell _ _)⟩
        · exact ⟨rfl, rdr_adv hrd hs (by omega) (by omega) hB (by omega) (fun _ => rfl) ⟨fun ad _ h => by simp at h; subst h; exact hz0, hzb⟩, ho1.trans ((Only.refl _ _).setCell _ _)⟩
  · have h1 : L' = [] := hdl he
    have h2 : (m : Int) = 0 := hdz he
    obtain rfl : m = 0 := by omega
    subst h1
    have he' : (e' == 0) = false := by simpa using he
    rw [if_neg (by simp)]
    go_enter Try.func22, Try.ntmps22
    go_wp2_with (go_at_call 18; refine hc.mono ?_; rintro r w1 ⟨rfl, hR1, ho1⟩; have hR1' := hR1; obtain ⟨a, len, cap, hrd, hs, _⟩ := hR1'; have hrc1 := hrd.c1)
    go_ret
    exact ⟨rfl, hR1, ho1⟩
end Go.Proofs.Ytbhfnhciadhgmaa
