/- What the reader's number does: the next number, what is left, the error. -/
import Derived.Test.YthipadnghdodlaaReads
namespace Go.Proofs.Ythipadnghdodlaa
open Go.RowKit

/-- The reader in block b has the bytes L, which lie in block z, left, and the error e. -/
def Rdr (w : World) (b z : Nat) (L : List Int) (e : Int) : Prop :=
  ∃ a len cap, Rd w b (.slice a len cap) e ∧ Src w a len L ∧ len ≤ cap ∧ cap ≤ 9223372036854775807 ∧ ((∀ ad, 0 < len → a = some ad → ad.block = z) ∧ z ≠ b) ∧ Bts L ∧ (e ≠ 0 → L = [])

theorem Src.flat {w : World} {a : Option Addr} {len : Nat} {L : List Int} (h : Src w a len L) (hp : 0 < len) :
    ∃ g off, a = some ⟨g, off, none⟩ ∧ ∀ j, j < len → w.cell? ⟨g, off + j, none⟩ = some (.int .u8 (L[j]?.getD 0)) := by
  obtain ⟨ad, ha, hc⟩ := h.2 hp
  obtain ⟨g, off, sp⟩ := ad
  have h0 := hc 0 (L[0]?.getD 0) (by rw [List.getElem?_eq_getElem (by rw [h.1]; exact hp)]; rfl)
  have hspot : sp = none := by simpa [Addr.add] using World.cell?_spot h0
  subst hspot
  refine ⟨g, off, ha, fun j hj => ?_⟩
  have := hc j (L[j]?.getD 0) (by rw [List.getElem?_eq_getElem (by rw [h.1]; exact hj)]; rfl)
  by_cases hj0 : j = 0
  · subst hj0; simpa [Addr.add] using this
  · simpa [Addr.add, hj0] using this

theorem Only.cell {g : Nat} {w w' : World} (h : Only g w w') {p : Addr} (hp : p.block ≠ g) : w'.cell? p = w.cell? p := World.cell?_of_block (w := w) (h.block p.block hp)

theorem Src.only {g : Nat} {w w' : World} {a : Option Addr} {len : Nat} {L : List Int} (h : Src w a len L) (ho : Only g w w') (hne : ∀ ad, 0 < len → a = some ad → ad.block ≠ g) : Src w' a len L := by
  refine ⟨h.1, fun hp => ?_⟩
  obtain ⟨ad, ha, hc⟩ := h.2 hp
  refine ⟨ad, ha, fun j v hj => ?_⟩
  have hb : (ad.add j).block = ad.block := by unfold Addr.add; split <;> rfl
  rw [ho.cell (by rw [hb]; exact hne ad hp ha)]
  exact hc j v hj

theorem src_nil (w : World) : Src w none 0 [] := ⟨rfl, fun h => absurd h (by omega)⟩

theorem Rdr.dead {w : World} {b z : Nat} {e : Int} (hz : z ≠ b) (h : Rd w b (.slice none 0 0) e) : Rdr w b z [] e :=
  ⟨none, 0, 0, h, src_nil w, Nat.le_refl _, by omega, ⟨by simp, hz⟩, by intro x hx; simp at hx, fun _ => rfl⟩

theorem Rd.set {w : World} {b : Nat} {v : Value} {e : Int} (h : Rd w b v e) (v' : Value) : Rd (w.setCell ⟨b, 0, none⟩ v') b v' e := by
  obtain ⟨h0, h1, f0, f1⟩ := h
  refine ⟨?_, ?_, ?_, ?_⟩
  all_goals go_simp

theorem rdr_adv {w : World} {b z g off len cap cap' k : Nat} {L : List Int} {a' : Option Addr} (hr : Rd w b (.slice (some ⟨g, off, none⟩) len cap) 0) (hs : Src w (some ⟨g, off, none⟩) len L) (hlc : len - k ≤ cap') (hcap : cap' ≤ 9223372036854775807)
    (hb : Bts L) (hpos : 0 < len) (ha : 0 < len - k → a' = some ⟨g, off + k, none⟩) (hne' : (∀ ad, 0 < len - k → a' = some ad → ad.block = z) ∧ z ≠ b) :
    Rdr (w.setCell ⟨b, 0, none⟩ (.slice a' (len - k) cap')) b z (L.drop k) 0 := by
  refine ⟨a', len - k, cap', hr.set _, ?_, hlc, hcap, hne', hb.drop k, fun h => absurd rfl h⟩
  have hs0 : Src w a' (len - k) (L.drop k) := by
    refine ⟨by rw [List.length_drop, hs.1], fun hp => ⟨_, ha hp, ?_⟩⟩
    obtain ⟨g', off', he, hc⟩ := hs.flat hpos
    simp only [Option.some.injEq, Addr.mk.injEq, and_true] at he
    obtain ⟨rfl, rfl⟩ := he
    intro j v hj
    rw [List.getElem?_drop] at hj
    have hlt : k + j < len := by
      rw [← hs.1]
      rcases Nat.lt_or_ge (k + j) L.length with h | h
      · exact h
      · rw [List.getElem?_eq_none h] at hj; simp at hj
    have := hc (k + j) hlt
    rw [hj] at this
    by_cases hj0 : j = 0
    · subst hj0; simpa [Addr.add] using this
    · simpa [Addr.add, hj0, Nat.add_assoc] using this
  exact hs0.only ((Only.refl b w).setCell 0 _) (fun ad hp h => by rw [hne'.1 ad hp h]; exact hne'.2)

set_option maxHeartbeats 400000 in
theorem ruint_dead (w : World) (b z : Nat) (L : List Int) (e : Int) (h : Rdr w b z L e) (he : e ≠ 0) :
    Calls Try.prog 72 #[.pointer (some ⟨b, 0, none⟩)] w fun r w' => r = .returned (.int .u64 (dec L e).1) ∧ Rdr w' b z (dec L e).2.1 (dec L e).2.2 ∧ Only b w w' := by
  obtain ⟨a, len, cap, hr, hs, hlc, hcap, hne, hb, hd⟩ := id h
  obtain rfl := hd he
  obtain rfl : len = 0 := hs.1.symm
  have he' : (e == 0) = false := by simpa using he
  rw [dec_dead _ _ he]
  go_enter Try.func72, Try.ntmps72
  go_wp2_with (first
    | (go_at_call 22; refine (left_any _ b a 0 cap e hr).mono ?_; rintro r w' ⟨rfl, rfl⟩)
    | (go_at_call 52; refine (fail_dead _ b _ e 10 hr he').mono ?_; rintro r w' ⟨rfl, rfl⟩))
  go_ret
  exact ⟨rfl, h, Only.refl _ _⟩

set_option maxHeartbeats 400000 in
theorem ruint_nil (w : World) (b z : Nat) (h : Rdr w b z [] 0) :
    Calls Try.prog 72 #[.pointer (some ⟨b, 0, none⟩)] w fun r w' => r = .returned (.int .u64 (dec [] 0).1) ∧ Rdr w' b z (dec [] 0).2.1 (dec [] 0).2.2 ∧ Only b w w' := by
  obtain ⟨a, len, cap, hr, hs, hlc, hcap, hne, hb, hd⟩ := id h
  obtain rfl : len = 0 := hs.1.symm
  rw [dec_nil]
  go_enter Try.func72, Try.ntmps72
  go_wp2_with (first
    | (go_at_call 22; refine (left_any _ b a 0 cap 0 hr).mono ?_; rintro r w' ⟨rfl, rfl⟩)
    | (go_at_call 52; refine (fail_any _ b _ 10 hr (by decide)).mono ?_; rintro r w' ⟨rfl, hr2, ho2⟩))
  go_ret
  exact ⟨rfl, Rdr.dead hne.2 hr2, ho2⟩

set_option maxHeartbeats 800000 in
theorem ruint_some (w : World) (b z : Nat) (L : List Int) (h : Rdr w b z L 0) (hL : L ≠ []) :
    Calls Try.prog 72 #[.pointer (some ⟨b, 0, none⟩)] w fun r w' => r = .returned (.int .u64 (dec L 0).1) ∧ Rdr w' b z (dec L 0).2.1 (dec L 0).2.2 ∧ Only b w w' := by
  obtain ⟨a, len, cap, hr, hs, hlc, hcap, hne, hb, hd⟩ := id h
  have hpos : 0 < len := by rw [← hs.1]; exact List.length_pos_iff.2 hL
  have hposI : (0 : Int) < (len : Int) := by omega
  have hl0 : ((len : Int) == 0) = false := by simp; omega
  obtain ⟨g, off, rfl, hc⟩ := hs.flat hpos
  have hc0 := hc 0 hpos
  simp only [Nat.add_zero] at hc0
  have hrc0 := hr.c0
  have hrf0 := hr.f0
  have hb0 := hb.at 0
  obtain ⟨k, hk⟩ : ∃ k, k = sd (L[0]?.getD 0) := ⟨_, rfl⟩
  have hk1 := sd_pos (L[0]?.getD 0)
  have hk9 := sd_le (L[0]?.getD 0)
  rw [← hk] at hk1 hk9
  have hkH : Hid (sd (L[0]?.getD 0) = k) := hk.symm
  clear hk
  by_cases hshort : len < k
  · rw [dec_short L k hkH.out hL (by rw [hs.1]; exact hshort)]
    have hgt : (len : Int) < (k : Int) := by omega
    go_enter Try.func72, Try.ntmps72
    go_wp2_with (first
      | (go_at_call 22; refine (left_any _ b _ len cap 0 hr).mono ?_; rintro r w' ⟨rfl, rfl⟩)
      | (go_at_call 84; refine (said_any _ _ hb0.1 hb0.2).mono ?_; rw [hkH.out]; rintro r w' ⟨rfl, rfl⟩)
      | (go_at_call 52; refine (fail_any _ b _ 10 hr (by decide)).mono ?_; rintro r w' ⟨rfl, hr2, ho2⟩))
    go_ret
    exact ⟨rfl, Rdr.dead hne.2 hr2, ho2⟩
  · have hle : ¬ (len : Int) < (k : Int) := by omega
    have hkc : k ≤ cap := by omega
    have hj64 := jacc_u64 L k hk1 hk9 hb.at (k - 1) (by omega)
    obtain ⟨n, hn⟩ : ∃ n, n = jacc L k (k - 1) := ⟨_, rfl⟩
    rw [← hn] at hj64
    have hnH : Hid (jacc L k (k - 1) = n) := hn.symm
    clear hn
    by_cases hform : sz n = k
    · rw [dec_ok L k hkH.out hL (by rw [hs.1]; exact hshort) (by rw [hnH.out]; exact hform), hnH.out]
      go_enter Try.func72, Try.ntmps72
      go_wp2_with (first
        | (go_at_call 22; refine (left_any _ b _ len cap 0 hr).mono ?_; rintro r w' ⟨rfl, rfl⟩)
        | (go_at_call 84; refine (said_any _ _ hb0.1 hb0.2).mono ?_; rw [hkH.out]; rintro r w' ⟨rfl, rfl⟩)
        | (go_at_call 85; refine (njoin_any g off k _ L _ hk1 hk9 (fun j hj => hc j (by omega)) hb.at).mono ?_; rw [hnH.out]; rintro r w' ⟨rfl, rfl⟩)
        | (go_at_call 80; refine (size_any _ _ hj64.1).mono ?_; rw [hform]; rintro r w' ⟨rfl, rfl⟩))
      all_goals have hz0 : g = z := hne.1 _ hpos rfl
      all_goals go_ret
      · exact ⟨rfl, rdr_adv hr hs (by omega) (by omega) hb (by omega) (fun hq => absurd hq (by omega)) ⟨fun ad _ h => by simp at h; subst h; exact hz0, hne.2⟩, (Only.refl _ _).setCell _ _⟩
      · exact ⟨rfl, rdr_adv hr hs (by omega) (by omega) hb (by omega) (fun _ => rfl) ⟨fun ad _ h => by simp at h; subst h; exact hz0, hne.2⟩, (Only.refl _ _).setCell _ _⟩
    · have hformH : Hid (sz n ≠ k) := hform
      have hne2 : ((sz n : Int) == (k : Int)) = false := by simp; omega
      rw [dec_form L k hkH.out hL (by rw [hs.1]; exact hshort) (by rw [hnH.out]; exact hform)]
      go_enter Try.func72, Try.ntmps72
      go_wp2_with (first
        | (go_at_call 22; refine (left_any _ b _ len cap 0 hr).mono ?_; rintro r w' ⟨rfl, rfl⟩)
        | (go_at_call 84; refine (said_any _ _ hb0.1 hb0.2).mono ?_; rw [hkH.out]; rintro r w' ⟨rfl, rfl⟩)
        | (go_at_call 85; refine (njoin_any g off k _ L _ hk1 hk9 (fun j hj => hc j (by omega)) hb.at).mono ?_; rw [hnH.out]; rintro r w' ⟨rfl, rfl⟩)
        | (go_at_call 80; refine (size_any _ _ hj64.1).mono ?_; rintro r w' ⟨rfl, rfl⟩)
        | (go_at_call 52; refine (fail_any _ b _ 11 hr (by decide)).mono ?_; rintro r w' ⟨rfl, hr2, ho2⟩))
      go_ret
      exact ⟨rfl, Rdr.dead hne.2 hr2, ho2⟩

theorem ruint_any (w : World) (b z : Nat) (L : List Int) (e : Int) (h : Rdr w b z L e) :
    Calls Try.prog 72 #[.pointer (some ⟨b, 0, none⟩)] w fun r w' => r = .returned (.int .u64 (dec L e).1) ∧ Rdr w' b z (dec L e).2.1 (dec L e).2.2 ∧ Only b w w' := by
  by_cases he : e = 0
  · subst he
    by_cases hL : L = []
    · subst hL; exact ruint_nil w b z h
    · exact ruint_some w b z L h hL
  · exact ruint_dead w b z L e h he

theorem ruint_none (w : World) :
    Calls Try.prog 72 #[.pointer none] w fun r w' => r = .returned (.int .u64 0) ∧ w = w' := by
  go_enter Try.func72, Try.ntmps72
  go_wp2_with (first
    | (go_at_call 22; refine (left_nil _).mono ?_; rintro r w' ⟨rfl, rfl⟩)
    | (go_at_call 52; refine (fail_nil _ _).mono ?_; rintro r w' ⟨rfl, rfl⟩))
  go_ret
  exact ⟨rfl, rfl⟩
end Go.Proofs.Ythipadnghdodlaa
