/- The reference's reader: a number of either sign, of things, a text, the end. -/
import Derived.Test.YthipadnghdodlaaBRefV
namespace Go.Proofs.Ythipadnghdodlaa
open Go.RowKit

theorem Rdr.bts {w : World} {b z : Nat} {L : List Int} {e : Int} (h : Rdr w b z L e) : Bts L ∧ L.length ≤ 9223372036854775807 ∧ z ≠ b := by
  obtain ⟨a, len, cap, hr, hs, hl, hc, hne, hB, hd⟩ := h
  exact ⟨hB, by rw [hs.1]; omega, hne.2⟩

theorem wuint_any (w : World) (b z : Nat) (L : List Int) (e : Int) (h : Rdr w b z L e) :
    Calls Try.prog 75 #[.pointer (some ⟨b, 0, none⟩)] w fun r w' => r = .returned (.int .u64 (dec L e).1) ∧ Rdr w' b z (dec L e).2.1 (dec L e).2.2 ∧ Only b w w' := by
  by_cases he : e = 0
  · subst he
    by_cases hL : L = []
    · subst hL; exact wuint_nil w b z h
    · exact wuint_some w b z L h hL
  · exact wuint_dead w b z L e h he

set_option maxHeartbeats 400000 in
theorem wint_any (w : World) (b z : Nat) (L : List Int) (e : Int) (h : Rdr w b z L e) :
    Calls Try.prog 55 #[.pointer (some ⟨b, 0, none⟩)] w fun r w' => r = .returned (.int .i64 (dint (dec L e).1)) ∧ Rdr w' b z (dec L e).2.1 (dec L e).2.2 ∧ Only b w w' := by
  have hu := dec_u64 L e h.bts.1
  have hc := wuint_any w b z L e h
  generalize dec L e = d at *
  obtain ⟨n, L', e'⟩ := d
  simp only at *
  clear h
  by_cases hp : n % 2 = 0
  · have hd : dint n = n / 2 := by unfold dint; rw [if_pos hp]
    rw [hd]
    clear hd
    go_enter Try.func55, Try.ntmps55
    go_wp2_with (go_at_call 75; refine hc.mono ?_; rintro r w' ⟨rfl, hr2, ho2⟩)
    go_ret
    exact ⟨rfl, hr2, ho2⟩
  · have hd : dint n = - (n / 2) - 1 := by unfold dint; rw [if_neg hp]
    rw [hd]
    clear hd
    have hp' : (n % 2 == 0) = false := by simpa using hp
    go_enter Try.func55, Try.ntmps55
    go_wp2_with (go_at_call 75; refine hc.mono ?_; rintro r w' ⟨rfl, hr2, ho2⟩)
    go_ret
    exact ⟨rfl, hr2, ho2⟩

end Go.Proofs.Ythipadnghdodlaa
