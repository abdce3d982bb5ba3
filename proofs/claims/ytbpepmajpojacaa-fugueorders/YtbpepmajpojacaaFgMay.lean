/- may, above. -/
import Derived.Test.YtbpepmajpojacaaFgTx
import Derived.Deep.RegionHeld
import Derived.Deep.CutBlock
namespace Go.Proofs.Ytbpepmajpojacaa
open Go.RowKit
open Go.Sort (grow)

/-- Whether a character may be put in there, as far as that hangs on no others. -/
def mayI (id at_ : Dt) (side : Int) : Bool := if side = 0 then decide (id ≠ (0, 0)) && decide (at_ ≠ (0, 0)) else if side = 1 then decide (id ≠ (0, 0)) else false

theorem dot_cases (d : Dt) : (d = (0, 0)) ∨ (d ≠ (0, 0) ∧ (d.1 == 0) = false ∧ (d.1 != 0) = true) ∨ (d ≠ (0, 0) ∧ d.1 = 0 ∧ (d.2 == 0) = false ∧ (d.2 != 0) = true) := by
  obtain ⟨a, b⟩ := d
  by_cases ha : a = 0
  · by_cases hb : b = 0
    · left; rw [ha, hb]
    · right; right; exact ⟨fun e => hb (by simpa using congrArg Prod.snd e), ha, by simp [hb], by simp [hb]⟩
  · right; left; exact ⟨fun e => ha (by simpa using congrArg Prod.fst e), by simp [ha], by simp [ha]⟩

set_option maxRecDepth 100000 in
set_option maxHeartbeats 4000000 in
theorem fgmay_any (id at_ : Dt) (side : Int) (w : World) : Tells 31 #[dv id, dv at_, .int .i64 side] w (.bool (mayI id at_ side)) := by
  have hfar : ∀ a b c : Obj, Far w (((w.alloc a).alloc b).alloc c) := fun a b c => (((Far.refl w).alloc a).alloc b).alloc c
  by_cases h0 : side = 0
  · subst h0
    have hr : Hid (mayI id at_ 0 = (decide (id ≠ (0, 0)) && decide (at_ ≠ (0, 0)))) := hid rfl
    rcases dot_cases id with rfl | ⟨hi, hi1, hi2⟩ | ⟨hi, hi0, hi1, hi2⟩
    · have hr' : Hid (mayI (0, 0) at_ 0 = false) := hid (by rw [hr.out]; simp)
      go_enter Try.func31, Try.ntmps31
      go_wp2
      go_ret
      exact ⟨by rw [hr'.out]; rfl, hfar _ _ _⟩
    · rcases dot_cases at_ with rfl | ⟨ha, ha1, ha2⟩ | ⟨ha, ha0, ha1, ha2⟩
      · have hr' : Hid (mayI id (0, 0) 0 = false) := hid (by rw [hr.out]; simp)
        clear hi hr
        go_enter Try.func31, Try.ntmps31
        go_wp2
        go_ret
        exact ⟨by rw [hr'.out]; rfl, hfar _ _ _⟩
      · have hr' : Hid (mayI id at_ 0 = true) := hid (by rw [hr.out]; simp [hi, ha])
        clear hi ha hr
        go_enter Try.func31, Try.ntmps31
        go_wp2
        go_ret
        exact ⟨by rw [hr'.out]; rfl, hfar _ _ _⟩
      · have hr' : Hid (mayI id at_ 0 = true) := hid (by rw [hr.out]; simp [hi, ha])
        clear hi ha hr
        go_enter Try.func31, Try.ntmps31
        go_wp2
        go_ret
        exact ⟨by rw [hr'.out]; rfl, hfar _ _ _⟩
    · rcases dot_cases at_ with rfl | ⟨ha, ha1, ha2⟩ | ⟨ha, ha0, ha1, ha2⟩
      · have hr' : Hid (mayI id (0, 0) 0 = false) := hid (by rw [hr.out]; simp)
        clear hi hr
        go_enter Try.func31, Try.ntmps31
        go_wp2
        go_ret
        exact ⟨by rw [hr'.out]; rfl, hfar _ _ _⟩
      · have hr' : Hid (mayI id at_ 0 = true) := hid (by rw [hr.out]; simp [hi, ha])
        clear hi ha hr
        go_enter Try.func31, Try.ntmps31
        go_wp2
        go_ret
        exact ⟨by rw [hr'.out]; rfl, hfar _ _ _⟩
      · have hr' : Hid (mayI id at_ 0 = true) := hid (by rw [hr.out]; simp [hi, ha])
        clear hi ha hr
        go_enter Try.func31, Try.ntmps31
        go_wp2
        go_ret
        exact ⟨by rw [hr'.out]; rfl, hfar _ _ _⟩
  · have hb0 : (side == 0) = false := by simp [h0]
    by_cases h1 : side = 1
    · subst h1
      have hr : Hid (mayI id at_ 1 = decide (id ≠ (0, 0))) := hid rfl
      rcases dot_cases id with rfl | ⟨hi, hi1, hi2⟩ | ⟨hi, hi0, hi1, hi2⟩
      · have hr' : Hid (mayI (0, 0) at_ 1 = false) := hid (by rw [hr.out]; simp)
        clear hr
        go_enter Try.func31, Try.ntmps31
        go_wp2
        go_ret
        exact ⟨by rw [hr'.out]; rfl, hfar _ _ _⟩
      · have hr' : Hid (mayI id at_ 1 = true) := hid (by rw [hr.out]; simp [hi])
        clear hi hr
        go_enter Try.func31, Try.ntmps31
        go_wp2
        go_ret
        exact ⟨by rw [hr'.out]; rfl, hfar _ _ _⟩
      · have hr' : Hid (mayI id at_ 1 = true) := hid (by rw [hr.out]; simp [hi])
        clear hi hr
        go_enter Try.func31, Try.ntmps31
        go_wp2
        go_ret
        exact ⟨by rw [hr'.out]; rfl, hfar _ _ _⟩
    · have hb1 : (side == 1) = false := by simp [h1]
      have hr' : Hid (mayI id at_ side = false) := hid (by unfold mayI; rw [if_neg h0, if_neg h1])
      go_enter Try.func31, Try.ntmps31
      go_wp2
      go_ret
      exact ⟨by rw [hr'.out]; rfl, hfar _ _ _⟩
end Go.Proofs.Ytbpepmajpojacaa
