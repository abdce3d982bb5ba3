/- Whether two texts may be the bounds of a key: bounds, and the reference's Right. -/
import Derived.Test.YtbjeienmhglddaaKBase
import Derived.Sort.AtCall
namespace Go.Proofs.Ytbjeienmhglddaa
open Go.RowKit

theorem tl_empty : ByteArray.toList { data := #[] } = [] := by rw [ByteArray.toList_eq]

set_option maxHeartbeats 1000000 in
theorem bounds_any (a b : ByteArray) (w : World) (ha : a.size ≤ maxLen) (hb : b.size ≤ maxLen) :
    Calls Try.prog 16 #[.string a, .string b] w fun e w' => e = .returned (.bool (rtb a.toList b.toList)) ∧ w = w' := by
  have mA := fun w => may_any a w ha
  have mB := fun w => may_any b w hb
  unfold rtb
  have E := tl_empty
  cases e1 : (a.toList == []) <;> cases e2 : (b.toList == []) <;> cases e3 : kyb a.toList <;> cases e4 : kyb b.toList <;> cases e5 : bl a.toList b.toList
  all_goals rw [e3] at mA
  all_goals rw [e4] at mB
  all_goals clear e3 e4
  all_goals
    go_enter Try.func16, Try.ntmps16
    go_wp2_with (first
      | (go_at_call_of 12 (Value.string a); refine (mA _).mono ?_; rintro e w' ⟨rfl, rfl⟩)
      | (go_at_call_of 12 (Value.string b); refine (mB _).mono ?_; rintro e w' ⟨rfl, rfl⟩))
    go_ret
    exact ⟨rfl, rfl⟩

set_option maxHeartbeats 1000000 in
theorem right_any (a b : ByteArray) (w : World) (ha : a.size ≤ maxLen) (hb : b.size ≤ maxLen) :
    Calls Try.prog 19 #[.string a, .string b] w fun e w' => e = .returned (.bool (rtb a.toList b.toList)) ∧ w = w' := by
  have mA := fun w => rmay_any a w ha
  have mB := fun w => rmay_any b w hb
  unfold rtb
  have E := tl_empty
  cases e1 : (a.toList == []) <;> cases e2 : (b.toList == []) <;> cases e3 : kyb a.toList <;> cases e4 : kyb b.toList <;> cases e5 : bl a.toList b.toList
  all_goals rw [e3] at mA
  all_goals rw [e4] at mB
  all_goals clear e3 e4
  all_goals
    go_enter Try.func19, Try.ntmps19
    go_wp2_with (first
      | (go_at_call_of 13 (Value.string a); refine (mA _).mono ?_; rintro e w' ⟨rfl, rfl⟩)
      | (go_at_call_of 13 (Value.string b); refine (mB _).mono ?_; rintro e w' ⟨rfl, rfl⟩))
    go_ret
    exact ⟨rfl, rfl⟩
end Go.Proofs.Ytbjeienmhglddaa
