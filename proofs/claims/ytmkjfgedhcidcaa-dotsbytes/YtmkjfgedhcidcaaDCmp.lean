/- Less, May, order and the reference's Less and May: what they answer, of any dots, in whatever world. -/
import Derived.Test.YtmkjfgedhcidcaaProg
import Derived.Test.YtmkjfgedhcidcaaDMath
import Derived.WalkKit
import Derived.Below
import Derived.Sort.Grow
namespace Go.Proofs.Ytmkjfgedhcidcaa
open Go.RowKit Go.Sort

abbrev dv (d : Dt) : Value := .agg #[.int .i64 d.1, .int .i64 d.2]

set_option maxHeartbeats 1000000 in
theorem less_any (a b : Dt) (w : World) : Calls Try.prog 9 #[dv a, dv b] w fun e w' => e = .returned (.bool (dl a b)) ∧ ∃ os, w' = grow w os := by
  obtain ⟨a1, a2⟩ := a
  obtain ⟨b1, b2⟩ := b
  by_cases h : a1 = b1
  · subst h
    go_enter Try.func9, Try.ntmps9
    go_wp2
    go_ret
    exact ⟨by simp [dl], _, by rw [alloc_eq_grow, alloc_eq_grow, grow_grow]⟩
  · go_enter Try.func9, Try.ntmps9
    go_wp2
    go_ret
    exact ⟨by simp [dl, h], _, by rw [alloc_eq_grow, alloc_eq_grow, grow_grow]⟩

theorem agg_eq (a b : Dt) : ((dv a) = (dv b)) ↔ a = b := by
  constructor
  · intro h
    simp at h
    exact Prod.ext h.1 h.2
  · rintro rfl
    rfl

/-- What order answers. -/
def cfd (a b : Dt) : Int := if a = b then 0 else if dl a b = true then -1 else 1

theorem rless_any (a b : Dt) (w : World) : Calls Try.prog 12 #[dv a, dv b] w fun e w' => e = .returned (.bool (dl a b)) ∧ ∃ os, w' = grow w os := by
  obtain ⟨a1, a2⟩ := a
  obtain ⟨b1, b2⟩ := b
  by_cases h : a1 = b1
  · subst h
    go_enter Try.func12, Try.ntmps12
    go_wp2
    go_ret
    exact ⟨by simp [dl], _, by rw [alloc_eq_grow, alloc_eq_grow, grow_grow]⟩
  · go_enter Try.func12, Try.ntmps12
    go_wp2
    go_ret
    exact ⟨by simp [dl, h], _, by rw [alloc_eq_grow, alloc_eq_grow, grow_grow]⟩

/-- May an operation have it? -/
def mayd (d : Dt) : Bool := decide (0 ≤ d.1) && decide (d.1 < 16777216) && decide (1 ≤ d.2) && decide (d.2 ≤ 1073741824)

theorem may_any (a : Dt) (w : World) : Calls Try.prog 10 #[dv a] w fun e w' => e = .returned (.bool (mayd a)) ∧ ∃ os, w' = grow w os := by
  obtain ⟨a1, a2⟩ := a
  go_enter Try.func10, Try.ntmps10
  go_wp2
  all_goals (go_ret; refine ⟨?_, _, alloc_eq_grow _ _⟩; simp [mayd]; try omega)

theorem order_any (a b : Dt) (w : World) : Calls Try.prog 39 #[dv a, dv b] w fun e w' => e = .returned (.int .i64 (cfd a b)) ∧ ∃ os, w' = grow w os := by
  obtain ⟨a1, a2⟩ := a
  obtain ⟨b1, b2⟩ := b
  by_cases h : a1 = b1 ∧ a2 = b2
  · obtain ⟨rfl, rfl⟩ := h
    go_enter Try.func39, Try.ntmps39
    go_wp2
    go_ret
    exact ⟨by simp [cfd], _, by rw [alloc_eq_grow, alloc_eq_grow, grow_grow]⟩
  · have hne : ((a1, a2) : Dt) ≠ (b1, b2) := fun e => h (by simpa using e)
    by_cases h1 : a1 = b1
    · subst h1
      have h2 : ¬ a2 = b2 := fun e => h ⟨rfl, e⟩
      have hL := fun w => less_any (a1, a2) (a1, b2) w
      have hc : cfd (a1, a2) (a1, b2) = if dl (a1, a2) (a1, b2) = true then -1 else 1 := by simp [cfd, h2]
      generalize dl (a1, a2) (a1, b2) = r at hL hc
      rw [hc]
      clear h hne hc
      cases r
      all_goals
        go_enter Try.func39, Try.ntmps39
        go_wp2_with (go_at_call 9; refine (hL _).mono ?_; rintro e w' ⟨rfl, os, rfl⟩)
        go_ret
        exact ⟨rfl, _, by rw [alloc_eq_grow, alloc_eq_grow, grow_grow, grow_grow]⟩
    · have hL := fun w => less_any (a1, a2) (b1, b2) w
      have hc : cfd (a1, a2) (b1, b2) = if dl (a1, a2) (b1, b2) = true then -1 else 1 := by simp [cfd, h1]
      generalize dl (a1, a2) (b1, b2) = r at hL hc
      rw [hc]
      clear h hne hc
      cases r
      all_goals
        go_enter Try.func39, Try.ntmps39
        go_wp2_with (go_at_call 9; refine (hL _).mono ?_; rintro e w' ⟨rfl, os, rfl⟩)
        go_ret
        exact ⟨rfl, _, by rw [alloc_eq_grow, alloc_eq_grow, grow_grow, grow_grow]⟩

theorem rmay_any (a : Dt) (w : World) : Calls Try.prog 11 #[dv a] w fun e w' => e = .returned (.bool (mayd a)) ∧ ∃ os, w' = grow w os := by
  obtain ⟨a1, a2⟩ := a
  go_enter Try.func11, Try.ntmps11
  go_wp2
  all_goals (go_ret; refine ⟨?_, _, alloc_eq_grow _ _⟩; simp [mayd]; try omega)

theorem below_grow (w : World) (os : Array Obj) : Below w.heap.size w (grow w os) :=
  ⟨rfl, rfl, rfl, by simp [grow], fun i hi => by simp [grow, Array.getElem?_append, hi]⟩

end Go.Proofs.Ytmkjfgedhcidcaa
