/- Less and Same, and the reference's: what they tell. -/
import Derived.Test.YtboaofaileafdaaOBase
namespace Go.Proofs.Ytboaofaileafdaa
open Go.RowKit
open Go.Sort (grow)

set_option maxHeartbeats 1000000 in
theorem less_any (a b : Dt) (w : World) : Tells 69 #[dv a, dv b] w (.bool (dl a b)) := by
  obtain ⟨a1, a2⟩ := a
  obtain ⟨b1, b2⟩ := b
  by_cases h : a1 = b1
  · subst h
    go_enter Try.func69, Try.ntmps69
    go_wp2
    go_ret
    exact ⟨by simp [dl], ((Far.refl w).alloc _).alloc _⟩
  · go_enter Try.func69, Try.ntmps69
    go_wp2
    go_ret
    exact ⟨by simp [dl, h], ((Far.refl w).alloc _).alloc _⟩

/-- Which operation comes ahead. -/
def lo (o p : OpIn) : Bool := decide (o.time < p.time) || ((o.time == p.time) && dl o.id p.id)

theorem lo_same {o p : OpIn} (h : o.time = p.time) : lo o p = dl o.id p.id := by simp [lo, h]
theorem lo_other {o p : OpIn} (h : o.time ≠ p.time) : lo o p = decide (o.time < p.time) := by simp [lo, h]

/-- Are two operations the same? -/
def so (o p : OpIn) (V U : List Dt) : Bool := (o.id0 == p.id0) && (o.id1 == p.id1) && (o.time == p.time) && decide (V = U) && (o.kind == p.kind) && (o.bl0 == p.bl0) && (o.bl1 == p.bl1) && (o.at0 == p.at0) && (o.at1 == p.at1) && (o.side == p.side) && (o.char == p.char) && (o.pa0 == p.pa0) && (o.pa1 == p.pa1) && (o.key.toList == p.key.toList)

/-- Two operations in two new blocks. -/
theorem two_ops (w : World) (o p : OpIn) (u v : Value) : OpAt ((w.alloc (.cells (o.cells u) 52)).alloc (.cells (p.cells v) 52)) w.heap.size o u ∧ OpAt ((w.alloc (.cells (o.cells u) 52)).alloc (.cells (p.cells v) 52)) (w.heap.size + 1) p v ∧ Far w ((w.alloc (.cells (o.cells u) 52)).alloc (.cells (p.cells v) 52)) := by
  refine ⟨(opAt_alloc w o u _).far ((Far.refl _).alloc _), ?_, ((Far.refl w).alloc _).alloc _⟩
  have h := opAt_alloc (w.alloc (.cells (o.cells u) 52)) p v 52
  rw [World.size_alloc] at h
  exact h

end Go.Proofs.Ytboaofaileafdaa
