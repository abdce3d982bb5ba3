/- Less and Same, and the reference's: what they tell. -/
import Derived.Test.YtlncokkpdkddlaaGreatOPlace
namespace Go.Proofs.YtlncokkpdkddlaaGreat
open Go.RowKit
open Go.Sort (grow)

set_option maxHeartbeats 1000000 in
theorem less_any (a b : Dt) (w : World) : Tells 90 #[dv a, dv b] w (.bool (dl a b)) := by
  obtain ⟨a1, a2⟩ := a
  obtain ⟨b1, b2⟩ := b
  by_cases h : a1 = b1
  · subst h
    go_enter Tryz.func90, Tryz.ntmps90
    go_wp2
    go_ret
    exact ⟨by simp [dl], ((Far.refl w).alloc _).alloc _⟩
  · go_enter Tryz.func90, Tryz.ntmps90
    go_wp2
    go_ret
    exact ⟨by simp [dl, h], ((Far.refl w).alloc _).alloc _⟩

/-- Which operation comes ahead. -/
def lo (o p : OpIn) : Bool := decide (o.time < p.time) || ((o.time == p.time) && dl o.id p.id)

theorem lo_same {o p : OpIn} (h : o.time = p.time) : lo o p = dl o.id p.id := by simp [lo, h]
theorem lo_other {o p : OpIn} (h : o.time ≠ p.time) : lo o p = decide (o.time < p.time) := by simp [lo, h]

/-- Are two operations the same? -/
def so (o p : OpIn) (V U : List Dt) : Bool := (o.id0 == p.id0) && (o.id1 == p.id1) && (o.time == p.time) && decide (V = U) && (o.kind == p.kind) && (o.bl0 == p.bl0) && (o.bl1 == p.bl1) && (o.at0 == p.at0) && (o.at1 == p.at1) && (o.side == p.side) && (o.char == p.char) && (o.pa0 == p.pa0) && (o.pa1 == p.pa1) && (o.key.toList == p.key.toList)

/-- Two operations in two new blocks. -/
theorem two_ops (w : World) (o p : OpIn) (u v : Value) : OpAt ((w.alloc (.cells (o.cells u) 36)).alloc (.cells (p.cells v) 36)) w.heap.size o u ∧ OpAt ((w.alloc (.cells (o.cells u) 36)).alloc (.cells (p.cells v) 36)) (w.heap.size + 1) p v ∧ Far w ((w.alloc (.cells (o.cells u) 36)).alloc (.cells (p.cells v) 36)) := by
  refine ⟨(opAt_alloc w o u _).far ((Far.refl _).alloc _), ?_, ((Far.refl w).alloc _).alloc _⟩
  have h := opAt_alloc (w.alloc (.cells (o.cells u) 36)) p v 36
  rw [World.size_alloc] at h
  exact h

set_option maxRecDepth 100000 in
set_option maxHeartbeats 1000000 in
theorem oless_any (o p : OpIn) (u v : Value) (w : World) : Tells 65 #[ov o u, ov p v] w (.bool (lo o p)) := by
  obtain ⟨hA, hB, hF⟩ := two_ops w o p u v
  have hL := fun W => less_any o.id p.id W
  have E0 := hA.c0
  have E1 := hA.c1
  have E2 := hA.c2
  have G0 := hB.c0
  have G1 := hB.c1
  have G2 := hB.c2
  by_cases h : o.time = p.time
  · have hb := hid (lo_same h)
    have g : (o.time == p.time) = true := by simp [h]
    generalize dl o.id p.id = r at hL hb
    clear h
    go_enter Tryz.func65, Tryz.ntmps65
    go_wp2_with (first
      | (go_at_call 90; refine (hL _).mono ?_; rintro e w1 ⟨rfl, hF1⟩))
    go_ret
    exact ⟨by rw [hb.out]; rfl, hF.trans hF1⟩
  · have hb := hid (lo_other h)
    go_enter Tryz.func65, Tryz.ntmps65
    go_wp2_with fail
    go_ret
    exact ⟨by rw [hb.out]; rfl, hF⟩

set_option maxRecDepth 100000 in
set_option maxHeartbeats 1000000 in
theorem rless7_any (o p : OpIn) (u v : Value) (w : World) : Tells 67 #[ov o u, ov p v] w (.bool (lo o p)) := by
  obtain ⟨hA, hB, hF⟩ := two_ops w o p u v
  have hL := fun W => rless_any o.id p.id W
  have E0 := hA.c0
  have E1 := hA.c1
  have E2 := hA.c2
  have G0 := hB.c0
  have G1 := hB.c1
  have G2 := hB.c2
  by_cases h : o.time = p.time
  · have hb := hid (lo_same h)
    have g : (o.time == p.time) = true := by simp [h]
    generalize dl o.id p.id = r at hL hb
    clear h
    go_enter Tryz.func67, Tryz.ntmps67
    go_wp2_with (first
      | (go_at_call 91; refine (hL _).mono ?_; rintro e w1 ⟨rfl, hF1⟩))
    go_ret
    exact ⟨by rw [hb.out]; rfl, hF.trans hF1⟩
  · have hb := hid (lo_other h)
    go_enter Tryz.func67, Tryz.ntmps67
    go_wp2_with fail
    go_ret
    exact ⟨by rw [hb.out]; rfl, hF⟩

end Go.Proofs.YtlncokkpdkddlaaGreat
