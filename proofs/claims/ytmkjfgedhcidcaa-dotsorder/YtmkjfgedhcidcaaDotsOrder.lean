/- For any three dots DotsOrder answers true: May and Less are the reference's answers, and the order is one. No condition. -/
import Derived.Test.YtmkjfgedhcidcaaDAwake
import Derived.Test.YtmkjfgedhcidcaaRows
import Derived.Shelf.SlSortCmp.QuietGrown
import Derived.BigQuiet
import Derived.Lib.SmallJoins
import Derived.WalkKit
import Derived.WalkSpells
import Derived.WalkLawsBesides
import Derived.ProofKit
import Derived.OpenShut
import Derived.ShutString
import Derived.ChangeOld
import Derived.Below
namespace Go.Proofs.Ytmkjfgedhcidcaa
open Go.RowKit
open Go.Sort (grow)

/-- Three boxed dots, in blocks q, q + 1, q + 2. -/
def Bx (q : Nat) (W : World) (a b c : Dt) : Prop :=
  q + 3 ≤ W.heap.size ∧ W.cell? ⟨q, 0, none⟩ = some (.int .i64 a.1) ∧ W.cell? ⟨q, 1, none⟩ = some (.int .i64 a.2) ∧ W.cell? ⟨q + 1, 0, none⟩ = some (.int .i64 b.1) ∧ W.cell? ⟨q + 1, 1, none⟩ = some (.int .i64 b.2) ∧
    W.cell? ⟨q + 1 + 1, 0, none⟩ = some (.int .i64 c.1) ∧ W.cell? ⟨q + 1 + 1, 1, none⟩ = some (.int .i64 c.2)

theorem Bx.below {q : Nat} {W W' : World} {a b c : Dt} (h : Bx q W a b c) (k : RowKit.Below W.heap.size W W') : Bx q W' a b c := by
  obtain ⟨h0, h1, h2, h3, h4, h5, h6⟩ := h
  have hk := k.size
  refine ⟨by omega, ?_, ?_, ?_, ?_, ?_, ?_⟩
  · rw [k.cell (cell_in h1)]; exact h1
  · rw [k.cell (cell_in h2)]; exact h2
  · rw [k.cell (cell_in h3)]; exact h3
  · rw [k.cell (cell_in h4)]; exact h4
  · rw [k.cell (cell_in h5)]; exact h5
  · rw [k.cell (cell_in h6)]; exact h6

theorem bx_new (w : World) (a b c : Dt) : Bx w.heap.size (((w.alloc (.cells #[.int .i64 a.1, .int .i64 a.2] 23)).alloc (.cells #[.int .i64 b.1, .int .i64 b.2] 23)).alloc (.cells #[.int .i64 c.1, .int .i64 c.2] 23)) a b c := by
  obtain ⟨a1, a2⟩ := a
  obtain ⟨b1, b2⟩ := b
  obtain ⟨c1, c2⟩ := c
  refine ⟨by simp, ?_, ?_, ?_, ?_, ?_, ?_⟩ <;> go_simp

theorem Bx.cls {q : Nat} {W : World} {a b c : Dt} (h : Bx q W a b c) : (∀ n os, (grow (W.drewN n) os).cell? ⟨q, 0, none⟩ = some (.int .i64 a.1)) ∧ (∀ n os, (grow (W.drewN n) os).cell? ⟨q, 1, none⟩ = some (.int .i64 a.2)) ∧
    (∀ n os, (grow (W.drewN n) os).cell? ⟨q + 1, 0, none⟩ = some (.int .i64 b.1)) ∧ (∀ n os, (grow (W.drewN n) os).cell? ⟨q + 1, 1, none⟩ = some (.int .i64 b.2)) := by
  obtain ⟨h0, h1, h2, h3, h4, h5, h6⟩ := h
  exact ⟨fun n os => cell_grown (cell_in h1) h1 n os, fun n os => cell_grown (cell_in h2) h2 n os, fun n os => cell_grown (cell_in h3) h3 n os, fun n os => cell_grown (cell_in h4) h4 n os⟩

/-- A call that answers a Bool and lays new blocks alone. -/
def Says (f : Nat) (args : Array Value) (r : Bool) : Prop := ∀ W, Calls Try.prog f args W fun e w' => e = .returned (.bool r) ∧ ∃ q os', w' = grow (W.drewN q) os'

theorem Says.cls {f : Nat} {args : Array Value} {r : Bool} (h : Says f args r) (w : World) (n : Nat) (os : Array Obj) :
    Calls Try.prog f args (grow (w.drewN n) os) fun e w'' => e = .returned (.bool r) ∧ ∃ p : GrownBy, w'' = grow (w.drewN p.n) p.os := Calls.grown_of (h _)

theorem Says.bel {f : Nat} {args : Array Value} {r : Bool} (h : Says f args r) (w : World) : Calls Try.prog f args w fun e w' => e = .returned (.bool r) ∧ RowKit.Below w.heap.size w w' :=
  (h w).mono fun _ _ ⟨he, q, os, hw⟩ => ⟨he, by rw [hw]; exact below_class w q os⟩

theorem says_less (a b : Dt) : Says 9 #[dv a, dv b] (dl a b) := fun W => less_q a b W
theorem says_may (a : Dt) : Says 10 #[dv a] (mayd a) := fun W => may_q a W
theorem says_rmay (a : Dt) : Says 11 #[dv a] (mayd a) := fun W => (rmay_any a W).mono fun _ _ ⟨he, os, hw⟩ => ⟨he, 0, os, hw⟩
theorem says_rless (a b : Dt) : Says 12 #[dv a, dv b] (dl a b) := fun W => (rless_any a b W).mono fun _ _ ⟨he, os, hw⟩ => ⟨he, 0, os, hw⟩

theorem below_three {w w1 : World} {A B C : Obj} (h : RowKit.Below (((w.alloc A).alloc B).alloc C).heap.size (((w.alloc A).alloc B).alloc C) w1) : RowKit.Below w.heap.size w w1 :=
  below2 ((((Below.refl w.heap.size w).alloc (Nat.le_refl _) A).alloc (by simp) B).alloc (by simp; omega) C) h


set_option maxRecDepth 100000 in
set_option maxHeartbeats 4000000 in
theorem order_w1 (a1 a2 b1 b2 c1 c2 : Int) (m : Bool) (hne : ¬ a1 = b1) (w : World) (hx : Says 9 #[dv (a1, a2), dv (b1, b2)] true) (hr : Says 9 #[dv (b1, b2), dv (a1, a2)] false) (hy : Says 9 #[dv (b1, b2), dv (c1, c2)] true) (hz : Says 9 #[dv (a1, a2), dv (c1, c2)] true) (hm : Says 10 #[dv (a1, a2)] m) (hn : Says 11 #[dv (a1, a2)] m) (hq : Says 12 #[dv (a1, a2), dv (b1, b2)] true) :
    Calls Try.prog 3 #[dv (a1, a2), dv (b1, b2), dv (c1, c2)] w fun e w' => e = .returned (.bool true) ∧ RowKit.Below w.heap.size w w' := by
  have mixed : Try.prog.follows .mixedOrders = true := by kernel_rfl
  have haw := awake_any (((w.alloc (.cells #[.int .i64 a1, .int .i64 a2] 23)).alloc (.cells #[.int .i64 b1, .int .i64 b2] 23)).alloc (.cells #[.int .i64 c1, .int .i64 c2] 23))
  have hbx := bx_new w (a1, a2) (b1, b2) (c1, c2)
  go_enter Try.func3, Try.ntmps3
  go_wp2_with (first
    | (go_at_call 8; refine haw.mono ?_; rintro e w1 ⟨rfl, l1⟩; have B1 := hbx.below l1; have g1 := below_three l1; obtain ⟨k0, k1, k2, k3, k4, k5, k6⟩ := hbx.below l1)
    | (go_at_call 9; have hq3 := l3; refine (hz.bel w3).mono ?_; rintro e w4 ⟨rfl, l4⟩; have B4 := B3.below l4; have g4 := below2 g3 l4; clear k0 k1 k2 k3 k4 k5 k6)
    | (go_at_call 9; have hq2 := l2; refine (hy.bel w2).mono ?_; rintro e w3 ⟨rfl, l3⟩; have B3 := B2.below l3; have g3 := below2 g2 l3; clear k0 k1 k2 k3 k4 k5 k6; obtain ⟨k0, k1, k2, k3, k4, k5, k6⟩ := B2.below l3)
    | (go_at_call 9; have hq1 := l1; refine (hx.bel w1).mono ?_; rintro e w2 ⟨rfl, l2⟩; have B2 := B1.below l2; have g2 := below2 g1 l2; clear k0 k1 k2 k3 k4 k5 k6; obtain ⟨k0, k1, k2, k3, k4, k5, k6⟩ := B1.below l2))
  obtain ⟨c0, d0, e0, f0⟩ := B4.cls
  have hm4 := fun n os => hm.cls w4 n os
  have hn4 := fun n os => hn.cls w4 n os
  have hq4 := fun n os => hq.cls w4 n os
  clear l1 l2 l3 l4 B1 B2 B3 g1 g2 g3 hq1 hq2 hq3 haw hbx hx hy hz hm hn hq
  go_quiet_grown (first
    | (go_at_call 10; exact hm4 _ _)
    | (go_at_call 11; exact hn4 _ _)
    | (go_at_call 12; exact hq4 _ _))
  have B5 := B4.below (below_class w4 nq osq)
  have g5 := below2 g4 (below_class w4 nq osq)
  clear hm4 hn4 hq4 c0 d0 e0 f0 B4
  generalize grow (w4.drewN nq) osq = w5 at B5 g5 ⊢
  go_wp2_with fail
  obtain ⟨c0, d0, e0, f0⟩ := B5.cls
  have hr5 := fun n os => hr.cls w5 n os
  clear hr B5
  go_quiet_grown (first
    | (go_at_call 9; exact hr5 _ _))
  have g6 := below2 g5 (below_class w5 nq osq)
  clear hr5 c0 d0 e0 f0
  generalize grow (w5.drewN nq) osq = w6 at g6 ⊢
  go_wp2
  go_ret
  exact ⟨rfl, g6⟩

set_option maxRecDepth 100000 in
set_option maxHeartbeats 4000000 in
theorem order_w2 (a1 a2 b1 b2 c1 c2 : Int) (m : Bool) (hne : ¬ a1 = b1) (z : Bool) (w : World) (hx : Says 9 #[dv (a1, a2), dv (b1, b2)] true) (hr : Says 9 #[dv (b1, b2), dv (a1, a2)] false) (hy : Says 9 #[dv (b1, b2), dv (c1, c2)] false) (hz : Says 9 #[dv (a1, a2), dv (c1, c2)] z) (hm : Says 10 #[dv (a1, a2)] m) (hn : Says 11 #[dv (a1, a2)] m) (hq : Says 12 #[dv (a1, a2), dv (b1, b2)] true) :
    Calls Try.prog 3 #[dv (a1, a2), dv (b1, b2), dv (c1, c2)] w fun e w' => e = .returned (.bool true) ∧ RowKit.Below w.heap.size w w' := by
  have mixed : Try.prog.follows .mixedOrders = true := by kernel_rfl
  have haw := awake_any (((w.alloc (.cells #[.int .i64 a1, .int .i64 a2] 23)).alloc (.cells #[.int .i64 b1, .int .i64 b2] 23)).alloc (.cells #[.int .i64 c1, .int .i64 c2] 23))
  have hbx := bx_new w (a1, a2) (b1, b2) (c1, c2)
  go_enter Try.func3, Try.ntmps3
  go_wp2_with (first
    | (go_at_call 8; refine haw.mono ?_; rintro e w1 ⟨rfl, l1⟩; have B1 := hbx.below l1; have g1 := below_three l1; obtain ⟨k0, k1, k2, k3, k4, k5, k6⟩ := hbx.below l1)
    | (go_at_call 9; have hq3 := l3; refine (hz.bel w3).mono ?_; rintro e w4 ⟨rfl, l4⟩; have B4 := B3.below l4; have g4 := below2 g3 l4; clear k0 k1 k2 k3 k4 k5 k6)
    | (go_at_call 9; have hq2 := l2; refine (hy.bel w2).mono ?_; rintro e w3 ⟨rfl, l3⟩; have B3 := B2.below l3; have g3 := below2 g2 l3; clear k0 k1 k2 k3 k4 k5 k6; obtain ⟨k0, k1, k2, k3, k4, k5, k6⟩ := B2.below l3)
    | (go_at_call 9; have hq1 := l1; refine (hx.bel w1).mono ?_; rintro e w2 ⟨rfl, l2⟩; have B2 := B1.below l2; have g2 := below2 g1 l2; clear k0 k1 k2 k3 k4 k5 k6; obtain ⟨k0, k1, k2, k3, k4, k5, k6⟩ := B1.below l2))
  obtain ⟨c0, d0, e0, f0⟩ := B4.cls
  have hm4 := fun n os => hm.cls w4 n os
  have hn4 := fun n os => hn.cls w4 n os
  have hq4 := fun n os => hq.cls w4 n os
  clear l1 l2 l3 l4 B1 B2 B3 g1 g2 g3 hq1 hq2 hq3 haw hbx hx hy hz hm hn hq
  go_quiet_grown (first
    | (go_at_call 10; exact hm4 _ _)
    | (go_at_call 11; exact hn4 _ _)
    | (go_at_call 12; exact hq4 _ _))
  have B5 := B4.below (below_class w4 nq osq)
  have g5 := below2 g4 (below_class w4 nq osq)
  clear hm4 hn4 hq4 c0 d0 e0 f0 B4
  generalize grow (w4.drewN nq) osq = w5 at B5 g5 ⊢
  go_wp2_with fail
  obtain ⟨c0, d0, e0, f0⟩ := B5.cls
  have hr5 := fun n os => hr.cls w5 n os
  clear hr B5
  go_quiet_grown (first
    | (go_at_call 9; exact hr5 _ _))
  have g6 := below2 g5 (below_class w5 nq osq)
  clear hr5 c0 d0 e0 f0
  generalize grow (w5.drewN nq) osq = w6 at g6 ⊢
  go_wp2
  go_ret
  exact ⟨rfl, g6⟩

set_option maxRecDepth 100000 in
set_option maxHeartbeats 4000000 in
theorem order_w3 (a1 a2 b1 b2 c1 c2 : Int) (m : Bool) (hne : ¬ a1 = b1) (y z : Bool) (w : World) (hx : Says 9 #[dv (a1, a2), dv (b1, b2)] false) (hr : Says 9 #[dv (b1, b2), dv (a1, a2)] true) (hy : Says 9 #[dv (b1, b2), dv (c1, c2)] y) (hz : Says 9 #[dv (a1, a2), dv (c1, c2)] z) (hm : Says 10 #[dv (a1, a2)] m) (hn : Says 11 #[dv (a1, a2)] m) (hq : Says 12 #[dv (a1, a2), dv (b1, b2)] false) :
    Calls Try.prog 3 #[dv (a1, a2), dv (b1, b2), dv (c1, c2)] w fun e w' => e = .returned (.bool true) ∧ RowKit.Below w.heap.size w w' := by
  have mixed : Try.prog.follows .mixedOrders = true := by kernel_rfl
  have haw := awake_any (((w.alloc (.cells #[.int .i64 a1, .int .i64 a2] 23)).alloc (.cells #[.int .i64 b1, .int .i64 b2] 23)).alloc (.cells #[.int .i64 c1, .int .i64 c2] 23))
  have hbx := bx_new w (a1, a2) (b1, b2) (c1, c2)
  go_enter Try.func3, Try.ntmps3
  go_wp2_with (first
    | (go_at_call 8; refine haw.mono ?_; rintro e w1 ⟨rfl, l1⟩; have B1 := hbx.below l1; have g1 := below_three l1; obtain ⟨k0, k1, k2, k3, k4, k5, k6⟩ := hbx.below l1)
    | (go_at_call 9; have hq3 := l3; refine (hz.bel w3).mono ?_; rintro e w4 ⟨rfl, l4⟩; have B4 := B3.below l4; have g4 := below2 g3 l4; clear k0 k1 k2 k3 k4 k5 k6)
    | (go_at_call 9; have hq2 := l2; refine (hy.bel w2).mono ?_; rintro e w3 ⟨rfl, l3⟩; have B3 := B2.below l3; have g3 := below2 g2 l3; clear k0 k1 k2 k3 k4 k5 k6; obtain ⟨k0, k1, k2, k3, k4, k5, k6⟩ := B2.below l3)
    | (go_at_call 9; have hq1 := l1; refine (hx.bel w1).mono ?_; rintro e w2 ⟨rfl, l2⟩; have B2 := B1.below l2; have g2 := below2 g1 l2; clear k0 k1 k2 k3 k4 k5 k6; obtain ⟨k0, k1, k2, k3, k4, k5, k6⟩ := B1.below l2))
  obtain ⟨c0, d0, e0, f0⟩ := B4.cls
  have hm4 := fun n os => hm.cls w4 n os
  have hn4 := fun n os => hn.cls w4 n os
  have hq4 := fun n os => hq.cls w4 n os
  clear l1 l2 l3 l4 B1 B2 B3 g1 g2 g3 hq1 hq2 hq3 haw hbx hx hy hz hm hn hq
  go_quiet_grown (first
    | (go_at_call 10; exact hm4 _ _)
    | (go_at_call 11; exact hn4 _ _)
    | (go_at_call 12; exact hq4 _ _))
  have B5 := B4.below (below_class w4 nq osq)
  have g5 := below2 g4 (below_class w4 nq osq)
  clear hm4 hn4 hq4 c0 d0 e0 f0 B4
  generalize grow (w4.drewN nq) osq = w5 at B5 g5 ⊢
  go_wp2_with fail
  obtain ⟨c0, d0, e0, f0⟩ := B5.cls
  have hr5 := fun n os => hr.cls w5 n os
  clear hr B5
  go_quiet_grown (first
    | (go_at_call 9; exact hr5 _ _))
  have g6 := below2 g5 (below_class w5 nq osq)
  clear hr5 c0 d0 e0 f0
  generalize grow (w5.drewN nq) osq = w6 at g6 ⊢
  go_wp2
  go_ret
  exact ⟨rfl, g6⟩

set_option maxRecDepth 100000 in
set_option maxHeartbeats 4000000 in
theorem order_w4 (a1 a2 b2 c1 c2 : Int) (m : Bool) (hne : ¬ a2 = b2) (w : World) (hx : Says 9 #[dv (a1, a2), dv (a1, b2)] true) (hr : Says 9 #[dv (a1, b2), dv (a1, a2)] false) (hy : Says 9 #[dv (a1, b2), dv (c1, c2)] true) (hz : Says 9 #[dv (a1, a2), dv (c1, c2)] true) (hm : Says 10 #[dv (a1, a2)] m) (hn : Says 11 #[dv (a1, a2)] m) (hq : Says 12 #[dv (a1, a2), dv (a1, b2)] true) :
    Calls Try.prog 3 #[dv (a1, a2), dv (a1, b2), dv (c1, c2)] w fun e w' => e = .returned (.bool true) ∧ RowKit.Below w.heap.size w w' := by
  have mixed : Try.prog.follows .mixedOrders = true := by kernel_rfl
  have haw := awake_any (((w.alloc (.cells #[.int .i64 a1, .int .i64 a2] 23)).alloc (.cells #[.int .i64 a1, .int .i64 b2] 23)).alloc (.cells #[.int .i64 c1, .int .i64 c2] 23))
  have hbx := bx_new w (a1, a2) (a1, b2) (c1, c2)
  go_enter Try.func3, Try.ntmps3
  go_wp2_with (first
    | (go_at_call 8; refine haw.mono ?_; rintro e w1 ⟨rfl, l1⟩; have B1 := hbx.below l1; have g1 := below_three l1; obtain ⟨k0, k1, k2, k3, k4, k5, k6⟩ := hbx.below l1)
    | (go_at_call 9; have hq3 := l3; refine (hz.bel w3).mono ?_; rintro e w4 ⟨rfl, l4⟩; have B4 := B3.below l4; have g4 := below2 g3 l4; clear k0 k1 k2 k3 k4 k5 k6)
    | (go_at_call 9; have hq2 := l2; refine (hy.bel w2).mono ?_; rintro e w3 ⟨rfl, l3⟩; have B3 := B2.below l3; have g3 := below2 g2 l3; clear k0 k1 k2 k3 k4 k5 k6; obtain ⟨k0, k1, k2, k3, k4, k5, k6⟩ := B2.below l3)
    | (go_at_call 9; have hq1 := l1; refine (hx.bel w1).mono ?_; rintro e w2 ⟨rfl, l2⟩; have B2 := B1.below l2; have g2 := below2 g1 l2; clear k0 k1 k2 k3 k4 k5 k6; obtain ⟨k0, k1, k2, k3, k4, k5, k6⟩ := B1.below l2))
  obtain ⟨c0, d0, e0, f0⟩ := B4.cls
  have hm4 := fun n os => hm.cls w4 n os
  have hn4 := fun n os => hn.cls w4 n os
  have hq4 := fun n os => hq.cls w4 n os
  clear l1 l2 l3 l4 B1 B2 B3 g1 g2 g3 hq1 hq2 hq3 haw hbx hx hy hz hm hn hq
  go_quiet_grown (first
    | (go_at_call 10; exact hm4 _ _)
    | (go_at_call 11; exact hn4 _ _)
    | (go_at_call 12; exact hq4 _ _))
  have B5 := B4.below (below_class w4 nq osq)
  have g5 := below2 g4 (below_class w4 nq osq)
  clear hm4 hn4 hq4 c0 d0 e0 f0 B4
  generalize grow (w4.drewN nq) osq = w5 at B5 g5 ⊢
  go_wp2_with fail
  obtain ⟨c0, d0, e0, f0⟩ := B5.cls
  have hr5 := fun n os => hr.cls w5 n os
  clear hr B5
  go_quiet_grown (first
    | (go_at_call 9; exact hr5 _ _))
  have g6 := below2 g5 (below_class w5 nq osq)
  clear hr5 c0 d0 e0 f0
  generalize grow (w5.drewN nq) osq = w6 at g6 ⊢
  go_wp2
  go_ret
  exact ⟨rfl, g6⟩

set_option maxRecDepth 100000 in
set_option maxHeartbeats 4000000 in
theorem order_w5 (a1 a2 b2 c1 c2 : Int) (m : Bool) (hne : ¬ a2 = b2) (z : Bool) (w : World) (hx : Says 9 #[dv (a1, a2), dv (a1, b2)] true) (hr : Says 9 #[dv (a1, b2), dv (a1, a2)] false) (hy : Says 9 #[dv (a1, b2), dv (c1, c2)] false) (hz : Says 9 #[dv (a1, a2), dv (c1, c2)] z) (hm : Says 10 #[dv (a1, a2)] m) (hn : Says 11 #[dv (a1, a2)] m) (hq : Says 12 #[dv (a1, a2), dv (a1, b2)] true) :
    Calls Try.prog 3 #[dv (a1, a2), dv (a1, b2), dv (c1, c2)] w fun e w' => e = .returned (.bool true) ∧ RowKit.Below w.heap.size w w' := by
  have mixed : Try.prog.follows .mixedOrders = true := by kernel_rfl
  have haw := awake_any (((w.alloc (.cells #[.int .i64 a1, .int .i64 a2] 23)).alloc (.cells #[.int .i64 a1, .int .i64 b2] 23)).alloc (.cells #[.int .i64 c1, .int .i64 c2] 23))
  have hbx := bx_new w (a1, a2) (a1, b2) (c1, c2)
  go_enter Try.func3, Try.ntmps3
  go_wp2_with (first
    | (go_at_call 8; refine haw.mono ?_; rintro e w1 ⟨rfl, l1⟩; have B1 := hbx.below l1; have g1 := below_three l1; obtain ⟨k0, k1, k2, k3, k4, k5, k6⟩ := hbx.below l1)
    | (go_at_call 9; have hq3 := l3; refine (hz.bel w3).mono ?_; rintro e w4 ⟨rfl, l4⟩; have B4 := B3.below l4; have g4 := below2 g3 l4; clear k0 k1 k2 k3 k4 k5 k6)
    | (go_at_call 9; have hq2 := l2; refine (hy.bel w2).mono ?_; rintro e w3 ⟨rfl, l3⟩; have B3 := B2.below l3; have g3 := below2 g2 l3; clear k0 k1 k2 k3 k4 k5 k6; obtain ⟨k0, k1, k2, k3, k4, k5, k6⟩ := B2.below l3)
    | (go_at_call 9; have hq1 := l1; refine (hx.bel w1).mono ?_; rintro e w2 ⟨rfl, l2⟩; have B2 := B1.below l2; have g2 := below2 g1 l2; clear k0 k1 k2 k3 k4 k5 k6; obtain ⟨k0, k1, k2, k3, k4, k5, k6⟩ := B1.below l2))
  obtain ⟨c0, d0, e0, f0⟩ := B4.cls
  have hm4 := fun n os => hm.cls w4 n os
  have hn4 := fun n os => hn.cls w4 n os
  have hq4 := fun n os => hq.cls w4 n os
  clear l1 l2 l3 l4 B1 B2 B3 g1 g2 g3 hq1 hq2 hq3 haw hbx hx hy hz hm hn hq
  go_quiet_grown (first
    | (go_at_call 10; exact hm4 _ _)
    | (go_at_call 11; exact hn4 _ _)
    | (go_at_call 12; exact hq4 _ _))
  have B5 := B4.below (below_class w4 nq osq)
  have g5 := below2 g4 (below_class w4 nq osq)
  clear hm4 hn4 hq4 c0 d0 e0 f0 B4
  generalize grow (w4.drewN nq) osq = w5 at B5 g5 ⊢
  go_wp2_with fail
  obtain ⟨c0, d0, e0, f0⟩ := B5.cls
  have hr5 := fun n os => hr.cls w5 n os
  clear hr B5
  go_quiet_grown (first
    | (go_at_call 9; exact hr5 _ _))
  have g6 := below2 g5 (below_class w5 nq osq)
  clear hr5 c0 d0 e0 f0
  generalize grow (w5.drewN nq) osq = w6 at g6 ⊢
  go_wp2
  go_ret
  exact ⟨rfl, g6⟩

set_option maxRecDepth 100000 in
set_option maxHeartbeats 4000000 in
theorem order_w6 (a1 a2 b2 c1 c2 : Int) (m : Bool) (hne : ¬ a2 = b2) (y z : Bool) (w : World) (hx : Says 9 #[dv (a1, a2), dv (a1, b2)] false) (hr : Says 9 #[dv (a1, b2), dv (a1, a2)] true) (hy : Says 9 #[dv (a1, b2), dv (c1, c2)] y) (hz : Says 9 #[dv (a1, a2), dv (c1, c2)] z) (hm : Says 10 #[dv (a1, a2)] m) (hn : Says 11 #[dv (a1, a2)] m) (hq : Says 12 #[dv (a1, a2), dv (a1, b2)] false) :
    Calls Try.prog 3 #[dv (a1, a2), dv (a1, b2), dv (c1, c2)] w fun e w' => e = .returned (.bool true) ∧ RowKit.Below w.heap.size w w' := by
  have mixed : Try.prog.follows .mixedOrders = true := by kernel_rfl
  have haw := awake_any (((w.alloc (.cells #[.int .i64 a1, .int .i64 a2] 23)).alloc (.cells #[.int .i64 a1, .int .i64 b2] 23)).alloc (.cells #[.int .i64 c1, .int .i64 c2] 23))
  have hbx := bx_new w (a1, a2) (a1, b2) (c1, c2)
  go_enter Try.func3, Try.ntmps3
  go_wp2_with (first
    | (go_at_call 8; refine haw.mono ?_; rintro e w1 ⟨rfl, l1⟩; have B1 := hbx.below l1; have g1 := below_three l1; obtain ⟨k0, k1, k2, k3, k4, k5, k6⟩ := hbx.below l1)
    | (go_at_call 9; have hq3 := l3; refine (hz.bel w3).mono ?_; rintro e w4 ⟨rfl, l4⟩; have B4 := B3.below l4; have g4 := below2 g3 l4; clear k0 k1 k2 k3 k4 k5 k6)
    | (go_at_call 9; have hq2 := l2; refine (hy.bel w2).mono ?_; rintro e w3 ⟨rfl, l3⟩; have B3 := B2.below l3; have g3 := below2 g2 l3; clear k0 k1 k2 k3 k4 k5 k6; obtain ⟨k0, k1, k2, k3, k4, k5, k6⟩ := B2.below l3)
    | (go_at_call 9; have hq1 := l1; refine (hx.bel w1).mono ?_; rintro e w2 ⟨rfl, l2⟩; have B2 := B1.below l2; have g2 := below2 g1 l2; clear k0 k1 k2 k3 k4 k5 k6; obtain ⟨k0, k1, k2, k3, k4, k5, k6⟩ := B1.below l2))
  obtain ⟨c0, d0, e0, f0⟩ := B4.cls
  have hm4 := fun n os => hm.cls w4 n os
  have hn4 := fun n os => hn.cls w4 n os
  have hq4 := fun n os => hq.cls w4 n os
  clear l1 l2 l3 l4 B1 B2 B3 g1 g2 g3 hq1 hq2 hq3 haw hbx hx hy hz hm hn hq
  go_quiet_grown (first
    | (go_at_call 10; exact hm4 _ _)
    | (go_at_call 11; exact hn4 _ _)
    | (go_at_call 12; exact hq4 _ _))
  have B5 := B4.below (below_class w4 nq osq)
  have g5 := below2 g4 (below_class w4 nq osq)
  clear hm4 hn4 hq4 c0 d0 e0 f0 B4
  generalize grow (w4.drewN nq) osq = w5 at B5 g5 ⊢
  go_wp2_with fail
  obtain ⟨c0, d0, e0, f0⟩ := B5.cls
  have hr5 := fun n os => hr.cls w5 n os
  clear hr B5
  go_quiet_grown (first
    | (go_at_call 9; exact hr5 _ _))
  have g6 := below2 g5 (below_class w5 nq osq)
  clear hr5 c0 d0 e0 f0
  generalize grow (w5.drewN nq) osq = w6 at g6 ⊢
  go_wp2
  go_ret
  exact ⟨rfl, g6⟩

set_option maxRecDepth 100000 in
set_option maxHeartbeats 4000000 in
theorem order_w7 (a1 a2 c1 c2 : Int) (m : Bool) (y z : Bool) (w : World) (hx : Says 9 #[dv (a1, a2), dv (a1, a2)] false) (hr : Says 9 #[dv (a1, a2), dv (a1, a2)] false) (hy : Says 9 #[dv (a1, a2), dv (c1, c2)] y) (hz : Says 9 #[dv (a1, a2), dv (c1, c2)] z) (hm : Says 10 #[dv (a1, a2)] m) (hn : Says 11 #[dv (a1, a2)] m) (hq : Says 12 #[dv (a1, a2), dv (a1, a2)] false) :
    Calls Try.prog 3 #[dv (a1, a2), dv (a1, a2), dv (c1, c2)] w fun e w' => e = .returned (.bool true) ∧ RowKit.Below w.heap.size w w' := by
  have mixed : Try.prog.follows .mixedOrders = true := by kernel_rfl
  have haw := awake_any (((w.alloc (.cells #[.int .i64 a1, .int .i64 a2] 23)).alloc (.cells #[.int .i64 a1, .int .i64 a2] 23)).alloc (.cells #[.int .i64 c1, .int .i64 c2] 23))
  have hbx := bx_new w (a1, a2) (a1, a2) (c1, c2)
  go_enter Try.func3, Try.ntmps3
  go_wp2_with (first
    | (go_at_call 8; refine haw.mono ?_; rintro e w1 ⟨rfl, l1⟩; have B1 := hbx.below l1; have g1 := below_three l1; obtain ⟨k0, k1, k2, k3, k4, k5, k6⟩ := hbx.below l1)
    | (go_at_call 9; have hq3 := l3; refine (hz.bel w3).mono ?_; rintro e w4 ⟨rfl, l4⟩; have B4 := B3.below l4; have g4 := below2 g3 l4; clear k0 k1 k2 k3 k4 k5 k6)
    | (go_at_call 9; have hq2 := l2; refine (hy.bel w2).mono ?_; rintro e w3 ⟨rfl, l3⟩; have B3 := B2.below l3; have g3 := below2 g2 l3; clear k0 k1 k2 k3 k4 k5 k6; obtain ⟨k0, k1, k2, k3, k4, k5, k6⟩ := B2.below l3)
    | (go_at_call 9; have hq1 := l1; refine (hx.bel w1).mono ?_; rintro e w2 ⟨rfl, l2⟩; have B2 := B1.below l2; have g2 := below2 g1 l2; clear k0 k1 k2 k3 k4 k5 k6; obtain ⟨k0, k1, k2, k3, k4, k5, k6⟩ := B1.below l2))
  obtain ⟨c0, d0, e0, f0⟩ := B4.cls
  have hm4 := fun n os => hm.cls w4 n os
  have hn4 := fun n os => hn.cls w4 n os
  have hq4 := fun n os => hq.cls w4 n os
  clear l1 l2 l3 l4 B1 B2 B3 g1 g2 g3 hq1 hq2 hq3 haw hbx hx hy hz hm hn hq
  go_quiet_grown (first
    | (go_at_call 10; exact hm4 _ _)
    | (go_at_call 11; exact hn4 _ _)
    | (go_at_call 12; exact hq4 _ _))
  have B5 := B4.below (below_class w4 nq osq)
  have g5 := below2 g4 (below_class w4 nq osq)
  clear hm4 hn4 hq4 c0 d0 e0 f0 B4
  generalize grow (w4.drewN nq) osq = w5 at B5 g5 ⊢
  go_wp2_with fail
  obtain ⟨c0, d0, e0, f0⟩ := B5.cls
  have hr5 := fun n os => hr.cls w5 n os
  clear hr B5
  go_quiet_grown (first
    | (go_at_call 9; exact hr5 _ _))
  have g6 := below2 g5 (below_class w5 nq osq)
  clear hr5 c0 d0 e0 f0
  generalize grow (w5.drewN nq) osq = w6 at g6 ⊢
  go_wp2
  go_ret
  exact ⟨rfl, g6⟩

theorem dotsOrder_walk (a b c : Dt) (w : World) : Calls Try.prog 3 #[dv a, dv b, dv c] w fun e w' => e = .returned (.bool true) ∧ RowKit.Below w.heap.size w w' := by
  have hx := says_less a b
  have hr := says_less b a
  have hy := says_less b c
  have hz := says_less a c
  have hm := says_may a
  have hn := says_rmay a
  have hq := says_rless a b
  by_cases hab : a = b
  · subst hab
    rw [dl_irrefl] at hx hr hq
    exact order_w7 a.1 a.2 c.1 c.2 _ _ _ w hx hr hy hz hm hn hq
  · cases hdl : dl a b
    · have hdr : dl b a = true := dl_total hab hdl
      rw [hdl] at hx hq
      rw [hdr] at hr
      by_cases h1 : a.1 = b.1
      · obtain ⟨a1, a2⟩ := a
        obtain ⟨b1, b2⟩ := b
        simp at h1
        subst h1
        exact order_w6 a1 a2 b2 c.1 c.2 _ (fun e => hab (by rw [e])) _ _ w hx hr hy hz hm hn hq
      · exact order_w3 a.1 a.2 b.1 b.2 c.1 c.2 _ h1 _ _ w hx hr hy hz hm hn hq
    · have hdr : dl b a = false := dl_asymm hdl
      rw [hdl] at hx hq
      rw [hdr] at hr
      cases hbc : dl b c
      · rw [hbc] at hy
        by_cases h1 : a.1 = b.1
        · obtain ⟨a1, a2⟩ := a
          obtain ⟨b1, b2⟩ := b
          simp at h1
          subst h1
          exact order_w5 a1 a2 b2 c.1 c.2 _ (fun e => hab (by rw [e])) _ w hx hr hy hz hm hn hq
        · exact order_w2 a.1 a.2 b.1 b.2 c.1 c.2 _ h1 _ w hx hr hy hz hm hn hq
      · rw [hbc] at hy
        rw [dl_trans hdl hbc] at hz
        by_cases h1 : a.1 = b.1
        · obtain ⟨a1, a2⟩ := a
          obtain ⟨b1, b2⟩ := b
          simp at h1
          subst h1
          exact order_w4 a1 a2 b2 c.1 c.2 _ (fun e => hab (by rw [e])) w hx hr hy hz hm hn hq
        · exact order_w1 a.1 a.2 b.1 b.2 c.1 c.2 _ h1 w hx hr hy hz hm hn hq

namespace dotsOrder
open Go.ChangeShapes Go.WideShapes Go.ChangeAt Go.RowKit
open Go.ChangeMaps (open_string shut_string)
set_option linter.unusedVariables false

theorem own : ownKnob Try.prog.godebug = none := by kernel_rfl
theorem laidOut : laidOutB Try.prog = true := by kernel_rfl

set_option maxRecDepth 100000 in
theorem lifted (os : Os) (started : os.Started) (H : Type) (enc : TypeId × Value → H) :
    ReturnsInHanded {} Try.checked os 3 .any (Rows.dotsOrderSpec.pre6 enc Try.prog Try.f3 Rows.dotsOrderRow.domain false) (Rows.dotsOrderSpec.post enc Try.prog Try.f3 false true false false) := by
  refine returnsInHanded_of_change (C := Try.checked) own started (by kernel_rfl) Try.func3
    (ChangeSpec.witness6 (enc := enc) (C := Try.checked) false ⟨#[], #[.agg #[.int .i64 0, .int .i64 0], .agg #[.int .i64 0, .int .i64 0], .agg #[.int .i64 0, .int .i64 0]], []⟩ 8 (by kernel_rfl) (by kernel_rfl) (by kernel_rfl) (by kernel_rfl)) ?_
  intro W base args ds gs before hval0 hW hcnd _
  have hval : ∀ (j : Nat) t v, Try.f3.params[j]? = some t → args[j]? = some v → Value.okWide Try.prog W .any base t v := hval0
  have hW' := hW
  obtain ⟨p, q, hA0, hV, rfl, hfz, hnd⟩ := hW
  have hA : DataW.TrodAll enc Try.prog W 0 (fun _ => true) true Try.f3.params.toList args.toList ds p := hA0
  rw [Try.params3] at hA hval
  obtain ⟨v0, vs0, d0, ds0, p0, q0, hargs, rfl, rfl, h0, r0⟩ := trodAll_cons hA
  obtain ⟨v1, vs1, d1, ds1, p1, q1, rfl, rfl, rfl, h1, r1⟩ := trodAll_cons r0
  obtain ⟨v2, vs2, d2, ds2, p2, q2, rfl, rfl, rfl, h2, r2⟩ := trodAll_cons r1
  obtain ⟨rfl, rfl, rfl⟩ := trodAll_nil r2
  obtain rfl : args = #[v0, v1, v2] := by cases args; simp_all
  obtain ⟨rfl, rfl⟩ := trodVars_none hV
  obtain ⟨x0, y0, rfl⟩ : ∃ x y : Int, v0 = dv (x, y) := by
    obtain ⟨e0, e1, z0, z1, m, rfl, rfl, rfl, hz0, hz1⟩ := Go.Joins.open_agg2 Try.underlying23 (by kernel_rfl) dotCells (hval 0 23 v0 rfl rfl) h0
    obtain ⟨n0, f0, _, _⟩ := DataW.trod_int Try.underlying3 hz0
    obtain ⟨n1, f1, _, _⟩ := DataW.trod_int Try.underlying3 hz1
    simp at f0 f1
    subst f0 f1
    exact ⟨n0, n1, rfl⟩
  obtain ⟨x1, y1, rfl⟩ : ∃ x y : Int, v1 = dv (x, y) := by
    obtain ⟨e0, e1, z0, z1, m, rfl, rfl, rfl, hz0, hz1⟩ := Go.Joins.open_agg2 Try.underlying23 (by kernel_rfl) dotCells (hval 1 23 v1 rfl rfl) h1
    obtain ⟨n0, f0, _, _⟩ := DataW.trod_int Try.underlying3 hz0
    obtain ⟨n1, f1, _, _⟩ := DataW.trod_int Try.underlying3 hz1
    simp at f0 f1
    subst f0 f1
    exact ⟨n0, n1, rfl⟩
  obtain ⟨x2, y2, rfl⟩ : ∃ x y : Int, v2 = dv (x, y) := by
    obtain ⟨e0, e1, z0, z1, m, rfl, rfl, rfl, hz0, hz1⟩ := Go.Joins.open_agg2 Try.underlying23 (by kernel_rfl) dotCells (hval 2 23 v2 rfl rfl) h2
    obtain ⟨n0, f0, _, _⟩ := DataW.trod_int Try.underlying3 hz0
    obtain ⟨n1, f1, _, _⟩ := DataW.trod_int Try.underlying3 hz1
    simp at f0 f1
    subst f0 f1
    exact ⟨n0, n1, rfl⟩
  have k0 := h0
  have k1 := h1
  have k2 := h2
  have lt0 : ∀ x ∈ p0, x.block < W.heap.size := by obtain ⟨m, hm⟩ := k0; exact DataW.trod_lt m _ _ _ hm
  have lt1 : ∀ x ∈ p1, x.block < W.heap.size := by obtain ⟨m, hm⟩ := k1; exact DataW.trod_lt m _ _ _ hm
  have lt2 : ∀ x ∈ p2, x.block < W.heap.size := by obtain ⟨m, hm⟩ := k2; exact DataW.trod_lt m _ _ _ hm
  clear hA0 hval0
  refine (dotsOrder_walk (x0, y0) (x1, y1) (x2, y2) W).mono fun e W' ⟨he, bel⟩ => ?_
  subst he
  exact ⟨_, rfl, _, _, _, [], _, [], hW', trodAll_mk1 (shut_bool Try.underlying4 _),
    (trodAll_cons_mk (Below.trod laidOut (by kernel_rfl) (of_decide_eq_true (by kernel_rfl)) k0 bel lt0) (trodAll_cons_mk (Below.trod laidOut (by kernel_rfl) (of_decide_eq_true (by kernel_rfl)) k1 bel lt1) (trodAll_cons_mk (Below.trod laidOut (by kernel_rfl) (of_decide_eq_true (by kernel_rfl)) k2 bel lt2) trodAll_mk0))), rfl, bel.frame _, fun h => by cases h⟩

theorem over : Rows.dotsOrderRow.holds Try.pinned (OpenSpec.ofChange Rows.dotsOrderSpec) :=
  OpenClaim.holds_of_wide 3 Try.f3 rfl rfl rfl rfl rfl rfl rfl ⟨rfl, rfl, rfl, rfl, rfl⟩ rfl rfl rfl rfl rfl (by kernel_rfl) Try.func3 (by kernel_rfl)
    (of_decide_eq_true (by kernel_rfl)) (by unfold Func.isWrapper; first | (rw [if_pos (by decide +kernel)]; kernel_rfl) | (rw [if_neg (by decide +kernel)]; exact ⟨rfl, rfl⟩))
    (fun os started H enc _ => lifted os started H enc)

end dotsOrder

/-- The statement. -/
theorem dotsOrder_holds : Rows.DotsOrderSaid := dotsOrder.over
#print axioms dotsOrder_holds
end Go.Proofs.Ytmkjfgedhcidcaa
