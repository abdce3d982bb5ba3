/- there: whether a block is there. -/
import Derived.Test.YtnmdcdphpcpojaaGreatDoorTrMath
import Derived.Test.YtnmdcdphpcpojaaGreatDoorOParts
import Derived.Deep.RegionHeld
import Derived.BigQuiet
import Derived.RangeFuncRecord
namespace Go.Proofs.YtnmdcdphpcpojaaGreatDoor
section
set_option linter.unusedVariables false
set_option linter.unusedSimpArgs false
open Go.RowKit

set_option maxHeartbeats 1000000 in
theorem tless_any (a b : Dt) (w : World) : Tells 124 #[dv a, dv b] w (.bool (dl a b)) := by
  obtain ⟨a1, a2⟩ := a
  obtain ⟨b1, b2⟩ := b
  by_cases h : a1 = b1
  · subst h
    go_enter Tryz.func124, Tryz.ntmps124
    go_wp2
    go_ret
    exact ⟨by simp [dl], ((Far.refl w).alloc _).alloc _⟩
  · go_enter Tryz.func124, Tryz.ntmps124
    go_wp2
    go_ret
    exact ⟨by simp [dl, h], ((Far.refl w).alloc _).alloc _⟩

/-- Below 0, 0 or above 0. -/
def ordI (a b : Dt) : Int := if dl a b then -1 else if dl b a then 1 else 0

set_option maxRecDepth 100000 in
set_option maxHeartbeats 1000000 in
theorem torder_any (a b : Dt) (w : World) : Calls Tryz.prog 129 #[dv a, dv b] w fun e w' => e = .returned (.int .i64 (ordI a b)) ∧ Below w.heap.size w w' := by
  obtain ⟨a1, a2⟩ := a
  obtain ⟨b1, b2⟩ := b
  obtain ⟨W0, hW0⟩ : ∃ W0, W0 = (w.alloc (.cells #[.int .i64 a1, .int .i64 a2] 24)).alloc (.cells #[.int .i64 b1, .int .i64 b2] 24) := ⟨_, rfl⟩
  have hB0 : Below w.heap.size w W0 := by rw [hW0]; exact ((Below.refl _ w).alloc (Nat.le_refl _) _).alloc (by simp) _
  have hb1 : W0.heap[w.heap.size]? = some (.cells #[.int .i64 a1, .int .i64 a2] 24 (0, 0)) := by rw [hW0]; exact (Below.heap_alloc _ _ _ (by simp)).trans (World.alloc_heap_new w _)
  have hb2 : W0.heap[w.heap.size + 1]? = some (.cells #[.int .i64 b1, .int .i64 b2] 24 (0, 0)) := by
    rw [hW0]
    have := World.alloc_heap_new (w.alloc (.cells #[.int .i64 a1, .int .i64 a2] 24)) (.cells #[.int .i64 b1, .int .i64 b2] 24)
    rwa [World.size_alloc] at this
  have hl1 := (Array.getElem?_eq_some_iff.1 hb1).1
  have hl2 := (Array.getElem?_eq_some_iff.1 hb2).1
  have HC : Hid (∀ W, Below W0.heap.size W0 W → W.cell? ⟨w.heap.size, 0, none⟩ = some (.int .i64 a1) ∧ W.cell? ⟨w.heap.size, 1, none⟩ = some (.int .i64 a2) ∧ W.cell? ⟨w.heap.size + 1, 0, none⟩ = some (.int .i64 b1) ∧ W.cell? ⟨w.heap.size + 1, 1, none⟩ = some (.int .i64 b2)) := hid (fun W hb => by
    have g1 := (hb.block _ hl1).trans hb1
    have g2 := (hb.block _ hl2).trans hb2
    exact ⟨by simp [World.cell?, g1], by simp [World.cell?, g1], by simp [World.cell?, g2], by simp [World.cell?, g2]⟩)
  have hL1 : Calls Tryz.prog 124 #[.agg #[.int .i64 a1, .int .i64 a2], .agg #[.int .i64 b1, .int .i64 b2]] W0 fun e w' => e = .returned (.bool (dl (a1, a2) (b1, b2))) ∧ Hid (Below W0.heap.size W0 w') := (tless_any (a1, a2) (b1, b2) W0).mono (fun e w' ⟨h1, h2⟩ => ⟨h1, hid h2.below⟩)
  have HL2 : Hid (∀ W, Below W0.heap.size W0 W → Calls Tryz.prog 124 #[.agg #[.int .i64 b1, .int .i64 b2], .agg #[.int .i64 a1, .int .i64 a2]] W fun e w' => e = .returned (.bool (dl (b1, b2) (a1, a2))) ∧ Hid (Below W0.heap.size W0 w')) := hid (fun W hb => (tless_any (b1, b2) (a1, a2) W).mono (fun e w' ⟨h1, h2⟩ => ⟨h1, hid (hb.trans (h2.below.mono hb.size))⟩))
  obtain ⟨c0, c1, c2, c3⟩ := HC.out W0 (Below.refl _ _)
  have hr : Hid (ordI (a1, a2) (b1, b2) = if dl (a1, a2) (b1, b2) then -1 else if dl (b1, b2) (a1, a2) then 1 else 0) := hid rfl
  have HW := hid hW0
  clear hW0 hb1 hb2 hl1 hl2
  cases h1 : dl (a1, a2) (b1, b2) with
  | true =>
    rw [h1] at hL1
    rw [h1] at hr
    clear h1 HL2
    go_enter Tryz.func129, Tryz.ntmps129
    go_wp2_with (go_at_call 124; rw [← HW.out]; refine hL1.mono ?_; rintro e w1 ⟨rfl, hb⟩)
    go_ret
    exact ⟨by rw [hr.out]; rfl, hB0.trans (hb.out.mono hB0.size)⟩
  | false =>
    rw [h1] at hL1
    rw [h1] at hr
    clear h1
    cases h2 : dl (b1, b2) (a1, a2) with
    | true =>
      rw [h2] at HL2
      rw [h2] at hr
      clear h2
      go_enter Tryz.func129, Tryz.ntmps129
      go_wp2_with (first
        | (have hq := HB; go_at_call 124; refine (HL2.out _ HB.out).mono ?_; rintro e w2 ⟨rfl, hb2⟩)
        | (go_at_call 124; rw [← HW.out]; refine hL1.mono ?_; rintro e w1 ⟨rfl, HB⟩; obtain ⟨e0, e1, e2, e3⟩ := HC.out _ HB.out))
      go_ret
      exact ⟨by rw [hr.out]; rfl, hB0.trans (hb2.out.mono hB0.size)⟩
    | false =>
      rw [h2] at HL2
      rw [h2] at hr
      clear h2
      go_enter Tryz.func129, Tryz.ntmps129
      go_wp2_with (first
        | (have hq := HB; go_at_call 124; refine (HL2.out _ HB.out).mono ?_; rintro e w2 ⟨rfl, hb2⟩)
        | (go_at_call 124; rw [← HW.out]; refine hL1.mono ?_; rintro e w1 ⟨rfl, HB⟩; obtain ⟨e0, e1, e2, e3⟩ := HC.out _ HB.out))
      go_ret
      exact ⟨by rw [hr.out]; rfl, hB0.trans (hb2.out.mono hB0.size)⟩

/-- The first that isn't 0. -/
def orI (x y : Int) : Int := if x = 0 then y else x

set_option maxRecDepth 100000 in
set_option maxHeartbeats 1000000 in
theorem or_any (g c : Nat) (x y : Int) (w : World) (h0 : w.cell? ⟨g, 0, none⟩ = some (.int .i64 x)) (h1 : w.cell? ⟨g, 1, none⟩ = some (.int .i64 y)) : Calls Tryz.prog 127 #[.slice (some ⟨g, 0, none⟩) 2 c] w fun e w' => e = .returned (.int .i64 (orI x y)) ∧ w' = w := by
  have hr : Hid (orI x y = if x = 0 then y else x) := hid rfl
  go_enter Tryz.func127, Tryz.ntmps127
  go_wp2
  go_loopw [8] (fun i wr => ∃ k : Nat, k ≤ 2 ∧ i = .int .i64 k ∧ wr = w ∧ Hid (1 ≤ k → x = 0) ∧ Hid (2 ≤ k → y = 0)) (fun i _ => 2 - (intOf i).toNat)
  case atStart => exact ⟨0, by omega, rfl, rfl, hid (fun h => absurd h (by omega)), hid (fun h => absurd h (by omega))⟩
  case round =>
    obtain ⟨k, hk, rfl, hw, hx, hy⟩ := hrel
    subst hw
    rcases (by omega : k = 0 ∨ k = 1 ∨ k = 2) with rfl | rfl | rfl
    · by_cases hz : x = 0
      · have hb : (x != 0) = false := by simp [hz]
        have HZ := hid hz
        clear hz
        go_wp2
        go_roundw
        case rel => exact ⟨1, by omega, by first | rfl | trivial, by first | rfl | trivial, hid (fun _ => HZ.out), hid (fun h => absurd h (by omega))⟩
        case measure => simp [intOf]
      · have hb : (x != 0) = true := by simpa using hz
        have hr2 : Hid (orI x y = x) := hid (by rw [hr.out, if_neg hz])
        clear hz
        go_wp2
        go_ret
        refine ⟨?_, ?_⟩
        · rw [hr2.out]; rfl
        · first | rfl | trivial
    · have HX := hid (hx.out (by omega))
      by_cases hz : y = 0
      · have hb : (y != 0) = false := by simp [hz]
        have HZ := hid hz
        clear hz
        go_wp2
        go_roundw
        case rel => exact ⟨2, by omega, by first | rfl | trivial, by first | rfl | trivial, hid (fun _ => HX.out), hid (fun _ => HZ.out)⟩
        case measure => simp [intOf]
      · have hb : (y != 0) = true := by simpa using hz
        have hr2 : Hid (orI x y = y) := hid (by rw [hr.out, if_pos HX.out])
        clear hz
        go_wp2
        go_ret
        refine ⟨?_, ?_⟩
        · rw [hr2.out]; rfl
        · first | rfl | trivial
    · have hr2 : Hid (orI x y = 0) := hid (by rw [hr.out, if_pos (hx.out (by omega)), hy.out (by omega)])
      go_wp2
      go_ret
      refine ⟨?_, ?_⟩
      · rw [hr2.out]; rfl
      · first | rfl | trivial

/-- May a dot be that of a move, or of a block? -/
def mayT (d : Dt) : Bool := decide (d ≠ (0, 0)) && decide (d ≠ (0, -1)) && decide (d ≠ (0, -2))

set_option maxRecDepth 100000 in
set_option maxHeartbeats 2000000 in
theorem may10_any (d : Dt) (w : World) : Calls Tryz.prog 60 #[dv d] w fun e w' => e = .returned (.bool (mayT d)) ∧ Below w.heap.size w w' := by
  obtain ⟨a, b⟩ := d
  have mixed := mixed
  obtain ⟨W0, hW0⟩ : ∃ W0, W0 = w.alloc (.cells #[.int .i64 a, .int .i64 b] 24) := ⟨_, rfl⟩
  have hB0 : Below w.heap.size w W0 := by rw [hW0]; exact (Below.refl _ w).alloc (Nat.le_refl _) _
  have hb1 : W0.heap[w.heap.size]? = some (.cells #[.int .i64 a, .int .i64 b] 24 (0, 0)) := by rw [hW0]; exact World.alloc_heap_new w _
  have hl1 := (Array.getElem?_eq_some_iff.1 hb1).1
  haveI : Nonempty (Wb W0) := ⟨⟨W0, Below.refl _ _⟩⟩
  have a0 : ∀ p : Wb W0, p.u.cell? ⟨w.heap.size, 0, none⟩ = some (.int .i64 a) := fun p => by
    have g1 := (p.h.block _ hl1).trans hb1
    simp [World.cell?, g1]
  have a1 : ∀ p : Wb W0, p.u.cell? ⟨w.heap.size, 1, none⟩ = some (.int .i64 b) := fun p => by
    have g1 := (p.h.block _ hl1).trans hb1
    simp [World.cell?, g1]
  have kRo : ∀ p : Wb W0, Calls Tryz.prog 12 #[] p.u fun e w'' => e = .returned (.agg #[.int .i64 0, .int .i64 (-1)]) ∧ ∃ p' : Wb W0, w'' = p'.u := fun p => far_q (root_any p.u)
  have kTr : ∀ p : Wb W0, Calls Tryz.prog 13 #[] p.u fun e w'' => e = .returned (.agg #[.int .i64 0, .int .i64 (-2)]) ∧ ∃ p' : Wb W0, w'' = p'.u := fun p => far_q (trash_any p.u)
  have HW := hid hW0
  clear hW0 hb1 hl1
  by_cases ha : a = 0
  · subst ha
    by_cases hb : b = 0
    · subst hb
      have hr : Hid (mayT (0, 0) = false) := hid rfl
      go_enter Tryz.func60, Tryz.ntmps60
      go_wp2_with fail
      rw [← HW.out]
      refine wp_region_below mixed (by kernel_rfl) ?_
      repeat (go_big_quiet_step (first | (go_at_call 12; exact kRo _) | (go_at_call 13; exact kTr _)))
      refine wpQuiet_nil ?_
      intro _ hw'
      obtain ⟨p, hw''⟩ := hw'
      subst hw''
      go_wp2
      go_ret
      exact ⟨by rw [hr.out]; rfl, hB0.trans (p.h.mono hB0.size)⟩
    · by_cases hc : b = -1
      · subst hc
        have hr : Hid (mayT (0, -1) = false) := hid rfl
        go_enter Tryz.func60, Tryz.ntmps60
        go_wp2_with fail
        rw [← HW.out]
        refine wp_region_below mixed (by kernel_rfl) ?_
        repeat (go_big_quiet_step (first | (go_at_call 12; exact kRo _) | (go_at_call 13; exact kTr _)))
        refine wpQuiet_nil ?_
        intro _ hw'
        obtain ⟨p, hw''⟩ := hw'
        subst hw''
        go_wp2
        go_ret
        exact ⟨by rw [hr.out]; rfl, hB0.trans (p.h.mono hB0.size)⟩
      · by_cases hd : b = -2
        · subst hd
          have hr : Hid (mayT (0, -2) = false) := hid rfl
          go_enter Tryz.func60, Tryz.ntmps60
          go_wp2_with fail
          rw [← HW.out]
          refine wp_region_below mixed (by kernel_rfl) ?_
          repeat (go_big_quiet_step (first | (go_at_call 12; exact kRo _) | (go_at_call 13; exact kTr _)))
          refine wpQuiet_nil ?_
          intro _ hw'
          obtain ⟨p, hw''⟩ := hw'
          subst hw''
          go_wp2
          go_ret
          exact ⟨by rw [hr.out]; rfl, hB0.trans (p.h.mono hB0.size)⟩
        · have hr : Hid (mayT (0, b) = true) := hid (by unfold mayT; simp [hb, hc, hd])
          have k0 : (b == 0) = false := by simpa using hb
          have k1 : (b == -1) = false := by simpa using hc
          have k2 : (b == -2) = false := by simpa using hd
          clear hb hc hd
          go_enter Tryz.func60, Tryz.ntmps60
          go_wp2_with fail
          rw [← HW.out]
          refine wp_region_below mixed (by kernel_rfl) ?_
          repeat (go_big_quiet_step (first | (go_at_call 12; exact kRo _) | (go_at_call 13; exact kTr _)))
          refine wpQuiet_nil ?_
          intro _ hw'
          obtain ⟨p, hw''⟩ := hw'
          subst hw''
          go_wp2
          go_ret
          exact ⟨by rw [hr.out]; rfl, hB0.trans (p.h.mono hB0.size)⟩
  · have hr : Hid (mayT (a, b) = true) := hid (by unfold mayT; simp [ha])
    have k0 : (a == 0) = false := by simpa using ha
    clear ha
    go_enter Tryz.func60, Tryz.ntmps60
    go_wp2_with fail
    rw [← HW.out]
    refine wp_region_below mixed (by kernel_rfl) ?_
    repeat (go_big_quiet_step (first | (go_at_call 12; exact kRo _) | (go_at_call 13; exact kTr _)))
    refine wpQuiet_nil ?_
    intro _ hw'
    obtain ⟨p, hw''⟩ := hw'
    subst hw''
    go_wp2
    go_ret
    exact ⟨by rw [hr.out]; rfl, hB0.trans (p.h.mono hB0.size)⟩
end

section
set_option linter.unusedVariables false
set_option linter.unusedSimpArgs false
open Go.RowKit

/-- The places, in a map or none. -/
def PlV (w : World) (mv : Value) (S : List Sp) : Prop := (mv = .map none ∧ S = []) ∨ ∃ m, mv = .map (some m) ∧ PLM w m S

theorem PlV.below {w w' : World} {mv : Value} {S : List Sp} (h : PlV w mv S) (hb : Below w.heap.size w w') : PlV w' mv S := by
  rcases h with h | ⟨m, e, h⟩
  · exact Or.inl h
  · exact Or.inr ⟨m, e, h.same (hb.block _ h.lt)⟩

theorem PlV.lookOk {w : World} {mv : Value} {S : List Sp} (h : PlV w mv S) {d : Dt} (hd : Dw d) : (Instr.lookup 111 mv (dv d) true).run Tryz.prog w = .ok (.tuple #[plv ((lk S d).getD pl0), .bool (lk S d).isSome]) w := by
  rcases h with ⟨rfl, rfl⟩ | ⟨m, rfl, h⟩
  · exact pl_nilOk w hd
  · exact h.lookOk hd

theorem PlV.look {w : World} {mv : Value} {S : List Sp} (h : PlV w mv S) {d : Dt} (hd : Dw d) : (Instr.lookup 111 mv (dv d) false).run Tryz.prog w = .ok (plv ((lk S d).getD pl0)) w := by
  rcases h with ⟨rfl, rfl⟩ | ⟨m, rfl, h⟩
  · exact pl_nil w hd
  · exact h.look hd

set_option maxRecDepth 100000 in
set_option maxHeartbeats 4000000 in
theorem there_any (t o : Nat) (mv : Value) (S : List Sp) (d : Dt) (hd : Dw d) (w : World) (hc : w.cell? ⟨t, o, none⟩ = some mv) (h : PlV w mv S) :
    Calls Tryz.prog 152 #[.pointer (some ⟨t, o, none⟩), dv d] w fun e w' => e = .returned (.bool (lk S d).isSome) ∧ Below w.heap.size w w' := by
  obtain ⟨d1, d2⟩ := d
  have mixed := mixed
  have hmxo : Tryz.prog.follows .mixedOrders = true := by kernel_rfl
  obtain ⟨p1, p2, ky, hq⟩ : ∃ p1 p2 ky, (lk S (d1, d2)).getD pl0 = ((p1, p2), ky) := ⟨_, _, _, rfl⟩
  obtain ⟨B, hB⟩ : ∃ B, B = (lk S (d1, d2)).isSome := ⟨_, rfl⟩
  obtain ⟨W0, hW0⟩ : ∃ W0, W0 = w.alloc (.cells #[.int .i64 d1, .int .i64 d2] 24) := ⟨_, rfl⟩
  have hB0 : Below w.heap.size w W0 := by rw [hW0]; exact (Below.refl _ w).alloc (Nat.le_refl _) _
  have hb1 : W0.heap[w.heap.size]? = some (.cells #[.int .i64 d1, .int .i64 d2] 24 (0, 0)) := by rw [hW0]; exact World.alloc_heap_new w _
  have hl1 := (Array.getElem?_eq_some_iff.1 hb1).1
  have HS : Hid (∀ W, Below W0.heap.size W0 W → (W.cell? ⟨t, o, none⟩ = some mv ∧ W.cell? ⟨w.heap.size, 0, none⟩ = some (.int .i64 d1) ∧ W.cell? ⟨w.heap.size, 1, none⟩ = some (.int .i64 d2) ∧ (Instr.lookup 111 mv (.agg #[.int .i64 d1, .int .i64 d2]) true).run Tryz.prog W = .ok (.tuple #[.agg #[.int .i64 p1, .int .i64 p2, .string ky], .bool B]) W)) := hid (fun W hb => by
    have g1 := (hb.block _ hl1).trans hb1
    have hbw := hB0.trans (hb.mono hB0.size)
    refine ⟨(hbw.cell (p := ⟨t, o, none⟩) (cell_in hc)).trans hc, by simp [World.cell?, g1], by simp [World.cell?, g1], ?_⟩
    have := (h.below hbw).lookOk hd
    rw [hq, ← hB] at this
    exact this)
  rw [← hB]
  have HU0 : Hid (Below W0.heap.size W0 W0.drew) := hid ((Far.refl W0).drewN 1).below
  have hS0 := HS.out _ HU0.out
  have HW := hid hW0
  clear hW0 hb1 hl1 hc h hq hB
  go_enter Tryz.func152, Tryz.ntmps152
  go_wp2_with fail
  rw [← HW.out]
  refine wp_region_held_drew (S := fun w' => w'.cell? ⟨t, o, none⟩ = some mv ∧ w'.cell? ⟨w.heap.size, 0, none⟩ = some (.int .i64 d1) ∧ w'.cell? ⟨w.heap.size, 1, none⟩ = some (.int .i64 d2) ∧ (Instr.lookup 111 mv (.agg #[.int .i64 d1, .int .i64 d2]) true).run Tryz.prog w' = .ok (.tuple #[.agg #[.int .i64 p1, .int .i64 p2, .string ky], .bool B]) w') hmxo hS0 ?_
  intro _
  refine wpAnyH_take (i := 0) (v := .pointer (some ⟨t, o, none⟩)) rfl (by kernel_rfl) (by kernel_rfl) (by kernel_rfl) (fun _ _ _ h => h) (Or.inl ⟨by kernel_rfl, fun w hSw => ?_⟩) hS0 ?_
  · obtain ⟨e1, e2, e3, e4⟩ := hSw; go_simp
  simp only [Act.put, List.getElem_toArray, List.getElem_cons_succ, List.getElem_cons_zero, List.setIfInBounds_toArray, List.set_cons_zero, List.set_cons_succ]
  refine wpAnyH_take (i := 1) (v := .pointer (some ⟨t, o, none⟩)) rfl (by kernel_rfl) (by kernel_rfl) (by kernel_rfl) (fun _ _ _ h => h) (Or.inl ⟨by kernel_rfl, fun w hSw => ?_⟩) hS0 ?_
  · obtain ⟨e1, e2, e3, e4⟩ := hSw; go_simp
  simp only [Act.put, List.getElem_toArray, List.getElem_cons_succ, List.getElem_cons_zero, List.setIfInBounds_toArray, List.set_cons_zero, List.set_cons_succ]
  refine wpAnyH_take (i := 2) (v := .pointer (some ⟨t, o, none⟩)) rfl (by kernel_rfl) (by kernel_rfl) (by kernel_rfl) (fun _ _ _ h => h) (Or.inl ⟨by kernel_rfl, fun w hSw => ?_⟩) hS0 ?_
  · obtain ⟨e1, e2, e3, e4⟩ := hSw; go_simp
  simp only [Act.put, List.getElem_toArray, List.getElem_cons_succ, List.getElem_cons_zero, List.setIfInBounds_toArray, List.set_cons_zero, List.set_cons_succ]
  refine wpAnyH_take (i := 3) (v := mv) rfl (by kernel_rfl) (by kernel_rfl) (by kernel_rfl) (fun _ _ _ h => h) (Or.inl ⟨by kernel_rfl, fun w hSw => ?_⟩) hS0 ?_
  · obtain ⟨e1, e2, e3, e4⟩ := hSw; go_simp
  simp only [Act.put, List.getElem_toArray, List.getElem_cons_succ, List.getElem_cons_zero, List.setIfInBounds_toArray, List.set_cons_zero, List.set_cons_succ]
  refine wpAnyH_take (i := 4) (v := .agg #[.int .i64 d1, .int .i64 d2]) rfl (by kernel_rfl) (by kernel_rfl) (by kernel_rfl) (fun _ _ _ h => h) (Or.inl ⟨by kernel_rfl, fun w hSw => ?_⟩) hS0 ?_
  · obtain ⟨e1, e2, e3, e4⟩ := hSw; go_simp
  simp only [Act.put, List.getElem_toArray, List.getElem_cons_succ, List.getElem_cons_zero, List.setIfInBounds_toArray, List.set_cons_zero, List.set_cons_succ]
  refine wpAnyH_take (i := 5) (v := .tuple #[.agg #[.int .i64 p1, .int .i64 p2, .string ky], .bool B]) rfl (by kernel_rfl) (by kernel_rfl) (by kernel_rfl) (fun _ _ _ h => h) (Or.inl ⟨by kernel_rfl, fun w hSw => ?_⟩) hS0 ?_
  · obtain ⟨e1, e2, e3, e4⟩ := hSw; go_simp
  simp only [Act.put, List.getElem_toArray, List.getElem_cons_succ, List.getElem_cons_zero, List.setIfInBounds_toArray, List.set_cons_zero, List.set_cons_succ]
  refine wpAnyH_take (i := 6) (v := .tuple #[.agg #[.int .i64 p1, .int .i64 p2, .string ky], .bool B]) rfl (by kernel_rfl) (by kernel_rfl) (by kernel_rfl) (fun _ _ _ h => h) (Or.inl ⟨by kernel_rfl, fun w hSw => ?_⟩) hS0 ?_
  · obtain ⟨e1, e2, e3, e4⟩ := hSw; go_simp
  simp only [Act.put, List.getElem_toArray, List.getElem_cons_succ, List.getElem_cons_zero, List.setIfInBounds_toArray, List.set_cons_zero, List.set_cons_succ]
  refine wpAnyH_take (i := 7) (v := .agg #[.int .i64 p1, .int .i64 p2, .string ky]) rfl (by kernel_rfl) (by kernel_rfl) (by kernel_rfl) (fun _ _ _ h => h) (Or.inl ⟨by kernel_rfl, fun w hSw => ?_⟩) hS0 ?_
  · obtain ⟨e1, e2, e3, e4⟩ := hSw; go_simp
  simp only [Act.put, List.getElem_toArray, List.getElem_cons_succ, List.getElem_cons_zero, List.setIfInBounds_toArray, List.set_cons_zero, List.set_cons_succ]
  refine wpAnyH_take (i := 8) (v := .bool B) rfl (by kernel_rfl) (by kernel_rfl) (by kernel_rfl) (fun _ _ _ h => h) (Or.inl ⟨by kernel_rfl, fun w hSw => ?_⟩) hS0 ?_
  · obtain ⟨e1, e2, e3, e4⟩ := hSw; go_simp
  simp only [Act.put, List.getElem_toArray, List.getElem_cons_succ, List.getElem_cons_zero, List.setIfInBounds_toArray, List.set_cons_zero, List.set_cons_succ]
  refine wpAnyH_ready (rs := [9]) (by kernel_rfl) (by simp) ?_
  refine AllReadyH.cons rfl (fun K hK => ?_) AllReadyH.nil
  go_simp
  have HU1 : Hid (Below W0.heap.size W0 (W0.alloc (.cells #[.int .i64 0, .int .i64 0, .string ⟨#[]⟩] 113)).drew) := hid (((Below.refl _ W0).alloc (Nat.le_refl _) _).drew)
  have hS1 := HS.out _ HU1.out
  refine hK.out _ _ hS1 (fun _ => ?_)
  clear hK K
  refine wpAnyH_ready (rs := [10]) (by kernel_rfl) (by simp) ?_
  refine AllReadyH.cons rfl (fun K hK => ?_) AllReadyH.nil
  go_simp
  have HU2 : Hid (Below W0.heap.size W0 (W0.alloc (.cells #[.int .i64 p1, .int .i64 p2, .string ky] 113)).drew) := hid (((Below.refl _ W0).alloc (Nat.le_refl _) _).drew)
  have hS2 := HS.out _ HU2.out
  refine hK.out _ _ hS2 (fun _ => ?_)
  clear hK K
  refine wpAnyH_take (i := 11) (v := .bool B) rfl (by kernel_rfl) (by kernel_rfl) (by kernel_rfl) (fun _ _ _ h => h) (Or.inl ⟨by kernel_rfl, fun w hSw => ?_⟩) hS2 ?_
  · obtain ⟨e1, e2, e3, e4⟩ := hSw; go_simp
  simp only [Act.put, List.getElem_toArray, List.getElem_cons_succ, List.getElem_cons_zero, List.setIfInBounds_toArray, List.set_cons_zero, List.set_cons_succ]
  refine wpAnyH_done (by kernel_rfl) ?_ _
  go_wp2
  go_ret
  exact ⟨rfl, hB0.trans (HU2.out.mono hB0.size)⟩
end
end Go.Proofs.YtnmdcdphpcpojaaGreatDoor
