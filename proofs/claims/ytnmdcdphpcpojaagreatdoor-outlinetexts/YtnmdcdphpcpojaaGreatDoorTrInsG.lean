/- slices.Insert of a dot into a row of dots of one's own: anywhere. -/
import Derived.Test.YtnmdcdphpcpojaaGreatDoorMKeys
import Derived.Test.YtnmdcdphpcpojaaGreatDoorFgMap
import Derived.Test.YtnmdcdphpcpojaaGreatDoorOParts
import Derived.Deep.RegionHeld
import Derived.BigQuiet
import Derived.RangeFuncRecord
namespace Go.Proofs.YtnmdcdphpcpojaaGreatDoor
section
set_option linter.unusedVariables false
set_option linter.unusedSimpArgs false
open Go.RowKit

set_option maxHeartbeats 1000000 in
theorem tless_any (a b : Dt) (w : World) : Tells 124 #[dv a, dv b] w (.bool (dl a b)) := by
  obtain ⟨a1, a2⟩ := a
  obtain ⟨b1, b2⟩ := b
  by_cases h : a1 = b1
  · subst h
    go_enter Tryz.func124, Tryz.ntmps124
    go_wp2
    go_ret
    exact ⟨by simp [dl], ((Far.refl w).alloc _).alloc _⟩
  · go_enter Tryz.func124, Tryz.ntmps124
    go_wp2
    go_ret
    exact ⟨by simp [dl, h], ((Far.refl w).alloc _).alloc _⟩

/-- Below 0, 0 or above 0. -/
def ordI (a b : Dt) : Int := if dl a b then -1 else if dl b a then 1 else 0

set_option maxRecDepth 100000 in
set_option maxHeartbeats 1000000 in
theorem torder_any (a b : Dt) (w : World) : Calls Tryz.prog 129 #[dv a, dv b] w fun e w' => e = .returned (.int .i64 (ordI a b)) ∧ Below w.heap.size w w' := by
  obtain ⟨a1, a2⟩ := a
  obtain ⟨b1, b2⟩ := b
  obtain ⟨W0, hW0⟩ : ∃ W0, W0 = (w.alloc (.cells #[.int .i64 a1, .int .i64 a2] 24)).alloc (.cells #[.int .i64 b1, .int .i64 b2] 24) := ⟨_, rfl⟩
  have hB0 : Below w.heap.size w W0 := by rw [hW0]; exact ((Below.refl _ w).alloc (Nat.le_refl _) _).alloc (by simp) _
  have hb1 : W0.heap[w.heap.size]? = some (.cells #[.int .i64 a1, .int .i64 a2] 24 (0, 0)) := by rw [hW0]; exact (Below.heap_alloc _ _ _ (by simp)).trans (World.alloc_heap_new w _)
  have hb2 : W0.heap[w.heap.size + 1]? = some (.cells #[.int .i64 b1, .int .i64 b2] 24 (0, 0)) := by
    rw [hW0]
    have := World.alloc_heap_new (w.alloc (.cells #[.int .i64 a1, .int .i64 a2] 24)) (.cells #[.int .i64 b1, .int .i64 b2] 24)
    rwa [World.size_alloc] at this
  have hl1 := (Array.getElem?_eq_some_iff.1 hb1).1
  have hl2 := (Array.getElem?_eq_some_iff.1 hb2).1
  have HC : Hid (∀ W, Below W0.heap.size W0 W → W.cell? ⟨w.heap.size, 0, none⟩ = some (.int .i64 a1) ∧ W.cell? ⟨w.heap.size, 1, none⟩ = some (.int .i64 a2) ∧ W.cell? ⟨w.heap.size + 1, 0, none⟩ = some (.int .i64 b1) ∧ W.cell? ⟨w.heap.size + 1, 1, none⟩ = some (.int .i64 b2)) := hid (fun W hb => by
    have g1 := (hb.block _ hl1).trans hb1
    have g2 := (hb.block _ hl2).trans hb2
    exact ⟨by simp [World.cell?, g1], by simp [World.cell?, g1], by simp [World.cell?, g2], by simp [World.cell?, g2]⟩)
  have hL1 : Calls Tryz.prog 124 #[.agg #[.int .i64 a1, .int .i64 a2], .agg #[.int .i64 b1, .int .i64 b2]] W0 fun e w' => e = .returned (.bool (dl (a1, a2) (b1, b2))) ∧ Hid (Below W0.heap.size W0 w') := (tless_any (a1, a2) (b1, b2) W0).mono (fun e w' ⟨h1, h2⟩ => ⟨h1, hid h2.below⟩)
  have HL2 : Hid (∀ W, Below W0.heap.size W0 W → Calls Tryz.prog 124 #[.agg #[.int .i64 b1, .int .i64 b2], .agg #[.int .i64 a1, .int .i64 a2]] W fun e w' => e = .returned (.bool (dl (b1, b2) (a1, a2))) ∧ Hid (Below W0.heap.size W0 w')) := hid (fun W hb => (tless_any (b1, b2) (a1, a2) W).mono (fun e w' ⟨h1, h2⟩ => ⟨h1, hid (hb.trans (h2.below.mono hb.size))⟩))
  obtain ⟨c0, c1, c2, c3⟩ := HC.out W0 (Below.refl _ _)
  have hr : Hid (ordI (a1, a2) (b1, b2) = if dl (a1, a2) (b1, b2) then -1 else if dl (b1, b2) (a1, a2) then 1 else 0) := hid rfl
  have HW := hid hW0
  clear hW0 hb1 hb2 hl1 hl2
  cases h1 : dl (a1, a2) (b1, b2) with
  | true =>
    rw [h1] at hL1
    rw [h1] at hr
    clear h1 HL2
    go_enter Tryz.func129, Tryz.ntmps129
    go_wp2_with (go_at_call 124; rw [← HW.out]; refine hL1.mono ?_; rintro e w1 ⟨rfl, hb⟩)
    go_ret
    exact ⟨by rw [hr.out]; rfl, hB0.trans (hb.out.mono hB0.size)⟩
  | false =>
    rw [h1] at hL1
    rw [h1] at hr
    clear h1
    cases h2 : dl (b1, b2) (a1, a2) with
    | true =>
      rw [h2] at HL2
      rw [h2] at hr
      clear h2
      go_enter Tryz.func129, Tryz.ntmps129
      go_wp2_with (first
        | (have hq := HB; go_at_call 124; refine (HL2.out _ HB.out).mono ?_; rintro e w2 ⟨rfl, hb2⟩)
        | (go_at_call 124; rw [← HW.out]; refine hL1.mono ?_; rintro e w1 ⟨rfl, HB⟩; obtain ⟨e0, e1, e2, e3⟩ := HC.out _ HB.out))
      go_ret
      exact ⟨by rw [hr.out]; rfl, hB0.trans (hb2.out.mono hB0.size)⟩
    | false =>
      rw [h2] at HL2
      rw [h2] at hr
      clear h2
      go_enter Tryz.func129, Tryz.ntmps129
      go_wp2_with (first
        | (have hq := HB; go_at_call 124; refine (HL2.out _ HB.out).mono ?_; rintro e w2 ⟨rfl, hb2⟩)
        | (go_at_call 124; rw [← HW.out]; refine hL1.mono ?_; rintro e w1 ⟨rfl, HB⟩; obtain ⟨e0, e1, e2, e3⟩ := HC.out _ HB.out))
      go_ret
      exact ⟨by rw [hr.out]; rfl, hB0.trans (hb2.out.mono hB0.size)⟩

/-- The first that isn't 0. -/
def orI (x y : Int) : Int := if x = 0 then y else x

set_option maxRecDepth 100000 in
set_option maxHeartbeats 1000000 in
theorem or_any (g c : Nat) (x y : Int) (w : World) (h0 : w.cell? ⟨g, 0, none⟩ = some (.int .i64 x)) (h1 : w.cell? ⟨g, 1, none⟩ = some (.int .i64 y)) : Calls Tryz.prog 127 #[.slice (some ⟨g, 0, none⟩) 2 c] w fun e w' => e = .returned (.int .i64 (orI x y)) ∧ w' = w := by
  have hr : Hid (orI x y = if x = 0 then y else x) := hid rfl
  go_enter Tryz.func127, Tryz.ntmps127
  go_wp2
  go_loopw [8] (fun i wr => ∃ k : Nat, k ≤ 2 ∧ i = .int .i64 k ∧ wr = w ∧ Hid (1 ≤ k → x = 0) ∧ Hid (2 ≤ k → y = 0)) (fun i _ => 2 - (intOf i).toNat)
  case atStart => exact ⟨0, by omega, rfl, rfl, hid (fun h => absurd h (by omega)), hid (fun h => absurd h (by omega))⟩
  case round =>
    obtain ⟨k, hk, rfl, hw, hx, hy⟩ := hrel
    subst hw
    rcases (by omega : k = 0 ∨ k = 1 ∨ k = 2) with rfl | rfl | rfl
    · by_cases hz : x = 0
      · have hb : (x != 0) = false := by simp [hz]
        have HZ := hid hz
        clear hz
        go_wp2
        go_roundw
        case rel => exact ⟨1, by omega, by first | rfl | trivial, by first | rfl | trivial, hid (fun _ => HZ.out), hid (fun h => absurd h (by omega))⟩
        case measure => simp [intOf]
      · have hb : (x != 0) = true := by simpa using hz
        have hr2 : Hid (orI x y = x) := hid (by rw [hr.out, if_neg hz])
        clear hz
        go_wp2
        go_ret
        refine ⟨?_, ?_⟩
        · rw [hr2.out]; rfl
        · first | rfl | trivial
    · have HX := hid (hx.out (by omega))
      by_cases hz : y = 0
      · have hb : (y != 0) = false := by simp [hz]
        have HZ := hid hz
        clear hz
        go_wp2
        go_roundw
        case rel => exact ⟨2, by omega, by first | rfl | trivial, by first | rfl | trivial, hid (fun _ => HX.out), hid (fun _ => HZ.out)⟩
        case measure => simp [intOf]
      · have hb : (y != 0) = true := by simpa using hz
        have hr2 : Hid (orI x y = y) := hid (by rw [hr.out, if_pos HX.out])
        clear hz
        go_wp2
        go_ret
        refine ⟨?_, ?_⟩
        · rw [hr2.out]; rfl
        · first | rfl | trivial
    · have hr2 : Hid (orI x y = 0) := hid (by rw [hr.out, if_pos (hx.out (by omega)), hy.out (by omega)])
      go_wp2
      go_ret
      refine ⟨?_, ?_⟩
      · rw [hr2.out]; rfl
      · first | rfl | trivial

/-- May a dot be that of a move, or of a block? -/
def mayT (d : Dt) : Bool := decide (d ≠ (0, 0)) && decide (d ≠ (0, -1)) && decide (d ≠ (0, -2))

set_option maxRecDepth 100000 in
set_option maxHeartbeats 2000000 in
theorem may10_any (d : Dt) (w : World) : Calls Tryz.prog 60 #[dv d] w fun e w' => e = .returned (.bool (mayT d)) ∧ Below w.heap.size w w' := by
  obtain ⟨a, b⟩ := d
  have mixed := mixed
  obtain ⟨W0, hW0⟩ : ∃ W0, W0 = w.alloc (.cells #[.int .i64 a, .int .i64 b] 24) := ⟨_, rfl⟩
  have hB0 : Below w.heap.size w W0 := by rw [hW0]; exact (Below.refl _ w).alloc (Nat.le_refl _) _
  have hb1 : W0.heap[w.heap.size]? = some (.cells #[.int .i64 a, .int .i64 b] 24 (0, 0)) := by rw [hW0]; exact World.alloc_heap_new w _
  have hl1 := (Array.getElem?_eq_some_iff.1 hb1).1
  haveI : Nonempty (Wb W0) := ⟨⟨W0, Below.refl _ _⟩⟩
  have a0 : ∀ p : Wb W0, p.u.cell? ⟨w.heap.size, 0, none⟩ = some (.int .i64 a) := fun p => by
    have g1 := (p.h.block _ hl1).trans hb1
    simp [World.cell?, g1]
  have a1 : ∀ p : Wb W0, p.u.cell? ⟨w.heap.size, 1, none⟩ = some (.int .i64 b) := fun p => by
    have g1 := (p.h.block _ hl1).trans hb1
    simp [World.cell?, g1]
  have kRo : ∀ p : Wb W0, Calls Tryz.prog 12 #[] p.u fun e w'' => e = .returned (.agg #[.int .i64 0, .int .i64 (-1)]) ∧ ∃ p' : Wb W0, w'' = p'.u := fun p => far_q (root_any p.u)
  have kTr : ∀ p : Wb W0, Calls Tryz.prog 13 #[] p.u fun e w'' => e = .returned (.agg #[.int .i64 0, .int .i64 (-2)]) ∧ ∃ p' : Wb W0, w'' = p'.u := fun p => far_q (trash_any p.u)
  have HW := hid hW0
  clear hW0 hb1 hl1
  by_cases ha : a = 0
  · subst ha
    by_cases hb : b = 0
    · subst hb
      have hr : Hid (mayT (0, 0) = false) := hid rfl
      go_enter Tryz.func60, Tryz.ntmps60
      go_wp2_with fail
      rw [← HW.out]
      refine wp_region_below mixed (by kernel_rfl) ?_
      repeat (go_big_quiet_step (first | (go_at_call 12; exact kRo _) | (go_at_call 13; exact kTr _)))
      refine wpQuiet_nil ?_
      intro _ hw'
      obtain ⟨p, hw''⟩ := hw'
      subst hw''
      go_wp2
      go_ret
      exact ⟨by rw [hr.out]; rfl, hB0.trans (p.h.mono hB0.size)⟩
    · by_cases hc : b = -1
      · subst hc
        have hr : Hid (mayT (0, -1) = false) := hid rfl
        go_enter Tryz.func60, Tryz.ntmps60
        go_wp2_with fail
        rw [← HW.out]
        refine wp_region_below mixed (by kernel_rfl) ?_
        repeat (go_big_quiet_step (first | (go_at_call 12; exact kRo _) | (go_at_call 13; exact kTr _)))
        refine wpQuiet_nil ?_
        intro _ hw'
        obtain ⟨p, hw''⟩ := hw'
        subst hw''
        go_wp2
        go_ret
        exact ⟨by rw [hr.out]; rfl, hB0.trans (p.h.mono hB0.size)⟩
      · by_cases hd : b = -2
        · subst hd
          have hr : Hid (mayT (0, -2) = false) := hid rfl
          go_enter Tryz.func60, Tryz.ntmps60
          go_wp2_with fail
          rw [← HW.out]
          refine wp_region_below mixed (by kernel_rfl) ?_
          repeat (go_big_quiet_step (first | (go_at_call 12; exact kRo _) | (go_at_call 13; exact kTr _)))
          refine wpQuiet_nil ?_
          intro _ hw'
          obtain ⟨p, hw''⟩ := hw'
          subst hw''
          go_wp2
          go_ret
          exact ⟨by rw [hr.out]; rfl, hB0.trans (p.h.mono hB0.size)⟩
        · have hr : Hid (mayT (0, b) = true) := hid (by unfold mayT; simp [hb, hc, hd])
          have k0 : (b == 0) = false := by simpa using hb
          have k1 : (b == -1) = false := by simpa using hc
          have k2 : (b == -2) = false := by simpa using hd
          clear hb hc hd
          go_enter Tryz.func60, Tryz.ntmps60
          go_wp2_with fail
          rw [← HW.out]
          refine wp_region_below mixed (by kernel_rfl) ?_
          repeat (go_big_quiet_step (first | (go_at_call 12; exact kRo _) | (go_at_call 13; exact kTr _)))
          refine wpQuiet_nil ?_
          intro _ hw'
          obtain ⟨p, hw''⟩ := hw'
          subst hw''
          go_wp2
          go_ret
          exact ⟨by rw [hr.out]; rfl, hB0.trans (p.h.mono hB0.size)⟩
  · have hr : Hid (mayT (a, b) = true) := hid (by unfold mayT; simp [ha])
    have k0 : (a == 0) = false := by simpa using ha
    clear ha
    go_enter Tryz.func60, Tryz.ntmps60
    go_wp2_with fail
    rw [← HW.out]
    refine wp_region_below mixed (by kernel_rfl) ?_
    repeat (go_big_quiet_step (first | (go_at_call 12; exact kRo _) | (go_at_call 13; exact kTr _)))
    refine wpQuiet_nil ?_
    intro _ hw'
    obtain ⟨p, hw''⟩ := hw'
    subst hw''
    go_wp2
    go_ret
    exact ⟨by rw [hr.out]; rfl, hB0.trans (p.h.mono hB0.size)⟩
end

section
set_option linter.unusedVariables false
set_option linter.unusedSimpArgs false
open Go.RowKit

/-- The places, in a map or none. -/
def PlV (w : World) (mv : Value) (S : List Sp) : Prop := (mv = .map none ∧ S = []) ∨ ∃ m, mv = .map (some m) ∧ PLM w m S

theorem PlV.below {w w' : World} {mv : Value} {S : List Sp} (h : PlV w mv S) (hb : Below w.heap.size w w') : PlV w' mv S := by
  rcases h with h | ⟨m, e, h⟩
  · exact Or.inl h
  · exact Or.inr ⟨m, e, h.same (hb.block _ h.lt)⟩

theorem PlV.lookOk {w : World} {mv : Value} {S : List Sp} (h : PlV w mv S) {d : Dt} (hd : Dw d) : (Instr.lookup 111 mv (dv d) true).run Tryz.prog w = .ok (.tuple #[plv ((lk S d).getD pl0), .bool (lk S d).isSome]) w := by
  rcases h with ⟨rfl, rfl⟩ | ⟨m, rfl, h⟩
  · exact pl_nilOk w hd
  · exact h.lookOk hd

theorem PlV.look {w : World} {mv : Value} {S : List Sp} (h : PlV w mv S) {d : Dt} (hd : Dw d) : (Instr.lookup 111 mv (dv d) false).run Tryz.prog w = .ok (plv ((lk S d).getD pl0)) w := by
  rcases h with ⟨rfl, rfl⟩ | ⟨m, rfl, h⟩
  · exact pl_nil w hd
  · exact h.look hd

set_option maxRecDepth 100000 in
set_option maxHeartbeats 4000000 in
theorem there_any (t o : Nat) (mv : Value) (S : List Sp) (d : Dt) (hd : Dw d) (w : World) (hc : w.cell? ⟨t, o, none⟩ = some mv) (h : PlV w mv S) :
    Calls Tryz.prog 152 #[.pointer (some ⟨t, o, none⟩), dv d] w fun e w' => e = .returned (.bool (lk S d).isSome) ∧ Below w.heap.size w w' := by
  obtain ⟨d1, d2⟩ := d
  have mixed := mixed
  have hmxo : Tryz.prog.follows .mixedOrders = true := by kernel_rfl
  obtain ⟨p1, p2, ky, hq⟩ : ∃ p1 p2 ky, (lk S (d1, d2)).getD pl0 = ((p1, p2), ky) := ⟨_, _, _, rfl⟩
  obtain ⟨B, hB⟩ : ∃ B, B = (lk S (d1, d2)).isSome := ⟨_, rfl⟩
  obtain ⟨W0, hW0⟩ : ∃ W0, W0 = w.alloc (.cells #[.int .i64 d1, .int .i64 d2] 24) := ⟨_, rfl⟩
  have hB0 : Below w.heap.size w W0 := by rw [hW0]; exact (Below.refl _ w).alloc (Nat.le_refl _) _
  have hb1 : W0.heap[w.heap.size]? = some (.cells #[.int .i64 d1, .int .i64 d2] 24 (0, 0)) := by rw [hW0]; exact World.alloc_heap_new w _
  have hl1 := (Array.getElem?_eq_some_iff.1 hb1).1
  have HS : Hid (∀ W, Below W0.heap.size W0 W → (W.cell? ⟨t, o, none⟩ = some mv ∧ W.cell? ⟨w.heap.size, 0, none⟩ = some (.int .i64 d1) ∧ W.cell? ⟨w.heap.size, 1, none⟩ = some (.int .i64 d2) ∧ (Instr.lookup 111 mv (.agg #[.int .i64 d1, .int .i64 d2]) true).run Tryz.prog W = .ok (.tuple #[.agg #[.int .i64 p1, .int .i64 p2, .string ky], .bool B]) W)) := hid (fun W hb => by
    have g1 := (hb.block _ hl1).trans hb1
    have hbw := hB0.trans (hb.mono hB0.size)
    refine ⟨(hbw.cell (p := ⟨t, o, none⟩) (cell_in hc)).trans hc, by simp [World.cell?, g1], by simp [World.cell?, g1], ?_⟩
    have := (h.below hbw).lookOk hd
    rw [hq, ← hB] at this
    exact this)
  rw [← hB]
  have HU0 : Hid (Below W0.heap.size W0 W0.drew) := hid ((Far.refl W0).drewN 1).below
  have hS0 := HS.out _ HU0.out
  have HW := hid hW0
  clear hW0 hb1 hl1 hc h hq hB
  go_enter Tryz.func152, Tryz.ntmps152
  go_wp2_with fail
  rw [← HW.out]
  refine wp_region_held_drew (S := fun w' => w'.cell? ⟨t, o, none⟩ = some mv ∧ w'.cell? ⟨w.heap.size, 0, none⟩ = some (.int .i64 d1) ∧ w'.cell? ⟨w.heap.size, 1, none⟩ = some (.int .i64 d2) ∧ (Instr.lookup 111 mv (.agg #[.int .i64 d1, .int .i64 d2]) true).run Tryz.prog w' = .ok (.tuple #[.agg #[.int .i64 p1, .int .i64 p2, .string ky], .bool B]) w') hmxo hS0 ?_
  intro _
  refine wpAnyH_take (i := 0) (v := .pointer (some ⟨t, o, none⟩)) rfl (by kernel_rfl) (by kernel_rfl) (by kernel_rfl) (fun _ _ _ h => h) (Or.inl ⟨by kernel_rfl, fun w hSw => ?_⟩) hS0 ?_
  · obtain ⟨e1, e2, e3, e4⟩ := hSw; go_simp
  simp only [Act.put, List.getElem_toArray, List.getElem_cons_succ, List.getElem_cons_zero, List.setIfInBounds_toArray, List.set_cons_zero, List.set_cons_succ]
  refine wpAnyH_take (i := 1) (v := .pointer (some ⟨t, o, none⟩)) rfl (by kernel_rfl) (by kernel_rfl) (by kernel_rfl) (fun _ _ _ h => h) (Or.inl ⟨by kernel_rfl, fun w hSw => ?_⟩) hS0 ?_
  · obtain ⟨e1, e2, e3, e4⟩ := hSw; go_simp
  simp only [Act.put, List.getElem_toArray, List.getElem_cons_succ, List.getElem_cons_zero, List.setIfInBounds_toArray, List.set_cons_zero, List.set_cons_succ]
  refine wpAnyH_take (i := 2) (v := .pointer (some ⟨t, o, none⟩)) rfl (by kernel_rfl) (by kernel_rfl) (by kernel_rfl) (fun _ _ _ h => h) (Or.inl ⟨by kernel_rfl, fun w hSw => ?_⟩) hS0 ?_
  · obtain ⟨e1, e2, e3, e4⟩ := hSw; go_simp
  simp only [Act.put, List.getElem_toArray, List.getElem_cons_succ, List.getElem_cons_zero, List.setIfInBounds_toArray, List.set_cons_zero, List.set_cons_succ]
  refine wpAnyH_take (i := 3) (v := mv) rfl (by kernel_rfl) (by kernel_rfl) (by kernel_rfl) (fun _ _ _ h => h) (Or.inl ⟨by kernel_rfl, fun w hSw => ?_⟩) hS0 ?_
  · obtain ⟨e1, e2, e3, e4⟩ := hSw; go_simp
  simp only [Act.put, List.getElem_toArray, List.getElem_cons_succ, List.getElem_cons_zero, List.setIfInBounds_toArray, List.set_cons_zero, List.set_cons_succ]
  refine wpAnyH_take (i := 4) (v := .agg #[.int .i64 d1, .int .i64 d2]) rfl (by kernel_rfl) (by kernel_rfl) (by kernel_rfl) (fun _ _ _ h => h) (Or.inl ⟨by kernel_rfl, fun w hSw => ?_⟩) hS0 ?_
  · obtain ⟨e1, e2, e3, e4⟩ := hSw; go_simp
  simp only [Act.put, List.getElem_toArray, List.getElem_cons_succ, List.getElem_cons_zero, List.setIfInBounds_toArray, List.set_cons_zero, List.set_cons_succ]
  refine wpAnyH_take (i := 5) (v := .tuple #[.agg #[.int .i64 p1, .int .i64 p2, .string ky], .bool B]) rfl (by kernel_rfl) (by kernel_rfl) (by kernel_rfl) (fun _ _ _ h => h) (Or.inl ⟨by kernel_rfl, fun w hSw => ?_⟩) hS0 ?_
  · obtain ⟨e1, e2, e3, e4⟩ := hSw; go_simp
  simp only [Act.put, List.getElem_toArray, List.getElem_cons_succ, List.getElem_cons_zero, List.setIfInBounds_toArray, List.set_cons_zero, List.set_cons_succ]
  refine wpAnyH_take (i := 6) (v := .tuple #[.agg #[.int .i64 p1, .int .i64 p2, .string ky], .bool B]) rfl (by kernel_rfl) (by kernel_rfl) (by kernel_rfl) (fun _ _ _ h => h) (Or.inl ⟨by kernel_rfl, fun w hSw => ?_⟩) hS0 ?_
  · obtain ⟨e1, e2, e3, e4⟩ := hSw; go_simp
  simp only [Act.put, List.getElem_toArray, List.getElem_cons_succ, List.getElem_cons_zero, List.setIfInBounds_toArray, List.set_cons_zero, List.set_cons_succ]
  refine wpAnyH_take (i := 7) (v := .agg #[.int .i64 p1, .int .i64 p2, .string ky]) rfl (by kernel_rfl) (by kernel_rfl) (by kernel_rfl) (fun _ _ _ h => h) (Or.inl ⟨by kernel_rfl, fun w hSw => ?_⟩) hS0 ?_
  · obtain ⟨e1, e2, e3, e4⟩ := hSw; go_simp
  simp only [Act.put, List.getElem_toArray, List.getElem_cons_succ, List.getElem_cons_zero, List.setIfInBounds_toArray, List.set_cons_zero, List.set_cons_succ]
  refine wpAnyH_take (i := 8) (v := .bool B) rfl (by kernel_rfl) (by kernel_rfl) (by kernel_rfl) (fun _ _ _ h => h) (Or.inl ⟨by kernel_rfl, fun w hSw => ?_⟩) hS0 ?_
  · obtain ⟨e1, e2, e3, e4⟩ := hSw; go_simp
  simp only [Act.put, List.getElem_toArray, List.getElem_cons_succ, List.getElem_cons_zero, List.setIfInBounds_toArray, List.set_cons_zero, List.set_cons_succ]
  refine wpAnyH_ready (rs := [9]) (by kernel_rfl) (by simp) ?_
  refine AllReadyH.cons rfl (fun K hK => ?_) AllReadyH.nil
  go_simp
  have HU1 : Hid (Below W0.heap.size W0 (W0.alloc (.cells #[.int .i64 0, .int .i64 0, .string ⟨#[]⟩] 113)).drew) := hid (((Below.refl _ W0).alloc (Nat.le_refl _) _).drew)
  have hS1 := HS.out _ HU1.out
  refine hK.out _ _ hS1 (fun _ => ?_)
  clear hK K
  refine wpAnyH_ready (rs := [10]) (by kernel_rfl) (by simp) ?_
  refine AllReadyH.cons rfl (fun K hK => ?_) AllReadyH.nil
  go_simp
  have HU2 : Hid (Below W0.heap.size W0 (W0.alloc (.cells #[.int .i64 p1, .int .i64 p2, .string ky] 113)).drew) := hid (((Below.refl _ W0).alloc (Nat.le_refl _) _).drew)
  have hS2 := HS.out _ HU2.out
  refine hK.out _ _ hS2 (fun _ => ?_)
  clear hK K
  refine wpAnyH_take (i := 11) (v := .bool B) rfl (by kernel_rfl) (by kernel_rfl) (by kernel_rfl) (fun _ _ _ h => h) (Or.inl ⟨by kernel_rfl, fun w hSw => ?_⟩) hS2 ?_
  · obtain ⟨e1, e2, e3, e4⟩ := hSw; go_simp
  simp only [Act.put, List.getElem_toArray, List.getElem_cons_succ, List.getElem_cons_zero, List.setIfInBounds_toArray, List.set_cons_zero, List.set_cons_succ]
  refine wpAnyH_done (by kernel_rfl) ?_ _
  go_wp2
  go_ret
  exact ⟨rfl, hB0.trans (HU2.out.mono hB0.size)⟩
end

section
set_option linter.unusedVariables false
open Go.RowKit Go.Lib
open Go.Sort (grow)

theorem Tryz.infoDot2 : (Tryz.prog.info? 24).map (fun i => (i.zero, i.size, i.bytes)) = some (some (.agg #[.int .i64 0, .int .i64 0]), 2, 16) := by kernel_rfl
theorem sizeOfDot2 (w : World) : (Go.sizeOf 24).run Tryz.prog w = .ok 2 w := by
  obtain ⟨i0, hi, _, h1, _⟩ := info_parts Tryz.infoDot2
  simp [Go.sizeOf, typeInfo, hi, h1]
theorem sizeDot2 : (Tryz.prog.info? 24).map (·.size) = some 2 := by kernel_rfl

/-- copy, of elements of two cells. -/
theorem run_copy_cells2 (w : World) (dT sT ty elem : TypeId) (b o dLen dCap : Nat) (a : Addr) (sLen sCap : Nat) (cs : List Value)
    (hu : Tryz.prog.underlying dT = some (.slice elem)) (hs : (Tryz.prog.info? elem).map (·.size) = some 2) (m : Nat) (hm : m = Nat.min sLen dLen) (hn : cs.length = m * 2)
    (hsrc : ∀ j v, cs[j]? = some v → w.cell? (a.add j) = some v) (hc : ∀ j, j < cs.length → (w.cell? ⟨b, o + j, none⟩).isSome = true) (hf : ∀ j, j < cs.length → w.frozen? ⟨b, o + j, none⟩ = false) (h1 : ∀ v ∈ cs, v.oneCell' = true) :
    (Builtin.copy_ #[dT, sT] ty #[.slice (some ⟨b, o, none⟩) dLen dCap, .slice (some a) sLen sCap]).run Tryz.prog w = .ok (goInt m) (w.setCells b o cs) := by
  have hl := run_loadCells_list (P := Tryz.prog) w a cs hsrc
  have hst := run_storeCells_cells (P := Tryz.prog) b o cs 0 w (by simpa using hc) (by simpa using hf) h1
  cases hq : Tryz.prog.info? elem with
  | none => simp [hq] at hs
  | some i =>
    have hi : i.size = 2 := by simpa [hq] using hs
    rw [hn] at hl
    simp [Builtin.copy_, run_underlying hu, Builtin.lenOf, Builtin.firstCells, sizeOf, typeInfo, hq, hi, ← hm, hl, hst]

theorem own_wider2 {w : World} {base e g n cap : Nat} {xs : List Value} (h : w.ownsRow base e 2 (.slice (some ⟨g, 0, none⟩) n cap) n xs) (hr : n + 1 ≤ cap) : ∃ us, us.length = 2 ∧ w.ownsRow base e 2 (.slice (some ⟨g, 0, none⟩) (n + 1) cap) (n + 1) (xs ++ us) := by
  rcases h.2 with ⟨e, _⟩ | ⟨g', cap', cur, e, hb, hg, hn, hc, hs, ht⟩
  · simp at e
  · simp only [Value.slice.injEq, Option.some.injEq, Addr.mk.injEq, and_true, true_and] at e
    obtain ⟨rfl, rfl⟩ := e
    have hl : (n + 1) * 2 ≤ cur.toList.length := by rw [Array.length_toList, hs]; omega
    have hus : ((cur.toList.drop (n * 2)).take 2).length = 2 := by rw [List.length_take, List.length_drop]; omega
    refine ⟨(cur.toList.drop (n * 2)).take 2, hus, by rw [List.length_append, h.1, hus]; omega, Or.inr ⟨g, cap, cur, rfl, hb, hg, hr, hc, hs, ?_⟩⟩
    rw [← ht, show (n + 1) * 2 = n * 2 + 2 by omega, List.take_add]

theorem own_setCells2 {base e g n cap : Nat} : ∀ (vs : List Value) (o : Nat) (w : World) (xs : List Value), w.ownsRow base e 2 (.slice (some ⟨g, 0, none⟩) n cap) n xs → o + vs.length ≤ n * 2 →
    (w.setCells g o vs).ownsRow base e 2 (.slice (some ⟨g, 0, none⟩) n cap) n (xs.take o ++ vs ++ xs.drop (o + vs.length)) ∧ w.grownBy (w.setCells g o vs) (some g)
  | [], o, w, xs, h, _ => ⟨by simpa [World.setCells] using h, World.grownBy.refl _ _⟩
  | v :: r, o, w, xs, h, hl => by
    have hx : xs.length = n * 2 := h.1
    have s := World.ownsRow.stored h o v
    simp only [List.length_cons] at hl
    have ih := own_setCells2 r (o + 1) _ _ s.1 (by omega)
    refine ⟨?_, s.2.trans ih.2⟩
    have e : xs.take o ++ v :: r ++ xs.drop (o + (r.length + 1)) = (xs.set o v).take (o + 1) ++ r ++ (xs.set o v).drop (o + 1 + r.length) := by
      have e1 : (xs.set o v).take (o + 1) = xs.take o ++ [v] := by
        rw [List.take_succ_eq_append_getElem (by rw [List.length_set]; omega), List.take_set_of_le (Nat.le_refl _), List.getElem_set_self]
      have e2 : (xs.set o v).drop (o + 1 + r.length) = xs.drop (o + (r.length + 1)) := by
        rw [List.drop_set_of_lt (by omega)]
        congr 1
        omega
      rw [e1, e2]
      simp
    rw [List.length_cons, e]
    exact ih.1

set_option maxRecDepth 100000 in
set_option maxHeartbeats 4000000 in
/-- There is room, and something stands behind. -/
theorem dins_shift (base g n c i vb : Nat) (xs : List Value) (u1 u2 : Value) (w : World) (hi : i < n) (hroom : n + 1 ≤ c) (hn : n ≤ 1000000) (hown : w.ownsRow base 24 2 (.slice (some ⟨g, 0, none⟩) n c) n xs) (hvb : vb ≠ g)
    (hv : w.heap[vb]? = some (.cells #[u1, u2] 24 (0, 0))) (h1 : ∀ v ∈ xs, v.oneCell' = true) (hu1 : u1.oneCell' = true) (hu2 : u2.oneCell' = true) :
    Calls Tryz.prog 156 #[.slice (some ⟨g, 0, none⟩) n c, .int .i64 i, .slice (some ⟨vb, 0, none⟩) 1 1] w fun e w' =>
      e = .returned (.slice (some ⟨g, 0, none⟩) (n + 1) c) ∧ w' = (w.drew.setCells g ((i + 1) * 2) (xs.drop (i * 2))).setCells g (i * 2) [u1, u2] := by
  have mixed := mixed
  have hxl : xs.length = n * 2 := hown.1
  have hcell : ∀ j v, xs[j]? = some v → w.cell? ⟨g, j, none⟩ = some v := fun j v hj => by
    have hjn : j < n * 2 := by
      have := (List.getElem?_eq_some_iff.1 hj).1
      omega
    rw [World.ownsRow.cellAt hown j (by omega)]
    exact hj
  obtain ⟨us, hus, hown1⟩ := own_wider2 hown hroom
  have hsp : ∀ j, j < (n + 1) * 2 → (w.cell? ⟨g, j, none⟩).isSome = true := fun j hj => by
    rw [World.ownsRow.cellAt hown1 j (by omega), List.getElem?_eq_getElem (by rw [List.length_append, hus]; omega)]
    rfl
  have hfz : ∀ j, w.frozen? ⟨g, j, none⟩ = false := fun j => World.ownsRow.frozenAt hown j
  have hgc : ∃ cs : Array Value, w.heap[g]? = some (.cells cs 24 (0, 0)) ∧ cs.size ≠ 0 ∧ c ≤ maxLen := by
    rcases hown.2 with ⟨e, _⟩ | ⟨g', cap', cur, e, hb, hg, hnn, hc, hs, ht⟩
    · simp at e
    · simp only [Value.slice.injEq, Option.some.injEq, Addr.mk.injEq, and_true, true_and] at e
      obtain ⟨rfl, rfl⟩ := e
      exact ⟨cur, hg, by omega, hc⟩
  obtain ⟨cs, hgh, hcs0, hcm⟩ := hgc
  unfold maxLen at hcm
  have hov : ∀ lb cb, (callFunc 182 #[.slice (some ⟨vb, 0, none⟩) 1 1, .slice (some ⟨g, (i + 1) * 2, none⟩) lb cb]).run Tryz.prog w = .ok (.value (.bool false)) w := fun lb cb => by
    rw [run_callFunc_extern Tryz.func182 (by kernel_rfl) (by kernel_rfl) (by kernel_rfl) (e := Extern.SlicesOverlaps.overlaps #[32, 32] #[4]) (by kernel_rfl),
      Lib.run_overlaps_apart w 32 4 24 Tryz.underlying32 2 sizeOfDot2 ⟨vb, 0, none⟩ ⟨g, (i + 1) * 2, none⟩ 1 1 lb cb hvb 24 24 2 cs.size (shape_of hv) (shape_of hgh) hcs0 (by simp [World.frozen?, hv]) (by simp [World.frozen?, hv])]
    rfl
  have hdl : (xs.drop (i * 2)).length = (n - i) * 2 := by rw [List.length_drop, hxl]; omega
  have hcp1 : ∀ ty dc sc, (Builtin.copy_ #[32, 32] ty #[.slice (some ⟨g, (i + 1) * 2, none⟩) (n - i) dc, .slice (some ⟨g, i * 2, none⟩) (n + 1 - i) sc]).run Tryz.prog w.drew = .ok (goInt (n - i : Nat)) (w.drew.setCells g ((i + 1) * 2) (xs.drop (i * 2))) := fun ty dc sc =>
    run_copy_cells2 w.drew _ _ ty 24 g ((i + 1) * 2) (n - i) dc ⟨g, i * 2, none⟩ (n + 1 - i) sc (xs.drop (i * 2)) Tryz.underlying32 sizeDot2 (n - i) (by simp only [Nat.min_def]; split <;> omega) hdl
      (fun j v hj => by rw [Addr.add_lit]; exact hcell (i * 2 + j) v (by rwa [List.getElem?_drop] at hj))
      (fun j hj => hsp _ (by omega)) (fun j _ => hfz _) (fun v hv' => h1 v (List.mem_of_mem_drop hv'))
  obtain ⟨W1, hW1⟩ : ∃ W1, W1 = w.drew.setCells g ((i + 1) * 2) (xs.drop (i * 2)) := ⟨_, rfl⟩
  have hsp1 : ∀ k, k < (n + 1) * 2 → (W1.cell? ⟨g, k, none⟩).isSome = true := fun k hk => by
    rw [hW1]
    exact isSome_setCells g (xs.drop (i * 2)) ((i + 1) * 2) w.drew (fun j hj => hsp _ (by rw [hdl] at hj; omega)) k (hsp k hk)
  have hvj : ∀ j v, ([u1, u2] : List Value)[j]? = some v → W1.cell? ⟨vb, 0 + j, none⟩ = some v := fun j v hj => by
    rw [hW1, World.cell?_setCells_out g _ _ _ _ (fun h _ => absurd h hvb)]
    show w.cell? ⟨vb, 0 + j, none⟩ = some v
    rcases j with _ | _ | j
    · simp at hj; subst hj; simp [World.cell?, hv]
    · simp at hj; subst hj; simp [World.cell?, hv]
    · simp at hj
  have hcp2 : ∀ (W : World), (∀ x, W.cell? x = W1.cell? x) → (∀ x, W.frozen? x = W1.frozen? x) → ∀ ty dc, (Builtin.copy_ #[32, 32] ty #[.slice (some ⟨g, i * 2, none⟩) (n + 1 - i) dc, .slice (some ⟨vb, 0, none⟩) 1 1]).run Tryz.prog W = .ok (goInt (1 : Nat)) (W.setCells g (i * 2) [u1, u2]) := fun W hWc hWf ty dc =>
    run_copy_cells2 W _ _ ty 24 g (i * 2) (n + 1 - i) dc ⟨vb, 0, none⟩ 1 1 [u1, u2] Tryz.underlying32 sizeDot2 1 (by simp only [Nat.min_def]; split <;> omega) rfl
      (fun j v hj => by rw [Addr.add_lit, hWc]; exact hvj j v hj)
      (fun j hj => by rw [hWc]; exact hsp1 _ (by simp at hj; omega)) (fun j hj => by rw [hWf, hW1, World.frozen?_setCells]; exact hfz _) (fun v hv' => by simp at hv'; rcases hv' with rfl | rfl; exact hu1; exact hu2)
  rw [← hW1] at hcp1
  have hz1 : ¬ ((i : Int) = (n : Int)) := by omega
  have hw1 : IntKind.i64.wrap ((i : Int) + 1) = (i : Int) + 1 := by rw [IntKind.wrap_i64]; omega
  have hb1 : (0 : Int) ≤ (i : Int) + 1 := by omega
  have hin : i ≤ n := by omega
  have htn : ((i : Int) + 1).toNat = i + 1 := by omega
  have hb2 : ¬ (c = i + 1) := by omega
  have hb3 : (i : Int) ≤ (n : Int) + 1 := by omega
  have hb4 : ¬ (c = i) := by omega
  clear hown hown1 hcell hsp hfz hgh hv hvj hsp1 hus
  go_enter Tryz.func156, Tryz.ntmps156
  go_wp2_with (simp only [hov])
  go_region_law_o (refine step_copy_runI rfl _ _ 32 32 rfl _ _ (by simp [Act.eval, Act.put]) (by simp [Act.eval, Act.put]) (hcp1 _ _ _) ?_)
  go_wp2_with (at_builtin; refine wpList_copy_runI _ rfl _ _ 32 32 rfl _ _ rfl rfl (hcp2 _ (fun _ => rfl) (fun _ => rfl) _ _) ?_)
  go_ret
  first | exact ⟨rfl, rfl⟩ | exact ⟨rfl, by rw [hW1]⟩
end

section
set_option linter.unusedVariables false
open Go.RowKit Go.Lib
open Go.Sort (grow)

/-- A row with more, laid in two steps. -/
theorem ins_listK {α : Type} (xs R us : List α) (a b : Nat) (ha : a ≤ xs.length) (hR : R.length = xs.length + us.length) (ht : R.take a = xs.take a) (hb : b = a + us.length) :
    (R.take a ++ us ++ R.drop (a + us.length)).take b ++ xs.drop a ++ (R.take a ++ us ++ R.drop (a + us.length)).drop (b + (xs.drop a).length) = xs.take a ++ us ++ xs.drop a := by
  subst hb
  rw [ht]
  have e2 : (xs.take a ++ us).length = a + us.length := by rw [List.length_append, List.length_take]; omega
  have e3 : (xs.take a ++ us ++ R.drop (a + us.length)).length = xs.length + us.length := by rw [List.length_append, e2, List.length_drop, hR]; omega
  have e4 : (xs.take a ++ us ++ R.drop (a + us.length)).drop (a + us.length + (xs.drop a).length) = [] := List.drop_of_length_le (by rw [e3, List.length_drop]; omega)
  rw [e4, List.append_nil, List.take_append_of_le_length (by omega), List.take_of_length_le (by omega)]

theorem ins_listM {α : Type} (xs us0 us : List α) (a b : Nat) (ha : a ≤ xs.length) (h0 : us0.length = us.length) (hb : b = a + us.length) :
    xs.take a ++ us ++ xs.drop a = ((xs ++ us0).take b ++ xs.drop a ++ (xs ++ us0).drop (b + (xs.drop a).length)).take a ++ us ++ ((xs ++ us0).take b ++ xs.drop a ++ (xs ++ us0).drop (b + (xs.drop a).length)).drop (a + us.length) := by
  subst hb
  have e1 : (xs ++ us0).drop (a + us.length + (xs.drop a).length) = [] := List.drop_of_length_le (by rw [List.length_drop, List.length_append]; omega)
  have e2 : ((xs ++ us0).take (a + us.length)).length = a + us.length := by rw [List.length_take, List.length_append]; omega
  have e3 : ((xs ++ us0).take (a + us.length) ++ xs.drop a).take a = xs.take a := by
    rw [List.take_append_of_le_length (by omega), List.take_take, Nat.min_eq_left (by omega), List.take_append_of_le_length (by omega)]
  have e4 : ((xs ++ us0).take (a + us.length) ++ xs.drop a).drop (a + us.length) = xs.drop a := List.drop_left' e2
  rw [e1, List.append_nil, e3, e4]

set_option maxRecDepth 100000 in
set_option maxHeartbeats 4000000 in
/-- There is no room, and something stands behind: a new row. -/
theorem dins_grow (base g n c i vb : Nat) (xs : List Value) (u1 u2 : Value) (w : World) (hi : i < n) (hroom : c < n + 1) (hnc : n ≤ c) (hn : n ≤ 1000000) (hbase : base ≤ w.heap.size) (hown : w.ownsRow base 24 2 (.slice (some ⟨g, 0, none⟩) n c) n xs)
    (hv : w.heap[vb]? = some (.cells #[u1, u2] 24 (0, 0))) (h1 : ∀ v ∈ xs, v.oneCell' = true) (hu1 : u1.oneCell' = true) (hu2 : u2.oneCell' = true) :
    Calls Tryz.prog 156 #[.slice (some ⟨g, 0, none⟩) n c, .int .i64 i, .slice (some ⟨vb, 0, none⟩) 1 1] w fun e w' =>
      ∃ G, e = .returned (.slice (some ⟨w.heap.size, 0, none⟩) (n + 1) G) ∧ w'.ownsRow base 24 2 (.slice (some ⟨w.heap.size, 0, none⟩) (n + 1) G) (n + 1) (xs.take (i * 2) ++ [u1, u2] ++ xs.drop (i * 2)) ∧ w.grownBy w' none := by
  have mixed := mixed
  have hxl : xs.length = n * 2 := hown.1
  have hcell : ∀ j v, xs[j]? = some v → w.cell? ⟨g, 0 + j, none⟩ = some v := fun j v hj => by
    have hjn : j < n * 2 := by
      have := (List.getElem?_eq_some_iff.1 hj).1
      omega
    rw [Nat.zero_add, World.ownsRow.cellAt hown j (by omega)]
    exact hj
  obtain ⟨i0, hi0, hz0, hzs, hzb⟩ := info_parts Tryz.infoDot2
  have hbw : g < w.heap.size := (World.ownsRow.lt hown g rfl).2
  have hvw : vb < w.heap.size := (Array.getElem?_eq_some_iff.1 hv).1
  have hkk : (n : Int) + 1 - (i : Int) = ((n + 1 - i : Nat) : Int) := by omega
  have hik : i + (n + 1 - i) = n + 1 := by omega
  have hold : (Builtin.firstCells i0.size i (.slice (some ⟨g, 0, none⟩) i c)).run Tryz.prog w.drew = .ok (xs.take (i * 2)).toArray w.drew := by
    rw [hzs]
    exact run_firstCells_some w.drew 2 i ⟨g, 0, none⟩ i c (xs.take (i * 2)) (by rw [List.length_take]; omega) (fun j v hj => by
      rw [Addr.add_lit]
      rw [List.getElem?_take] at hj
      split at hj
      · exact hcell j v hj
      · cases hj)
  have hrz : ∀ ty, (Builtin.append_ #[32, 3] ty #[.slice (some ⟨g, 0, none⟩) i c, .int .i64 ((n : Int) + 1 - (i : Int))]).run Tryz.prog w =
      .ok (.slice (some ⟨w.heap.size, 0, none⟩) (n + 1) (grownCap w (n + 1) c 24)) (w.drew.alloc (.cells ((xs.take (i * 2)).toArray ++ Builtin.zeroCells (Value.agg #[.int .i64 0, .int .i64 0]).cells (n + 1 - i) ++ Builtin.zeroCells (Value.agg #[.int .i64 0, .int .i64 0]).cells (grownCap w (n + 1) c 24 - (n + 1))) 24)) := fun ty => by
    have h := Lib.run_append_grow_zeros w 32 3 ty 24 i0 _ .i64 .i64 Tryz.underlying32 Tryz.underlying3 hi0 hz0 (some ⟨g, 0, none⟩) i c (xs.take (i * 2)) hold (n + 1 - i) (by omega) (by omega) (by omega) (by omega) (by rw [hzb]; omega) (by rw [hzb, hik]; exact growslice_fits hroom (by omega))
    rw [hik] at h
    rw [hkk]
    exact h
  have hGn : n + 1 ≤ grownCap w (n + 1) c 24 := grownCap_ge w _ _ _
  have hGm := grownCap_le_maxLen w (n + 1) c 24 (by unfold maxLen; omega)
  obtain ⟨G, hG⟩ : ∃ G, G = grownCap w (n + 1) c 24 := ⟨_, rfl⟩
  rw [← hG] at hrz hGn hGm
  have hG63 : G ≤ 9223372036854775807 := by unfold maxLen at hGm; omega
  obtain ⟨ROW, hROW⟩ : ∃ ROW : Array Value, ROW = (xs.take (i * 2)).toArray ++ Builtin.zeroCells (Value.agg #[.int .i64 0, .int .i64 0]).cells (n + 1 - i) ++ Builtin.zeroCells (Value.agg #[.int .i64 0, .int .i64 0]).cells (G - (n + 1)) := ⟨_, rfl⟩
  rw [← hROW] at hrz
  have hRs : ROW.size = G * 2 := by
    rw [hROW]
    simp [Builtin.zeroCells, Value.cells, hxl]
    omega
  have hRt : ROW.toList.take (i * 2) = xs.take (i * 2) := by
    have e : ROW.toList = xs.take (i * 2) ++ (ROW.toList.drop (i * 2)) := by
      have : ROW.toList.take (i * 2) = xs.take (i * 2) := by
        rw [hROW, Array.append_assoc]
        simp [hxl, Nat.min_eq_left (show i * 2 ≤ n * 2 by omega)]
      rw [← this, List.take_append_drop]
    rw [e, List.take_append_of_le_length (by simp [hxl]; omega), List.take_of_length_le (by simp; omega)]
  obtain ⟨W1, hW1⟩ : ∃ W1, W1 = w.drew.alloc (.cells ROW 24) := ⟨_, rfl⟩
  have hO1 : W1.ownsRow base 24 2 (.slice (some ⟨w.heap.size, 0, none⟩) (n + 1) G) (n + 1) (ROW.toList.take ((n + 1) * 2)) := by
    rw [hW1]
    exact ⟨by rw [List.length_take, Array.length_toList, hRs]; omega, Or.inr ⟨w.heap.size, G, ROW, rfl, hbase, (MapKept.heap_alloc w.drew _).1, hGn, hGm, hRs, rfl⟩⟩
  have hN : ∀ j, j < (n + 1) * 2 → (W1.cell? ⟨w.heap.size, j, none⟩).isSome = true := fun j hj => by
    rw [World.ownsRow.cellAt hO1 j (by omega), List.getElem?_eq_getElem (by rw [List.length_take, Array.length_toList, hRs]; omega)]
    rfl
  have hNf : ∀ j, W1.frozen? ⟨w.heap.size, j, none⟩ = false := fun j => World.ownsRow.frozenAt hO1 j
  have hK : RowKit.Below w.heap.size w W1 := by rw [hW1]; exact ((Far.refl w).drew.alloc _).below
  have hOb : ∀ j v, w.cell? ⟨g, j, none⟩ = some v → W1.cell? ⟨g, j, none⟩ = some v := fun j v h => (hK.cell hbw).trans h
  have hOv : ∀ j v, ([u1, u2] : List Value)[j]? = some v → W1.cell? ⟨vb, 0 + j, none⟩ = some v := fun j v hj => by
    refine (hK.cell (p := ⟨vb, 0 + j, none⟩) hvw).trans ?_
    rcases j with _ | _ | j
    · simp at hj; subst hj; simp [World.cell?, hv]
    · simp at hj; subst hj; simp [World.cell?, hv]
    · simp at hj
  have hne : vb ≠ w.heap.size := by omega
  have hgne : g ≠ w.heap.size := by omega
  have hdl : (xs.drop (i * 2)).length = (n - i) * 2 := by rw [List.length_drop, hxl]; omega
  have hcpA : ∀ (W : World), (∀ x, W.cell? x = W1.cell? x) → (∀ x, W.frozen? x = W1.frozen? x) → ∀ ty dc, (Builtin.copy_ #[32, 32] ty #[.slice (some ⟨w.heap.size, i * 2, none⟩) (n + 1 - i) dc, .slice (some ⟨vb, 0, none⟩) 1 1]).run Tryz.prog W = .ok (goInt (1 : Nat)) (W.setCells w.heap.size (i * 2) [u1, u2]) := fun W hWc hWf ty dc =>
    run_copy_cells2 W _ _ ty 24 w.heap.size (i * 2) (n + 1 - i) dc ⟨vb, 0, none⟩ 1 1 [u1, u2] Tryz.underlying32 sizeDot2 1 (by simp only [Nat.min_def]; split <;> omega) rfl
      (fun j v hj => by rw [Addr.add_lit, hWc]; exact hOv j v hj)
      (fun j hj => by rw [hWc]; exact hN _ (by simp at hj; omega)) (fun j _ => by rw [hWf]; exact hNf _) (fun v hv' => by simp at hv'; rcases hv' with rfl | rfl; exact hu1; exact hu2)
  have hcpB : ∀ (W : World), (∀ x, W.cell? x = (W1.setCells w.heap.size (i * 2) [u1, u2]).cell? x) → (∀ x, W.frozen? x = (W1.setCells w.heap.size (i * 2) [u1, u2]).frozen? x) → ∀ ty dc sc, (Builtin.copy_ #[32, 32] ty #[.slice (some ⟨w.heap.size, (i + 1) * 2, none⟩) (n + 1 - (i + 1)) dc, .slice (some ⟨g, i * 2, none⟩) (n - i) sc]).run Tryz.prog W = .ok (goInt (n - i : Nat)) (W.setCells w.heap.size ((i + 1) * 2) (xs.drop (i * 2))) := fun W hWc hWf ty dc sc =>
    run_copy_cells2 W _ _ ty 24 w.heap.size ((i + 1) * 2) (n + 1 - (i + 1)) dc ⟨g, i * 2, none⟩ (n - i) sc (xs.drop (i * 2)) Tryz.underlying32 sizeDot2 (n - i) (by simp only [Nat.min_def]; split <;> omega) hdl
      (fun j v hj => by
        rw [Addr.add_lit, hWc, World.cell?_setCells_out _ _ _ _ _ (fun h _ => absurd h hgne)]
        have := hOb _ v (hcell (i * 2 + j) v (by rwa [List.getElem?_drop] at hj))
        rwa [Nat.zero_add] at this)
      (fun j hj => by rw [hWc]; exact isSome_setCells _ [u1, u2] (i * 2) W1 (fun t ht => hN _ (by simp at ht; omega)) _ (hN _ (by rw [hdl] at hj; omega)))
      (fun j _ => by rw [hWf, World.frozen?_setCells]; exact hNf _) (fun v hv' => h1 v (List.mem_of_mem_drop hv'))
  have hend : ∀ (W : World), W = (((w.alloc (.cells ROW 24)).drew.setCells w.heap.size (i * 2) [u1, u2]).drew).setCells w.heap.size ((i + 1) * 2) (xs.drop (i * 2)) → W.ownsRow base 24 2 (.slice (some ⟨w.heap.size, 0, none⟩) (n + 1) G) (n + 1) (xs.take (i * 2) ++ [u1, u2] ++ xs.drop (i * 2)) ∧ w.grownBy W none := fun W hW => by
    have hA : (w.alloc (.cells ROW 24)).drew.ownsRow base 24 2 (.slice (some ⟨w.heap.size, 0, none⟩) (n + 1) G) (n + 1) (ROW.toList.take ((n + 1) * 2)) := by
      have : (w.alloc (.cells ROW 24)).drew = w.drew.alloc (.cells ROW 24) := rfl
      rw [this, ← hW1]
      exact hO1
    have hB := own_setCells2 [u1, u2] (i * 2) _ _ hA (by simp; omega)
    have hB' : (((w.alloc (.cells ROW 24)).drew.setCells w.heap.size (i * 2) [u1, u2]).drew).ownsRow base 24 2 (.slice (some ⟨w.heap.size, 0, none⟩) (n + 1) G) (n + 1) _ := hB.1
    have hC := own_setCells2 (xs.drop (i * 2)) ((i + 1) * 2) _ _ hB' (by rw [hdl]; omega)
    rw [hW]
    refine ⟨?_, ?_⟩
    · have e := ins_listK xs (ROW.toList.take ((n + 1) * 2)) [u1, u2] (i * 2) ((i + 1) * 2) (by omega) (by rw [List.length_take, Array.length_toList, hRs, hxl]; simp; omega) (by rw [List.take_take, Nat.min_eq_left (by omega), hRt]) (by simp; omega)
      rw [← e]
      exact hC.1
    · have hg1 : w.grownBy (w.alloc (.cells ROW 24)).drew none := (World.grownBy_alloc w _ none).trans (grownBy_drew1 _ _)
      have g2 := hB.2
      have g3 : ((w.alloc (.cells ROW 24)).drew.setCells w.heap.size (i * 2) [u1, u2]).grownBy ((((w.alloc (.cells ROW 24)).drew.setCells w.heap.size (i * 2) [u1, u2]).drew).setCells w.heap.size ((i + 1) * 2) (xs.drop (i * 2))) (some w.heap.size) := (grownBy_drew1 _ _).trans hC.2
      have g4 := g2.trans g3
      exact ⟨g4.os.trans hg1.os, g4.tape.trans hg1.tape, g4.output.trans hg1.output, Nat.le_trans hg1.size g4.size, fun k hk _ => (g4.block k (Nat.lt_of_lt_of_le hk hg1.size) (fun e => by cases e; omega)).trans (hg1.block k hk (by simp))⟩
  subst hW1
  have hz1 : ¬ ((i : Int) = (n : Int)) := by omega
  have hz3 : (c : Int) < (n : Int) + 1 := by omega
  have hw1 : IntKind.i64.wrap ((i : Int) + 1) = (i : Int) + 1 := by rw [IntKind.wrap_i64]; omega
  have hb1 : (0 : Int) ≤ (i : Int) + 1 := by omega
  have hin : i ≤ n := by omega
  have htn : ((i : Int) + 1).toNat = i + 1 := by omega
  have hb3 : (i : Int) ≤ (n : Int) := by omega
  have hGi : ¬ (G = i) := by omega
  have hGim : ¬ (G = i + 1) := by omega
  have hci : ¬ (c = i) := by omega
  have HE := hid hend
  have hE1 : ∀ x, ((w.alloc (.cells ROW 24)).drew).cell? x = (w.drew.alloc (.cells ROW 24)).cell? x := fun x => rfl
  have hE2 : ∀ x, ((w.alloc (.cells ROW 24)).drew).frozen? x = (w.drew.alloc (.cells ROW 24)).frozen? x := fun x => rfl
  have hF1 : ∀ x, (((w.alloc (.cells ROW 24)).drew.setCells w.heap.size (i * 2) [u1, u2]).drew).cell? x = ((w.drew.alloc (.cells ROW 24)).setCells w.heap.size (i * 2) [u1, u2]).cell? x := fun x => rfl
  have hF2 : ∀ x, (((w.alloc (.cells ROW 24)).drew.setCells w.heap.size (i * 2) [u1, u2]).drew).frozen? x = ((w.drew.alloc (.cells ROW 24)).setCells w.heap.size (i * 2) [u1, u2]).frozen? x := fun x => rfl
  clear hkk hik hold hROW hG hRs hRt hend hO1 hN hNf hK hOb hOv hown hcell hv
  go_enter Tryz.func156, Tryz.ntmps156
  go_wp2_with (first
    | (at_builtin; refine Lib.wpList_append_run _ rfl _ _ _ _ rfl _ _ rfl rfl _ _ (hrz _) ?_)
    | (at_builtin; refine wpList_copy_runI _ rfl _ _ 32 32 rfl _ _ rfl rfl (hcpA _ hE1 hE2 _ _) ?_)
    | (at_builtin; refine wpList_copy_runI _ rfl _ _ 32 32 rfl _ _ rfl rfl (hcpB _ (fun _ => rfl) (fun _ => rfl) _ _ _) ?_))
  go_region_law_o (refine step_copy_runI rfl _ _ 32 32 rfl (.slice (some ⟨w.heap.size, (i + 1) * 2, none⟩) (n + 1 - (i + 1)) (G - (i + 1))) (.slice (some ⟨g, i * 2, none⟩) (n - i) (c - i)) (by simp [Act.eval, Act.put]) (by simp [Act.eval, Act.put]) (hcpB _ hF1 hF2 3 (G - (i + 1)) (c - i)) ?_)
  go_wp2
  go_ret
  exact ⟨G, rfl, HE.out _ rfl⟩
end
end Go.Proofs.YtnmdcdphpcpojaaGreatDoor
