/- What rank's closure tells is the kids' order. No function of the program. -/
import Derived.Test.YtnmdcdphpcpojaaGreatDoorTrThere
import Derived.Test.YtnmdcdphpcpojaaGreatDoorTrField
namespace Go.Proofs.YtnmdcdphpcpojaaGreatDoor
section
set_option linter.unusedVariables false
set_option linter.unusedSimpArgs false
open Go.RowKit

/-- Below 0, 0 or above 0. -/
def cmpS (a b : ByteArray) : Int := if bl (kb a) (kb b) then -1 else if bl (kb b) (kb a) then 1 else 0

theorem nan_any (a : ByteArray) (w : World) : Calls Tryz.prog 194 #[.string a] w fun e w' => e = .returned (.bool false) ∧ w' = w := by
  go_enter Tryz.func194, Tryz.ntmps194
  go_wp2
  go_ret
  refine ⟨?_, ?_⟩
  · first | rfl | simp
  · first | rfl | trivial

set_option maxHeartbeats 1000000 in
theorem scmp_any (a b : ByteArray) (w : World) : Calls Tryz.prog 181 #[.string a, .string b] w fun e w' => e = .returned (.int .i64 (cmpS a b)) ∧ w' = w := by
  go_enter Tryz.func181, Tryz.ntmps181
  go_wp2_with (go_at_call 194; refine (nan_any _ _).mono ?_; rintro e w1 ⟨rfl, rfl⟩)
  · rename_i h
    have h' : bl (kb a) (kb b) = true := h
    have hr : cmpS a b = -1 := by unfold cmpS; rw [if_pos h']
    go_ret
    refine ⟨?_, ?_⟩
    · rw [hr]; rfl
    · first | rfl | trivial
  · rename_i h1 _ _ h2
    have hne : kb a ≠ kb b := fun e => by
      have e' : a.toList = b.toList := e
      rw [e'] at h2
      simp at h2
    have h3 : bl (kb a) (kb b) = false := h1
    have hr : cmpS a b = 1 := by
      unfold cmpS
      rw [if_neg (by rw [h3]; simp), if_pos (bl_total h3 hne)]
    go_ret
    refine ⟨?_, ?_⟩
    · rw [hr]; rfl
    · first | rfl | trivial
  · rename_i h1 h2
    have he : kb a = kb b := by
      show a.toList = b.toList
      simpa using h2
    have hr : cmpS a b = 0 := by
      unfold cmpS
      rw [he, bl_irrefl]
      rfl
    go_ret
    refine ⟨?_, ?_⟩
    · rw [hr]; rfl
    · first | rfl | trivial
/-- What an entry's block says first: its identity, its time. -/
structure EnT (w : World) (g : Nat) (m : Mv) : Prop where
  c0 : w.cell? ⟨g, 0, none⟩ = some (.int .i64 m.id.1)
  c1 : w.cell? ⟨g, 1, none⟩ = some (.int .i64 m.id.2)
  c2 : w.cell? ⟨g, 2, none⟩ = some (.int .i64 m.time)

theorem EnT.below {w w' : World} {g : Nat} {m : Mv} (h : EnT w g m) (hb : Below w.heap.size w w') : EnT w' g m :=
  ⟨(hb.cell (p := ⟨g, 0, none⟩) (cell_in h.c0)).trans h.c0, (hb.cell (p := ⟨g, 1, none⟩) (cell_in h.c1)).trans h.c1, (hb.cell (p := ⟨g, 2, none⟩) (cell_in h.c2)).trans h.c2⟩

/-- Below 0 or above 0, as a move is done ahead of another one or behind it. -/
def turnI (a b : Mv) : Int := orI (cmpi a.time b.time) (ordI a.id b.id)

theorem turn_lt (a b : Mv) : decide (turnI a b < 0) = mvl a b := by
  unfold turnI orI cmpi ordI mvl
  by_cases h1 : a.time < b.time
  · simp [h1]
  · by_cases h2 : b.time < a.time
    · have : ¬ a.time = b.time := by omega
      simp [h1, h2, this]
    · have : a.time = b.time := by omega
      cases h3 : dl a.id b.id
      · cases h4 : dl b.id a.id <;> simp [this, h3, h4]
      · simp [this, h3]

set_option maxRecDepth 100000 in
set_option maxHeartbeats 4000000 in
theorem turn_any (g1 g2 : Nat) (m1 m2 : Mv) (w : World) (h1 : EnT w g1 m1) (h2 : EnT w g2 m2) :
    Calls Tryz.prog 98 #[.pointer (some ⟨g1, 0, none⟩), .pointer (some ⟨g2, 0, none⟩)] w fun e w' => e = .returned (.int .i64 (turnI m1 m2)) ∧ Below w.heap.size w w' := by
  have mixed := mixed
  have hmxo : Tryz.prog.follows .mixedOrders = true := by kernel_rfl
  have HS : Hid (∀ W, Below w.heap.size w W → (W.cell? ⟨g1, 0, none⟩ = some (.int .i64 m1.id.1) ∧ W.cell? ⟨g1, 1, none⟩ = some (.int .i64 m1.id.2) ∧ W.cell? ⟨g1, 2, none⟩ = some (.int .i64 m1.time) ∧ W.cell? ⟨g2, 0, none⟩ = some (.int .i64 m2.id.1) ∧ W.cell? ⟨g2, 1, none⟩ = some (.int .i64 m2.id.2) ∧ W.cell? ⟨g2, 2, none⟩ = some (.int .i64 m2.time))) := hid (fun W hb => ⟨(h1.below hb).c0, (h1.below hb).c1, (h1.below hb).c2, (h2.below hb).c0, (h2.below hb).c1, (h2.below hb).c2⟩)
  have HB0 : Hid (Below w.heap.size w w.drew) := hid ((Far.refl w).drewN 1).below
  have hS0 := HS.out _ HB0.out
  have hr : Hid (turnI m1 m2 = orI (cmpi m1.time m2.time) (ordI m1.id m2.id)) := hid rfl
  clear h1 h2
  go_enter Tryz.func98, Tryz.ntmps98
  go_wp2_with fail
  refine wp_region_held_drew (S := fun w' => w'.cell? ⟨g1, 0, none⟩ = some (.int .i64 m1.id.1) ∧ w'.cell? ⟨g1, 1, none⟩ = some (.int .i64 m1.id.2) ∧ w'.cell? ⟨g1, 2, none⟩ = some (.int .i64 m1.time) ∧ w'.cell? ⟨g2, 0, none⟩ = some (.int .i64 m2.id.1) ∧ w'.cell? ⟨g2, 1, none⟩ = some (.int .i64 m2.id.2) ∧ w'.cell? ⟨g2, 2, none⟩ = some (.int .i64 m2.time)) hmxo hS0 ?_
  intro _
  refine wpAnyH_take (i := 0) (v := .pointer (some ⟨g1, 0, none⟩)) rfl (by kernel_rfl) (by kernel_rfl) (by kernel_rfl) (fun _ _ _ h => h) (Or.inl ⟨by kernel_rfl, fun w hSw => ?_⟩) hS0 ?_
  · obtain ⟨d1, d2, d3, d4, d5, d6⟩ := hSw; go_simp
  simp only [Act.put, List.getElem_toArray, List.getElem_cons_succ, List.getElem_cons_zero, List.setIfInBounds_toArray, List.set_cons_zero, List.set_cons_succ]
  refine wpAnyH_take (i := 1) (v := .pointer (some ⟨g1, 0, none⟩)) rfl (by kernel_rfl) (by kernel_rfl) (by kernel_rfl) (fun _ _ _ h => h) (Or.inl ⟨by kernel_rfl, fun w hSw => ?_⟩) hS0 ?_
  · obtain ⟨d1, d2, d3, d4, d5, d6⟩ := hSw; go_simp
  simp only [Act.put, List.getElem_toArray, List.getElem_cons_succ, List.getElem_cons_zero, List.setIfInBounds_toArray, List.set_cons_zero, List.set_cons_succ]
  refine wpAnyH_take (i := 2) (v := .pointer (some ⟨g1, 0, none⟩)) rfl (by kernel_rfl) (by kernel_rfl) (by kernel_rfl) (fun _ _ _ h => h) (Or.inl ⟨by kernel_rfl, fun w hSw => ?_⟩) hS0 ?_
  · obtain ⟨d1, d2, d3, d4, d5, d6⟩ := hSw; go_simp
  simp only [Act.put, List.getElem_toArray, List.getElem_cons_succ, List.getElem_cons_zero, List.setIfInBounds_toArray, List.set_cons_zero, List.set_cons_succ]
  refine wpAnyH_take (i := 3) (v := .pointer (some ⟨g1, 2, none⟩)) rfl (by kernel_rfl) (by kernel_rfl) (by kernel_rfl) (fun _ _ _ h => h) (Or.inl ⟨by kernel_rfl, fun w hSw => ?_⟩) hS0 ?_
  · obtain ⟨d1, d2, d3, d4, d5, d6⟩ := hSw; go_simp
  simp only [Act.put, List.getElem_toArray, List.getElem_cons_succ, List.getElem_cons_zero, List.setIfInBounds_toArray, List.set_cons_zero, List.set_cons_succ]
  refine wpAnyH_take (i := 4) (v := .int .i64 m1.time) rfl (by kernel_rfl) (by kernel_rfl) (by kernel_rfl) (fun _ _ _ h => h) (Or.inl ⟨by kernel_rfl, fun w hSw => ?_⟩) hS0 ?_
  · obtain ⟨d1, d2, d3, d4, d5, d6⟩ := hSw; go_simp
  simp only [Act.put, List.getElem_toArray, List.getElem_cons_succ, List.getElem_cons_zero, List.setIfInBounds_toArray, List.set_cons_zero, List.set_cons_succ]
  refine wpAnyH_take (i := 5) (v := .pointer (some ⟨g2, 0, none⟩)) rfl (by kernel_rfl) (by kernel_rfl) (by kernel_rfl) (fun _ _ _ h => h) (Or.inl ⟨by kernel_rfl, fun w hSw => ?_⟩) hS0 ?_
  · obtain ⟨d1, d2, d3, d4, d5, d6⟩ := hSw; go_simp
  simp only [Act.put, List.getElem_toArray, List.getElem_cons_succ, List.getElem_cons_zero, List.setIfInBounds_toArray, List.set_cons_zero, List.set_cons_succ]
  refine wpAnyH_take (i := 6) (v := .pointer (some ⟨g2, 0, none⟩)) rfl (by kernel_rfl) (by kernel_rfl) (by kernel_rfl) (fun _ _ _ h => h) (Or.inl ⟨by kernel_rfl, fun w hSw => ?_⟩) hS0 ?_
  · obtain ⟨d1, d2, d3, d4, d5, d6⟩ := hSw; go_simp
  simp only [Act.put, List.getElem_toArray, List.getElem_cons_succ, List.getElem_cons_zero, List.setIfInBounds_toArray, List.set_cons_zero, List.set_cons_succ]
  refine wpAnyH_take (i := 7) (v := .pointer (some ⟨g2, 0, none⟩)) rfl (by kernel_rfl) (by kernel_rfl) (by kernel_rfl) (fun _ _ _ h => h) (Or.inl ⟨by kernel_rfl, fun w hSw => ?_⟩) hS0 ?_
  · obtain ⟨d1, d2, d3, d4, d5, d6⟩ := hSw; go_simp
  simp only [Act.put, List.getElem_toArray, List.getElem_cons_succ, List.getElem_cons_zero, List.setIfInBounds_toArray, List.set_cons_zero, List.set_cons_succ]
  refine wpAnyH_take (i := 8) (v := .pointer (some ⟨g2, 2, none⟩)) rfl (by kernel_rfl) (by kernel_rfl) (by kernel_rfl) (fun _ _ _ h => h) (Or.inl ⟨by kernel_rfl, fun w hSw => ?_⟩) hS0 ?_
  · obtain ⟨d1, d2, d3, d4, d5, d6⟩ := hSw; go_simp
  simp only [Act.put, List.getElem_toArray, List.getElem_cons_succ, List.getElem_cons_zero, List.setIfInBounds_toArray, List.set_cons_zero, List.set_cons_succ]
  refine wpAnyH_take (i := 9) (v := .int .i64 m2.time) rfl (by kernel_rfl) (by kernel_rfl) (by kernel_rfl) (fun _ _ _ h => h) (Or.inl ⟨by kernel_rfl, fun w hSw => ?_⟩) hS0 ?_
  · obtain ⟨d1, d2, d3, d4, d5, d6⟩ := hSw; go_simp
  simp only [Act.put, List.getElem_toArray, List.getElem_cons_succ, List.getElem_cons_zero, List.setIfInBounds_toArray, List.set_cons_zero, List.set_cons_succ]
  refine wpAnyH_take (i := 11) (v := .pointer (some ⟨g1, 0, none⟩)) rfl (by kernel_rfl) (by kernel_rfl) (by kernel_rfl) (fun _ _ _ h => h) (Or.inl ⟨by kernel_rfl, fun w hSw => ?_⟩) hS0 ?_
  · obtain ⟨d1, d2, d3, d4, d5, d6⟩ := hSw; go_simp
  simp only [Act.put, List.getElem_toArray, List.getElem_cons_succ, List.getElem_cons_zero, List.setIfInBounds_toArray, List.set_cons_zero, List.set_cons_succ]
  refine wpAnyH_take (i := 12) (v := .pointer (some ⟨g1, 0, none⟩)) rfl (by kernel_rfl) (by kernel_rfl) (by kernel_rfl) (fun _ _ _ h => h) (Or.inl ⟨by kernel_rfl, fun w hSw => ?_⟩) hS0 ?_
  · obtain ⟨d1, d2, d3, d4, d5, d6⟩ := hSw; go_simp
  simp only [Act.put, List.getElem_toArray, List.getElem_cons_succ, List.getElem_cons_zero, List.setIfInBounds_toArray, List.set_cons_zero, List.set_cons_succ]
  refine wpAnyH_take (i := 13) (v := .pointer (some ⟨g1, 0, none⟩)) rfl (by kernel_rfl) (by kernel_rfl) (by kernel_rfl) (fun _ _ _ h => h) (Or.inl ⟨by kernel_rfl, fun w hSw => ?_⟩) hS0 ?_
  · obtain ⟨d1, d2, d3, d4, d5, d6⟩ := hSw; go_simp
  simp only [Act.put, List.getElem_toArray, List.getElem_cons_succ, List.getElem_cons_zero, List.setIfInBounds_toArray, List.set_cons_zero, List.set_cons_succ]
  refine wpAnyH_take (i := 14) (v := .pointer (some ⟨g1, 0, none⟩)) rfl (by kernel_rfl) (by kernel_rfl) (by kernel_rfl) (fun _ _ _ h => h) (Or.inl ⟨by kernel_rfl, fun w hSw => ?_⟩) hS0 ?_
  · obtain ⟨d1, d2, d3, d4, d5, d6⟩ := hSw; go_simp
  simp only [Act.put, List.getElem_toArray, List.getElem_cons_succ, List.getElem_cons_zero, List.setIfInBounds_toArray, List.set_cons_zero, List.set_cons_succ]
  refine wpAnyH_take (i := 15) (v := .agg #[.int .i64 m1.id.1, .int .i64 m1.id.2]) rfl (by kernel_rfl) (by kernel_rfl) (by kernel_rfl) (fun _ _ _ h => h) (Or.inl ⟨by kernel_rfl, fun w hSw => ?_⟩) hS0 ?_
  · obtain ⟨d1, d2, d3, d4, d5, d6⟩ := hSw; go_simp
  simp only [Act.put, List.getElem_toArray, List.getElem_cons_succ, List.getElem_cons_zero, List.setIfInBounds_toArray, List.set_cons_zero, List.set_cons_succ]
  refine wpAnyH_take (i := 16) (v := .pointer (some ⟨g2, 0, none⟩)) rfl (by kernel_rfl) (by kernel_rfl) (by kernel_rfl) (fun _ _ _ h => h) (Or.inl ⟨by kernel_rfl, fun w hSw => ?_⟩) hS0 ?_
  · obtain ⟨d1, d2, d3, d4, d5, d6⟩ := hSw; go_simp
  simp only [Act.put, List.getElem_toArray, List.getElem_cons_succ, List.getElem_cons_zero, List.setIfInBounds_toArray, List.set_cons_zero, List.set_cons_succ]
  refine wpAnyH_take (i := 17) (v := .pointer (some ⟨g2, 0, none⟩)) rfl (by kernel_rfl) (by kernel_rfl) (by kernel_rfl) (fun _ _ _ h => h) (Or.inl ⟨by kernel_rfl, fun w hSw => ?_⟩) hS0 ?_
  · obtain ⟨d1, d2, d3, d4, d5, d6⟩ := hSw; go_simp
  simp only [Act.put, List.getElem_toArray, List.getElem_cons_succ, List.getElem_cons_zero, List.setIfInBounds_toArray, List.set_cons_zero, List.set_cons_succ]
  refine wpAnyH_take (i := 18) (v := .pointer (some ⟨g2, 0, none⟩)) rfl (by kernel_rfl) (by kernel_rfl) (by kernel_rfl) (fun _ _ _ h => h) (Or.inl ⟨by kernel_rfl, fun w hSw => ?_⟩) hS0 ?_
  · obtain ⟨d1, d2, d3, d4, d5, d6⟩ := hSw; go_simp
  simp only [Act.put, List.getElem_toArray, List.getElem_cons_succ, List.getElem_cons_zero, List.setIfInBounds_toArray, List.set_cons_zero, List.set_cons_succ]
  refine wpAnyH_take (i := 19) (v := .pointer (some ⟨g2, 0, none⟩)) rfl (by kernel_rfl) (by kernel_rfl) (by kernel_rfl) (fun _ _ _ h => h) (Or.inl ⟨by kernel_rfl, fun w hSw => ?_⟩) hS0 ?_
  · obtain ⟨d1, d2, d3, d4, d5, d6⟩ := hSw; go_simp
  simp only [Act.put, List.getElem_toArray, List.getElem_cons_succ, List.getElem_cons_zero, List.setIfInBounds_toArray, List.set_cons_zero, List.set_cons_succ]
  refine wpAnyH_take (i := 20) (v := .agg #[.int .i64 m2.id.1, .int .i64 m2.id.2]) rfl (by kernel_rfl) (by kernel_rfl) (by kernel_rfl) (fun _ _ _ h => h) (Or.inl ⟨by kernel_rfl, fun w hSw => ?_⟩) hS0 ?_
  · obtain ⟨d1, d2, d3, d4, d5, d6⟩ := hSw; go_simp
  simp only [Act.put, List.getElem_toArray, List.getElem_cons_succ, List.getElem_cons_zero, List.setIfInBounds_toArray, List.set_cons_zero, List.set_cons_succ]
  refine wpAnyH_ready (rs := [10]) (by kernel_rfl) (by simp) ?_
  refine AllReadyH.cons rfl (fun K hK => ?_) AllReadyH.nil
  go_simp
  refine (cmp_any m1.time m2.time _).mono ?_
  rintro e U1 ⟨rfl, rfl⟩

  refine hK.out _ _ hS0 (fun _ => ?_)
  clear hK K

  refine wpAnyH_ready (rs := [21]) (by kernel_rfl) (by simp) ?_
  refine AllReadyH.cons rfl (fun K hK => ?_) AllReadyH.nil
  go_simp
  refine (torder_any m1.id m2.id _).mono ?_
  rintro e U2 ⟨rfl, hb1⟩
  have HB1 : Hid (Below w.heap.size w U2) := hid (HB0.out.trans (hb1.mono HB0.out.size))
  have hS1 := HS.out _ HB1.out
  refine hK.out _ _ hS1 (fun _ => ?_)
  clear hK K

  refine wpAnyH_ready (rs := [22]) (by kernel_rfl) (by simp) ?_
  refine AllReadyH.cons rfl (fun K hK => ?_) AllReadyH.nil
  go_simp
  have HB2 : Hid (Below w.heap.size w (U2.alloc (.cells #[.int .i64 (cmpi m1.time m2.time), .int .i64 (ordI m1.id m2.id)] 3))) := hid (HB1.out.alloc HB1.out.size _)
  have hS2 := HS.out _ HB2.out
  refine hK.out _ _ hS2 (fun _ => ?_)
  clear hK K
  have hA := World.alloc_heap_new U2 (.cells #[.int .i64 (cmpi m1.time m2.time), .int .i64 (ordI m1.id m2.id)] 3)
  have hor := or_any U2.heap.size 2 (cmpi m1.time m2.time) (ordI m1.id m2.id) (U2.alloc (.cells #[.int .i64 (cmpi m1.time m2.time), .int .i64 (ordI m1.id m2.id)] 3)) (by simp only [World.cell?, hA]; rfl) (by simp only [World.cell?, hA]; rfl)
  refine wpAnyH_ready (rs := [23]) (by kernel_rfl) (by simp) ?_
  refine AllReadyH.cons rfl (fun K hK => ?_) AllReadyH.nil
  go_simp
  refine (hor).mono ?_
  rintro e U3 ⟨rfl, rfl⟩

  refine hK.out _ _ hS2 (fun _ => ?_)
  clear hK K

  refine wpAnyH_take (i := 24) (v := .int .i64 (orI (cmpi m1.time m2.time) (ordI m1.id m2.id))) rfl (by kernel_rfl) (by kernel_rfl) (by kernel_rfl) (fun _ _ _ h => h) (Or.inl ⟨by kernel_rfl, fun w hSw => ?_⟩) hS2 ?_
  · obtain ⟨d1, d2, d3, d4, d5, d6⟩ := hSw; go_simp
  simp only [Act.put, List.getElem_toArray, List.getElem_cons_succ, List.getElem_cons_zero, List.setIfInBounds_toArray, List.set_cons_zero, List.set_cons_succ]
  refine wpAnyH_done (by kernel_rfl) ?_ _
  go_wp2
  go_ret
  exact ⟨by rw [hr.out]; rfl, HB2.out⟩
end

section
set_option linter.unusedVariables false
set_option linter.unusedSimpArgs false
open Go.RowKit

/-- Below 0 or above 0, as a kid comes ahead of one with a key or behind it. -/
def rankI (S : List Sp) (kid b : Dt) (key : ByteArray) : Int := orI (cmpS ((lk S kid).getD pl0).2 key) (ordI kid b)

set_option maxRecDepth 100000 in
set_option maxHeartbeats 4000000 in
theorem rank1_any (t o bs bp : Nat) (mv : Value) (S : List Sp) (kid b : Dt) (key : ByteArray) (hd : Dw kid) (w : World) (hbs : w.cell? ⟨bs, 0, none⟩ = some (.pointer (some ⟨t, o, none⟩))) (hbp : w.cell? ⟨bp, 2, none⟩ = some (.string key)) (hc : w.cell? ⟨t, o, none⟩ = some mv) (h : PlV w mv S) :
    Calls Tryz.prog 180 #[dv kid, dv b, .pointer (some ⟨bs, 0, none⟩), .pointer (some ⟨bp, 0, none⟩)] w fun e w' => e = .returned (.int .i64 (rankI S kid b key)) ∧ Below w.heap.size w w' := by
  obtain ⟨k1, k2⟩ := kid
  obtain ⟨b1, b2⟩ := b
  have mixed := mixed
  have hmxo : Tryz.prog.follows .mixedOrders = true := by kernel_rfl
  obtain ⟨p1, p2, ky, hq⟩ : ∃ p1 p2 ky, (lk S (k1, k2)).getD pl0 = ((p1, p2), ky) := ⟨_, _, _, rfl⟩
  have hr : Hid (rankI S (k1, k2) (b1, b2) key = orI (cmpS ky key) (ordI (k1, k2) (b1, b2))) := hid (by unfold rankI; rw [hq])
  obtain ⟨W0, hW0⟩ : ∃ W0, W0 = (w.alloc (.cells #[.int .i64 k1, .int .i64 k2] 24)).alloc (.cells #[.int .i64 b1, .int .i64 b2] 24) := ⟨_, rfl⟩
  have hB0 : Below w.heap.size w W0 := by rw [hW0]; exact ((Below.refl _ w).alloc (Nat.le_refl _) _).alloc (by simp) _
  have hb1 : W0.heap[w.heap.size]? = some (.cells #[.int .i64 k1, .int .i64 k2] 24 (0, 0)) := by rw [hW0]; exact (Below.heap_alloc _ _ _ (by simp)).trans (World.alloc_heap_new w _)
  have hb2 : W0.heap[w.heap.size + 1]? = some (.cells #[.int .i64 b1, .int .i64 b2] 24 (0, 0)) := by
    rw [hW0]
    have := World.alloc_heap_new (w.alloc (.cells #[.int .i64 k1, .int .i64 k2] 24)) (.cells #[.int .i64 b1, .int .i64 b2] 24)
    rwa [World.size_alloc] at this
  have hl1 := (Array.getElem?_eq_some_iff.1 hb1).1
  have hl2 := (Array.getElem?_eq_some_iff.1 hb2).1
  have HS : Hid (∀ W, Below W0.heap.size W0 W → (W.cell? ⟨bs, 0, none⟩ = some (.pointer (some ⟨t, o, none⟩)) ∧ W.cell? ⟨t, o, none⟩ = some mv ∧ W.cell? ⟨w.heap.size, 0, none⟩ = some (.int .i64 k1) ∧ W.cell? ⟨w.heap.size, 1, none⟩ = some (.int .i64 k2) ∧ W.cell? ⟨w.heap.size + 1, 0, none⟩ = some (.int .i64 b1) ∧ W.cell? ⟨w.heap.size + 1, 1, none⟩ = some (.int .i64 b2) ∧ W.cell? ⟨bp, 2, none⟩ = some (.string key) ∧ (Instr.lookup 111 mv (.agg #[.int .i64 k1, .int .i64 k2]) false).run Tryz.prog W = .ok (.agg #[.int .i64 p1, .int .i64 p2, .string ky]) W)) := hid (fun W hb => by
    have g1 := (hb.block _ hl1).trans hb1
    have g2 := (hb.block _ hl2).trans hb2
    have hbw := hB0.trans (hb.mono hB0.size)
    refine ⟨(hbw.cell (p := ⟨bs, 0, none⟩) (cell_in hbs)).trans hbs, (hbw.cell (p := ⟨t, o, none⟩) (cell_in hc)).trans hc, by simp [World.cell?, g1], by simp [World.cell?, g1], by simp [World.cell?, g2], by simp [World.cell?, g2], (hbw.cell (p := ⟨bp, 2, none⟩) (cell_in hbp)).trans hbp, ?_⟩
    have := (h.below hbw).look hd
    rw [hq] at this
    exact this)
  have HB0 : Hid (Below W0.heap.size W0 W0.drew) := hid ((Far.refl W0).drewN 1).below
  have hS0 := HS.out _ HB0.out
  have rfk := run_key p1 p2 ky
  have HW := hid hW0
  clear hW0 hb1 hb2 hl1 hl2 hc h hq hbs hbp
  go_enter Tryz.func180, Tryz.ntmps180
  go_wp2_with fail
  rw [← HW.out]
  refine wp_region_held_drew (S := fun w' => w'.cell? ⟨bs, 0, none⟩ = some (.pointer (some ⟨t, o, none⟩)) ∧ w'.cell? ⟨t, o, none⟩ = some mv ∧ w'.cell? ⟨w.heap.size, 0, none⟩ = some (.int .i64 k1) ∧ w'.cell? ⟨w.heap.size, 1, none⟩ = some (.int .i64 k2) ∧ w'.cell? ⟨w.heap.size + 1, 0, none⟩ = some (.int .i64 b1) ∧ w'.cell? ⟨w.heap.size + 1, 1, none⟩ = some (.int .i64 b2) ∧ w'.cell? ⟨bp, 2, none⟩ = some (.string key) ∧ (Instr.lookup 111 mv (.agg #[.int .i64 k1, .int .i64 k2]) false).run Tryz.prog w' = .ok (.agg #[.int .i64 p1, .int .i64 p2, .string ky]) w') hmxo hS0 ?_
  intro _
  refine wpAnyH_take (i := 0) (v := .pointer (some ⟨t, o, none⟩)) rfl (by kernel_rfl) (by kernel_rfl) (by kernel_rfl) (fun _ _ _ h => h) (Or.inl ⟨by kernel_rfl, fun w hSw => ?_⟩) hS0 ?_
  · obtain ⟨e1, e2, e3, e4, e5, e6, e7, e8⟩ := hSw; go_simp
  simp only [Act.put, List.getElem_toArray, List.getElem_cons_succ, List.getElem_cons_zero, List.setIfInBounds_toArray, List.set_cons_zero, List.set_cons_succ]
  refine wpAnyH_take (i := 1) (v := .pointer (some ⟨t, o, none⟩)) rfl (by kernel_rfl) (by kernel_rfl) (by kernel_rfl) (fun _ _ _ h => h) (Or.inl ⟨by kernel_rfl, fun w hSw => ?_⟩) hS0 ?_
  · obtain ⟨e1, e2, e3, e4, e5, e6, e7, e8⟩ := hSw; go_simp
  simp only [Act.put, List.getElem_toArray, List.getElem_cons_succ, List.getElem_cons_zero, List.setIfInBounds_toArray, List.set_cons_zero, List.set_cons_succ]
  refine wpAnyH_take (i := 2) (v := .pointer (some ⟨t, o, none⟩)) rfl (by kernel_rfl) (by kernel_rfl) (by kernel_rfl) (fun _ _ _ h => h) (Or.inl ⟨by kernel_rfl, fun w hSw => ?_⟩) hS0 ?_
  · obtain ⟨e1, e2, e3, e4, e5, e6, e7, e8⟩ := hSw; go_simp
  simp only [Act.put, List.getElem_toArray, List.getElem_cons_succ, List.getElem_cons_zero, List.setIfInBounds_toArray, List.set_cons_zero, List.set_cons_succ]
  refine wpAnyH_take (i := 3) (v := mv) rfl (by kernel_rfl) (by kernel_rfl) (by kernel_rfl) (fun _ _ _ h => h) (Or.inl ⟨by kernel_rfl, fun w hSw => ?_⟩) hS0 ?_
  · obtain ⟨e1, e2, e3, e4, e5, e6, e7, e8⟩ := hSw; go_simp
  simp only [Act.put, List.getElem_toArray, List.getElem_cons_succ, List.getElem_cons_zero, List.setIfInBounds_toArray, List.set_cons_zero, List.set_cons_succ]
  refine wpAnyH_take (i := 4) (v := .agg #[.int .i64 k1, .int .i64 k2]) rfl (by kernel_rfl) (by kernel_rfl) (by kernel_rfl) (fun _ _ _ h => h) (Or.inl ⟨by kernel_rfl, fun w hSw => ?_⟩) hS0 ?_
  · obtain ⟨e1, e2, e3, e4, e5, e6, e7, e8⟩ := hSw; go_simp
  simp only [Act.put, List.getElem_toArray, List.getElem_cons_succ, List.getElem_cons_zero, List.setIfInBounds_toArray, List.set_cons_zero, List.set_cons_succ]
  refine wpAnyH_take (i := 5) (v := .agg #[.int .i64 p1, .int .i64 p2, .string ky]) rfl (by kernel_rfl) (by kernel_rfl) (by kernel_rfl) (fun _ _ _ h => h) (Or.inl ⟨by kernel_rfl, fun w hSw => ?_⟩) hS0 ?_
  · obtain ⟨e1, e2, e3, e4, e5, e6, e7, e8⟩ := hSw; go_simp
  simp only [Act.put, List.getElem_toArray, List.getElem_cons_succ, List.getElem_cons_zero, List.setIfInBounds_toArray, List.set_cons_zero, List.set_cons_succ]
  refine wpAnyH_take (i := 6) (v := .string ky) rfl (by kernel_rfl) (by kernel_rfl) (by kernel_rfl) (fun _ _ _ h => h) (Or.inl ⟨by kernel_rfl, fun w hSw => ?_⟩) hS0 ?_
  · obtain ⟨e1, e2, e3, e4, e5, e6, e7, e8⟩ := hSw; go_simp
  simp only [Act.put, List.getElem_toArray, List.getElem_cons_succ, List.getElem_cons_zero, List.setIfInBounds_toArray, List.set_cons_zero, List.set_cons_succ]
  refine wpAnyH_take (i := 7) (v := .pointer (some ⟨bp, 2, none⟩)) rfl (by kernel_rfl) (by kernel_rfl) (by kernel_rfl) (fun _ _ _ h => h) (Or.inl ⟨by kernel_rfl, fun w hSw => ?_⟩) hS0 ?_
  · obtain ⟨e1, e2, e3, e4, e5, e6, e7, e8⟩ := hSw; go_simp
  simp only [Act.put, List.getElem_toArray, List.getElem_cons_succ, List.getElem_cons_zero, List.setIfInBounds_toArray, List.set_cons_zero, List.set_cons_succ]
  refine wpAnyH_take (i := 8) (v := .string key) rfl (by kernel_rfl) (by kernel_rfl) (by kernel_rfl) (fun _ _ _ h => h) (Or.inl ⟨by kernel_rfl, fun w hSw => ?_⟩) hS0 ?_
  · obtain ⟨e1, e2, e3, e4, e5, e6, e7, e8⟩ := hSw; go_simp
  simp only [Act.put, List.getElem_toArray, List.getElem_cons_succ, List.getElem_cons_zero, List.setIfInBounds_toArray, List.set_cons_zero, List.set_cons_succ]
  refine wpAnyH_take (i := 10) (v := .agg #[.int .i64 k1, .int .i64 k2]) rfl (by kernel_rfl) (by kernel_rfl) (by kernel_rfl) (fun _ _ _ h => h) (Or.inl ⟨by kernel_rfl, fun w hSw => ?_⟩) hS0 ?_
  · obtain ⟨e1, e2, e3, e4, e5, e6, e7, e8⟩ := hSw; go_simp
  simp only [Act.put, List.getElem_toArray, List.getElem_cons_succ, List.getElem_cons_zero, List.setIfInBounds_toArray, List.set_cons_zero, List.set_cons_succ]
  refine wpAnyH_take (i := 11) (v := .agg #[.int .i64 b1, .int .i64 b2]) rfl (by kernel_rfl) (by kernel_rfl) (by kernel_rfl) (fun _ _ _ h => h) (Or.inl ⟨by kernel_rfl, fun w hSw => ?_⟩) hS0 ?_
  · obtain ⟨e1, e2, e3, e4, e5, e6, e7, e8⟩ := hSw; go_simp
  simp only [Act.put, List.getElem_toArray, List.getElem_cons_succ, List.getElem_cons_zero, List.setIfInBounds_toArray, List.set_cons_zero, List.set_cons_succ]
  refine wpAnyH_ready (rs := [9]) (by kernel_rfl) (by simp) ?_
  refine AllReadyH.cons rfl (fun K hK => ?_) AllReadyH.nil
  go_simp
  refine (scmp_any ky key _).mono ?_
  rintro e U1 ⟨rfl, rfl⟩

  refine hK.out _ _ hS0 (fun _ => ?_)
  clear hK K

  refine wpAnyH_ready (rs := [12]) (by kernel_rfl) (by simp) ?_
  refine AllReadyH.cons rfl (fun K hK => ?_) AllReadyH.nil
  go_simp
  refine (torder_any (k1, k2) (b1, b2) _).mono ?_
  rintro e U2 ⟨rfl, hb1⟩
  have HB1 : Hid (Below W0.heap.size W0 U2) := hid (HB0.out.trans (hb1.mono HB0.out.size))
  have hS1 := HS.out _ HB1.out
  refine hK.out _ _ hS1 (fun _ => ?_)
  clear hK K

  refine wpAnyH_ready (rs := [13]) (by kernel_rfl) (by simp) ?_
  refine AllReadyH.cons rfl (fun K hK => ?_) AllReadyH.nil
  go_simp
  have HB2 : Hid (Below W0.heap.size W0 (U2.alloc (.cells #[.int .i64 (cmpS ky key), .int .i64 (ordI (k1, k2) (b1, b2))] 3))) := hid (HB1.out.alloc HB1.out.size _)
  have hS2 := HS.out _ HB2.out
  refine hK.out _ _ hS2 (fun _ => ?_)
  clear hK K
  have hA := World.alloc_heap_new U2 (.cells #[.int .i64 (cmpS ky key), .int .i64 (ordI (k1, k2) (b1, b2))] 3)
  have hor := or_any U2.heap.size 2 (cmpS ky key) (ordI (k1, k2) (b1, b2)) (U2.alloc (.cells #[.int .i64 (cmpS ky key), .int .i64 (ordI (k1, k2) (b1, b2))] 3)) (by simp only [World.cell?, hA]; rfl) (by simp only [World.cell?, hA]; rfl)
  refine wpAnyH_ready (rs := [14]) (by kernel_rfl) (by simp) ?_
  refine AllReadyH.cons rfl (fun K hK => ?_) AllReadyH.nil
  go_simp
  refine (hor).mono ?_
  rintro e U3 ⟨rfl, rfl⟩

  refine hK.out _ _ hS2 (fun _ => ?_)
  clear hK K

  refine wpAnyH_take (i := 15) (v := .int .i64 (orI (cmpS ky key) (ordI (k1, k2) (b1, b2)))) rfl (by kernel_rfl) (by kernel_rfl) (by kernel_rfl) (fun _ _ _ h => h) (Or.inl ⟨by kernel_rfl, fun w hSw => ?_⟩) hS2 ?_
  · obtain ⟨e1, e2, e3, e4, e5, e6, e7, e8⟩ := hSw; go_simp
  simp only [Act.put, List.getElem_toArray, List.getElem_cons_succ, List.getElem_cons_zero, List.setIfInBounds_toArray, List.set_cons_zero, List.set_cons_succ]
  refine wpAnyH_done (by kernel_rfl) ?_ _
  go_wp2
  go_ret
  exact ⟨by rw [hr.out]; rfl, hB0.trans (HB2.out.mono hB0.size)⟩
end

section

theorem rank_lt {S : List Sp} (hn : (S.map Sp.b).Nodup) {x : Sp} (hx : x ∈ S) (s : Sp) : decide (rankI S x.b s.b s.k < 0) = kdl x s := by
  have e : ((lk S x.b).getD pl0).2 = x.k := by rw [lk_mem hn hx]; rfl
  unfold rankI
  rw [e]
  unfold orI cmpS ordI kdl
  cases h1 : bl (kb x.k) (kb s.k) with
  | true => simp
  | false =>
    cases h2 : bl (kb s.k) (kb x.k) with
    | true =>
      have hne : ¬ kb x.k = kb s.k := fun e' => by rw [e', bl_irrefl] at h2; cases h2
      simp [hne]
    | false =>
      have he : kb x.k = kb s.k := by
        by_cases hq : kb x.k = kb s.k
        · exact hq
        · rw [bl_total h1 hq] at h2; cases h2
      cases h3 : dl x.b s.b
      · cases h4 : dl s.b x.b <;> simp [he]
      · simp [he]
end
end Go.Proofs.YtnmdcdphpcpojaaGreatDoor
