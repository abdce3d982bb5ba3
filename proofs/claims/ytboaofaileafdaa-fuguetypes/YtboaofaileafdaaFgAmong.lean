/- among: a row of characters with one more, at its place. -/
import Derived.Test.YtboaofaileafdaaFgSearch
namespace Go.Proofs.Ytboaofaileafdaa
open Go.RowKit
open Go.Sort (grow)

theorem below_grownN {w w' : World} (h : RowKit.Below w.heap.size w w') (r : Option Nat) : w.grownBy w' r := ⟨h.os, h.tape, h.output, h.size, fun k hk _ => h.block k hk⟩

theorem own_keepP {w w' : World} {base e z : Nat} {v : Value} {n : Nat} {xs : List Value} (h : w.ownsRow base e z v n xs) (hb : RowKit.Below w.heap.size w w') : w'.ownsRow base e z v n xs := World.ownsRow.kept h (below_grownN hb none) (by cases v.ownBlock <;> simp)

theorem prow_one (gs : List Nat) : ∀ y ∈ prow gs, y.oneCell' = true := fun y hy => by
  obtain ⟨g, _, rfl⟩ := List.mem_map.1 hy
  rfl

theorem prow_ins (gs : List Nat) (k g : Nat) : (prow gs).take k ++ [pv g] ++ (prow gs).drop k = prow (gs.take k ++ [g] ++ gs.drop k) := by simp [prow]

set_option maxRecDepth 100000 in
set_option maxHeartbeats 2000000 in
theorem among_any (base : Nat) (v : Value) (n : Nat) (gs : List Nat) (ds : List Dt) (gc : Nat) (y : Dt) (w : World) (hown : w.ownsRow base 72 1 v n (prow gs)) (hr : CR w gs ds) (hy : IdAt w gc y) (hn : n ≤ 1000000) (hbase : base ≤ w.heap.size) (ha : Up ds) :
    Calls Try.prog 33 #[v, pv gc] w fun e w' => ∃ g c, e = .returned (.slice (some ⟨g, 0, none⟩) (n + 1) c) ∧ w'.ownsRow base 72 1 (.slice (some ⟨g, 0, none⟩) (n + 1) c) (n + 1) (prow (gs.take (aheadOf ds y) ++ [gc] ++ gs.drop (aheadOf ds y))) ∧ w.grownBy w' v.ownBlock ∧ (v.ownBlock = some g ∨ w.heap.size ≤ g) := by
  obtain ⟨a, c, rfl, hpp⟩ := own_pp hown
  have hk : aheadOf ds y ≤ n := by have := aheadOf_le ds y; have := hr.len; have := hpp.len; omega
  have hS := fgsearch_any a n c gs ds gc y w hpp hr hy hn ha
  have HOWN := hid hown
  have hob : ∀ b, (Value.slice a n c).ownBlock = some b → b < w.heap.size := fun b hb => (World.ownsRow.lt hown b hb).2
  have HOB := hid hob
  have hI : ∀ w1, RowKit.Below w.heap.size w w1 → Calls Try.prog 55 #[.slice a n c, .int .i64 (aheadOf ds y : Nat), .slice (some ⟨w1.heap.size, 0, none⟩) 1 1] (w1.alloc (.cells #[pv gc] 72)) fun e w' =>
      ∃ g c', e = .returned (.slice (some ⟨g, 0, none⟩) (n + 1) c') ∧ w'.ownsRow base 72 1 (.slice (some ⟨g, 0, none⟩) (n + 1) c') (n + 1) (prow (gs.take (aheadOf ds y) ++ [gc] ++ gs.drop (aheadOf ds y))) ∧ w.grownBy w' (Value.slice a n c).ownBlock ∧ ((Value.slice a n c).ownBlock = some g ∨ w.heap.size ≤ g) := fun w1 hb => by
    have hA : RowKit.Below w.heap.size w (w1.alloc (.cells #[pv gc] 72)) := below2 hb ((Far.refl w1).alloc _).below
    refine (fginsert_any base (.slice a n c) n (aheadOf ds y) w1.heap.size (prow gs) (pv gc) _ hk hn (Nat.le_trans hbase hA.size) (own_keepP HOWN.out hA) (fun e => by have := HOB.out _ e; have := hb.size; omega) (MapKept.heap_alloc w1 _).1 (prow_one gs) rfl).mono ?_
    rintro e w' ⟨g, c', rfl, h2, h3, h4⟩
    refine ⟨g, c', rfl, by rw [← prow_ins]; exact h2, (below_grownN hA _).trans h3, ?_⟩
    rcases h4 with h4 | h4
    · exact Or.inl h4
    · exact Or.inr (by rw [h4]; exact hA.size)
  generalize aheadOf ds y = k at *
  generalize gs.take k ++ [gc] ++ gs.drop k = gs' at *
  have HI := hid hI
  have hcm := hpp.cap
  have hcx := hpp.max
  unfold maxLen at hcx
  clear hown hpp hr hob hI hy
  go_enter Try.func33, Try.ntmps33
  go_wp2_with (first
    | (go_at_call 55; refine (HI.out _ hB1).mono ?_; rintro e w2 ⟨g, c', rfl, h2, h3, h4⟩)
    | (go_at_call 53; refine hS.mono ?_; rintro e w1 ⟨rfl, hB1⟩))
  go_ret
  exact ⟨g, c', rfl, h2, h3, h4⟩
end Go.Proofs.Ytboaofaileafdaa
