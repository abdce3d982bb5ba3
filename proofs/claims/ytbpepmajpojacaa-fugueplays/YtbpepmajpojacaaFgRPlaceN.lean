/- The reference: Place, refused. -/
import Derived.Test.YtbpepmajpojacaaFgRDots
import Derived.Test.YtbpepmajpojacaaFgRPlaceM
set_option linter.unusedVariables false
set_option linter.unusedSimpArgs false
namespace Go.Proofs.Ytbpepmajpojacaa
open Go.RowKit

theorem plcI_no {T : List Cr} {i : Int} (h : i < 0 ∨ ((seenC T).length : Int) < i) : plcI T i = ((0, 0), 0, 41) := by
  have : leftOf (seenC T) i = none := by
    unfold leftOf
    rw [if_neg (by omega)]
    by_cases h1 : 1 ≤ i
    · rw [if_pos h1, List.getElem?_eq_none (by omega)]
      rfl
    · rw [if_neg h1]
  unfold plcI
  rw [this]

set_option maxRecDepth 100000 in
set_option maxHeartbeats 4000000 in
theorem rplace_no (a : Option Addr) (n c : Nat) (T : List Cr) (hT : WT T) (hn : n ≤ 100000) (i : Int) (hi : i < 0 ∨ ((seenC T).length : Int) < i) (w : World) (h : RT w a n c T) :
    Calls Try.prog 38 #[.agg #[.slice a n c], .int .i64 i] w fun e w' => e = .returned (.tuple #[dv (plcI T i).1, .int .i64 (plcI T i).2.1, .int .i64 (plcI T i).2.2]) ∧ Below w.heap.size w w' := by
  have mixed := mixed
  rw [plcI_no hi]
  obtain ⟨W0, hW0⟩ : ∃ W0, W0 = (w.alloc (.cells #[.slice a n c] 30)).alloc (.cells #[.int .i64 0, .int .i64 0] 24) := ⟨_, rfl⟩
  have hB0 : Below w.heap.size w W0 := by rw [hW0]; exact ((Below.refl _ w).alloc (Nat.le_refl _) _).alloc (by simp) _
  have hb2 : W0.heap[w.heap.size + 1]? = some (.cells #[.int .i64 0, .int .i64 0] 24 (0, 0)) := by
    rw [hW0]
    have := World.alloc_heap_new (w.alloc (.cells #[.slice a n c] 30)) (.cells #[.int .i64 0, .int .i64 0] 24)
    rwa [World.size_alloc] at this
  have hl2 := (Array.getElem?_eq_some_iff.1 hb2).1
  have hd := rdots_any a n c T hT hn W0 (h.below hB0)
  have hcall : Calls Try.prog 35 #[.agg #[.slice a n c]] W0 fun e w1 => ∃ a1 c1, e = .returned (.slice a1 (seenC T).length c1) ∧ w1.cell? ⟨w.heap.size + 1, 0, none⟩ = some (.int .i64 0) ∧ w1.cell? ⟨w.heap.size + 1, 1, none⟩ = some (.int .i64 0) ∧ w1.frozen? ⟨w.heap.size + 1, 0, none⟩ = false ∧ w1.frozen? ⟨w.heap.size + 1, 1, none⟩ = false ∧ w.heap.size + 1 < w1.heap.size ∧ Hid (Below w.heap.size w w1 ∧ w1.heap[w.heap.size + 1]? = some (.cells #[.int .i64 0, .int .i64 0] 24 (0, 0))) := hd.mono (fun e w1 hg => by
    obtain ⟨a1, c1, he, hp, hb⟩ := hg.ans
    rw [List.length_map] at he
    have g2 := (hb.block _ hl2).trans hb2
    exact ⟨a1, c1, he, by simp [World.cell?, g2], by simp [World.cell?, g2], by simp [World.frozen?, g2], by simp [World.frozen?, g2], (Array.getElem?_eq_some_iff.1 g2).1, hid ⟨hB0.trans (hb.mono hB0.size), g2⟩⟩)
  have HW := hid hW0
  obtain ⟨m, hm⟩ : ∃ m, m = (seenC T).length := ⟨_, rfl⟩
  rw [← hm] at hcall hi
  have hmN : m ≤ 100000 := by
    rw [hm]
    refine Nat.le_trans (List.length_filter_le _ _) ?_
    rw [allC_len hT, h.len]
    exact hn
  clear hd hb2 hl2 hW0 hm h
  rcases hi with hi | hi
  · have b1 : decide (i < 0) = true := by simp [hi]
    clear hi
    go_enter Try.func38, Try.ntmps38
    go_wp2_with (go_at_call 35; rw [← HW.out]; refine hcall.mono ?_; rintro e w1 ⟨a1, c1, rfl, k0, k1, k2, k3, k4, hbH⟩)
    obtain ⟨q0, q1⟩ := dot_put hbH.out.2 (.int .i64 0) (.int .i64 0)
    have hbf : Below w.heap.size w ((w1.setCell ⟨w.heap.size + 1, 0, none⟩ (.int .i64 0)).setCell ⟨w.heap.size + 1, 1, none⟩ (.int .i64 0)) := (hbH.out.1.setCell (p := ⟨w.heap.size + 1, 0, none⟩) (by show w.heap.size ≤ w.heap.size + 1; omega) _).setCell (p := ⟨w.heap.size + 1, 1, none⟩) (by show w.heap.size ≤ w.heap.size + 1; omega) _
    exact bodyPost_ret (v := .tuple #[.agg #[.int .i64 0, .int .i64 0], .int .i64 0, .int .i64 41]) (by simp [results, Try.results38, go_sem, q0, q1]) rfl ⟨rfl, hbf⟩
  · have hi0 : ¬ i < 0 := by omega
    have b1 : decide (i < 0) = false := by simp; omega
    have b2 : decide ((m : Int) < i) = true := by simp [hi]
    clear hi0
    go_enter Try.func38, Try.ntmps38
    go_wp2_with (go_at_call 35; rw [← HW.out]; refine hcall.mono ?_; rintro e w1 ⟨a1, c1, rfl, k0, k1, k2, k3, k4, hbH⟩)
    obtain ⟨q0, q1⟩ := dot_put hbH.out.2 (.int .i64 0) (.int .i64 0)
    have hbf : Below w.heap.size w ((w1.setCell ⟨w.heap.size + 1, 0, none⟩ (.int .i64 0)).setCell ⟨w.heap.size + 1, 1, none⟩ (.int .i64 0)) := (hbH.out.1.setCell (p := ⟨w.heap.size + 1, 0, none⟩) (by show w.heap.size ≤ w.heap.size + 1; omega) _).setCell (p := ⟨w.heap.size + 1, 1, none⟩) (by show w.heap.size ≤ w.heap.size + 1; omega) _
    exact bodyPost_ret (v := .tuple #[.agg #[.int .i64 0, .int .i64 0], .int .i64 0, .int .i64 41]) (by simp [results, Try.results38, go_sem, q0, q1]) rfl ⟨rfl, hbf⟩
end Go.Proofs.Ytbpepmajpojacaa
