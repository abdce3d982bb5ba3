/- A text that is none: what each call tells. -/
import Derived.Test.YtboaofaileafdaaFgAwake
import Derived.Test.YtboaofaileafdaaFgArg
set_option linter.unusedVariables false
namespace Go.Proofs.Ytboaofaileafdaa
open Go.RowKit

set_option maxHeartbeats 1000000 in
theorem insert_nil (id at_ : Dt) (side ch : Int) (w : World) : Calls Try.prog 12 #[.pointer none, dv id, dv at_, .int .i64 side, .int .i64 ch] w fun e w' => e = .returned (.int .i64 1) ∧ Below w.heap.size w w' := by
  obtain ⟨k0, k1, k2, k3, hA⟩ := two_dots w id at_
  go_enter Try.func12, Try.ntmps12
  go_wp2
  go_ret
  exact ⟨rfl, hA⟩

set_option maxHeartbeats 1000000 in
theorem delete_nil (d : Dt) (w : World) : Calls Try.prog 10 #[.pointer none, dv d] w fun e w' => e = .returned (.int .i64 1) ∧ Below w.heap.size w w' := by
  have hA : Below w.heap.size w (w.alloc (.cells #[.int .i64 d.1, .int .i64 d.2] 24)) := (Below.refl _ w).alloc (Nat.le_refl _) _
  go_enter Try.func10, Try.ntmps10
  go_wp2
  go_ret
  exact ⟨rfl, hA⟩

set_option maxHeartbeats 1000000 in
theorem seen_nil (d : Dt) (w : World) : Calls Try.prog 17 #[.pointer none, dv d] w fun e w' => e = .returned (.bool false) ∧ Below w.heap.size w w' := by
  have hA : Below w.heap.size w (w.alloc (.cells #[.int .i64 d.1, .int .i64 d.2] 24)) := (Below.refl _ w).alloc (Nat.le_refl _) _
  go_enter Try.func17, Try.ntmps17
  go_wp2
  go_ret
  exact ⟨rfl, hA⟩

theorem size_nil (w : World) : Calls Try.prog 29 #[.pointer none] w fun e w' => e = .returned (.int .i64 0) ∧ Below w.heap.size w w' := by
  go_enter Try.func29, Try.ntmps29
  go_wp2
  go_ret
  exact ⟨rfl, Below.refl _ _⟩

set_option maxHeartbeats 1000000 in
theorem place_nil (i : Int) (w : World) : Calls Try.prog 25 #[.pointer none, .int .i64 i] w fun e w' => e = .returned (.tuple #[.agg #[.int .i64 0, .int .i64 0], .int .i64 0, .int .i64 1]) ∧ Below w.heap.size w w' := by
  have hA : Below w.heap.size w (w.alloc (.cells #[.int .i64 0, .int .i64 0] 24)) := (Below.refl _ w).alloc (Nat.le_refl _) _
  have hb : (w.alloc (.cells #[.int .i64 0, .int .i64 0] 24)).heap[w.heap.size]? = some (.cells #[.int .i64 0, .int .i64 0] 24 (0, 0)) := World.alloc_heap_new _ _
  have q0 : (w.alloc (.cells #[.int .i64 0, .int .i64 0] 24)).cell? ⟨w.heap.size, 0, none⟩ = some (.int .i64 0) := by simp only [World.cell?]; rw [hb]; rfl
  have q1 : (w.alloc (.cells #[.int .i64 0, .int .i64 0] 24)).cell? ⟨w.heap.size, 1, none⟩ = some (.int .i64 0) := by simp only [World.cell?]; rw [hb]; rfl
  go_enter Try.func25, Try.ntmps25
  go_wp2
  exact bodyPost_ret (v := .tuple #[.agg #[.int .i64 0, .int .i64 0], .int .i64 0, .int .i64 1]) (by simp [results, Try.results25, go_sem, q0, q1]) rfl ⟨rfl, hA⟩

theorem len_nil (w : World) : Calls Try.prog 28 #[.pointer none] w fun e w' => e = .returned (.int .i64 0) ∧ Below w.heap.size w w' := len_of (sight_none w (fun _ => none)) (by omega)

theorem row_none {w : World} {base e size : Nat} {v : Value} {xs : List Value} (h : w.ownsRow base e size v 0 xs) : ∃ a c, v = .slice a 0 c := by
  rcases h.2 with ⟨rfl, _⟩ | ⟨g, cap, cur, rfl, _⟩
  · exact ⟨_, _, rfl⟩
  · exact ⟨_, _, rfl⟩

theorem chars_nil (w : World) : Calls Try.prog 27 #[.pointer none] w fun e w' => ∃ a c, e = .returned (.slice a 0 c) ∧ Below w.heap.size w w' :=
  (chars_of (sight_none w (fun _ => none)) (rdc_none _ _) (by omega)).mono (fun e w' ⟨v, h1, h2, h3⟩ => by
    obtain ⟨a, c, rfl⟩ := row_none h2
    exact ⟨a, c, h1, h3⟩)
theorem dots_nil (w : World) : Calls Try.prog 24 #[.pointer none] w fun e w' => ∃ a c, e = .returned (.slice a 0 c) ∧ Below w.heap.size w w' :=
  (dots_of (sight_none w (fun _ => none)) (rdc_none _ _) (by omega)).mono (fun e w' ⟨v, h1, h2, h3⟩ => by
    obtain ⟨a, c, rfl⟩ := row_none h2
    exact ⟨a, c, h1, h3⟩)
theorem all_nil (w : World) : Calls Try.prog 22 #[.pointer none] w fun e w' => ∃ a c, e = .returned (.slice a 0 c) ∧ Below w.heap.size w w' :=
  (all_of (walk_none w (fun _ => none)) (rdc_none _ _) (by omega)).mono (fun e w' ⟨v, h1, h2, h3⟩ => by
    obtain ⟨a, c, rfl⟩ := row_none h2
    exact ⟨a, c, h1, h3⟩)
theorem string_nil (w : World) : Calls Try.prog 23 #[.pointer none] w fun e w' => e = .returned (.string ⟨#[]⟩) ∧ Below w.heap.size w w' :=
  string_of (sight_none w (fun _ => none)) (rdc_none _ _) (fun c hc => by simp at hc) (by omega)
theorem index_nil (d : Dt) (w : World) : Calls Try.prog 15 #[.pointer none, dv d] w fun e w' => e = .returned (.tuple #[.int .i64 0, .bool false]) ∧ Below w.heap.size w w' :=
  (index_of (walk_none w (fun _ => none)) (rdc_none _ _) (by omega) d).mono (fun e w' ⟨h1, h2⟩ => by
    rw [idxL_no (by simp)] at h1
    exact ⟨h1, h2⟩)

set_option maxRecDepth 100000 in
set_option maxHeartbeats 4000000 in
theorem none_walk (o : Fo) (i : Int) (w : World) : Calls Try.prog 7 #[.agg o.cells, .int .i64 i] w fun e w' => e = .returned (.bool true) ∧ Below w.heap.size w w' := by
  obtain ⟨wA, hwA⟩ : ∃ wA, wA = w.alloc (.cells #[.int .i64 o.kind, .int .i64 o.i0, .int .i64 o.i1, .int .i64 o.a0, .int .i64 o.a1, .int .i64 o.side, .int .i64 o.char] 32) := ⟨_, rfl⟩
  have hBA : Below w.heap.size w wA := by rw [hwA]; exact (Below.refl _ w).alloc (Nat.le_refl _) _
  have hblk : wA.heap[w.heap.size]? = some (.cells #[.int .i64 o.kind, .int .i64 o.i0, .int .i64 o.i1, .int .i64 o.a0, .int .i64 o.a1, .int .i64 o.side, .int .i64 o.char] 32 (0, 0)) := by rw [hwA]; exact World.alloc_heap_new _ _
  show Calls Try.prog 7 #[.agg #[.int .i64 o.kind, .int .i64 o.i0, .int .i64 o.i1, .int .i64 o.a0, .int .i64 o.a1, .int .i64 o.side, .int .i64 o.char], .int .i64 i] w _
  have hwAH := hid hwA
  clear hwA
  go_enter Try.func7, Try.ntmps7
  have hfacts : ∀ w1, Below wA.heap.size wA w1 → w1.cell? ⟨w.heap.size, 1, none⟩ = some (.int .i64 o.i0) ∧ w1.cell? ⟨w.heap.size, 2, none⟩ = some (.int .i64 o.i1) ∧ w1.cell? ⟨w.heap.size, 3, none⟩ = some (.int .i64 o.a0) ∧ w1.cell? ⟨w.heap.size, 4, none⟩ = some (.int .i64 o.a1) ∧ w1.cell? ⟨w.heap.size, 5, none⟩ = some (.int .i64 o.side) ∧ w1.cell? ⟨w.heap.size, 6, none⟩ = some (.int .i64 o.char) := fun w1 hb => by
    have hb1 := (hb.block _ (Array.getElem?_eq_some_iff.1 hblk).1).trans hblk
    exact ⟨by simp [World.cell?, hb1], by simp [World.cell?, hb1], by simp [World.cell?, hb1], by simp [World.cell?, hb1], by simp [World.cell?, hb1], by simp [World.cell?, hb1]⟩
  have haw : Calls Try.prog 8 #[] wA fun e w1 => e = .returned (.bool true) ∧ Below wA.heap.size wA w1 := awake_any wA
  have hix : ∀ w1, Below wA.heap.size wA w1 → Calls Try.prog 15 #[.pointer none, .agg #[.int .i64 o.i0, .int .i64 o.i1]] w1 fun e w2 => e = .returned (.tuple #[.int .i64 0, .bool false]) ∧ Below wA.heap.size wA w2 := fun w1 h1 => (index_nil o.id w1).mono (fun e w2 ⟨k1, k2⟩ => ⟨k1, h1.trans (k2.mono h1.size)⟩)
  have hpl : ∀ w1, Below wA.heap.size wA w1 → Calls Try.prog 25 #[.pointer none, .int .i64 i] w1 fun e w2 => e = .returned (.tuple #[.agg #[.int .i64 0, .int .i64 0], .int .i64 0, .int .i64 1]) ∧ Below wA.heap.size wA w2 := fun w1 h1 => (place_nil i w1).mono (fun e w2 ⟨k1, k2⟩ => ⟨k1, h1.trans (k2.mono h1.size)⟩)
  go_upto_region 5 with (go_at_call 8; (try rw [← hwAH.out]); refine haw.mono ?_; rintro e w1 ⟨rfl, h1⟩)
  obtain ⟨f1, f2, f3, f4, f5, f6⟩ := hfacts w1 h1
  go_upto_region 6 with (go_at_call 15; refine (hix _ h1).mono ?_; rintro e w2 ⟨rfl, h2⟩)
  go_upto_region 7 with (go_at_call 25; refine (hpl _ h2).mono ?_; rintro e w3 ⟨rfl, h3⟩)
  obtain ⟨q9, hq9⟩ : ∃ q9, q9 = w3.heap.size := ⟨_, rfl⟩
  obtain ⟨w4, hw4⟩ : ∃ w4, w4 = w3.alloc (.cells #[.int .i64 0, .int .i64 0] 24) := ⟨_, rfl⟩
  have h4 : Below wA.heap.size wA w4 := by rw [hw4]; exact h3.alloc h3.size _
  have hb9 : w4.heap[q9]? = some (.cells #[.int .i64 0, .int .i64 0] 24 (0, 0)) := by rw [hw4, hq9]; exact World.alloc_heap_new _ _
  rw [← hw4, ← hq9]
  clear hw4 hq9
  have hf4 : ∀ w1, Below w4.heap.size w4 w1 → w1.cell? ⟨w.heap.size, 1, none⟩ = some (.int .i64 o.i0) ∧ w1.cell? ⟨w.heap.size, 2, none⟩ = some (.int .i64 o.i1) ∧ w1.cell? ⟨w.heap.size, 3, none⟩ = some (.int .i64 o.a0) ∧ w1.cell? ⟨w.heap.size, 4, none⟩ = some (.int .i64 o.a1) ∧ w1.cell? ⟨w.heap.size, 5, none⟩ = some (.int .i64 o.side) ∧ w1.cell? ⟨w.heap.size, 6, none⟩ = some (.int .i64 o.char) ∧ w1.cell? ⟨q9, 0, none⟩ = some (.int .i64 0) ∧ w1.cell? ⟨q9, 1, none⟩ = some (.int .i64 0) := fun w1 hb => by
    have hb1 := (hb.block _ (Array.getElem?_eq_some_iff.1 hb9).1).trans hb9
    obtain ⟨a1, a2, a3, a4, a5, a6⟩ := hfacts w1 (h4.trans (hb.mono h4.size))
    exact ⟨a1, a2, a3, a4, a5, a6, by simp [World.cell?, hb1], by simp [World.cell?, hb1]⟩
  have r4 := Below.refl w4.heap.size w4
  obtain ⟨e1, e2, e3, e4, e5, e6, e7, e8⟩ := hf4 w4 r4
  have hin : ∀ w1, Below w4.heap.size w4 w1 → Calls Try.prog 12 #[.pointer none, .agg #[.int .i64 o.i0, .int .i64 o.i1], .agg #[.int .i64 o.a0, .int .i64 o.a1], .int .i64 o.side, .int .i64 o.char] w1 fun e w2 => e = .returned (.int .i64 1) ∧ Below w4.heap.size w4 w2 := fun w1 h1 => (insert_nil o.id o.at_ o.side o.char w1).mono (fun e w2 ⟨k1, k2⟩ => ⟨k1, h1.trans (k2.mono h1.size)⟩)
  have hde : ∀ w1, Below w4.heap.size w4 w1 → Calls Try.prog 10 #[.pointer none, .agg #[.int .i64 o.a0, .int .i64 o.a1]] w1 fun e w2 => e = .returned (.int .i64 1) ∧ Below w4.heap.size w4 w2 := fun w1 h1 => (delete_nil o.at_ w1).mono (fun e w2 ⟨k1, k2⟩ => ⟨k1, h1.trans (k2.mono h1.size)⟩)
  have hle : ∀ w1, Below w4.heap.size w4 w1 → Calls Try.prog 28 #[.pointer none] w1 fun e w2 => e = .returned (.int .i64 0) ∧ Below w4.heap.size w4 w2 := fun w1 h1 => (len_nil w1).mono (fun e w2 ⟨k1, k2⟩ => ⟨k1, h1.trans (k2.mono h1.size)⟩)
  have hsi : ∀ w1, Below w4.heap.size w4 w1 → Calls Try.prog 29 #[.pointer none] w1 fun e w2 => e = .returned (.int .i64 0) ∧ Below w4.heap.size w4 w2 := fun w1 h1 => (size_nil w1).mono (fun e w2 ⟨k1, k2⟩ => ⟨k1, h1.trans (k2.mono h1.size)⟩)
  have hch : ∀ w1, Below w4.heap.size w4 w1 → Calls Try.prog 27 #[.pointer none] w1 fun e w2 => ∃ a c, e = .returned (.slice a 0 c) ∧ Below w4.heap.size w4 w2 := fun w1 h1 => (chars_nil w1).mono (fun e w2 ⟨a, c, k1, k2⟩ => ⟨a, c, k1, h1.trans (k2.mono h1.size)⟩)
  have hst : ∀ w1, Below w4.heap.size w4 w1 → Calls Try.prog 23 #[.pointer none] w1 fun e w2 => e = .returned (.string ⟨#[]⟩) ∧ Below w4.heap.size w4 w2 := fun w1 h1 => (string_nil w1).mono (fun e w2 ⟨k1, k2⟩ => ⟨k1, h1.trans (k2.mono h1.size)⟩)
  have hdo : ∀ w1, Below w4.heap.size w4 w1 → Calls Try.prog 24 #[.pointer none] w1 fun e w2 => ∃ a c, e = .returned (.slice a 0 c) ∧ Below w4.heap.size w4 w2 := fun w1 h1 => (dots_nil w1).mono (fun e w2 ⟨a, c, k1, k2⟩ => ⟨a, c, k1, h1.trans (k2.mono h1.size)⟩)
  have hal : ∀ w1, Below w4.heap.size w4 w1 → Calls Try.prog 22 #[.pointer none] w1 fun e w2 => ∃ a c, e = .returned (.slice a 0 c) ∧ Below w4.heap.size w4 w2 := fun w1 h1 => (all_nil w1).mono (fun e w2 ⟨a, c, k1, k2⟩ => ⟨a, c, k1, h1.trans (k2.mono h1.size)⟩)
  have hse : ∀ w1, Below w4.heap.size w4 w1 → Calls Try.prog 17 #[.pointer none, .agg #[.int .i64 o.i0, .int .i64 o.i1]] w1 fun e w2 => e = .returned (.bool false) ∧ Below w4.heap.size w4 w2 := fun w1 h1 => (seen_nil o.id w1).mono (fun e w2 ⟨k1, k2⟩ => ⟨k1, h1.trans (k2.mono h1.size)⟩)
  clear h1 h2 h3 f1 f2 f3 f4 f5 f6 hix hpl haw
  go_wp2_with (first
    | (go_at_call 12; refine (hin _ r4).mono ?_; rintro e w5 ⟨rfl, r5⟩; obtain ⟨y1, y2, y3, y4, y5, y6, y7, y8⟩ := hf4 w5 r5)
    | (go_at_call 10; refine (hde _ r5).mono ?_; rintro e w6 ⟨rfl, r6⟩; obtain ⟨y1, y2, y3, y4, y5, y6, y7, y8⟩ := hf4 w6 r6)
    | (go_at_call 28; refine (hle _ r6).mono ?_; rintro e w7 ⟨rfl, r7⟩; obtain ⟨y1, y2, y3, y4, y5, y6, y7, y8⟩ := hf4 w7 r7)
    | (go_at_call 29; refine (hsi _ r7).mono ?_; rintro e w8 ⟨rfl, r8⟩; obtain ⟨y1, y2, y3, y4, y5, y6, y7, y8⟩ := hf4 w8 r8)
    | (go_at_call 27; refine (hch _ r8).mono ?_; rintro e w9 ⟨a4, c4, rfl, r9⟩; obtain ⟨y1, y2, y3, y4, y5, y6, y7, y8⟩ := hf4 w9 r9)
    | (go_at_call 23; refine (hst _ r9).mono ?_; rintro e w10 ⟨rfl, r10⟩; obtain ⟨y1, y2, y3, y4, y5, y6, y7, y8⟩ := hf4 w10 r10)
    | (go_at_call 24; refine (hdo _ r10).mono ?_; rintro e w11 ⟨a6, c6, rfl, r11⟩; obtain ⟨y1, y2, y3, y4, y5, y6, y7, y8⟩ := hf4 w11 r11)
    | (go_at_call 22; refine (hal _ r11).mono ?_; rintro e w12 ⟨a7, c7, rfl, r12⟩; obtain ⟨y1, y2, y3, y4, y5, y6, y7, y8⟩ := hf4 w12 r12)
    | (go_at_call 17; refine (hse _ r12).mono ?_; rintro e w13 ⟨rfl, r13⟩; obtain ⟨y1, y2, y3, y4, y5, y6, y7, y8⟩ := hf4 w13 r13))
  go_ret
  exact ⟨rfl, hBA.trans ((h4.trans (r13.mono h4.size)).mono hBA.size)⟩
end Go.Proofs.Ytboaofaileafdaa
