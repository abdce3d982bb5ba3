/- The first look. -/
import Derived.Test.YtplcohjpchfkkaaTrAwk
set_option linter.unusedVariables false
set_option linter.unusedSimpArgs false
namespace Go.Proofs.Ytplcohjpchfkkaa
open Go.RowKit

theorem tp_far {W W' : World} {t : Nat} {l : List Mv} {P Q : Nat → Prop} {X4 : World} (h : TP W t l P ∧ KP Q X4 W) (hq : ∀ j, Q j → P j) (hf : Far W W') : TP W' t l P ∧ KP Q X4 W' :=
  ⟨h.1.below hf.below, h.2.trans (KP.below hf.below (fun j hj => h.1.lt j (hq j hj)))⟩

set_option maxRecDepth 100000 in
set_option maxHeartbeats 8000000 in
theorem tawake_any (w : World) : Calls Try.prog 9 #[] w fun e w' => e = .returned (.bool true) ∧ Below w.heap.size w w' := by
  have hmxo : Try.prog.follows .mixedOrders = true := by kernel_rfl
  have mixed := mixed
  obtain ⟨t, ht⟩ : ∃ t, t = w.heap.size := ⟨_, rfl⟩
  have HN := (new_tp w).mono (R' := fun e w' => e = .returned (.pointer (some ⟨t, 0, none⟩)) ∧ Hid (TP w' t [] (fun j => j < w.heap.size) ∧ Below w.heap.size w w')) (fun e w' h => by rw [ht]; exact ⟨h.1, hid h.2⟩)
  clear ht
  go_enter Try.func9, Try.ntmps9
  go_wp2_with (go_at_call 10; refine HN.mono ?_; rintro e X ⟨rfl, HX⟩)
  clear HN
  obtain ⟨X4, hX4⟩ : ∃ X4, X4 = ((((X.alloc (.cells #[.int .i64 1, .int .i64 1] 24)).alloc (.cells #[.int .i64 1, .int .i64 2] 24)).alloc (.cells #[.int .i64 1, .int .i64 3] 24)).alloc (.cells #[.int .i64 2, .int .i64 1] 24)) := ⟨_, rfl⟩
  rw [← hX4]
  obtain ⟨Q, hQ⟩ : ∃ Q : Nat → Prop, Q = (fun j => j < w.heap.size ∨ (X.heap.size ≤ j ∧ j < X.heap.size + 4)) := ⟨_, rfl⟩
  have hz4 : X4.heap.size = X.heap.size + 4 := by rw [hX4]; simp
  have hb4 : Below X.heap.size X X4 := by rw [hX4]; exact (((((Below.refl _ X).alloc (Nat.le_refl _) _).alloc (by simp) _).alloc (by simp <;> omega) _).alloc (by simp <;> omega) _)
  have b0 : X4.heap[X.heap.size]? = some (.cells #[.int .i64 1, .int .i64 1] 24 (0, 0)) := by
    rw [hX4]
    exact (Below.heap_alloc _ _ _ (by simp <;> omega)).trans ((Below.heap_alloc _ _ _ (by simp <;> omega)).trans ((Below.heap_alloc _ _ _ (by simp)).trans (World.alloc_heap_new X _)))
  have b1 : X4.heap[X.heap.size + 1]? = some (.cells #[.int .i64 1, .int .i64 2] 24 (0, 0)) := by
    rw [hX4]
    have := World.alloc_heap_new (X.alloc (.cells #[.int .i64 1, .int .i64 1] 24)) (.cells #[.int .i64 1, .int .i64 2] 24)
    rw [World.size_alloc] at this
    exact (Below.heap_alloc _ _ _ (by simp <;> omega)).trans ((Below.heap_alloc _ _ _ (by simp)).trans this)
  have b2 : X4.heap[X.heap.size + 1 + 1]? = some (.cells #[.int .i64 1, .int .i64 3] 24 (0, 0)) := by
    rw [hX4]
    have := World.alloc_heap_new ((X.alloc (.cells #[.int .i64 1, .int .i64 1] 24)).alloc (.cells #[.int .i64 1, .int .i64 2] 24)) (.cells #[.int .i64 1, .int .i64 3] 24)
    rw [World.size_alloc, World.size_alloc] at this
    exact (Below.heap_alloc _ _ _ (by simp)).trans this
  have b3 : X4.heap[X.heap.size + 1 + 1 + 1]? = some (.cells #[.int .i64 2, .int .i64 1] 24 (0, 0)) := by
    rw [hX4]
    have := World.alloc_heap_new (((X.alloc (.cells #[.int .i64 1, .int .i64 1] 24)).alloc (.cells #[.int .i64 1, .int .i64 2] 24)).alloc (.cells #[.int .i64 1, .int .i64 3] 24)) (.cells #[.int .i64 2, .int .i64 1] 24)
    rw [World.size_alloc, World.size_alloc, World.size_alloc] at this
    exact this
  have HC : Hid (∀ V, KP Q X4 V → V.cell? ⟨X.heap.size, 0, none⟩ = some (.int .i64 1) ∧ V.cell? ⟨X.heap.size, 1, none⟩ = some (.int .i64 1) ∧ V.cell? ⟨X.heap.size + 1, 0, none⟩ = some (.int .i64 1) ∧ V.cell? ⟨X.heap.size + 1, 1, none⟩ = some (.int .i64 2) ∧ V.cell? ⟨X.heap.size + 1 + 1, 0, none⟩ = some (.int .i64 1) ∧ V.cell? ⟨X.heap.size + 1 + 1, 1, none⟩ = some (.int .i64 3) ∧ V.cell? ⟨X.heap.size + 1 + 1 + 1, 0, none⟩ = some (.int .i64 2) ∧ V.cell? ⟨X.heap.size + 1 + 1 + 1, 1, none⟩ = some (.int .i64 1)) := hid (fun V hV => by
    have q : ∀ j, X.heap.size ≤ j → j < X.heap.size + 4 → V.heap[j]? = X4.heap[j]? := fun j h1 h2 => hV.keep j (by rw [hQ]; exact Or.inr ⟨h1, h2⟩)
    have e0 := (q _ (by omega) (by omega)).trans b0
    have e1 := (q _ (by omega) (by omega)).trans b1
    have e2 := (q _ (by omega) (by omega)).trans b2
    have e3 := (q _ (by omega) (by omega)).trans b3
    exact ⟨by simp [World.cell?, e0], by simp [World.cell?, e0], by simp [World.cell?, e1], by simp [World.cell?, e1], by simp [World.cell?, e2], by simp [World.cell?, e2], by simp [World.cell?, e3], by simp [World.cell?, e3]⟩)
  have S4 : Hid (TP X4.drew t [] Q ∧ KP Q X4 X4.drew) := hid ⟨(HX.out.1.turn (V := X4) (Q := Q) hb4.size (fun j hj _ => hb4.block j hj) (fun j hj => by
    rw [hQ] at hj
    rcases hj with hj | hj
    · exact Or.inl hj
    · exact Or.inr ⟨hj.1, by omega⟩)).drew, (KP.refl Q X4).drew⟩
  have HE : Hid (∀ V, KP Q X4 V → Below w.heap.size w V) := hid (fun V hV => by
    have k1 : KP (fun j => j < w.heap.size) X4 V := hV.mono (fun j hj => by rw [hQ]; exact Or.inl hj)
    exact HX.out.2.trans ((hb4.mono HX.out.2.size).trans k1.bel))
  have HRo : Hid (∀ W l, (TP W t l Q ∧ KP Q X4 W) → Calls Try.prog 19 #[] W fun e W' => e = .returned (.agg #[.int .i64 0, .int .i64 (-1)]) ∧ Hid (TP W' t l Q ∧ KP Q X4 W')) := hid (fun W l h => (root_any W).mono (fun e W' g => ⟨g.1, hid (tp_far h (fun j hj => hj) g.2)⟩))
  have HTr : Hid (∀ W l, (TP W t l Q ∧ KP Q X4 W) → Calls Try.prog 21 #[] W fun e W' => e = .returned (.agg #[.int .i64 0, .int .i64 (-2)]) ∧ Hid (TP W' t l Q ∧ KP Q X4 W')) := hid (fun W l h => (trash_any W).mono (fun e W' g => ⟨g.1, hid (tp_far h (fun j hj => hj) g.2)⟩))
  have HM1 : Hid (∀ W, (TP W t [] Q ∧ KP Q X4 W) → Calls Try.prog 12 #[.pointer (some ⟨t, 0, none⟩), .agg #[.int .i64 1, .int .i64 1], .int .i64 1, .agg #[.int .i64 1, .int .i64 1], .agg #[.int .i64 0, .int .i64 (-1)], .string ⟨#[110]⟩] W fun e W' => e = .returned (.int .i64 0) ∧ Hid (TP W' t [awA] Q ∧ KP Q X4 W')) := hid (fun W h => by
    have := move_tp awA h.1 ⟨⟨rfl, rfl⟩, ⟨rfl, rfl⟩, ⟨rfl, rfl⟩⟩ (by decide)
    rw [aw_1.1, aw_1.2] at this
    exact this.mono (fun e W' g => ⟨g.1, hid ⟨g.2.1, h.2.trans g.2.2⟩⟩))
  have HM2 : Hid (∀ W, (TP W t [awA] Q ∧ KP Q X4 W) → Calls Try.prog 12 #[.pointer (some ⟨t, 0, none⟩), .agg #[.int .i64 1, .int .i64 2], .int .i64 2, .agg #[.int .i64 1, .int .i64 2], .agg #[.int .i64 1, .int .i64 1], .string ⟨#[110]⟩] W fun e W' => e = .returned (.int .i64 0) ∧ Hid (TP W' t [awA, awB] Q ∧ KP Q X4 W')) := hid (fun W h => by
    have := move_tp awB h.1 ⟨⟨rfl, rfl⟩, ⟨rfl, rfl⟩, ⟨rfl, rfl⟩⟩ (by decide)
    rw [aw_2.1, aw_2.2] at this
    exact this.mono (fun e W' g => ⟨g.1, hid ⟨g.2.1, h.2.trans g.2.2⟩⟩))
  have HM3 : Hid (∀ W, (TP W t [awA, awB] Q ∧ KP Q X4 W) → Calls Try.prog 12 #[.pointer (some ⟨t, 0, none⟩), .agg #[.int .i64 1, .int .i64 3], .int .i64 3, .agg #[.int .i64 1, .int .i64 1], .agg #[.int .i64 1, .int .i64 2], .string ⟨#[110]⟩] W fun e W' => e = .returned (.int .i64 0) ∧ Hid (TP W' t [awA, awB, awC] Q ∧ KP Q X4 W')) := hid (fun W h => by
    have := move_tp awC h.1 ⟨⟨rfl, rfl⟩, ⟨rfl, rfl⟩, ⟨rfl, rfl⟩⟩ (by decide)
    rw [aw_3.1, aw_3.2] at this
    exact this.mono (fun e W' g => ⟨g.1, hid ⟨g.2.1, h.2.trans g.2.2⟩⟩))
  have HM4 : Hid (∀ W, (TP W t [awA, awB, awC] Q ∧ KP Q X4 W) → Calls Try.prog 12 #[.pointer (some ⟨t, 0, none⟩), .agg #[.int .i64 2, .int .i64 1], .int .i64 2, .agg #[.int .i64 1, .int .i64 2], .agg #[.int .i64 0, .int .i64 (-2)], .string ⟨#[110]⟩] W fun e W' => e = .returned (.int .i64 0) ∧ Hid (TP W' t [awA, awB, awD, awC] Q ∧ KP Q X4 W')) := hid (fun W h => by
    have := move_tp awD h.1 ⟨⟨rfl, rfl⟩, ⟨rfl, rfl⟩, ⟨rfl, rfl⟩⟩ (by decide)
    rw [aw_4.1, aw_4.2] at this
    exact this.mono (fun e W' g => ⟨g.1, hid ⟨g.2.1, h.2.trans g.2.2⟩⟩))
  have HT1 : Hid (∀ W, (TP W t [awA, awB, awC] Q ∧ KP Q X4 W) → Calls Try.prog 18 #[.pointer (some ⟨t, 0, none⟩), .agg #[.int .i64 1, .int .i64 3]] W fun e W' => e = .returned (.bool false) ∧ Hid (TP W' t [awA, awB, awC] Q ∧ KP Q X4 W')) := hid (fun W h => by
    have := took_tp (1, 3) h.1 ⟨rfl, rfl⟩
    rw [aw_5] at this
    exact this.mono (fun e W' g => ⟨g.1, hid ⟨g.2.1, h.2.trans g.2.2⟩⟩))
  have HP : Hid (∀ W, (TP W t [awA, awB, awD, awC] Q ∧ KP Q X4 W) → Calls Try.prog 20 #[.pointer (some ⟨t, 0, none⟩), .agg #[.int .i64 1, .int .i64 1]] W fun e W' => ∃ g o c, e = .returned (.slice (some ⟨g, o, none⟩) 2 c) ∧ 2 ≤ c ∧ Hid (TP W' t [awA, awB, awD, awC] (fun j => Q j ∨ ∃ ad, (some ⟨g, o, none⟩ : Option Addr) = some ad ∧ ad.block = j) ∧ KP Q X4 W' ∧ (W'.cell? ⟨X.heap.size, 0, none⟩ = some (.int .i64 1) ∧ W'.cell? ⟨X.heap.size, 1, none⟩ = some (.int .i64 1) ∧ W'.cell? ⟨X.heap.size + 1, 0, none⟩ = some (.int .i64 1) ∧ W'.cell? ⟨X.heap.size + 1, 1, none⟩ = some (.int .i64 2) ∧ W'.cell? ⟨X.heap.size + 1 + 1, 0, none⟩ = some (.int .i64 1) ∧ W'.cell? ⟨X.heap.size + 1 + 1, 1, none⟩ = some (.int .i64 3) ∧ W'.cell? ⟨X.heap.size + 1 + 1 + 1, 0, none⟩ = some (.int .i64 2) ∧ W'.cell? ⟨X.heap.size + 1 + 1 + 1, 1, none⟩ = some (.int .i64 1) ∧ W'.cell? ⟨g, o, none⟩ = some (.int .i64 1) ∧ W'.cell? ⟨g, o + 1, none⟩ = some (.int .i64 2) ∧ W'.cell? ⟨g, o + 2, none⟩ = some (.int .i64 0) ∧ W'.cell? ⟨g, o + 3, none⟩ = some (.int .i64 (-2))))) := hid (fun W h => by
    have := path_tp (1, 1) h.1 ⟨rfl, rfl⟩
    rw [aw_7] at this
    refine this.mono (fun e W' k => ?_)
    obtain ⟨a, c, e1, hps, h2, h3⟩ := k
    obtain ⟨g, o, rfl, hg, hcell⟩ := hps.at (by decide)
    have hcap := hps.cap
    obtain ⟨x0, x1⟩ := hcell 0 (by decide)
    obtain ⟨x2, x3⟩ := hcell 1 (by decide)
    have k4 := h.2.trans h3
    obtain ⟨y1, y2, y3, y4, y5, y6, y7, y8⟩ := HC.out _ k4
    exact ⟨g, o, c, e1, hcap, hid ⟨h2, k4, y1, y2, y3, y4, y5, y6, y7, y8, x0, x1, x2, x3⟩⟩)
  have HS : Hid (∀ W V g o, (TP W t [awA, awB, awD, awC] (fun j => Q j ∨ ∃ ad, (some ⟨g, o, none⟩ : Option Addr) = some ad ∧ ad.block = j) ∧ KP Q X4 W ∧ (W.cell? ⟨X.heap.size, 0, none⟩ = some (.int .i64 1) ∧ W.cell? ⟨X.heap.size, 1, none⟩ = some (.int .i64 1) ∧ W.cell? ⟨X.heap.size + 1, 0, none⟩ = some (.int .i64 1) ∧ W.cell? ⟨X.heap.size + 1, 1, none⟩ = some (.int .i64 2) ∧ W.cell? ⟨X.heap.size + 1 + 1, 0, none⟩ = some (.int .i64 1) ∧ W.cell? ⟨X.heap.size + 1 + 1, 1, none⟩ = some (.int .i64 3) ∧ W.cell? ⟨X.heap.size + 1 + 1 + 1, 0, none⟩ = some (.int .i64 2) ∧ W.cell? ⟨X.heap.size + 1 + 1 + 1, 1, none⟩ = some (.int .i64 1) ∧ W.cell? ⟨g, o, none⟩ = some (.int .i64 1) ∧ W.cell? ⟨g, o + 1, none⟩ = some (.int .i64 2) ∧ W.cell? ⟨g, o + 2, none⟩ = some (.int .i64 0) ∧ W.cell? ⟨g, o + 3, none⟩ = some (.int .i64 (-2)))) → TP V t [awA, awB, awD, awC] (fun j => Q j ∨ ∃ ad, (some ⟨g, o, none⟩ : Option Addr) = some ad ∧ ad.block = j) → KP (fun j => Q j ∨ ∃ ad, (some ⟨g, o, none⟩ : Option Addr) = some ad ∧ ad.block = j) W V → TP V t [awA, awB, awD, awC] (fun j => Q j ∨ ∃ ad, (some ⟨g, o, none⟩ : Option Addr) = some ad ∧ ad.block = j) ∧ KP Q X4 V ∧ (V.cell? ⟨X.heap.size, 0, none⟩ = some (.int .i64 1) ∧ V.cell? ⟨X.heap.size, 1, none⟩ = some (.int .i64 1) ∧ V.cell? ⟨X.heap.size + 1, 0, none⟩ = some (.int .i64 1) ∧ V.cell? ⟨X.heap.size + 1, 1, none⟩ = some (.int .i64 2) ∧ V.cell? ⟨X.heap.size + 1 + 1, 0, none⟩ = some (.int .i64 1) ∧ V.cell? ⟨X.heap.size + 1 + 1, 1, none⟩ = some (.int .i64 3) ∧ V.cell? ⟨X.heap.size + 1 + 1 + 1, 0, none⟩ = some (.int .i64 2) ∧ V.cell? ⟨X.heap.size + 1 + 1 + 1, 1, none⟩ = some (.int .i64 1) ∧ V.cell? ⟨g, o, none⟩ = some (.int .i64 1) ∧ V.cell? ⟨g, o + 1, none⟩ = some (.int .i64 2) ∧ V.cell? ⟨g, o + 2, none⟩ = some (.int .i64 0) ∧ V.cell? ⟨g, o + 3, none⟩ = some (.int .i64 (-2)))) := hid (fun W V g o h hT hK => by
    obtain ⟨h1, h2, y1, y2, y3, y4, y5, y6, y7, y8, x0, x1, x2, x3⟩ := h
    have k4 := h2.trans (hK.mono (fun j hj => Or.inl hj))
    have hgk := hK.keep g (Or.inr ⟨_, rfl, rfl⟩)
    obtain ⟨z1, z2, z3, z4, z5, z6, z7, z8⟩ := HC.out _ k4
    simp only [World.cell?] at x0 x1 x2 x3
    exact ⟨hT, k4, z1, z2, z3, z4, z5, z6, z7, z8, by simp only [World.cell?, hgk]; exact x0, by simp only [World.cell?, hgk]; exact x1, by simp only [World.cell?, hgk]; exact x2, by simp only [World.cell?, hgk]; exact x3⟩)
  have HT2 : Hid (∀ W g o, (TP W t [awA, awB, awD, awC] (fun j => Q j ∨ ∃ ad, (some ⟨g, o, none⟩ : Option Addr) = some ad ∧ ad.block = j) ∧ KP Q X4 W ∧ (W.cell? ⟨X.heap.size, 0, none⟩ = some (.int .i64 1) ∧ W.cell? ⟨X.heap.size, 1, none⟩ = some (.int .i64 1) ∧ W.cell? ⟨X.heap.size + 1, 0, none⟩ = some (.int .i64 1) ∧ W.cell? ⟨X.heap.size + 1, 1, none⟩ = some (.int .i64 2) ∧ W.cell? ⟨X.heap.size + 1 + 1, 0, none⟩ = some (.int .i64 1) ∧ W.cell? ⟨X.heap.size + 1 + 1, 1, none⟩ = some (.int .i64 3) ∧ W.cell? ⟨X.heap.size + 1 + 1 + 1, 0, none⟩ = some (.int .i64 2) ∧ W.cell? ⟨X.heap.size + 1 + 1 + 1, 1, none⟩ = some (.int .i64 1) ∧ W.cell? ⟨g, o, none⟩ = some (.int .i64 1) ∧ W.cell? ⟨g, o + 1, none⟩ = some (.int .i64 2) ∧ W.cell? ⟨g, o + 2, none⟩ = some (.int .i64 0) ∧ W.cell? ⟨g, o + 3, none⟩ = some (.int .i64 (-2)))) → Calls Try.prog 18 #[.pointer (some ⟨t, 0, none⟩), .agg #[.int .i64 1, .int .i64 3]] W fun e W' => e = .returned (.bool true) ∧ Hid (TP W' t [awA, awB, awD, awC] (fun j => Q j ∨ ∃ ad, (some ⟨g, o, none⟩ : Option Addr) = some ad ∧ ad.block = j) ∧ KP Q X4 W' ∧ (W'.cell? ⟨X.heap.size, 0, none⟩ = some (.int .i64 1) ∧ W'.cell? ⟨X.heap.size, 1, none⟩ = some (.int .i64 1) ∧ W'.cell? ⟨X.heap.size + 1, 0, none⟩ = some (.int .i64 1) ∧ W'.cell? ⟨X.heap.size + 1, 1, none⟩ = some (.int .i64 2) ∧ W'.cell? ⟨X.heap.size + 1 + 1, 0, none⟩ = some (.int .i64 1) ∧ W'.cell? ⟨X.heap.size + 1 + 1, 1, none⟩ = some (.int .i64 3) ∧ W'.cell? ⟨X.heap.size + 1 + 1 + 1, 0, none⟩ = some (.int .i64 2) ∧ W'.cell? ⟨X.heap.size + 1 + 1 + 1, 1, none⟩ = some (.int .i64 1) ∧ W'.cell? ⟨g, o, none⟩ = some (.int .i64 1) ∧ W'.cell? ⟨g, o + 1, none⟩ = some (.int .i64 2) ∧ W'.cell? ⟨g, o + 2, none⟩ = some (.int .i64 0) ∧ W'.cell? ⟨g, o + 3, none⟩ = some (.int .i64 (-2))))) := hid (fun W g o h => by
    have := took_tp (1, 3) h.1 ⟨rfl, rfl⟩
    rw [aw_6] at this
    exact this.mono (fun e W' k => ⟨k.1, hid (HS.out W W' g o h k.2.1 k.2.2)⟩))
  have HX2 : Hid (∀ W g o, (TP W t [awA, awB, awD, awC] (fun j => Q j ∨ ∃ ad, (some ⟨g, o, none⟩ : Option Addr) = some ad ∧ ad.block = j) ∧ KP Q X4 W ∧ (W.cell? ⟨X.heap.size, 0, none⟩ = some (.int .i64 1) ∧ W.cell? ⟨X.heap.size, 1, none⟩ = some (.int .i64 1) ∧ W.cell? ⟨X.heap.size + 1, 0, none⟩ = some (.int .i64 1) ∧ W.cell? ⟨X.heap.size + 1, 1, none⟩ = some (.int .i64 2) ∧ W.cell? ⟨X.heap.size + 1 + 1, 0, none⟩ = some (.int .i64 1) ∧ W.cell? ⟨X.heap.size + 1 + 1, 1, none⟩ = some (.int .i64 3) ∧ W.cell? ⟨X.heap.size + 1 + 1 + 1, 0, none⟩ = some (.int .i64 2) ∧ W.cell? ⟨X.heap.size + 1 + 1 + 1, 1, none⟩ = some (.int .i64 1) ∧ W.cell? ⟨g, o, none⟩ = some (.int .i64 1) ∧ W.cell? ⟨g, o + 1, none⟩ = some (.int .i64 2) ∧ W.cell? ⟨g, o + 2, none⟩ = some (.int .i64 0) ∧ W.cell? ⟨g, o + 3, none⟩ = some (.int .i64 (-2)))) → Calls Try.prog 21 #[] W fun e W' => e = .returned (.agg #[.int .i64 0, .int .i64 (-2)]) ∧ Hid (TP W' t [awA, awB, awD, awC] (fun j => Q j ∨ ∃ ad, (some ⟨g, o, none⟩ : Option Addr) = some ad ∧ ad.block = j) ∧ KP Q X4 W' ∧ (W'.cell? ⟨X.heap.size, 0, none⟩ = some (.int .i64 1) ∧ W'.cell? ⟨X.heap.size, 1, none⟩ = some (.int .i64 1) ∧ W'.cell? ⟨X.heap.size + 1, 0, none⟩ = some (.int .i64 1) ∧ W'.cell? ⟨X.heap.size + 1, 1, none⟩ = some (.int .i64 2) ∧ W'.cell? ⟨X.heap.size + 1 + 1, 0, none⟩ = some (.int .i64 1) ∧ W'.cell? ⟨X.heap.size + 1 + 1, 1, none⟩ = some (.int .i64 3) ∧ W'.cell? ⟨X.heap.size + 1 + 1 + 1, 0, none⟩ = some (.int .i64 2) ∧ W'.cell? ⟨X.heap.size + 1 + 1 + 1, 1, none⟩ = some (.int .i64 1) ∧ W'.cell? ⟨g, o, none⟩ = some (.int .i64 1) ∧ W'.cell? ⟨g, o + 1, none⟩ = some (.int .i64 2) ∧ W'.cell? ⟨g, o + 2, none⟩ = some (.int .i64 0) ∧ W'.cell? ⟨g, o + 3, none⟩ = some (.int .i64 (-2))))) := hid (fun W g o h => (trash_any W).mono (fun e W' k => ⟨k.1, hid (HS.out W W' g o h (h.1.below k.2.below) (KP.below k.2.below h.1.lt))⟩))
  have HH2 : Hid (∀ W g o, (TP W t [awA, awB, awD, awC] (fun j => Q j ∨ ∃ ad, (some ⟨g, o, none⟩ : Option Addr) = some ad ∧ ad.block = j) ∧ KP Q X4 W ∧ (W.cell? ⟨X.heap.size, 0, none⟩ = some (.int .i64 1) ∧ W.cell? ⟨X.heap.size, 1, none⟩ = some (.int .i64 1) ∧ W.cell? ⟨X.heap.size + 1, 0, none⟩ = some (.int .i64 1) ∧ W.cell? ⟨X.heap.size + 1, 1, none⟩ = some (.int .i64 2) ∧ W.cell? ⟨X.heap.size + 1 + 1, 0, none⟩ = some (.int .i64 1) ∧ W.cell? ⟨X.heap.size + 1 + 1, 1, none⟩ = some (.int .i64 3) ∧ W.cell? ⟨X.heap.size + 1 + 1 + 1, 0, none⟩ = some (.int .i64 2) ∧ W.cell? ⟨X.heap.size + 1 + 1 + 1, 1, none⟩ = some (.int .i64 1) ∧ W.cell? ⟨g, o, none⟩ = some (.int .i64 1) ∧ W.cell? ⟨g, o + 1, none⟩ = some (.int .i64 2) ∧ W.cell? ⟨g, o + 2, none⟩ = some (.int .i64 0) ∧ W.cell? ⟨g, o + 3, none⟩ = some (.int .i64 (-2)))) → Calls Try.prog 25 #[.pointer (some ⟨t, 0, none⟩), .agg #[.int .i64 1, .int .i64 1]] W fun e W' => e = .returned (.bool true) ∧ Hid (TP W' t [awA, awB, awD, awC] (fun j => Q j ∨ ∃ ad, (some ⟨g, o, none⟩ : Option Addr) = some ad ∧ ad.block = j) ∧ KP Q X4 W' ∧ (W'.cell? ⟨X.heap.size, 0, none⟩ = some (.int .i64 1) ∧ W'.cell? ⟨X.heap.size, 1, none⟩ = some (.int .i64 1) ∧ W'.cell? ⟨X.heap.size + 1, 0, none⟩ = some (.int .i64 1) ∧ W'.cell? ⟨X.heap.size + 1, 1, none⟩ = some (.int .i64 2) ∧ W'.cell? ⟨X.heap.size + 1 + 1, 0, none⟩ = some (.int .i64 1) ∧ W'.cell? ⟨X.heap.size + 1 + 1, 1, none⟩ = some (.int .i64 3) ∧ W'.cell? ⟨X.heap.size + 1 + 1 + 1, 0, none⟩ = some (.int .i64 2) ∧ W'.cell? ⟨X.heap.size + 1 + 1 + 1, 1, none⟩ = some (.int .i64 1) ∧ W'.cell? ⟨g, o, none⟩ = some (.int .i64 1) ∧ W'.cell? ⟨g, o + 1, none⟩ = some (.int .i64 2) ∧ W'.cell? ⟨g, o + 2, none⟩ = some (.int .i64 0) ∧ W'.cell? ⟨g, o + 3, none⟩ = some (.int .i64 (-2))))) := hid (fun W g o h => by
    have := there_tp (1, 1) h.1 ⟨rfl, rfl⟩
    rw [aw_8] at this
    exact this.mono (fun e W' k => ⟨k.1, hid (HS.out W W' g o h k.2.1 k.2.2)⟩))
  have hS0 := HC.out _ S4.out.2
  clear hX4 hQ hz4 hb4 b0 b1 b2 b3 HX
  refine wp_region_held_drew (S := fun w' => w'.cell? ⟨X.heap.size, 0, none⟩ = some (.int .i64 1) ∧ w'.cell? ⟨X.heap.size, 1, none⟩ = some (.int .i64 1) ∧ w'.cell? ⟨X.heap.size + 1, 0, none⟩ = some (.int .i64 1) ∧ w'.cell? ⟨X.heap.size + 1, 1, none⟩ = some (.int .i64 2) ∧ w'.cell? ⟨X.heap.size + 1 + 1, 0, none⟩ = some (.int .i64 1) ∧ w'.cell? ⟨X.heap.size + 1 + 1, 1, none⟩ = some (.int .i64 3) ∧ w'.cell? ⟨X.heap.size + 1 + 1 + 1, 0, none⟩ = some (.int .i64 2) ∧ w'.cell? ⟨X.heap.size + 1 + 1 + 1, 1, none⟩ = some (.int .i64 1)) hmxo hS0 ?_
  intro _
  refine wpAnyH_take (i := 0) (v := .pointer (some ⟨t, 0, none⟩)) rfl (by kernel_rfl) (by kernel_rfl) (by kernel_rfl) (fun _ _ _ h => h) (Or.inl ⟨by kernel_rfl, fun w hSw => ?_⟩) hS0 ?_
  · obtain ⟨e1, e2, e3, e4, e5, e6, e7, e8⟩ := hSw; go_simp
  simp only [Act.put, List.getElem_toArray, List.getElem_cons_succ, List.getElem_cons_zero, List.setIfInBounds_toArray, List.set_cons_zero, List.set_cons_succ]
  refine wpAnyH_take (i := 1) (v := .agg #[.int .i64 1, .int .i64 1]) rfl (by kernel_rfl) (by kernel_rfl) (by kernel_rfl) (fun _ _ _ h => h) (Or.inl ⟨by kernel_rfl, fun w hSw => ?_⟩) hS0 ?_
  · obtain ⟨e1, e2, e3, e4, e5, e6, e7, e8⟩ := hSw; go_simp
  simp only [Act.put, List.getElem_toArray, List.getElem_cons_succ, List.getElem_cons_zero, List.setIfInBounds_toArray, List.set_cons_zero, List.set_cons_succ]
  refine wpAnyH_take (i := 2) (v := .agg #[.int .i64 1, .int .i64 1]) rfl (by kernel_rfl) (by kernel_rfl) (by kernel_rfl) (fun _ _ _ h => h) (Or.inl ⟨by kernel_rfl, fun w hSw => ?_⟩) hS0 ?_
  · obtain ⟨e1, e2, e3, e4, e5, e6, e7, e8⟩ := hSw; go_simp
  simp only [Act.put, List.getElem_toArray, List.getElem_cons_succ, List.getElem_cons_zero, List.setIfInBounds_toArray, List.set_cons_zero, List.set_cons_succ]
  refine wpAnyH_ready (rs := [3]) (by kernel_rfl) (by simp) ?_
  refine AllReadyH.cons rfl (fun K hK => ?_) AllReadyH.nil
  go_simp
  refine (HRo.out _ _ S4.out).mono ?_
  rintro e Y5 ⟨rfl, S5⟩
  have hS5 := HC.out _ S5.out.2
  refine hK.out _ _ hS5 (fun _ => ?_)
  clear hK K
  refine wpAnyH_ready (rs := [4]) (by kernel_rfl) (by simp) ?_
  refine AllReadyH.cons rfl (fun K hK => ?_) AllReadyH.nil
  go_simp
  refine (HM1.out _ S5.out).mono ?_
  rintro e Y6 ⟨rfl, S6⟩
  have hS6 := HC.out _ S6.out.2
  refine hK.out _ _ hS6 (fun _ => ?_)
  clear hK K
  refine wpAnyH_take (i := 5) (v := .int .i64 0) rfl (by kernel_rfl) (by kernel_rfl) (by kernel_rfl) (fun _ _ _ h => h) (Or.inl ⟨by kernel_rfl, fun w hSw => ?_⟩) hS6 ?_
  · obtain ⟨e1, e2, e3, e4, e5, e6, e7, e8⟩ := hSw; go_simp
  simp only [Act.put, List.getElem_toArray, List.getElem_cons_succ, List.getElem_cons_zero, List.setIfInBounds_toArray, List.set_cons_zero, List.set_cons_succ]
  refine wpAnyH_done (by kernel_rfl) ?_ _
  clear hS0 hS5 hS6
  obtain ⟨c61, c62, c63, c64, c65, c66, c67, c68⟩ := HC.out _ S6.out.2
  go_wp2_with (first
    | (go_at_call 18; refine (HT1.out _ S8.out).mono ?_; rintro e Y9 ⟨rfl, S9⟩)
    | (have hq := S7; go_at_call 12; refine (HM3.out _ S7.out).mono ?_; rintro e Y8 ⟨rfl, S8⟩; obtain ⟨c81, c82, c83, c84, c85, c86, c87, c88⟩ := HC.out _ S8.out.2)
    | (go_at_call 12; refine (HM2.out _ S6.out).mono ?_; rintro e Y7 ⟨rfl, S7⟩; obtain ⟨c71, c72, c73, c74, c75, c76, c77, c78⟩ := HC.out _ S7.out.2))
  have hS9 := HC.out _ (show KP Q X4 Y9.drew from S9.out.2.drew)
  have S9d : Hid (TP Y9.drew t [awA, awB, awC] Q ∧ KP Q X4 Y9.drew) := hid ⟨S9.out.1.drew, S9.out.2.drew⟩
  refine wp_region_held_drew (S := fun w' => w'.cell? ⟨X.heap.size, 0, none⟩ = some (.int .i64 1) ∧ w'.cell? ⟨X.heap.size, 1, none⟩ = some (.int .i64 1) ∧ w'.cell? ⟨X.heap.size + 1, 0, none⟩ = some (.int .i64 1) ∧ w'.cell? ⟨X.heap.size + 1, 1, none⟩ = some (.int .i64 2) ∧ w'.cell? ⟨X.heap.size + 1 + 1, 0, none⟩ = some (.int .i64 1) ∧ w'.cell? ⟨X.heap.size + 1 + 1, 1, none⟩ = some (.int .i64 3) ∧ w'.cell? ⟨X.heap.size + 1 + 1 + 1, 0, none⟩ = some (.int .i64 2) ∧ w'.cell? ⟨X.heap.size + 1 + 1 + 1, 1, none⟩ = some (.int .i64 1)) hmxo hS9 ?_
  intro _
  refine wpAnyH_take (i := 0) (v := .pointer (some ⟨t, 0, none⟩)) rfl (by kernel_rfl) (by kernel_rfl) (by kernel_rfl) (fun _ _ _ h => h) (Or.inl ⟨by kernel_rfl, fun w hSw => ?_⟩) hS9 ?_
  · obtain ⟨e1, e2, e3, e4, e5, e6, e7, e8⟩ := hSw; go_simp
  simp only [Act.put, List.getElem_toArray, List.getElem_cons_succ, List.getElem_cons_zero, List.setIfInBounds_toArray, List.set_cons_zero, List.set_cons_succ]
  refine wpAnyH_take (i := 1) (v := .agg #[.int .i64 2, .int .i64 1]) rfl (by kernel_rfl) (by kernel_rfl) (by kernel_rfl) (fun _ _ _ h => h) (Or.inl ⟨by kernel_rfl, fun w hSw => ?_⟩) hS9 ?_
  · obtain ⟨e1, e2, e3, e4, e5, e6, e7, e8⟩ := hSw; go_simp
  simp only [Act.put, List.getElem_toArray, List.getElem_cons_succ, List.getElem_cons_zero, List.setIfInBounds_toArray, List.set_cons_zero, List.set_cons_succ]
  refine wpAnyH_take (i := 2) (v := .agg #[.int .i64 1, .int .i64 2]) rfl (by kernel_rfl) (by kernel_rfl) (by kernel_rfl) (fun _ _ _ h => h) (Or.inl ⟨by kernel_rfl, fun w hSw => ?_⟩) hS9 ?_
  · obtain ⟨e1, e2, e3, e4, e5, e6, e7, e8⟩ := hSw; go_simp
  simp only [Act.put, List.getElem_toArray, List.getElem_cons_succ, List.getElem_cons_zero, List.setIfInBounds_toArray, List.set_cons_zero, List.set_cons_succ]
  refine wpAnyH_ready (rs := [3]) (by kernel_rfl) (by simp) ?_
  refine AllReadyH.cons rfl (fun K hK => ?_) AllReadyH.nil
  go_simp
  refine (HTr.out _ _ S9d.out).mono ?_
  rintro e Ya ⟨rfl, Sa⟩
  have hSa := HC.out _ Sa.out.2
  refine hK.out _ _ hSa (fun _ => ?_)
  clear hK K
  refine wpAnyH_ready (rs := [4]) (by kernel_rfl) (by simp) ?_
  refine AllReadyH.cons rfl (fun K hK => ?_) AllReadyH.nil
  go_simp
  refine (HM4.out _ Sa.out).mono ?_
  rintro e Yb ⟨rfl, Sb⟩
  have hSb := HC.out _ Sb.out.2
  refine hK.out _ _ hSb (fun _ => ?_)
  clear hK K
  refine wpAnyH_take (i := 5) (v := .int .i64 0) rfl (by kernel_rfl) (by kernel_rfl) (by kernel_rfl) (fun _ _ _ h => h) (Or.inl ⟨by kernel_rfl, fun w hSw => ?_⟩) hSb ?_
  · obtain ⟨e1, e2, e3, e4, e5, e6, e7, e8⟩ := hSw; go_simp
  simp only [Act.put, List.getElem_toArray, List.getElem_cons_succ, List.getElem_cons_zero, List.setIfInBounds_toArray, List.set_cons_zero, List.set_cons_succ]
  refine wpAnyH_done (by kernel_rfl) ?_ _
  clear hS9 hSa hSb
  obtain ⟨cb1, cb2, cb3, cb4, cb5, cb6, cb7, cb8⟩ := HC.out _ Sb.out.2
  go_wp2_with (go_at_call 20; refine (HP.out _ Sb.out).mono ?_; rintro e Yc ⟨g, o, c, rfl, hcap, Sc⟩)
  have Scd : Hid (TP Yc.drew t [awA, awB, awD, awC] (fun j => Q j ∨ ∃ ad, (some ⟨g, o, none⟩ : Option Addr) = some ad ∧ ad.block = j) ∧ KP Q X4 Yc.drew ∧ (Yc.drew.cell? ⟨X.heap.size, 0, none⟩ = some (.int .i64 1) ∧ Yc.drew.cell? ⟨X.heap.size, 1, none⟩ = some (.int .i64 1) ∧ Yc.drew.cell? ⟨X.heap.size + 1, 0, none⟩ = some (.int .i64 1) ∧ Yc.drew.cell? ⟨X.heap.size + 1, 1, none⟩ = some (.int .i64 2) ∧ Yc.drew.cell? ⟨X.heap.size + 1 + 1, 0, none⟩ = some (.int .i64 1) ∧ Yc.drew.cell? ⟨X.heap.size + 1 + 1, 1, none⟩ = some (.int .i64 3) ∧ Yc.drew.cell? ⟨X.heap.size + 1 + 1 + 1, 0, none⟩ = some (.int .i64 2) ∧ Yc.drew.cell? ⟨X.heap.size + 1 + 1 + 1, 1, none⟩ = some (.int .i64 1) ∧ Yc.drew.cell? ⟨g, o, none⟩ = some (.int .i64 1) ∧ Yc.drew.cell? ⟨g, o + 1, none⟩ = some (.int .i64 2) ∧ Yc.drew.cell? ⟨g, o + 2, none⟩ = some (.int .i64 0) ∧ Yc.drew.cell? ⟨g, o + 3, none⟩ = some (.int .i64 (-2)))) := hid ⟨Sc.out.1.drew, Sc.out.2.1.drew, Sc.out.2.2⟩
  have hS11 : Yc.drew.cell? ⟨X.heap.size, 0, none⟩ = some (.int .i64 1) ∧ Yc.drew.cell? ⟨X.heap.size, 1, none⟩ = some (.int .i64 1) ∧ Yc.drew.cell? ⟨X.heap.size + 1, 0, none⟩ = some (.int .i64 1) ∧ Yc.drew.cell? ⟨X.heap.size + 1, 1, none⟩ = some (.int .i64 2) ∧ Yc.drew.cell? ⟨X.heap.size + 1 + 1, 0, none⟩ = some (.int .i64 1) ∧ Yc.drew.cell? ⟨X.heap.size + 1 + 1, 1, none⟩ = some (.int .i64 3) ∧ Yc.drew.cell? ⟨X.heap.size + 1 + 1 + 1, 0, none⟩ = some (.int .i64 2) ∧ Yc.drew.cell? ⟨X.heap.size + 1 + 1 + 1, 1, none⟩ = some (.int .i64 1) ∧ Yc.drew.cell? ⟨g, o, none⟩ = some (.int .i64 1) ∧ Yc.drew.cell? ⟨g, o + 1, none⟩ = some (.int .i64 2) ∧ Yc.drew.cell? ⟨g, o + 2, none⟩ = some (.int .i64 0) ∧ Yc.drew.cell? ⟨g, o + 3, none⟩ = some (.int .i64 (-2)) := Scd.out.2.2
  refine wp_region_held_drew (S := fun w' => w'.cell? ⟨X.heap.size, 0, none⟩ = some (.int .i64 1) ∧ w'.cell? ⟨X.heap.size, 1, none⟩ = some (.int .i64 1) ∧ w'.cell? ⟨X.heap.size + 1, 0, none⟩ = some (.int .i64 1) ∧ w'.cell? ⟨X.heap.size + 1, 1, none⟩ = some (.int .i64 2) ∧ w'.cell? ⟨X.heap.size + 1 + 1, 0, none⟩ = some (.int .i64 1) ∧ w'.cell? ⟨X.heap.size + 1 + 1, 1, none⟩ = some (.int .i64 3) ∧ w'.cell? ⟨X.heap.size + 1 + 1 + 1, 0, none⟩ = some (.int .i64 2) ∧ w'.cell? ⟨X.heap.size + 1 + 1 + 1, 1, none⟩ = some (.int .i64 1) ∧ w'.cell? ⟨g, o, none⟩ = some (.int .i64 1) ∧ w'.cell? ⟨g, o + 1, none⟩ = some (.int .i64 2) ∧ w'.cell? ⟨g, o + 2, none⟩ = some (.int .i64 0) ∧ w'.cell? ⟨g, o + 3, none⟩ = some (.int .i64 (-2))) hmxo hS11 ?_
  intro _
  refine wpAnyH_take (i := 0) (v := .int .i64 0) rfl (by kernel_rfl) (by kernel_rfl) (by kernel_rfl) (fun _ _ _ h => h) (Or.inl ⟨by kernel_rfl, fun w hSw => ?_⟩) hS11 ?_
  · obtain ⟨e1, e2, e3, e4, e5, e6, e7, e8, e9, e10, e11, e12⟩ := hSw; go_simp
  simp only [Act.put, List.getElem_toArray, List.getElem_cons_succ, List.getElem_cons_zero, List.setIfInBounds_toArray, List.set_cons_zero, List.set_cons_succ]
  refine wpAnyH_take (i := 1) (v := .bool true) rfl (by kernel_rfl) (by kernel_rfl) (by kernel_rfl) (fun _ _ _ h => h) (Or.inl ⟨by kernel_rfl, fun w hSw => ?_⟩) hS11 ?_
  · obtain ⟨e1, e2, e3, e4, e5, e6, e7, e8, e9, e10, e11, e12⟩ := hSw; go_simp
  simp only [Act.put, List.getElem_toArray, List.getElem_cons_succ, List.getElem_cons_zero, List.setIfInBounds_toArray, List.set_cons_zero, List.set_cons_succ]
  refine wpAnyH_take (i := 2) (v := .bool true) rfl (by kernel_rfl) (by kernel_rfl) (by kernel_rfl) (fun _ _ _ h => h) (Or.inl ⟨by kernel_rfl, fun w hSw => ?_⟩) hS11 ?_
  · obtain ⟨e1, e2, e3, e4, e5, e6, e7, e8, e9, e10, e11, e12⟩ := hSw; go_simp
  simp only [Act.put, List.getElem_toArray, List.getElem_cons_succ, List.getElem_cons_zero, List.setIfInBounds_toArray, List.set_cons_zero, List.set_cons_succ]
  refine wpAnyH_take (i := 3) (v := .int .i64 0) rfl (by kernel_rfl) (by kernel_rfl) (by kernel_rfl) (fun _ _ _ h => h) (Or.inl ⟨by kernel_rfl, fun w hSw => ?_⟩) hS11 ?_
  · obtain ⟨e1, e2, e3, e4, e5, e6, e7, e8, e9, e10, e11, e12⟩ := hSw; go_simp
  simp only [Act.put, List.getElem_toArray, List.getElem_cons_succ, List.getElem_cons_zero, List.setIfInBounds_toArray, List.set_cons_zero, List.set_cons_succ]
  refine wpAnyH_take (i := 4) (v := .bool true) rfl (by kernel_rfl) (by kernel_rfl) (by kernel_rfl) (fun _ _ _ h => h) (Or.inl ⟨by kernel_rfl, fun w hSw => ?_⟩) hS11 ?_
  · obtain ⟨e1, e2, e3, e4, e5, e6, e7, e8, e9, e10, e11, e12⟩ := hSw; go_simp
  simp only [Act.put, List.getElem_toArray, List.getElem_cons_succ, List.getElem_cons_zero, List.setIfInBounds_toArray, List.set_cons_zero, List.set_cons_succ]
  refine wpAnyH_take (i := 5) (v := .bool true) rfl (by kernel_rfl) (by kernel_rfl) (by kernel_rfl) (fun _ _ _ h => h) (Or.inl ⟨by kernel_rfl, fun w hSw => ?_⟩) hS11 ?_
  · obtain ⟨e1, e2, e3, e4, e5, e6, e7, e8, e9, e10, e11, e12⟩ := hSw; go_simp
  simp only [Act.put, List.getElem_toArray, List.getElem_cons_succ, List.getElem_cons_zero, List.setIfInBounds_toArray, List.set_cons_zero, List.set_cons_succ]
  refine wpAnyH_take (i := 6) (v := .bool true) rfl (by kernel_rfl) (by kernel_rfl) (by kernel_rfl) (fun _ _ _ h => h) (Or.inl ⟨by kernel_rfl, fun w hSw => ?_⟩) hS11 ?_
  · obtain ⟨e1, e2, e3, e4, e5, e6, e7, e8, e9, e10, e11, e12⟩ := hSw; go_simp
  simp only [Act.put, List.getElem_toArray, List.getElem_cons_succ, List.getElem_cons_zero, List.setIfInBounds_toArray, List.set_cons_zero, List.set_cons_succ]
  refine wpAnyH_take (i := 7) (v := .int .i64 0) rfl (by kernel_rfl) (by kernel_rfl) (by kernel_rfl) (fun _ _ _ h => h) (Or.inl ⟨by kernel_rfl, fun w hSw => ?_⟩) hS11 ?_
  · obtain ⟨e1, e2, e3, e4, e5, e6, e7, e8, e9, e10, e11, e12⟩ := hSw; go_simp
  simp only [Act.put, List.getElem_toArray, List.getElem_cons_succ, List.getElem_cons_zero, List.setIfInBounds_toArray, List.set_cons_zero, List.set_cons_succ]
  refine wpAnyH_take (i := 8) (v := .bool true) rfl (by kernel_rfl) (by kernel_rfl) (by kernel_rfl) (fun _ _ _ h => h) (Or.inl ⟨by kernel_rfl, fun w hSw => ?_⟩) hS11 ?_
  · obtain ⟨e1, e2, e3, e4, e5, e6, e7, e8, e9, e10, e11, e12⟩ := hSw; go_simp
  simp only [Act.put, List.getElem_toArray, List.getElem_cons_succ, List.getElem_cons_zero, List.setIfInBounds_toArray, List.set_cons_zero, List.set_cons_succ]
  refine wpAnyH_take (i := 9) (v := .bool true) rfl (by kernel_rfl) (by kernel_rfl) (by kernel_rfl) (fun _ _ _ h => h) (Or.inl ⟨by kernel_rfl, fun w hSw => ?_⟩) hS11 ?_
  · obtain ⟨e1, e2, e3, e4, e5, e6, e7, e8, e9, e10, e11, e12⟩ := hSw; go_simp
  simp only [Act.put, List.getElem_toArray, List.getElem_cons_succ, List.getElem_cons_zero, List.setIfInBounds_toArray, List.set_cons_zero, List.set_cons_succ]
  refine wpAnyH_take (i := 10) (v := .bool true) rfl (by kernel_rfl) (by kernel_rfl) (by kernel_rfl) (fun _ _ _ h => h) (Or.inl ⟨by kernel_rfl, fun w hSw => ?_⟩) hS11 ?_
  · obtain ⟨e1, e2, e3, e4, e5, e6, e7, e8, e9, e10, e11, e12⟩ := hSw; go_simp
  simp only [Act.put, List.getElem_toArray, List.getElem_cons_succ, List.getElem_cons_zero, List.setIfInBounds_toArray, List.set_cons_zero, List.set_cons_succ]
  refine wpAnyH_take (i := 11) (v := .int .i64 0) rfl (by kernel_rfl) (by kernel_rfl) (by kernel_rfl) (fun _ _ _ h => h) (Or.inl ⟨by kernel_rfl, fun w hSw => ?_⟩) hS11 ?_
  · obtain ⟨e1, e2, e3, e4, e5, e6, e7, e8, e9, e10, e11, e12⟩ := hSw; go_simp
  simp only [Act.put, List.getElem_toArray, List.getElem_cons_succ, List.getElem_cons_zero, List.setIfInBounds_toArray, List.set_cons_zero, List.set_cons_succ]
  refine wpAnyH_take (i := 12) (v := .bool true) rfl (by kernel_rfl) (by kernel_rfl) (by kernel_rfl) (fun _ _ _ h => h) (Or.inl ⟨by kernel_rfl, fun w hSw => ?_⟩) hS11 ?_
  · obtain ⟨e1, e2, e3, e4, e5, e6, e7, e8, e9, e10, e11, e12⟩ := hSw; go_simp
  simp only [Act.put, List.getElem_toArray, List.getElem_cons_succ, List.getElem_cons_zero, List.setIfInBounds_toArray, List.set_cons_zero, List.set_cons_succ]
  refine wpAnyH_take (i := 13) (v := .bool true) rfl (by kernel_rfl) (by kernel_rfl) (by kernel_rfl) (fun _ _ _ h => h) (Or.inl ⟨by kernel_rfl, fun w hSw => ?_⟩) hS11 ?_
  · obtain ⟨e1, e2, e3, e4, e5, e6, e7, e8, e9, e10, e11, e12⟩ := hSw; go_simp
  simp only [Act.put, List.getElem_toArray, List.getElem_cons_succ, List.getElem_cons_zero, List.setIfInBounds_toArray, List.set_cons_zero, List.set_cons_succ]
  refine wpAnyH_take (i := 14) (v := .bool true) rfl (by kernel_rfl) (by kernel_rfl) (by kernel_rfl) (fun _ _ _ h => h) (Or.inl ⟨by kernel_rfl, fun w hSw => ?_⟩) hS11 ?_
  · obtain ⟨e1, e2, e3, e4, e5, e6, e7, e8, e9, e10, e11, e12⟩ := hSw; go_simp
  simp only [Act.put, List.getElem_toArray, List.getElem_cons_succ, List.getElem_cons_zero, List.setIfInBounds_toArray, List.set_cons_zero, List.set_cons_succ]
  refine wpAnyH_take (i := 15) (v := .bool false) rfl (by kernel_rfl) (by kernel_rfl) (by kernel_rfl) (fun _ _ _ h => h) (Or.inl ⟨by kernel_rfl, fun w hSw => ?_⟩) hS11 ?_
  · obtain ⟨e1, e2, e3, e4, e5, e6, e7, e8, e9, e10, e11, e12⟩ := hSw; go_simp
  simp only [Act.put, List.getElem_toArray, List.getElem_cons_succ, List.getElem_cons_zero, List.setIfInBounds_toArray, List.set_cons_zero, List.set_cons_succ]
  refine wpAnyH_take (i := 16) (v := .bool true) rfl (by kernel_rfl) (by kernel_rfl) (by kernel_rfl) (fun _ _ _ h => h) (Or.inl ⟨by kernel_rfl, fun w hSw => ?_⟩) hS11 ?_
  · obtain ⟨e1, e2, e3, e4, e5, e6, e7, e8, e9, e10, e11, e12⟩ := hSw; go_simp
  simp only [Act.put, List.getElem_toArray, List.getElem_cons_succ, List.getElem_cons_zero, List.setIfInBounds_toArray, List.set_cons_zero, List.set_cons_succ]
  refine wpAnyH_take (i := 17) (v := .bool true) rfl (by kernel_rfl) (by kernel_rfl) (by kernel_rfl) (fun _ _ _ h => h) (Or.inl ⟨by kernel_rfl, fun w hSw => ?_⟩) hS11 ?_
  · obtain ⟨e1, e2, e3, e4, e5, e6, e7, e8, e9, e10, e11, e12⟩ := hSw; go_simp
  simp only [Act.put, List.getElem_toArray, List.getElem_cons_succ, List.getElem_cons_zero, List.setIfInBounds_toArray, List.set_cons_zero, List.set_cons_succ]
  refine wpAnyH_take (i := 18) (v := .bool true) rfl (by kernel_rfl) (by kernel_rfl) (by kernel_rfl) (fun _ _ _ h => h) (Or.inl ⟨by kernel_rfl, fun w hSw => ?_⟩) hS11 ?_
  · obtain ⟨e1, e2, e3, e4, e5, e6, e7, e8, e9, e10, e11, e12⟩ := hSw; go_simp
  simp only [Act.put, List.getElem_toArray, List.getElem_cons_succ, List.getElem_cons_zero, List.setIfInBounds_toArray, List.set_cons_zero, List.set_cons_succ]
  refine wpAnyH_take (i := 19) (v := .pointer (some ⟨t, 0, none⟩)) rfl (by kernel_rfl) (by kernel_rfl) (by kernel_rfl) (fun _ _ _ h => h) (Or.inl ⟨by kernel_rfl, fun w hSw => ?_⟩) hS11 ?_
  · obtain ⟨e1, e2, e3, e4, e5, e6, e7, e8, e9, e10, e11, e12⟩ := hSw; go_simp
  simp only [Act.put, List.getElem_toArray, List.getElem_cons_succ, List.getElem_cons_zero, List.setIfInBounds_toArray, List.set_cons_zero, List.set_cons_succ]
  refine wpAnyH_take (i := 20) (v := .agg #[.int .i64 1, .int .i64 3]) rfl (by kernel_rfl) (by kernel_rfl) (by kernel_rfl) (fun _ _ _ h => h) (Or.inl ⟨by kernel_rfl, fun w hSw => ?_⟩) hS11 ?_
  · obtain ⟨e1, e2, e3, e4, e5, e6, e7, e8, e9, e10, e11, e12⟩ := hSw; go_simp
  simp only [Act.put, List.getElem_toArray, List.getElem_cons_succ, List.getElem_cons_zero, List.setIfInBounds_toArray, List.set_cons_zero, List.set_cons_succ]
  refine wpAnyH_ready (rs := [21]) (by kernel_rfl) (by simp) ?_
  refine AllReadyH.cons rfl (fun K hK => ?_) AllReadyH.nil
  go_simp
  refine (HT2.out _ g o Scd.out).mono ?_
  rintro e Yd ⟨rfl, Sd⟩
  have hS12 := Sd.out.2.2
  refine hK.out _ _ hS12 (fun _ => ?_)
  clear hK K
  refine wpAnyH_take (i := 22) (v := .bool true) rfl (by kernel_rfl) (by kernel_rfl) (by kernel_rfl) (fun _ _ _ h => h) (Or.inl ⟨by kernel_rfl, fun w hSw => ?_⟩) hS12 ?_
  · obtain ⟨e1, e2, e3, e4, e5, e6, e7, e8, e9, e10, e11, e12⟩ := hSw; go_simp
  simp only [Act.put, List.getElem_toArray, List.getElem_cons_succ, List.getElem_cons_zero, List.setIfInBounds_toArray, List.set_cons_zero, List.set_cons_succ]
  refine wpAnyH_take (i := 23) (v := .bool true) rfl (by kernel_rfl) (by kernel_rfl) (by kernel_rfl) (fun _ _ _ h => h) (Or.inl ⟨by kernel_rfl, fun w hSw => ?_⟩) hS12 ?_
  · obtain ⟨e1, e2, e3, e4, e5, e6, e7, e8, e9, e10, e11, e12⟩ := hSw; go_simp
  simp only [Act.put, List.getElem_toArray, List.getElem_cons_succ, List.getElem_cons_zero, List.setIfInBounds_toArray, List.set_cons_zero, List.set_cons_succ]
  refine wpAnyH_take (i := 24) (v := .slice (some ⟨g, o, none⟩) 2 c) rfl (by kernel_rfl) (by kernel_rfl) (by kernel_rfl) (fun _ _ _ h => h) (Or.inl ⟨by kernel_rfl, fun w hSw => ?_⟩) hS12 ?_
  · obtain ⟨e1, e2, e3, e4, e5, e6, e7, e8, e9, e10, e11, e12⟩ := hSw; go_simp
  simp only [Act.put, List.getElem_toArray, List.getElem_cons_succ, List.getElem_cons_zero, List.setIfInBounds_toArray, List.set_cons_zero, List.set_cons_succ]
  refine wpAnyH_take (i := 25) (v := .int .i64 2) rfl (by kernel_rfl) (by kernel_rfl) (by kernel_rfl) (fun _ _ _ h => h) (Or.inl ⟨by kernel_rfl, fun w hSw => ?_⟩) hS12 ?_
  · obtain ⟨e1, e2, e3, e4, e5, e6, e7, e8, e9, e10, e11, e12⟩ := hSw; go_simp
  simp only [Act.put, List.getElem_toArray, List.getElem_cons_succ, List.getElem_cons_zero, List.setIfInBounds_toArray, List.set_cons_zero, List.set_cons_succ]
  refine wpAnyH_take (i := 26) (v := .bool true) rfl (by kernel_rfl) (by kernel_rfl) (by kernel_rfl) (fun _ _ _ h => h) (Or.inl ⟨by kernel_rfl, fun w hSw => ?_⟩) hS12 ?_
  · obtain ⟨e1, e2, e3, e4, e5, e6, e7, e8, e9, e10, e11, e12⟩ := hSw; go_simp
  simp only [Act.put, List.getElem_toArray, List.getElem_cons_succ, List.getElem_cons_zero, List.setIfInBounds_toArray, List.set_cons_zero, List.set_cons_succ]
  refine wpAnyH_take (i := 27) (v := .bool true) rfl (by kernel_rfl) (by kernel_rfl) (by kernel_rfl) (fun _ _ _ h => h) (Or.inl ⟨by kernel_rfl, fun w hSw => ?_⟩) hS12 ?_
  · obtain ⟨e1, e2, e3, e4, e5, e6, e7, e8, e9, e10, e11, e12⟩ := hSw; go_simp
  simp only [Act.put, List.getElem_toArray, List.getElem_cons_succ, List.getElem_cons_zero, List.setIfInBounds_toArray, List.set_cons_zero, List.set_cons_succ]
  refine wpAnyH_take (i := 28) (v := .bool true) rfl (by kernel_rfl) (by kernel_rfl) (by kernel_rfl) (fun _ _ _ h => h) (Or.inl ⟨by kernel_rfl, fun w hSw => ?_⟩) hS12 ?_
  · obtain ⟨e1, e2, e3, e4, e5, e6, e7, e8, e9, e10, e11, e12⟩ := hSw; go_simp
  simp only [Act.put, List.getElem_toArray, List.getElem_cons_succ, List.getElem_cons_zero, List.setIfInBounds_toArray, List.set_cons_zero, List.set_cons_succ]
  refine wpAnyH_take (i := 29) (v := .slice (some ⟨g, o, none⟩) 2 c) rfl (by kernel_rfl) (by kernel_rfl) (by kernel_rfl) (fun _ _ _ h => h) (Or.inl ⟨by kernel_rfl, fun w hSw => ?_⟩) hS12 ?_
  · obtain ⟨e1, e2, e3, e4, e5, e6, e7, e8, e9, e10, e11, e12⟩ := hSw; go_simp
  simp only [Act.put, List.getElem_toArray, List.getElem_cons_succ, List.getElem_cons_zero, List.setIfInBounds_toArray, List.set_cons_zero, List.set_cons_succ]
  refine wpAnyH_take (i := 30) (v := .pointer (some ⟨g, o, none⟩)) rfl (by kernel_rfl) (by kernel_rfl) (by kernel_rfl) (fun _ _ _ h => h) (Or.inl ⟨by kernel_rfl, fun w hSw => ?_⟩) hS12 ?_
  · obtain ⟨e1, e2, e3, e4, e5, e6, e7, e8, e9, e10, e11, e12⟩ := hSw; go_simp
  simp only [Act.put, List.getElem_toArray, List.getElem_cons_succ, List.getElem_cons_zero, List.setIfInBounds_toArray, List.set_cons_zero, List.set_cons_succ]
  refine wpAnyH_take (i := 31) (v := .agg #[.int .i64 1, .int .i64 2]) rfl (by kernel_rfl) (by kernel_rfl) (by kernel_rfl) (fun _ _ _ h => h) (Or.inl ⟨by kernel_rfl, fun w hSw => ?_⟩) hS12 ?_
  · obtain ⟨e1, e2, e3, e4, e5, e6, e7, e8, e9, e10, e11, e12⟩ := hSw; go_simp
  simp only [Act.put, List.getElem_toArray, List.getElem_cons_succ, List.getElem_cons_zero, List.setIfInBounds_toArray, List.set_cons_zero, List.set_cons_succ]
  refine wpAnyH_take (i := 32) (v := .agg #[.int .i64 1, .int .i64 2]) rfl (by kernel_rfl) (by kernel_rfl) (by kernel_rfl) (fun _ _ _ h => h) (Or.inl ⟨by kernel_rfl, fun w hSw => ?_⟩) hS12 ?_
  · obtain ⟨e1, e2, e3, e4, e5, e6, e7, e8, e9, e10, e11, e12⟩ := hSw; go_simp
  simp only [Act.put, List.getElem_toArray, List.getElem_cons_succ, List.getElem_cons_zero, List.setIfInBounds_toArray, List.set_cons_zero, List.set_cons_succ]
  refine wpAnyH_take (i := 33) (v := .bool true) rfl (by kernel_rfl) (by kernel_rfl) (by kernel_rfl) (fun _ _ _ h => h) (Or.inl ⟨by kernel_rfl, fun w hSw => ?_⟩) hS12 ?_
  · obtain ⟨e1, e2, e3, e4, e5, e6, e7, e8, e9, e10, e11, e12⟩ := hSw; go_simp
  simp only [Act.put, List.getElem_toArray, List.getElem_cons_succ, List.getElem_cons_zero, List.setIfInBounds_toArray, List.set_cons_zero, List.set_cons_succ]
  refine wpAnyH_take (i := 34) (v := .bool true) rfl (by kernel_rfl) (by kernel_rfl) (by kernel_rfl) (fun _ _ _ h => h) (Or.inl ⟨by kernel_rfl, fun w hSw => ?_⟩) hS12 ?_
  · obtain ⟨e1, e2, e3, e4, e5, e6, e7, e8, e9, e10, e11, e12⟩ := hSw; go_simp
  simp only [Act.put, List.getElem_toArray, List.getElem_cons_succ, List.getElem_cons_zero, List.setIfInBounds_toArray, List.set_cons_zero, List.set_cons_succ]
  refine wpAnyH_take (i := 35) (v := .bool true) rfl (by kernel_rfl) (by kernel_rfl) (by kernel_rfl) (fun _ _ _ h => h) (Or.inl ⟨by kernel_rfl, fun w hSw => ?_⟩) hS12 ?_
  · obtain ⟨e1, e2, e3, e4, e5, e6, e7, e8, e9, e10, e11, e12⟩ := hSw; go_simp
  simp only [Act.put, List.getElem_toArray, List.getElem_cons_succ, List.getElem_cons_zero, List.setIfInBounds_toArray, List.set_cons_zero, List.set_cons_succ]
  refine wpAnyH_take (i := 36) (v := .slice (some ⟨g, o, none⟩) 2 c) rfl (by kernel_rfl) (by kernel_rfl) (by kernel_rfl) (fun _ _ _ h => h) (Or.inl ⟨by kernel_rfl, fun w hSw => ?_⟩) hS12 ?_
  · obtain ⟨e1, e2, e3, e4, e5, e6, e7, e8, e9, e10, e11, e12⟩ := hSw; go_simp
  simp only [Act.put, List.getElem_toArray, List.getElem_cons_succ, List.getElem_cons_zero, List.setIfInBounds_toArray, List.set_cons_zero, List.set_cons_succ]
  refine wpAnyH_take (i := 37) (v := .pointer (some ⟨g, o + 2, none⟩)) rfl (by kernel_rfl) (by kernel_rfl) (by kernel_rfl) (fun _ _ _ h => h) (Or.inl ⟨by kernel_rfl, fun w hSw => ?_⟩) hS12 ?_
  · obtain ⟨e1, e2, e3, e4, e5, e6, e7, e8, e9, e10, e11, e12⟩ := hSw; go_simp
  simp only [Act.put, List.getElem_toArray, List.getElem_cons_succ, List.getElem_cons_zero, List.setIfInBounds_toArray, List.set_cons_zero, List.set_cons_succ]
  refine wpAnyH_take (i := 38) (v := .agg #[.int .i64 0, .int .i64 (-2)]) rfl (by kernel_rfl) (by kernel_rfl) (by kernel_rfl) (fun _ _ _ h => h) (Or.inl ⟨by kernel_rfl, fun w hSw => ?_⟩) hS12 ?_
  · obtain ⟨e1, e2, e3, e4, e5, e6, e7, e8, e9, e10, e11, e12⟩ := hSw; go_simp
  simp only [Act.put, List.getElem_toArray, List.getElem_cons_succ, List.getElem_cons_zero, List.setIfInBounds_toArray, List.set_cons_zero, List.set_cons_succ]
  refine wpAnyH_ready (rs := [39]) (by kernel_rfl) (by simp) ?_
  refine AllReadyH.cons rfl (fun K hK => ?_) AllReadyH.nil
  go_simp
  refine (HX2.out _ g o Sd.out).mono ?_
  rintro e Ye ⟨rfl, Se⟩
  have hS13 := Se.out.2.2
  refine hK.out _ _ hS13 (fun _ => ?_)
  clear hK K
  refine wpAnyH_take (i := 40) (v := .bool true) rfl (by kernel_rfl) (by kernel_rfl) (by kernel_rfl) (fun _ _ _ h => h) (Or.inl ⟨by kernel_rfl, fun w hSw => ?_⟩) hS13 ?_
  · obtain ⟨e1, e2, e3, e4, e5, e6, e7, e8, e9, e10, e11, e12⟩ := hSw; go_simp
  simp only [Act.put, List.getElem_toArray, List.getElem_cons_succ, List.getElem_cons_zero, List.setIfInBounds_toArray, List.set_cons_zero, List.set_cons_succ]
  refine wpAnyH_take (i := 41) (v := .bool true) rfl (by kernel_rfl) (by kernel_rfl) (by kernel_rfl) (fun _ _ _ h => h) (Or.inl ⟨by kernel_rfl, fun w hSw => ?_⟩) hS13 ?_
  · obtain ⟨e1, e2, e3, e4, e5, e6, e7, e8, e9, e10, e11, e12⟩ := hSw; go_simp
  simp only [Act.put, List.getElem_toArray, List.getElem_cons_succ, List.getElem_cons_zero, List.setIfInBounds_toArray, List.set_cons_zero, List.set_cons_succ]
  refine wpAnyH_take (i := 42) (v := .bool true) rfl (by kernel_rfl) (by kernel_rfl) (by kernel_rfl) (fun _ _ _ h => h) (Or.inl ⟨by kernel_rfl, fun w hSw => ?_⟩) hS13 ?_
  · obtain ⟨e1, e2, e3, e4, e5, e6, e7, e8, e9, e10, e11, e12⟩ := hSw; go_simp
  simp only [Act.put, List.getElem_toArray, List.getElem_cons_succ, List.getElem_cons_zero, List.setIfInBounds_toArray, List.set_cons_zero, List.set_cons_succ]
  refine wpAnyH_take (i := 43) (v := .pointer (some ⟨t, 0, none⟩)) rfl (by kernel_rfl) (by kernel_rfl) (by kernel_rfl) (fun _ _ _ h => h) (Or.inl ⟨by kernel_rfl, fun w hSw => ?_⟩) hS13 ?_
  · obtain ⟨e1, e2, e3, e4, e5, e6, e7, e8, e9, e10, e11, e12⟩ := hSw; go_simp
  simp only [Act.put, List.getElem_toArray, List.getElem_cons_succ, List.getElem_cons_zero, List.setIfInBounds_toArray, List.set_cons_zero, List.set_cons_succ]
  refine wpAnyH_take (i := 44) (v := .agg #[.int .i64 1, .int .i64 1]) rfl (by kernel_rfl) (by kernel_rfl) (by kernel_rfl) (fun _ _ _ h => h) (Or.inl ⟨by kernel_rfl, fun w hSw => ?_⟩) hS13 ?_
  · obtain ⟨e1, e2, e3, e4, e5, e6, e7, e8, e9, e10, e11, e12⟩ := hSw; go_simp
  simp only [Act.put, List.getElem_toArray, List.getElem_cons_succ, List.getElem_cons_zero, List.setIfInBounds_toArray, List.set_cons_zero, List.set_cons_succ]
  refine wpAnyH_ready (rs := [45]) (by kernel_rfl) (by simp) ?_
  refine AllReadyH.cons rfl (fun K hK => ?_) AllReadyH.nil
  go_simp
  refine (HH2.out _ g o Se.out).mono ?_
  rintro e Yf ⟨rfl, Sf⟩
  have hS14 := Sf.out.2.2
  refine hK.out _ _ hS14 (fun _ => ?_)
  clear hK K
  refine wpAnyH_take (i := 46) (v := .bool true) rfl (by kernel_rfl) (by kernel_rfl) (by kernel_rfl) (fun _ _ _ h => h) (Or.inl ⟨by kernel_rfl, fun w hSw => ?_⟩) hS14 ?_
  · obtain ⟨e1, e2, e3, e4, e5, e6, e7, e8, e9, e10, e11, e12⟩ := hSw; go_simp
  simp only [Act.put, List.getElem_toArray, List.getElem_cons_succ, List.getElem_cons_zero, List.setIfInBounds_toArray, List.set_cons_zero, List.set_cons_succ]
  refine wpAnyH_take (i := 47) (v := .bool true) rfl (by kernel_rfl) (by kernel_rfl) (by kernel_rfl) (fun _ _ _ h => h) (Or.inl ⟨by kernel_rfl, fun w hSw => ?_⟩) hS14 ?_
  · obtain ⟨e1, e2, e3, e4, e5, e6, e7, e8, e9, e10, e11, e12⟩ := hSw; go_simp
  simp only [Act.put, List.getElem_toArray, List.getElem_cons_succ, List.getElem_cons_zero, List.setIfInBounds_toArray, List.set_cons_zero, List.set_cons_succ]
  refine wpAnyH_done (by kernel_rfl) ?_ _
  go_wp2
  go_ret
  exact ⟨rfl, HE.out _ Sf.out.2.1⟩
end Go.Proofs.Ytplcohjpchfkkaa
