/- The first look. -/
import Derived.Test.YtlncokkpdkddlaaGreatCArg
import Derived.Deep.RegionHeld
namespace Go.Proofs.YtlncokkpdkddlaaGreat
open Go.RowKit Go.Maps
open Go.Sort (grow)

theorem put14_size (w : World) (q : Nat) (o : OpIn) (v : Value) : (put14 w q o v).heap.size = w.heap.size := by simp [put14, World.setCell]

theorem second_block (wc : World) (a b : Obj) : ((wc.alloc a).alloc b).heap[wc.heap.size]? = some a ∧ ((wc.alloc a).alloc b).heap[wc.heap.size + 1]? = some b := by
  refine ⟨((World.grownBy_alloc (wc.alloc a) b none).block wc.heap.size (by simp) (by simp)).trans (MapKept.heap_alloc wc a).1, ?_⟩
  have := (MapKept.heap_alloc (wc.alloc a) b).1
  rw [World.size_alloc] at this
  exact this

theorem aw_b {wc w1 : World} {X : Obj} (h : Far (wc.alloc X).drew w1) (C : Obj) : (w1.alloc C).heap[w1.heap.size]? = some C ∧ (w1.alloc C).heap[wc.heap.size]? = some X ∧ RowKit.Below wc.heap.size wc (w1.alloc C) := by
  have h0 : wc.heap.size < (wc.alloc X).drew.heap.size := by show wc.heap.size < (wc.alloc X).heap.size; simp
  have h1 := (h.below.block _ h0).trans (MapKept.heap_alloc wc X).1
  have h2 : wc.heap.size < w1.heap.size := Nat.lt_of_lt_of_le h0 h.below.size
  have hF : Far wc w1 := (((Far.refl wc).alloc X).drew).trans h
  exact ⟨(MapKept.heap_alloc w1 C).1, ((World.grownBy_alloc w1 C none).block _ h2 (by simp)).trans h1, (hF.alloc C).below⟩

theorem aw_e {wc w1 : World} {X Y : Obj} (h : Far ((wc.alloc X).alloc Y).drew w1) (hY : Y = .cells (zop.cells (.slice none 0 0)) 36) (o : OpIn) (v : Value) : (put14 w1 (wc.heap.size + 1) o v).heap[wc.heap.size + 1]? = some (.cells (o.cells v) 36) ∧ (put14 w1 (wc.heap.size + 1) o v).heap[wc.heap.size]? = some X ∧ RowKit.Below wc.heap.size wc (put14 w1 (wc.heap.size + 1) o v) := by
  have hs : ((wc.alloc X).alloc Y).drew.heap.size = wc.heap.size + 2 := by show ((wc.alloc X).alloc Y).heap.size = _; simp
  obtain ⟨b1, b2⟩ := second_block wc X Y
  have h1 := (h.below.block wc.heap.size (by omega)).trans b1
  have h2 := (h.below.block (wc.heap.size + 1) (by omega)).trans b2
  rw [hY] at h2
  have hF : Far wc w1 := ((((Far.refl wc).alloc X).alloc Y).drew).trans h
  have hl := h.below.size
  have G := put14_grown w1 (wc.heap.size + 1) o v
  exact ⟨put14_block h2, (G.block _ (by omega) (by simp)).trans h1, hF.below.grown G hF.below.size (fun j hj => by cases hj; omega)⟩

theorem aw_f {wc w1 : World} {X Y : Obj} (h : Far ((wc.alloc Y).alloc X).drew w1) (hY : Y = .cells (zop.cells (.slice none 0 0)) 36) (o : OpIn) (v : Value) : (put14 w1 wc.heap.size o v).heap[wc.heap.size]? = some (.cells (o.cells v) 36) ∧ (put14 w1 wc.heap.size o v).heap[wc.heap.size + 1]? = some X ∧ RowKit.Below wc.heap.size wc (put14 w1 wc.heap.size o v) := by
  have hs : ((wc.alloc Y).alloc X).drew.heap.size = wc.heap.size + 2 := by show ((wc.alloc Y).alloc X).heap.size = _; simp
  obtain ⟨b1, b2⟩ := second_block wc Y X
  have h1 := (h.below.block wc.heap.size (by omega)).trans b1
  have h2 := (h.below.block (wc.heap.size + 1) (by omega)).trans b2
  rw [hY] at h1
  have hF : Far wc w1 := ((((Far.refl wc).alloc Y).alloc X).drew).trans h
  have hl := h.below.size
  have G := put14_grown w1 wc.heap.size o v
  exact ⟨put14_block h1, (G.block _ (by omega) (by simp)).trans h2, hF.below.grown G hF.below.size (fun j hj => by cases hj; omega)⟩

theorem aw_c {wc w1 : World} {Y : Obj} (h : Far (wc.alloc Y).drew w1) (hY : Y = .cells (zop.cells (.slice none 0 0)) 36) (o : OpIn) (v : Value) (X : Obj) : ((put14 w1 wc.heap.size o v).alloc X).heap[wc.heap.size]? = some (.cells (o.cells v) 36) ∧ ((put14 w1 wc.heap.size o v).alloc X).heap[w1.heap.size]? = some X ∧ RowKit.Below wc.heap.size wc ((put14 w1 wc.heap.size o v).alloc X) := by
  have h0 : wc.heap.size < (wc.alloc Y).drew.heap.size := by show wc.heap.size < (wc.alloc Y).heap.size; simp
  have h1 := (h.below.block _ h0).trans (MapKept.heap_alloc wc Y).1
  rw [hY] at h1
  have hl : wc.heap.size < w1.heap.size := Nat.lt_of_lt_of_le h0 h.below.size
  have hF : Far wc w1 := (((Far.refl wc).alloc Y).drew).trans h
  have G := put14_grown w1 wc.heap.size o v
  have hz := put14_size w1 wc.heap.size o v
  have hn := (MapKept.heap_alloc (put14 w1 wc.heap.size o v) X).1
  rw [hz] at hn
  have hb := hF.below.grown G hF.below.size (fun j hj => by cases hj; exact Nat.le_refl _)
  exact ⟨((World.grownBy_alloc (put14 w1 wc.heap.size o v) X none).block _ (by omega) (by simp)).trans (put14_block h1), hn, hb.alloc (by omega) X⟩

theorem aw_a {wc w1 : World} (h : Far wc.drew w1) (X Y : Obj) : ((w1.alloc X).alloc Y).heap[w1.heap.size]? = some X ∧ ((w1.alloc X).alloc Y).heap[w1.heap.size + 1]? = some Y ∧ RowKit.Below wc.heap.size wc ((w1.alloc X).alloc Y) := by
  obtain ⟨b1, b2⟩ := second_block w1 X Y
  exact ⟨b1, b2, (((((Far.refl wc).drew).trans h).alloc X).alloc Y).below⟩

set_option maxRecDepth 100000 in
set_option maxHeartbeats 8000000 in
theorem awake_any (w : World) : Calls Tryz.prog 6 #[] w fun e w' => e = .returned (.bool true) ∧ RowKit.Below w.heap.size w w' := by
  go_enter Tryz.func6, Tryz.ntmps6
  go_wp2_with fail
  have hB0 : RowKit.Below w.heap.size w (w.alloc (.cells #[.int .i64 1, .int .i64 1] 32)) := (Below.refl _ _).alloc (Nat.le_refl _) _
  have d0 : (w.alloc (.cells #[.int .i64 1, .int .i64 1] 32)).cell? ⟨w.heap.size, 0, none⟩ = some (.int .i64 1) := by go_simp
  have d1 : (w.alloc (.cells #[.int .i64 1, .int .i64 1] 32)).cell? ⟨w.heap.size, 1, none⟩ = some (.int .i64 1) := by go_simp
  generalize w.alloc (.cells #[.int .i64 1, .int .i64 1] 32) = W0 at *
  go_cut [2] from 10 to 13 (fun s2 wc => ∃ q : Nat, s2 = .pointer (some ⟨q, 0, none⟩) ∧ wc.heap[q]? = some (.cells (mka.cells (.slice none 0 0)) 36) ∧ Hid (RowKit.Below W0.heap.size W0 wc))
  case first =>
    have hZ : (W0.alloc (.cells #[.int .i64 0, .int .i64 0, .int .i64 0, .slice none 0 0, .int .i64 0, .int .i64 0, .int .i64 0, .int .i64 0, .int .i64 0, .int .i64 0, .int .i64 0, .int .i64 0, .int .i64 0, .string { data := #[] }] 36)).heap[W0.heap.size]? = some (.cells #[.int .i64 0, .int .i64 0, .int .i64 0, .slice none 0 0, .int .i64 0, .int .i64 0, .int .i64 0, .int .i64 0, .int .i64 0, .int .i64 0, .int .i64 0, .int .i64 0, .int .i64 0, .string { data := #[] }] 36) := (MapKept.heap_alloc W0 _).1
    have hF1 : Far W0 (W0.alloc (.cells #[.int .i64 0, .int .i64 0, .int .i64 0, .slice none 0 0, .int .i64 0, .int .i64 0, .int .i64 0, .int .i64 0, .int .i64 0, .int .i64 0, .int .i64 0, .int .i64 0, .int .i64 0, .string { data := #[] }] 36)).drew := ((Far.refl W0).alloc _).drew
    have hF0 : Far W0 W0.drew := (Far.refl W0).drew
    have hl0 : w.heap.size < W0.heap.size := cell_in d0
    have hR0 := root_any W0.drew
    have hR1 := root_any (W0.alloc (.cells #[.int .i64 0, .int .i64 0, .int .i64 0, .slice none 0 0, .int .i64 0, .int .i64 0, .int .i64 0, .int .i64 0, .int .i64 0, .int .i64 0, .int .i64 0, .int .i64 0, .int .i64 0, .string { data := #[] }] 36)).drew
    have hs1 : W0.heap.size < (W0.alloc (.cells #[.int .i64 0, .int .i64 0, .int .i64 0, .slice none 0 0, .int .i64 0, .int .i64 0, .int .i64 0, .int .i64 0, .int .i64 0, .int .i64 0, .int .i64 0, .int .i64 0, .int .i64 0, .string { data := #[] }] 36)).drew.heap.size := by show W0.heap.size < (W0.alloc _).heap.size; simp
    have hQ : ∀ w1, Far (W0.alloc (.cells #[.int .i64 0, .int .i64 0, .int .i64 0, .slice none 0 0, .int .i64 0, .int .i64 0, .int .i64 0, .int .i64 0, .int .i64 0, .int .i64 0, .int .i64 0, .int .i64 0, .int .i64 0, .string { data := #[] }] 36)).drew w1 → w1.heap[W0.heap.size]? = some (.cells (zop.cells (.slice none 0 0)) 36) := fun w1 h => (h.below.block _ hs1).trans hZ
    have hne : W0.heap.size ≠ w.heap.size := by omega
    have S0 : W0.drew.cell? ⟨w.heap.size, 0, none⟩ = some (.int .i64 1) ∧ W0.drew.cell? ⟨w.heap.size, 1, none⟩ = some (.int .i64 1) := ⟨d0, d1⟩
    have S1 : (W0.alloc (.cells #[.int .i64 0, .int .i64 0, .int .i64 0, .slice none 0 0, .int .i64 0, .int .i64 0, .int .i64 0, .int .i64 0, .int .i64 0, .int .i64 0, .int .i64 0, .int .i64 0, .int .i64 0, .string { data := #[] }] 36)).drew.cell? ⟨w.heap.size, 0, none⟩ = some (.int .i64 1) ∧ (W0.alloc (.cells #[.int .i64 0, .int .i64 0, .int .i64 0, .slice none 0 0, .int .i64 0, .int .i64 0, .int .i64 0, .int .i64 0, .int .i64 0, .int .i64 0, .int .i64 0, .int .i64 0, .int .i64 0, .string { data := #[] }] 36)).drew.cell? ⟨w.heap.size, 1, none⟩ = some (.int .i64 1) := ⟨(hF1.below.cell (cell_in d0)).trans d0, (hF1.below.cell (cell_in d1)).trans d1⟩
    have hSf : ∀ w1, Far W0 w1 → w1.cell? ⟨w.heap.size, 0, none⟩ = some (.int .i64 1) ∧ w1.cell? ⟨w.heap.size, 1, none⟩ = some (.int .i64 1) := fun w1 F1 => ⟨(F1.below.cell (cell_in d0)).trans d0, (F1.below.cell (cell_in d1)).trans d1⟩
    have hSa : ∀ w1 (o : Obj), Far W0 w1 → (w1.alloc o).cell? ⟨w.heap.size, 0, none⟩ = some (.int .i64 1) ∧ (w1.alloc o).cell? ⟨w.heap.size, 1, none⟩ = some (.int .i64 1) := fun w1 o F1 => hSf _ (F1.alloc o)
    go_region_held (fun w' => w'.cell? ⟨w.heap.size, 0, none⟩ = some (.int .i64 1) ∧ w'.cell? ⟨w.heap.size, 1, none⟩ = some (.int .i64 1)) (first | with_reducible exact S0 | with_reducible exact S1 | with_reducible exact hSb | with_reducible exact hSa w1 _ F1 | simp only [World.cell?_setCell_far, hne, ne_eq, not_false_eq_true, x0, x1, and_self])
     (first
      | (go_at_call 17; with_reducible refine hR0.mono ?_; rintro e w1 ⟨rfl, hf1⟩; have F1 := hF0.trans hf1; have hSb := hSf w1 F1; have x0 := hSb.1; have x1 := hSb.2; have hl1 : w.heap.size < w1.heap.size := cell_in x0)
      | (go_at_call 17; with_reducible refine hR1.mono ?_; rintro e w1 ⟨rfl, hf1⟩; have F1 := hF1.trans hf1; have hSb := hSf w1 F1; have x0 := hSb.1; have x1 := hSb.2; have hl1 : w.heap.size < w1.heap.size := cell_in x0; have hq3 := hQ w1 hf1; obtain ⟨z0, z1, z2, z3, z4, z5, z6, z7, z8, z9, z10, z11, z12, z13⟩ := opAt_of_block hq3; have hf3 := frozen_of_block hq3))
    all_goals first
      | (have hq := hq3
         as_aux_lemma =>
         have B := put14_block (o := mka) (v := (.slice none 0 0)) hq3
         have G := put14_grown w1 W0.heap.size mka (.slice none 0 0)
         change Exit.then _ _ _ _ (put14 w1 W0.heap.size mka (.slice none 0 0))
         generalize put14 w1 W0.heap.size mka (.slice none 0 0) = W at B G ⊢
         go_wp2
         go_meet
         exact ⟨W0.heap.size, rfl, B, hid ((F1.below.trans (Below.refl _ _)).grown G F1.below.size (fun j hj => by cases hj; exact Nat.le_refl _))⟩)
      | (have hA : (w1.alloc (.cells (OpIn.cells mka (.slice none 0 0)) 36)).heap[w1.heap.size]? = some (.cells (OpIn.cells mka (.slice none 0 0)) 36) := (MapKept.heap_alloc w1 _).1
         have hB := F1.below.alloc F1.below.size (.cells (OpIn.cells mka (.slice none 0 0)) 36)
         change Exit.then _ _ _ _ (w1.alloc (.cells (OpIn.cells mka (.slice none 0 0)) 36))
         generalize w1.alloc (.cells (OpIn.cells mka (.slice none 0 0)) 36) = W at hA hB ⊢
         go_wp2
         go_meet
         exact ⟨w1.heap.size, rfl, hA, hid hB⟩)
  obtain ⟨q2, rfl, hq2, hB2⟩ := hcut
  generalize wc = W1 at *
  go_wp2_with fail
  go_cut [3] from 14 to 19 (fun s3 wd => ∃ q b : Nat, s3 = .pointer (some ⟨q, 0, none⟩) ∧ wd.heap[q]? = some (.cells (mkb.cells (.slice (some ⟨b, 0, none⟩) 1 1)) 36) ∧ wd.heap[b]? = some (.cells #[.int .i64 1, .int .i64 1] 32) ∧ Hid (RowKit.Below W1.heap.size W1 wd))
  case first =>
    have hl0 : w.heap.size < W1.heap.size := Nat.lt_of_lt_of_le (cell_in d0) hB2.out.size
    have c0 := (hB2.out.cell (p := ⟨w.heap.size, 0, none⟩) (cell_in d0)).trans d0
    have c1 := (hB2.out.cell (p := ⟨w.heap.size, 1, none⟩) (cell_in d1)).trans d1
    have hSf : ∀ w1, Far W1 w1 → w1.cell? ⟨w.heap.size, 0, none⟩ = some (.int .i64 1) ∧ w1.cell? ⟨w.heap.size, 1, none⟩ = some (.int .i64 1) := fun w1 F1 => ⟨(F1.below.cell (cell_in c0)).trans c0, (F1.below.cell (cell_in c1)).trans c1⟩
    have hSa : ∀ w1 (o : Obj), Far W1 w1 → (w1.alloc o).cell? ⟨w.heap.size, 0, none⟩ = some (.int .i64 1) ∧ (w1.alloc o).cell? ⟨w.heap.size, 1, none⟩ = some (.int .i64 1) := fun w1 o F1 => hSf _ (F1.alloc o)
    have hSaa : ∀ w1 (o o' : Obj), Far W1 w1 → ((w1.alloc o).alloc o').cell? ⟨w.heap.size, 0, none⟩ = some (.int .i64 1) ∧ ((w1.alloc o).alloc o').cell? ⟨w.heap.size, 1, none⟩ = some (.int .i64 1) := fun w1 o o' F1 => hSf _ ((F1.alloc o).alloc o')
    have hFa : Far W1 W1.drew := ((Far.refl W1).drew)
    have Sa := hSf _ hFa
    have hRa := trash_any W1.drew
    have hFb : Far W1 (W1.alloc (.cells #[.int .i64 1, .int .i64 1] 32)).drew := (((Far.refl W1).alloc _).drew)
    have Sb := hSf _ hFb
    have hRb := trash_any (W1.alloc (.cells #[.int .i64 1, .int .i64 1] 32)).drew
    have hFc : Far W1 (W1.alloc (.cells #[.int .i64 0, .int .i64 0, .int .i64 0, .slice none 0 0, .int .i64 0, .int .i64 0, .int .i64 0, .int .i64 0, .int .i64 0, .int .i64 0, .int .i64 0, .int .i64 0, .int .i64 0, .string { data := #[] }] 36)).drew := (((Far.refl W1).alloc _).drew)
    have Sc := hSf _ hFc
    have hRc := trash_any (W1.alloc (.cells #[.int .i64 0, .int .i64 0, .int .i64 0, .slice none 0 0, .int .i64 0, .int .i64 0, .int .i64 0, .int .i64 0, .int .i64 0, .int .i64 0, .int .i64 0, .int .i64 0, .int .i64 0, .string { data := #[] }] 36)).drew
    have hFe : Far W1 ((W1.alloc (.cells #[.int .i64 1, .int .i64 1] 32)).alloc (.cells #[.int .i64 0, .int .i64 0, .int .i64 0, .slice none 0 0, .int .i64 0, .int .i64 0, .int .i64 0, .int .i64 0, .int .i64 0, .int .i64 0, .int .i64 0, .int .i64 0, .int .i64 0, .string { data := #[] }] 36)).drew := ((((Far.refl W1).alloc _).alloc _).drew)
    have Se := hSf _ hFe
    have hRe := trash_any ((W1.alloc (.cells #[.int .i64 1, .int .i64 1] 32)).alloc (.cells #[.int .i64 0, .int .i64 0, .int .i64 0, .slice none 0 0, .int .i64 0, .int .i64 0, .int .i64 0, .int .i64 0, .int .i64 0, .int .i64 0, .int .i64 0, .int .i64 0, .int .i64 0, .string { data := #[] }] 36)).drew
    have hFf : Far W1 ((W1.alloc (.cells #[.int .i64 0, .int .i64 0, .int .i64 0, .slice none 0 0, .int .i64 0, .int .i64 0, .int .i64 0, .int .i64 0, .int .i64 0, .int .i64 0, .int .i64 0, .int .i64 0, .int .i64 0, .string { data := #[] }] 36)).alloc (.cells #[.int .i64 1, .int .i64 1] 32)).drew := ((((Far.refl W1).alloc _).alloc _).drew)
    have Sf := hSf _ hFf
    have hRf := trash_any ((W1.alloc (.cells #[.int .i64 0, .int .i64 0, .int .i64 0, .slice none 0 0, .int .i64 0, .int .i64 0, .int .i64 0, .int .i64 0, .int .i64 0, .int .i64 0, .int .i64 0, .int .i64 0, .int .i64 0, .string { data := #[] }] 36)).alloc (.cells #[.int .i64 1, .int .i64 1] 32)).drew
    have hne : W1.heap.size ≠ w.heap.size := by omega
    have hne1 : W1.heap.size + 1 ≠ w.heap.size := by omega
    have hQc : ∀ w1, Far (W1.alloc (.cells #[.int .i64 0, .int .i64 0, .int .i64 0, .slice none 0 0, .int .i64 0, .int .i64 0, .int .i64 0, .int .i64 0, .int .i64 0, .int .i64 0, .int .i64 0, .int .i64 0, .int .i64 0, .string { data := #[] }] 36)).drew w1 → w1.heap[W1.heap.size]? = some (.cells (zop.cells (.slice none 0 0)) 36) := fun w1 h => (h.below.block _ (by show W1.heap.size < (W1.alloc _).heap.size; simp)).trans (MapKept.heap_alloc W1 _).1
    have hQe : ∀ w1, Far ((W1.alloc (.cells #[.int .i64 1, .int .i64 1] 32)).alloc (.cells #[.int .i64 0, .int .i64 0, .int .i64 0, .slice none 0 0, .int .i64 0, .int .i64 0, .int .i64 0, .int .i64 0, .int .i64 0, .int .i64 0, .int .i64 0, .int .i64 0, .int .i64 0, .string { data := #[] }] 36)).drew w1 → w1.heap[W1.heap.size + 1]? = some (.cells (zop.cells (.slice none 0 0)) 36) := fun w1 h => (h.below.block _ (by show W1.heap.size + 1 < ((W1.alloc _).alloc _).heap.size; simp)).trans (by have := (MapKept.heap_alloc (W1.alloc (.cells #[.int .i64 1, .int .i64 1] 32)) (.cells #[.int .i64 0, .int .i64 0, .int .i64 0, .slice none 0 0, .int .i64 0, .int .i64 0, .int .i64 0, .int .i64 0, .int .i64 0, .int .i64 0, .int .i64 0, .int .i64 0, .int .i64 0, .string { data := #[] }] 36)).1; rw [World.size_alloc] at this; exact this)
    have hQf : ∀ w1, Far ((W1.alloc (.cells #[.int .i64 0, .int .i64 0, .int .i64 0, .slice none 0 0, .int .i64 0, .int .i64 0, .int .i64 0, .int .i64 0, .int .i64 0, .int .i64 0, .int .i64 0, .int .i64 0, .int .i64 0, .string { data := #[] }] 36)).alloc (.cells #[.int .i64 1, .int .i64 1] 32)).drew w1 → w1.heap[W1.heap.size]? = some (.cells (zop.cells (.slice none 0 0)) 36) := fun w1 h => (h.below.block _ (by show W1.heap.size < ((W1.alloc _).alloc _).heap.size; simp; omega)).trans (by have := (World.grownBy_alloc (W1.alloc (.cells #[.int .i64 0, .int .i64 0, .int .i64 0, .slice none 0 0, .int .i64 0, .int .i64 0, .int .i64 0, .int .i64 0, .int .i64 0, .int .i64 0, .int .i64 0, .int .i64 0, .int .i64 0, .string { data := #[] }] 36)) (.cells #[.int .i64 1, .int .i64 1] 32) none).block W1.heap.size (by simp) (by simp); exact this.trans (MapKept.heap_alloc W1 _).1)
    go_region_held (fun w' => w'.cell? ⟨w.heap.size, 0, none⟩ = some (.int .i64 1) ∧ w'.cell? ⟨w.heap.size, 1, none⟩ = some (.int .i64 1)) (first | with_reducible exact Sa | with_reducible exact Sb | with_reducible exact Sc | with_reducible exact Se | with_reducible exact Sf | with_reducible exact hSb | with_reducible exact hSa w1 _ F1 | with_reducible exact hSaa w1 _ _ F1 | (simp only [World.cell?_setCell_far, hne, ne_eq, not_false_eq_true, x0, x1, and_self]; done) | (simp only [World.cell?_setCell_far, hne1, ne_eq, not_false_eq_true, x0, x1, and_self]; done) | (simp only [World.cell?_alloc_some, World.cell?_setCell_far, hne, ne_eq, not_false_eq_true, x0, x1, Option.isSome_some, and_self]; done) | (simp only [World.cell?_alloc_some, World.cell?_setCell_far, hne2, ne_eq, not_false_eq_true, x0, x1, Option.isSome_some, and_self]; done))
     (first
      | (go_at_call 18; with_reducible refine hRa.mono ?_; rintro e w1 ⟨rfl, hf1⟩; have hka := hf1; have F1 := hFa.trans hf1; have hSb := hSf w1 F1; have x0 := hSb.1; have x1 := hSb.2; have hl1 : w.heap.size < w1.heap.size := cell_in x0; have hne2 : w1.heap.size ≠ w.heap.size := (by omega); have hne3 : w1.heap.size + 1 ≠ w.heap.size := (by omega); have y0 := (hSa w1 (.cells #[.int .i64 1, .int .i64 1] 32) F1).1; have y1 := (hSa w1 (.cells #[.int .i64 1, .int .i64 1] 32) F1).2; have y2 := (hSaa w1 (.cells #[.int .i64 0, .int .i64 0, .int .i64 0, .slice none 0 0, .int .i64 0, .int .i64 0, .int .i64 0, .int .i64 0, .int .i64 0, .int .i64 0, .int .i64 0, .int .i64 0, .int .i64 0, .string { data := #[] }] 36) (.cells #[.int .i64 1, .int .i64 1] 32) F1).1; have y3 := (hSaa w1 (.cells #[.int .i64 0, .int .i64 0, .int .i64 0, .slice none 0 0, .int .i64 0, .int .i64 0, .int .i64 0, .int .i64 0, .int .i64 0, .int .i64 0, .int .i64 0, .int .i64 0, .int .i64 0, .string { data := #[] }] 36) (.cells #[.int .i64 1, .int .i64 1] 32) F1).2)
      | (go_at_call 18; with_reducible refine hRb.mono ?_; rintro e w1 ⟨rfl, hf1⟩; have hkb := hf1; have F1 := hFb.trans hf1; have hSb := hSf w1 F1; have x0 := hSb.1; have x1 := hSb.2; have hl1 : w.heap.size < w1.heap.size := cell_in x0; have hne2 : w1.heap.size ≠ w.heap.size := (by omega); have hne3 : w1.heap.size + 1 ≠ w.heap.size := (by omega); have y0 := (hSa w1 (.cells #[.int .i64 1, .int .i64 1] 32) F1).1; have y1 := (hSa w1 (.cells #[.int .i64 1, .int .i64 1] 32) F1).2; have y2 := (hSaa w1 (.cells #[.int .i64 0, .int .i64 0, .int .i64 0, .slice none 0 0, .int .i64 0, .int .i64 0, .int .i64 0, .int .i64 0, .int .i64 0, .int .i64 0, .int .i64 0, .int .i64 0, .int .i64 0, .string { data := #[] }] 36) (.cells #[.int .i64 1, .int .i64 1] 32) F1).1; have y3 := (hSaa w1 (.cells #[.int .i64 0, .int .i64 0, .int .i64 0, .slice none 0 0, .int .i64 0, .int .i64 0, .int .i64 0, .int .i64 0, .int .i64 0, .int .i64 0, .int .i64 0, .int .i64 0, .int .i64 0, .string { data := #[] }] 36) (.cells #[.int .i64 1, .int .i64 1] 32) F1).2)
      | (go_at_call 18; with_reducible refine hRc.mono ?_; rintro e w1 ⟨rfl, hf1⟩; have hkc := hf1; have F1 := hFc.trans hf1; have hSb := hSf w1 F1; have x0 := hSb.1; have x1 := hSb.2; have hl1 : w.heap.size < w1.heap.size := cell_in x0; have hne2 : w1.heap.size ≠ w.heap.size := (by omega); have hne3 : w1.heap.size + 1 ≠ w.heap.size := (by omega); have y0 := (hSa w1 (.cells #[.int .i64 1, .int .i64 1] 32) F1).1; have y1 := (hSa w1 (.cells #[.int .i64 1, .int .i64 1] 32) F1).2; have y2 := (hSaa w1 (.cells #[.int .i64 0, .int .i64 0, .int .i64 0, .slice none 0 0, .int .i64 0, .int .i64 0, .int .i64 0, .int .i64 0, .int .i64 0, .int .i64 0, .int .i64 0, .int .i64 0, .int .i64 0, .string { data := #[] }] 36) (.cells #[.int .i64 1, .int .i64 1] 32) F1).1; have y3 := (hSaa w1 (.cells #[.int .i64 0, .int .i64 0, .int .i64 0, .slice none 0 0, .int .i64 0, .int .i64 0, .int .i64 0, .int .i64 0, .int .i64 0, .int .i64 0, .int .i64 0, .int .i64 0, .int .i64 0, .string { data := #[] }] 36) (.cells #[.int .i64 1, .int .i64 1] 32) F1).2; have hq3 := hQc w1 hf1; obtain ⟨z0, z1, z2, z3, z4, z5, z6, z7, z8, z9, z10, z11, z12, z13⟩ := opAt_of_block hq3; have hf3 := frozen_of_block hq3; have hlq : W1.heap.size < w1.heap.size := (Array.getElem?_eq_some_iff.1 hq3).1)
      | (go_at_call 18; with_reducible refine hRe.mono ?_; rintro e w1 ⟨rfl, hf1⟩; have hke := hf1; have F1 := hFe.trans hf1; have hSb := hSf w1 F1; have x0 := hSb.1; have x1 := hSb.2; have hl1 : w.heap.size < w1.heap.size := cell_in x0; have hne2 : w1.heap.size ≠ w.heap.size := (by omega); have hne3 : w1.heap.size + 1 ≠ w.heap.size := (by omega); have y0 := (hSa w1 (.cells #[.int .i64 1, .int .i64 1] 32) F1).1; have y1 := (hSa w1 (.cells #[.int .i64 1, .int .i64 1] 32) F1).2; have y2 := (hSaa w1 (.cells #[.int .i64 0, .int .i64 0, .int .i64 0, .slice none 0 0, .int .i64 0, .int .i64 0, .int .i64 0, .int .i64 0, .int .i64 0, .int .i64 0, .int .i64 0, .int .i64 0, .int .i64 0, .string { data := #[] }] 36) (.cells #[.int .i64 1, .int .i64 1] 32) F1).1; have y3 := (hSaa w1 (.cells #[.int .i64 0, .int .i64 0, .int .i64 0, .slice none 0 0, .int .i64 0, .int .i64 0, .int .i64 0, .int .i64 0, .int .i64 0, .int .i64 0, .int .i64 0, .int .i64 0, .int .i64 0, .string { data := #[] }] 36) (.cells #[.int .i64 1, .int .i64 1] 32) F1).2; have hq3 := hQe w1 hf1; obtain ⟨z0, z1, z2, z3, z4, z5, z6, z7, z8, z9, z10, z11, z12, z13⟩ := opAt_of_block hq3; have hf3 := frozen_of_block hq3)
      | (go_at_call 18; with_reducible refine hRf.mono ?_; rintro e w1 ⟨rfl, hf1⟩; have hkf := hf1; have F1 := hFf.trans hf1; have hSb := hSf w1 F1; have x0 := hSb.1; have x1 := hSb.2; have hl1 : w.heap.size < w1.heap.size := cell_in x0; have hne2 : w1.heap.size ≠ w.heap.size := (by omega); have hne3 : w1.heap.size + 1 ≠ w.heap.size := (by omega); have y0 := (hSa w1 (.cells #[.int .i64 1, .int .i64 1] 32) F1).1; have y1 := (hSa w1 (.cells #[.int .i64 1, .int .i64 1] 32) F1).2; have y2 := (hSaa w1 (.cells #[.int .i64 0, .int .i64 0, .int .i64 0, .slice none 0 0, .int .i64 0, .int .i64 0, .int .i64 0, .int .i64 0, .int .i64 0, .int .i64 0, .int .i64 0, .int .i64 0, .int .i64 0, .string { data := #[] }] 36) (.cells #[.int .i64 1, .int .i64 1] 32) F1).1; have y3 := (hSaa w1 (.cells #[.int .i64 0, .int .i64 0, .int .i64 0, .slice none 0 0, .int .i64 0, .int .i64 0, .int .i64 0, .int .i64 0, .int .i64 0, .int .i64 0, .int .i64 0, .int .i64 0, .int .i64 0, .string { data := #[] }] 36) (.cells #[.int .i64 1, .int .i64 1] 32) F1).2; have hq3 := hQf w1 hf1; obtain ⟨z0, z1, z2, z3, z4, z5, z6, z7, z8, z9, z10, z11, z12, z13⟩ := opAt_of_block hq3; have hf3 := frozen_of_block hq3))
    all_goals first
      | (have hq := hkb
         as_aux_lemma =>
         obtain ⟨r1, r2, r3⟩ := aw_b hkb (.cells (mkb.cells (.slice (some ⟨W1.heap.size, 0, none⟩) 1 1)) 36)
         change Exit.then _ _ _ _ (w1.alloc (.cells (mkb.cells (.slice (some ⟨W1.heap.size, 0, none⟩) 1 1)) 36))
         generalize w1.alloc (.cells (mkb.cells (.slice (some ⟨W1.heap.size, 0, none⟩) 1 1)) 36) = W at r1 r2 r3 ⊢
         go_wp2
         go_meet
         exact ⟨w1.heap.size, W1.heap.size, rfl, r1, r2, hid r3⟩)
      | (have hq := hke
         as_aux_lemma =>
         obtain ⟨r1, r2, r3⟩ := aw_e hke rfl mkb (.slice (some ⟨W1.heap.size, 0, none⟩) 1 1)
         change Exit.then _ _ _ _ (put14 w1 (W1.heap.size + 1) mkb (.slice (some ⟨W1.heap.size, 0, none⟩) 1 1))
         generalize put14 w1 (W1.heap.size + 1) mkb (.slice (some ⟨W1.heap.size, 0, none⟩) 1 1) = W at r1 r2 r3 ⊢
         go_wp2
         go_meet
         exact ⟨W1.heap.size + 1, W1.heap.size, rfl, r1, r2, hid r3⟩)
      | (have hq := hkf
         as_aux_lemma =>
         obtain ⟨r1, r2, r3⟩ := aw_f hkf rfl mkb (.slice (some ⟨(W1.heap.size + 1), 0, none⟩) 1 1)
         change Exit.then _ _ _ _ (put14 w1 W1.heap.size mkb (.slice (some ⟨(W1.heap.size + 1), 0, none⟩) 1 1))
         generalize put14 w1 W1.heap.size mkb (.slice (some ⟨(W1.heap.size + 1), 0, none⟩) 1 1) = W at r1 r2 r3 ⊢
         go_wp2
         go_meet
         exact ⟨W1.heap.size, W1.heap.size + 1, rfl, r1, r2, hid r3⟩)
      | (have hq := hkc
         as_aux_lemma =>
         obtain ⟨r1, r2, r3⟩ := aw_c hkc rfl mkb (.slice (some ⟨w1.heap.size, 0, none⟩) 1 1) (.cells #[.int .i64 1, .int .i64 1] 32)
         change Exit.then _ _ _ _ ((put14 w1 W1.heap.size mkb (.slice (some ⟨w1.heap.size, 0, none⟩) 1 1)).alloc (.cells #[.int .i64 1, .int .i64 1] 32))
         generalize (put14 w1 W1.heap.size mkb (.slice (some ⟨w1.heap.size, 0, none⟩) 1 1)).alloc (.cells #[.int .i64 1, .int .i64 1] 32) = W at r1 r2 r3 ⊢
         go_wp2
         go_meet
         exact ⟨W1.heap.size, w1.heap.size, rfl, r1, r2, hid r3⟩)
      | (have hq := hka
         as_aux_lemma =>
         obtain ⟨r2, r1, r3⟩ := aw_a hka (.cells #[.int .i64 1, .int .i64 1] 32) (.cells (mkb.cells (.slice (some ⟨w1.heap.size, 0, none⟩) 1 1)) 36)
         change Exit.then _ _ _ _ ((w1.alloc (.cells #[.int .i64 1, .int .i64 1] 32)).alloc (.cells (mkb.cells (.slice (some ⟨w1.heap.size, 0, none⟩) 1 1)) 36))
         generalize (w1.alloc (.cells #[.int .i64 1, .int .i64 1] 32)).alloc (.cells (mkb.cells (.slice (some ⟨w1.heap.size, 0, none⟩) 1 1)) 36) = W at r1 r2 r3 ⊢
         go_wp2
         go_meet
         exact ⟨w1.heap.size + 1, w1.heap.size, rfl, r1, r2, hid r3⟩)
      | (have hq := hka
         as_aux_lemma =>
         obtain ⟨r1, r2, r3⟩ := aw_a hka (.cells (mkb.cells (.slice (some ⟨(w1.heap.size + 1), 0, none⟩) 1 1)) 36) (.cells #[.int .i64 1, .int .i64 1] 32)
         change Exit.then _ _ _ _ ((w1.alloc (.cells (mkb.cells (.slice (some ⟨(w1.heap.size + 1), 0, none⟩) 1 1)) 36)).alloc (.cells #[.int .i64 1, .int .i64 1] 32))
         generalize (w1.alloc (.cells (mkb.cells (.slice (some ⟨(w1.heap.size + 1), 0, none⟩) 1 1)) 36)).alloc (.cells #[.int .i64 1, .int .i64 1] 32) = W at r1 r2 r3 ⊢
         go_wp2
         go_meet
         exact ⟨w1.heap.size, w1.heap.size + 1, rfl, r1, r2, hid r3⟩)
  obtain ⟨q3, b3, rfl, hq3, hb3, hB3⟩ := hcut
  have hA : Aw wc w.heap.size q2 q3 b3 := ⟨(hB3.out.cell (cell_in ((hB2.out.cell (cell_in d0)).trans d0))).trans ((hB2.out.cell (cell_in d0)).trans d0), (hB3.out.cell (cell_in ((hB2.out.cell (cell_in d1)).trans d1))).trans ((hB2.out.cell (cell_in d1)).trans d1), (hB3.out.block q2 (Array.getElem?_eq_some_iff.1 hq2).1).trans hq2, hq3, hb3⟩
  have hBW : Hid (RowKit.Below w.heap.size w wc) := hid (hB0.trans ((hB2.out.trans (hB3.out.mono hB2.out.size)).mono hB0.size))
  clear hq2 hq3 hb3 hB3 hB2 d0 d1 hB0
  have HA := hid hA
  obtain ⟨a0, a1, a2, a3, a4, a5, a6, a7, a8, a9, a10, a11, a12, a13⟩ := opAt_of_block hA.h2
  obtain ⟨e0, e1, e2, e3, e4, e5, e6, e7, e8, e9, e10, e11, e12, e13⟩ := opAt_of_block hA.h3
  have hO := ord_two wc w.heap.size q2 q3 b3 hA
  clear hA
  go_upto_region 5 with (first
    | (go_at_call 8; refine hO.mono ?_; rintro e w4 ⟨g4, o4, c4, s4, t4, x, y, rfl, hx, hy, hos4, hB4⟩))
  have hA4 := HA.out.below hB4
  have hBW4 : Hid (RowKit.Below w.heap.size w w4) := hid (hBW.out.trans (hB4.mono hBW.out.size))
  clear a0 a1 a2 a3 a4 a5 a6 a7 a8 a9 a10 a11 a12 a13 e0 e1 e2 e3 e4 e5 e6 e7 e8 e9 e10 e11 e12 e13 hO HA hBW hB4
  have Hx := hid hx
  have Hy := hid hy
  have Hos4 := hid hos4
  have HA4 := hid hA4
  obtain ⟨e0, e1, e2, e3, e4, e5, e6, e7, e8, e9, e10, e11, e12, e13⟩ := opAt_of_block hA4.h3
  have hO := ord_one w4 w.heap.size q2 q3 b3 hA4
  clear hA4 hx hy hos4
  go_upto_region 6 with (first
    | (go_at_call 8; refine hO.mono ?_; rintro e w5 ⟨s5, c5, t5, k5, rfl, hB5⟩))
  have hA5 := HA4.out.below hB5
  have hBW5 : Hid (RowKit.Below w.heap.size w w5) := hid (hBW4.out.trans (hB5.mono hBW4.out.size))
  have Hos5 := hid (Hos4.out.below hB5)
  clear e0 e1 e2 e3 e4 e5 e6 e7 e8 e9 e10 e11 e12 e13 hO HA4 hBW4 hB5 Hos4
  have HA5 := hid hA5
  obtain ⟨a0, a1, a2, a3, a4, a5, a6, a7, a8, a9, a10, a11, a12, a13⟩ := opAt_of_block hA5.h2
  obtain ⟨e0, e1, e2, e3, e4, e5, e6, e7, e8, e9, e10, e11, e12, e13⟩ := opAt_of_block hA5.h3
  have hO := front_ab w5 w.heap.size q2 q3 b3 hA5
  clear hA5
  go_upto_region 7 with (first
    | (go_at_call 14; refine hO.mono ?_; rintro e w6 ⟨g6, o6, c6, rfl, hf6, hB6⟩))
  have hA6 := HA5.out.below hB6
  have hBW6 : Hid (RowKit.Below w.heap.size w w6) := hid (hBW5.out.trans (hB6.mono hBW5.out.size))
  have hos6 := Hos5.out.below hB6
  clear a0 a1 a2 a3 a4 a5 a6 a7 a8 a9 a10 a11 a12 a13 e0 e1 e2 e3 e4 e5 e6 e7 e8 e9 e10 e11 e12 e13 hO HA5 hBW5 hB6 Hos5
  have hx := Hx.out
  have hy := Hy.out
  have ex : x.o = mka := congrArg Prod.fst hx
  have hP : ∀ p : Wb w6, Aw p.u w.heap.size q2 q3 b3 := fun p => hA6.below p.h
  have cA : ∀ p : Wb w6, OpAt p.u q2 mka (.slice none 0 0) := fun p => opAt_of_block (hP p).h2
  have cB : ∀ p : Wb w6, OpAt p.u q3 mkb (.slice (some ⟨b3, 0, none⟩) 1 1) := fun p => opAt_of_block (hP p).h3
  have a0 := fun p => (cA p).c0
  have a1 := fun p => (cA p).c1
  have a2 := fun p => (cA p).c2
  have a3 := fun p => (cA p).c3
  have a4 := fun p => (cA p).c4
  have a5 := fun p => (cA p).c5
  have a6 := fun p => (cA p).c6
  have a7 := fun p => (cA p).c7
  have a8 := fun p => (cA p).c8
  have a9 := fun p => (cA p).c9
  have a10 := fun p => (cA p).c10
  have a11 := fun p => (cA p).c11
  have a12 := fun p => (cA p).c12
  have a13 := fun p => (cA p).c13
  have e0 := fun p => (cB p).c0
  have e1 := fun p => (cB p).c1
  have e2 := fun p => (cB p).c2
  have e3 := fun p => (cB p).c3
  have e4 := fun p => (cB p).c4
  have e5 := fun p => (cB p).c5
  have e6 := fun p => (cB p).c6
  have e7 := fun p => (cB p).c7
  have e8 := fun p => (cB p).c8
  have e9 := fun p => (cB p).c9
  have e10 := fun p => (cB p).c10
  have e11 := fun p => (cB p).c11
  have e12 := fun p => (cB p).c12
  have e13 := fun p => (cB p).c13
  have d0 : ∀ p : Wb w6, p.u.cell? ⟨w.heap.size, 0, none⟩ = some (.int .i64 1) := fun p => (hP p).d0
  have d1 : ∀ p : Wb w6, p.u.cell? ⟨w.heap.size, 1, none⟩ = some (.int .i64 1) := fun p => (hP p).d1
  have hf : ∀ p : Wb w6, p.u.cell? ⟨g6, o6 + 1, none⟩ = some (.int .i64 2) := fun p => (p.h.cell (cell_in hf6)).trans hf6
  have hat : ∀ p : Wb w6, p.u.cell? ⟨g4, o4, none⟩ = some (.int .i64 1) ∧ p.u.cell? ⟨g4, o4 + 1, none⟩ = some (.int .i64 1) := fun p => by
    obtain ⟨g, o, hgo, _, hc⟩ := (hos6.below p.h).at (by decide)
    cases hgo
    have h0 := (hc 0 (by simp)).c0
    have h1 := (hc 0 (by simp)).c1
    simp only [List.getElem_cons_zero, ex, Nat.zero_mul, Nat.add_zero] at h0 h1
    exact ⟨h0, h1⟩
  have l0 := fun p => (hat p).1
  have l1 := fun p => (hat p).2
  have kAh : ∀ p : Wb w6, Calls Tryz.prog 16 #[ov mka (.slice none 0 0), ov mkb (.slice (some ⟨b3, 0, none⟩) 1 1)] p.u fun e w'' => e = .returned (.bool true) ∧ ∃ p' : Wb w6, w'' = p'.u := fun p => by
    have h := ahead_any mka (.slice none 0 0) mkb (some ⟨b3, 0, none⟩) 1 1 [(1, 1)] p.u (hP p).ps (chk_vm chk_mkb).ac (by decide)
    rw [ahead_two] at h
    exact far_q h
  have kRi : ∀ p : Wb w6, Calls Tryz.prog 11 #[.slice (some ⟨g4, o4, none⟩) 2 c4] p.u fun e w'' => e = .returned (.bool true) ∧ ∃ p' : Wb w6, w'' = p'.u := fun p => by
    refine below_q ((right_any _ 2 c4 [x, y] p.u (hos6.below p.h) (fun z hz => ?_) (by decide)).mono ?_)
    · have hl := (hos6.deps z hz).len
      have ey : y.o = mkb := congrArg Prod.fst hy
      have vx : x.V = [] := congrArg Prod.snd hx
      have vy : y.V = [(1, 1)] := congrArg Prod.snd hy
      rcases List.mem_cons.1 hz with rfl | hz
      · rw [vx] at hl ⊢
        rw [ex]
        exact ⟨fits_mka, fun d hd => (by simp at hd), by simp at hl; omega⟩
      · simp at hz
        subst hz
        rw [vy] at hl ⊢
        rw [ey]
        exact ⟨fits_mkb, dws_one, by simp at hl; omega⟩
    · rintro e w' ⟨R, T, rfl, hT, hb⟩
      have hT' : Taken [(mka, []), (mkb, [(1, 1)])] R T := by
        have : [x, y].map Mo.m = [(mka, []), (mkb, [(1, 1)])] := by rw [List.map_cons, List.map_cons, List.map_nil, hx, hy]
        rw [this] at hT
        exact hT
      rw [right_two hT']
      exact ⟨rfl, hb⟩
  have kRe : ∀ p : Wb w6, Calls Tryz.prog 19 #[.slice none 0 0, ov mkb (.slice (some ⟨b3, 0, none⟩) 1 1)] p.u fun e w'' => e = .returned (.int .i64 31) ∧ ∃ p' : Wb w6, w'' = p'.u := fun p => by
    have h := ready_any none 0 0 [] mkb (some ⟨b3, 0, none⟩) 1 1 [(1, 1)] p.u (PS.none _) vm_nil (by decide) (hP p).ps (by decide) fits_mkb.key
    rw [ready_two] at h
    exact far_q h
  clear Hx Hy hx hy ex hat hos6 hf6 hA6 cA cB hP
  as_aux_lemma =>
  haveI : Nonempty (Wb w6) := ⟨⟨w6, Below.refl _ _⟩⟩
  refine wp_region_below mixed (by kernel_rfl) ?_
  repeat (go_big_quiet_step ((first | (go_at_call 16; exact kAh _) | (go_at_call 11; exact kRi _) | (go_at_call 19; exact kRe _))))
  refine wpQuiet_nil ?_
  intro _ hw'
  obtain ⟨p, hw''⟩ := hw'
  subst hw''
  go_wp2
  go_ret
  exact ⟨rfl, hBW6.out.trans (p.h.mono hBW6.out.size)⟩
end Go.Proofs.YtlncokkpdkddlaaGreat
