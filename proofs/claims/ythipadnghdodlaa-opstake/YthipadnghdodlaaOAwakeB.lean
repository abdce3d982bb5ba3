/- The first look: all calls at one operation. -/
import Derived.Test.YthipadnghdodlaaOAwake
namespace Go.Proofs.Ythipadnghdodlaa
open Go.RowKit
open Go.Sort (grow)

theorem str_mk1 : strOfNums [9, 2, 2, 2, 0, 6, 2, 2, 0, 1, 1, 110] = ⟨#[9, 2, 2, 2, 0, 6, 2, 2, 0, 1, 1, 110]⟩ := by decide

theorem OpAt.grown {w w' : World} {q b : Nat} {o : OpIn} {v : Value} (h : OpAt w q o v) (hg : w.grownBy w' (some b)) (hne : q ≠ b) : OpAt w' q o v := by
  have hl := h.lt
  have k : ∀ i, w'.cell? ⟨q, i, none⟩ = w.cell? ⟨q, i, none⟩ := fun i => World.cell?_of_block (w := w) (hg.block q hl (by simpa using hne))
  exact ⟨(k _).trans h.c0, (k _).trans h.c1, (k _).trans h.c2, (k _).trans h.c3, (k _).trans h.c4, (k _).trans h.c5, (k _).trans h.c6, (k _).trans h.c7, (k _).trans h.c8, (k _).trans h.c9, (k _).trans h.c10, (k _).trans h.c11, (k _).trans h.c12, (k _).trans h.c13⟩

theorem Src.grownS {w w' : World} {g off n b : Nat} {L : List Int} (h : Src w (some ⟨g, off, none⟩) n L) (hl : g < w.heap.size) (hg : w.grownBy w' (some b)) (hne : g ≠ b) : Src w' (some ⟨g, off, none⟩) n L := by
  refine ⟨h.1, fun hp => ?_⟩
  obtain ⟨ad, h1, h2⟩ := h.2 hp
  cases h1
  refine ⟨_, rfl, fun j v hj => ?_⟩
  have hb : ((⟨g, off, none⟩ : Addr).add j).block = g := by unfold Addr.add; split <;> rfl
  rw [World.cell?_of_block (w := w) (by rw [hb]; exact hg.block g hl (by simpa using hne))]
  exact h2 j v hj

theorem bts_mk1 : Bts [2, 2, 2, 0, 6, 2, 2, 0, 1, 1, 110] := by simp [Bts]

set_option maxRecDepth 100000 in
set_option maxHeartbeats 4000000 in
theorem awake_more (w : World) : Calls Try.prog 9 #[] w fun e w' => e = .returned (.bool true) ∧ Below w.heap.size w w' ∧ w.heap.size < w'.heap.size := by
  have cM : Calls Try.prog 26 #[.int .i64 1] w fun e w' => e = .returned (.agg #[.int .i64 1, .int .i64 1, .int .i64 1, .slice none 0 0, .int .i64 3, .int .i64 1, .int .i64 1, .int .i64 0, .int .i64 0, .int .i64 0, .int .i64 0, .int .i64 0, .int .i64 (-1), .string { data := #[110] }]) ∧ Below w.heap.size w w' := made_any w
  go_enter Try.func9, Try.ntmps9
  go_upto_region 2 with (first
    | (go_at_call 26; refine cM.mono ?_; rintro e w1 ⟨rfl, b1⟩))
  have hA2 : OpAt (w1.alloc (.cells #[.int .i64 1, .int .i64 1, .int .i64 1, .slice none 0 0, .int .i64 3, .int .i64 1, .int .i64 1, .int .i64 0, .int .i64 0, .int .i64 0, .int .i64 0, .int .i64 0, .int .i64 (-1), .string { data := #[110] }] 27)) w1.heap.size mk1 (.slice none 0 0) := opAt_alloc w1 mk1 (.slice none 0 0) 27
  have b2 := b1.alloc b1.size (.cells #[.int .i64 1, .int .i64 1, .int .i64 1, .slice none 0 0, .int .i64 3, .int .i64 1, .int .i64 1, .int .i64 0, .int .i64 0, .int .i64 0, .int .i64 0, .int .i64 0, .int .i64 (-1), .string { data := #[110] }] 27)
  generalize w1.alloc (.cells #[.int .i64 1, .int .i64 1, .int .i64 1, .slice none 0 0, .int .i64 3, .int .i64 1, .int .i64 1, .int .i64 0, .int .i64 0, .int .i64 0, .int .i64 0, .int .i64 0, .int .i64 (-1), .string { data := #[110] }] 27) = w2 at hA2 b2 ⊢
  generalize w1.heap.size = q1 at hA2 ⊢
  have hs := row_nine w2
  have l3 := (Below.refl w2.heap.size w2).alloc (Nat.le_refl _) (.cells #[.int .u8 9] 5)
  have hA3 := hA2.below l3
  have b3 := b2.trans (l3.mono b2.size)
  have a0 : (w2.alloc (.cells #[.int .u8 9] 5)).cell? ⟨q1, 0, none⟩ = some (.int .i64 1) := hA3.c0
  have a1 : (w2.alloc (.cells #[.int .u8 9] 5)).cell? ⟨q1, 1, none⟩ = some (.int .i64 1) := hA3.c1
  have a2 : (w2.alloc (.cells #[.int .u8 9] 5)).cell? ⟨q1, 2, none⟩ = some (.int .i64 1) := hA3.c2
  have a3 : (w2.alloc (.cells #[.int .u8 9] 5)).cell? ⟨q1, 3, none⟩ = some (.slice none 0 0) := hA3.c3
  have a4 : (w2.alloc (.cells #[.int .u8 9] 5)).cell? ⟨q1, 4, none⟩ = some (.int .i64 3) := hA3.c4
  have a5 : (w2.alloc (.cells #[.int .u8 9] 5)).cell? ⟨q1, 5, none⟩ = some (.int .i64 1) := hA3.c5
  have a6 : (w2.alloc (.cells #[.int .u8 9] 5)).cell? ⟨q1, 6, none⟩ = some (.int .i64 1) := hA3.c6
  have a7 : (w2.alloc (.cells #[.int .u8 9] 5)).cell? ⟨q1, 7, none⟩ = some (.int .i64 0) := hA3.c7
  have a8 : (w2.alloc (.cells #[.int .u8 9] 5)).cell? ⟨q1, 8, none⟩ = some (.int .i64 0) := hA3.c8
  have a9 : (w2.alloc (.cells #[.int .u8 9] 5)).cell? ⟨q1, 9, none⟩ = some (.int .i64 0) := hA3.c9
  have a10 : (w2.alloc (.cells #[.int .u8 9] 5)).cell? ⟨q1, 10, none⟩ = some (.int .i64 0) := hA3.c10
  have a11 : (w2.alloc (.cells #[.int .u8 9] 5)).cell? ⟨q1, 11, none⟩ = some (.int .i64 0) := hA3.c11
  have a12 : (w2.alloc (.cells #[.int .u8 9] 5)).cell? ⟨q1, 12, none⟩ = some (.int .i64 (-1)) := hA3.c12
  have a13 : (w2.alloc (.cells #[.int .u8 9] 5)).cell? ⟨q1, 13, none⟩ = some (.string { data := #[110] }) := hA3.c13
  have cP : Calls Try.prog 16 #[.slice (some ⟨w2.heap.size, 0, none⟩) 1 1, .agg #[.int .i64 1, .int .i64 1, .int .i64 1, .slice none 0 0, .int .i64 3, .int .i64 1, .int .i64 1, .int .i64 0, .int .i64 0, .int .i64 0, .int .i64 0, .int .i64 0, .int .i64 (-1), .string { data := #[110] }]] (w2.alloc (.cells #[.int .u8 9] 5)) (MakesC (w2.alloc (.cells #[.int .u8 9] 5)) [9, 2, 2, 2, 0, 6, 2, 2, 0, 1, 1, 110] 12) := oput_any (some ⟨w2.heap.size, 0, none⟩) 1 1 [9] mk1 none 0 0 [] [9, 2, 2, 2, 0, 6, 2, 2, 0, 1, 1, 110] 12 (w2.alloc (.cells #[.int .u8 9] 5)) hs (fun h => by cases h) (by omega) (PS.none _) (by omega) vm_nil fit_mk1 (.inr (.inr rfl)) enco_mk1.symm rfl
  go_upto_region 3 with (first
    | (go_at_call 16; refine cP.mono ?_; rintro e w4 ⟨g4, d4, rfl, hg4, s4, l4, x4, y4⟩; have hA4 := hA3.below l4; have b4 := b3.trans (l4.mono b3.size)))
  clear a0 a1 a2 a3 a4 a5 a6 a7 a8 a9 a10 a11 a12 a13 cP hs hA2 hA3 b1 b2 b3 l3 l4 cM
  have a0 : w4.cell? ⟨q1, 0, none⟩ = some (.int .i64 1) := hA4.c0
  have a1 : w4.cell? ⟨q1, 1, none⟩ = some (.int .i64 1) := hA4.c1
  have a2 : w4.cell? ⟨q1, 2, none⟩ = some (.int .i64 1) := hA4.c2
  have a3 : w4.cell? ⟨q1, 3, none⟩ = some (.slice none 0 0) := hA4.c3
  have a4 : w4.cell? ⟨q1, 4, none⟩ = some (.int .i64 3) := hA4.c4
  have a5 : w4.cell? ⟨q1, 5, none⟩ = some (.int .i64 1) := hA4.c5
  have a6 : w4.cell? ⟨q1, 6, none⟩ = some (.int .i64 1) := hA4.c6
  have a7 : w4.cell? ⟨q1, 7, none⟩ = some (.int .i64 0) := hA4.c7
  have a8 : w4.cell? ⟨q1, 8, none⟩ = some (.int .i64 0) := hA4.c8
  have a9 : w4.cell? ⟨q1, 9, none⟩ = some (.int .i64 0) := hA4.c9
  have a10 : w4.cell? ⟨q1, 10, none⟩ = some (.int .i64 0) := hA4.c10
  have a11 : w4.cell? ⟨q1, 11, none⟩ = some (.int .i64 0) := hA4.c11
  have a12 : w4.cell? ⟨q1, 12, none⟩ = some (.int .i64 (-1)) := hA4.c12
  have a13 : w4.cell? ⟨q1, 13, none⟩ = some (.string { data := #[110] }) := hA4.c13
  go_upto_region 5 with fail
  have hp5 : OpAt (w4.alloc (.cells #[.int .i64 1, .int .i64 2, .int .i64 1, .slice none 0 0, .int .i64 3, .int .i64 1, .int .i64 1, .int .i64 0, .int .i64 0, .int .i64 0, .int .i64 0, .int .i64 0, .int .i64 (-1), .string { data := #[110] }] 27)) w4.heap.size mk2 (.slice none 0 0) := opAt_alloc w4 mk2 (.slice none 0 0) 27
  have l5 := (Below.refl w4.heap.size w4).alloc (Nat.le_refl _) (.cells #[.int .i64 1, .int .i64 2, .int .i64 1, .slice none 0 0, .int .i64 3, .int .i64 1, .int .i64 1, .int .i64 0, .int .i64 0, .int .i64 0, .int .i64 0, .int .i64 0, .int .i64 (-1), .string { data := #[110] }] 27)
  have hA5 := hA4.below l5
  have s5 := s4.below l5
  have b5 := b4.trans (l5.mono b4.size)
  have hgl : g4 < w4.heap.size := by obtain ⟨ad, h1, h2⟩ := s4.2 (by omega); cases h1; have := cell_in (h2 0 9 rfl); simpa [Addr.add] using this
  have hg5 : g4 < (w4.alloc (.cells #[.int .i64 1, .int .i64 2, .int .i64 1, .slice none 0 0, .int .i64 3, .int .i64 1, .int .i64 1, .int .i64 0, .int .i64 0, .int .i64 0, .int .i64 0, .int .i64 0, .int .i64 (-1), .string { data := #[110] }] 27)).heap.size := Nat.lt_of_lt_of_le hgl l5.size
  generalize w4.alloc (.cells #[.int .i64 1, .int .i64 2, .int .i64 1, .slice none 0 0, .int .i64 3, .int .i64 1, .int .i64 1, .int .i64 0, .int .i64 0, .int .i64 0, .int .i64 0, .int .i64 0, .int .i64 (-1), .string { data := #[110] }] 27) = w5 at hp5 hA5 s5 b5 hg5 ⊢
  generalize w4.heap.size = q2 at hp5 ⊢
  clear a0 a1 a2 a3 a4 a5 a6 a7 a8 a9 a10 a11 a12 a13 hA4 s4 b4 l5 hg4 hgl
  unfold maxLen at y4
  go_upto_region 6 with (first
    | (go_at_call 18; refine (read_any _ _ _ _ _ rfl).mono ?_; rintro e w6 ⟨rfl, R6, l6⟩))
  have R6' : Rdr w6 w5.heap.size g4 [2, 2, 2, 0, 6, 2, 2, 0, 1, 1, 110] 0 := ⟨_, _, _, R6, (src_drop s5 1).below l6, by omega, by omega, ⟨fun ad _ h => by cases h; rfl, by omega⟩, bts_mk1, fun h => absurd rfl h⟩
  have hA6 := hA5.below l6
  have hp6 := hp5.below l6
  have s6 := s5.below l6
  have b6 := b5.trans (l6.mono b5.size)
  have hb6 := b5.size
  have hq1 := hA5.lt
  have hq2 := hp5.lt
  have hg6 : g4 < w6.heap.size := Nat.lt_of_lt_of_le hg5 l6.size
  have cT := take7_any w6 w5.heap.size g4 _ 0 R6' hg6 (by decide)
  rw [otk_mk1] at cT
  clear R6 hA5 hp5 s5 b5
  have cT' : Calls Try.prog 19 #[.pointer (some ⟨w5.heap.size, 0, none⟩)] w6 fun r w' => ∃ a c, r = .returned (.agg #[.int .i64 1, .int .i64 1, .int .i64 1, .slice a 0 c, .int .i64 3, .int .i64 1, .int .i64 1, .int .i64 0, .int .i64 0, .int .i64 0, .int .i64 0, .int .i64 0, .int .i64 (-1), .string { data := #[110] }]) ∧ Rdr w' w5.heap.size g4 [] 0 ∧ w6.grownBy w' (some w5.heap.size) := cT.mono fun r w' ⟨a, c, h1, _, h2, h3, _⟩ => ⟨a, c, h1, h2, h3⟩
  go_upto_region 7 with (first
    | (go_at_call 19; refine cT'.mono ?_; rintro e w7 ⟨a, c, rfl, R7, G7⟩))
  have hA7 := hA6.grown G7 (by omega)
  have hp7 := hp6.grown G7 (by omega)
  have s7 := s6.grownS hg6 G7 (by omega)
  have b7 : Below w.heap.size w w7 := b6.grown G7 b6.size (fun j hj => by simp at hj; omega)
  have l8 := (Below.refl w7.heap.size w7).alloc (Nat.le_refl _) (.cells #[.int .i64 1, .int .i64 1, .int .i64 1, .slice a 0 c, .int .i64 3, .int .i64 1, .int .i64 1, .int .i64 0, .int .i64 0, .int .i64 0, .int .i64 0, .int .i64 0, .int .i64 (-1), .string { data := #[110] }] 27)
  have hA8 := hA7.below l8
  have hp8 := hp7.below l8
  have s8 := s7.below l8
  have R8 := R7.below l8
  have b8 := b7.trans (l8.mono b7.size)
  have hq8 : OpAt (w7.alloc (.cells #[.int .i64 1, .int .i64 1, .int .i64 1, .slice a 0 c, .int .i64 3, .int .i64 1, .int .i64 1, .int .i64 0, .int .i64 0, .int .i64 0, .int .i64 0, .int .i64 0, .int .i64 (-1), .string { data := #[110] }] 27)) w7.heap.size mk1 (.slice a 0 c) := opAt_alloc w7 mk1 (.slice a 0 c) 27
  generalize w7.alloc (.cells #[.int .i64 1, .int .i64 1, .int .i64 1, .slice a 0 c, .int .i64 3, .int .i64 1, .int .i64 1, .int .i64 0, .int .i64 0, .int .i64 0, .int .i64 0, .int .i64 0, .int .i64 (-1), .string { data := #[110] }] 27) = w8 at hA8 hp8 s8 R8 b8 hq8 ⊢
  generalize w7.heap.size = q3 at hq8 ⊢
  clear hA6 hp6 s6 b6 hg6 cT cT' R6' R7 G7 hA7 hp7 s7 b7 l8 l6
  have cC1 : ∀ W, Tells 10 #[.agg #[.int .i64 1, .int .i64 1, .int .i64 1, .slice none 0 0, .int .i64 3, .int .i64 1, .int .i64 1, .int .i64 0, .int .i64 0, .int .i64 0, .int .i64 0, .int .i64 0, .int .i64 (-1), .string { data := #[110] }]] W (.bool true) := fun W => by have := check_any mk1 none 0 0 [] W (PS.none W) (by omega) (by decide); rw [chk_mk1] at this; exact this
  have cC2 : ∀ W, Tells 10 #[.agg #[.int .i64 1, .int .i64 2, .int .i64 1, .slice none 0 0, .int .i64 3, .int .i64 1, .int .i64 1, .int .i64 0, .int .i64 0, .int .i64 0, .int .i64 0, .int .i64 0, .int .i64 (-1), .string { data := #[110] }]] W (.bool false) := fun W => by have := check_any mk2 none 0 0 [] W (PS.none W) (by omega) (by decide); rw [chk_mk2] at this; exact this
  have a0 : w8.cell? ⟨q1, 0, none⟩ = some (.int .i64 1) := hA8.c0
  have a1 : w8.cell? ⟨q1, 1, none⟩ = some (.int .i64 1) := hA8.c1
  have a2 : w8.cell? ⟨q1, 2, none⟩ = some (.int .i64 1) := hA8.c2
  have a3 : w8.cell? ⟨q1, 3, none⟩ = some (.slice none 0 0) := hA8.c3
  have a4 : w8.cell? ⟨q1, 4, none⟩ = some (.int .i64 3) := hA8.c4
  have a5 : w8.cell? ⟨q1, 5, none⟩ = some (.int .i64 1) := hA8.c5
  have a6 : w8.cell? ⟨q1, 6, none⟩ = some (.int .i64 1) := hA8.c6
  have a7 : w8.cell? ⟨q1, 7, none⟩ = some (.int .i64 0) := hA8.c7
  have a8 : w8.cell? ⟨q1, 8, none⟩ = some (.int .i64 0) := hA8.c8
  have a9 : w8.cell? ⟨q1, 9, none⟩ = some (.int .i64 0) := hA8.c9
  have a10 : w8.cell? ⟨q1, 10, none⟩ = some (.int .i64 0) := hA8.c10
  have a11 : w8.cell? ⟨q1, 11, none⟩ = some (.int .i64 0) := hA8.c11
  have a12 : w8.cell? ⟨q1, 12, none⟩ = some (.int .i64 (-1)) := hA8.c12
  have a13 : w8.cell? ⟨q1, 13, none⟩ = some (.string { data := #[110] }) := hA8.c13
  go_wp2_with (first
    | (go_at_call 10; have hq := F9; refine (cC2 _).mono ?_; rintro e w10 ⟨rfl, F10⟩; have F := F9.trans F10; have v := conv_src (s8.below F.below) d4; rw [str_mk1] at v; have RR := R8.below F.below; have h13 : w10.cell? ⟨q3, 13, none⟩ = some (.string { data := #[110] }) := (hq8.far F).c13; have h0 : w10.cell? ⟨q3, 0, none⟩ = some (.int .i64 1) := (hq8.far F).c0; have h1 : w10.cell? ⟨q3, 1, none⟩ = some (.int .i64 1) := (hq8.far F).c1; have k0 : w10.cell? ⟨q1, 0, none⟩ = some (.int .i64 1) := (hA8.far F).c0; have k1 : w10.cell? ⟨q1, 1, none⟩ = some (.int .i64 1) := (hA8.far F).c1)
    | (go_at_call 10; refine (cC1 _).mono ?_; rintro e w9 ⟨rfl, F9⟩; have hp9 := hp8.far F9; have p0 : w9.cell? ⟨q2, 0, none⟩ = some (.int .i64 1) := hp9.c0; have p1 : w9.cell? ⟨q2, 1, none⟩ = some (.int .i64 2) := hp9.c1; have p2 : w9.cell? ⟨q2, 2, none⟩ = some (.int .i64 1) := hp9.c2; have p3 : w9.cell? ⟨q2, 3, none⟩ = some (.slice none 0 0) := hp9.c3; have p4 : w9.cell? ⟨q2, 4, none⟩ = some (.int .i64 3) := hp9.c4; have p5 : w9.cell? ⟨q2, 5, none⟩ = some (.int .i64 1) := hp9.c5; have p6 : w9.cell? ⟨q2, 6, none⟩ = some (.int .i64 1) := hp9.c6; have p7 : w9.cell? ⟨q2, 7, none⟩ = some (.int .i64 0) := hp9.c7; have p8 : w9.cell? ⟨q2, 8, none⟩ = some (.int .i64 0) := hp9.c8; have p9 : w9.cell? ⟨q2, 9, none⟩ = some (.int .i64 0) := hp9.c9; have p10 : w9.cell? ⟨q2, 10, none⟩ = some (.int .i64 0) := hp9.c10; have p11 : w9.cell? ⟨q2, 11, none⟩ = some (.int .i64 0) := hp9.c11; have p12 : w9.cell? ⟨q2, 12, none⟩ = some (.int .i64 (-1)) := hp9.c12; have p13 : w9.cell? ⟨q2, 13, none⟩ = some (.string { data := #[110] }) := hp9.c13)
    | (go_at_call 20; refine (end_nil _ _ _ _ RR).mono ?_; rintro e w11 ⟨rfl, rfl⟩))
  go_ret
  exact ⟨rfl, b8.trans (F.below.mono b8.size), Nat.lt_of_le_of_lt hb6 RR.lt⟩

theorem awake_any (w : World) : Calls Try.prog 9 #[] w fun e w' => e = .returned (.bool true) ∧ Below w.heap.size w w' := (awake_more w).mono fun _ _ h => ⟨h.1, h.2.1⟩
end Go.Proofs.Ythipadnghdodlaa
