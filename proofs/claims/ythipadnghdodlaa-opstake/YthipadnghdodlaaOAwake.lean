/- The first look. -/
import Derived.Test.YthipadnghdodlaaOPut
import Derived.Test.YthipadnghdodlaaOTake
namespace Go.Proofs.Ythipadnghdodlaa
open Go.RowKit
open Go.Sort (grow)

/-- The making of a block, the first operation of an actor. -/
def mk1 : OpIn := ⟨1, 1, 1, 3, 1, 1, 0, 0, 0, 0, 0, -1, { data := #[110] }⟩
/-- The same with Seq 2. -/
def mk2 : OpIn := ⟨1, 2, 1, 3, 1, 1, 0, 0, 0, 0, 0, -1, { data := #[110] }⟩

theorem key_n : ({ data := #[110] } : ByteArray).toList = [110] := by rw [ByteArray.toList_eq]
theorem kyb_n : kyb [110] = true := by decide
theorem chk_mk1 : chk mk1 [] = true := by
  simp [chk, headb, barb, partb, parb, mk1, mayd, vmb, gt, pat, pch, ppl, hasv, kyb_n]
theorem chk_mk2 : chk mk2 [] = false := by
  simp [chk, headb, mk2, gt]

theorem enco_mk1 : [9] ++ enco mk1 [] = [9, 2, 2, 2, 0, 6, 2, 2, 0, 1, 1, 110] := by decide +kernel

theorem fit_mk1 : OFit mk1 := by
  constructor <;> first | decide | (constructor <;> decide)

theorem hd7_mk1 : hd7 [2, 2, 2, 0, 6, 2, 2, 0, 1, 1, 110] 0 = (((1, 1), 1, [], 3), [2, 2, 0, 1, 1, 110], 0) := by decide +kernel
theorem tk_mk1 : tk [2, 2, 0, 1, 1, 110] 0 = ((1, 1), [0, 1, 1, 110], 0) := by decide +kernel
theorem prt_mk1 : prt 3 [0, 1, 1, 110] 0 = (((0, 0), 0, 0, (0, -1), { data := #[110] }), [], 0) := by
  rw [prt_mov rfl, show tk [0, 1, 1, 110] 0 = ((0, -1), [1, 110], 0) by decide +kernel]
  simp only
  rw [show rtx [1, 110] 0 = ([110], [], 0) by decide +kernel]
  rfl

theorem otk_mk1 : otk [2, 2, 2, 0, 6, 2, 2, 0, 1, 1, 110] 0 = ((mk1, []), [], 0) := by
  unfold otk tl7
  rw [hd7_mk1]
  simp only
  rw [tk_mk1]
  simp only
  rw [prt_mk1]
  exact ofin_ok (o := mk1) (V := []) chk_mk1 []

set_option maxRecDepth 100000 in
set_option maxHeartbeats 1000000 in
theorem made_any (w : World) : Calls Try.prog 26 #[.int .i64 1] w fun e w' => e = .returned (ov mk1 (.slice none 0 0)) ∧ Below w.heap.size w w' := by
  go_enter Try.func26, Try.ntmps26
  go_wp2_with fail
  have B0 : Blk ((w.alloc (.cells #[.int .i64 0, .int .i64 0, .int .i64 0, .slice none 0 0, .int .i64 0, .int .i64 0, .int .i64 0, .int .i64 0, .int .i64 0, .int .i64 0, .int .i64 0, .int .i64 0, .int .i64 0, .string { data := #[] }] 27)).alloc (.cells #[.int .i64 1, .int .i64 1] 23)) w.heap.size (zer.cells (.slice none 0 0)) := (blk_alloc w #[.int .i64 0, .int .i64 0, .int .i64 0, .slice none 0 0, .int .i64 0, .int .i64 0, .int .i64 0, .int .i64 0, .int .i64 0, .int .i64 0, .int .i64 0, .int .i64 0, .int .i64 0, .string { data := #[] }]).same (Below.heap_alloc _ _ _ (by simp))
  have d0 : ((w.alloc (.cells #[.int .i64 0, .int .i64 0, .int .i64 0, .slice none 0 0, .int .i64 0, .int .i64 0, .int .i64 0, .int .i64 0, .int .i64 0, .int .i64 0, .int .i64 0, .int .i64 0, .int .i64 0, .string { data := #[] }] 27)).alloc (.cells #[.int .i64 1, .int .i64 1] 23)).cell? ⟨w.heap.size + 1, 0, none⟩ = some (.int .i64 1) := by go_simp
  have d1 : ((w.alloc (.cells #[.int .i64 0, .int .i64 0, .int .i64 0, .slice none 0 0, .int .i64 0, .int .i64 0, .int .i64 0, .int .i64 0, .int .i64 0, .int .i64 0, .int .i64 0, .int .i64 0, .int .i64 0, .string { data := #[] }] 27)).alloc (.cells #[.int .i64 1, .int .i64 1] 23)).cell? ⟨w.heap.size + 1, 1, none⟩ = some (.int .i64 1) := by go_simp
  have F0 : Far w ((w.alloc (.cells #[.int .i64 0, .int .i64 0, .int .i64 0, .slice none 0 0, .int .i64 0, .int .i64 0, .int .i64 0, .int .i64 0, .int .i64 0, .int .i64 0, .int .i64 0, .int .i64 0, .int .i64 0, .string { data := #[] }] 27)).alloc (.cells #[.int .i64 1, .int .i64 1] 23)) := ((Far.refl w).alloc _).alloc _
  generalize (w.alloc (.cells #[.int .i64 0, .int .i64 0, .int .i64 0, .slice none 0 0, .int .i64 0, .int .i64 0, .int .i64 0, .int .i64 0, .int .i64 0, .int .i64 0, .int .i64 0, .int .i64 0, .int .i64 0, .string { data := #[] }] 27)).alloc (.cells #[.int .i64 1, .int .i64 1] 23) = W0 at B0 d0 d1 F0 ⊢
  generalize hq1 : w.heap.size + 1 = q1 at d0 d1 ⊢
  have hq : w.heap.size ≠ q1 := by omega
  generalize hq0 : w.heap.size = q0 at B0 hq ⊢
  clear hq1
  go_region_with (first
    | (go_at_call 24; refine (root_any _).mono ?_; rintro e w1 ⟨rfl, hF1⟩; have F1 : Far W0 w1 := ((Far.refl W0).drew).trans hF1; have x0 := (F1.below.cell (cell_in d0)).trans d0; have x1 := (F1.below.cell (cell_in d1)).trans d1; have B1 := B0.same (F1.below.block q0 B0.lt); have z0 := B1.opAt.c0; have y0 := B1.frozen 0; have z1 := B1.opAt.c1; have y1 := B1.frozen 1; have z2 := B1.opAt.c2; have y2 := B1.frozen 2; have z3 := B1.opAt.c3; have y3 := B1.frozen 3; have z4 := B1.opAt.c4; have y4 := B1.frozen 4; have z5 := B1.opAt.c5; have y5 := B1.frozen 5; have z6 := B1.opAt.c6; have y6 := B1.frozen 6; have z7 := B1.opAt.c7; have y7 := B1.frozen 7; have z8 := B1.opAt.c8; have y8 := B1.frozen 8; have z9 := B1.opAt.c9; have y9 := B1.frozen 9; have z10 := B1.opAt.c10; have y10 := B1.frozen 10; have z11 := B1.opAt.c11; have y11 := B1.frozen 11; have z12 := B1.opAt.c12; have y12 := B1.frozen 12; have z13 := B1.opAt.c13; have y13 := B1.frozen 13))
  all_goals go_wp2_with fail
  all_goals
    have B : Blk (put14 w1 q0 mk1 (.slice none 0 0)) q0 (mk1.cells (.slice none 0 0)) := put14_blk B1
    have hO : Only q0 w1 (put14 w1 q0 mk1 (.slice none 0 0)) := put14_only _ _ _ _
    change bodyPost _ _ _ _ _ (put14 w1 q0 mk1 (.slice none 0 0))
    generalize put14 w1 q0 mk1 (.slice none 0 0) = W at B hO ⊢
    have t0 := B.opAt.c0
    have t1 := B.opAt.c1
    have t2 := B.opAt.c2
    have t3 := B.opAt.c3
    have t4 := B.opAt.c4
    have t5 := B.opAt.c5
    have t6 := B.opAt.c6
    have t7 := B.opAt.c7
    have t8 := B.opAt.c8
    have t9 := B.opAt.c9
    have t10 := B.opAt.c10
    have t11 := B.opAt.c11
    have t12 := B.opAt.c12
    have t13 := B.opAt.c13
    have b1 : Below w.heap.size w w1 := (F0.trans F1).below
    exact bodyPost_ret (v := ov mk1 (.slice none 0 0)) (by simp [results, Try.results26, go_sem, OpIn.cells, t0, t1, t2, t3, t4, t5, t6, t7, t8, t9, t10, t11, t12, t13]) rfl ⟨rfl, b1.trans (hO.below (by omega))⟩

theorem row_nine (w : World) : Src (w.alloc (.cells #[.int .u8 9] 5)) (some ⟨w.heap.size, 0, none⟩) 1 [9] := by
  refine ⟨rfl, fun _ => ⟨_, rfl, fun j v hj => ?_⟩⟩
  match j, hj with
  | 0, hj => simp at hj; subst hj; simp [Addr.add]
end Go.Proofs.Ythipadnghdodlaa
