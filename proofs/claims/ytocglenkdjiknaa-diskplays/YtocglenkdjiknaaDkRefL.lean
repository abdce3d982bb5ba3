/- The reference: Do, where the power goes off within an operation that may be. -/
import Derived.Test.YtocglenkdjiknaaDkRefJ
namespace Go.Proofs.Ytocglenkdjiknaa
section
set_option linter.unusedVariables false
set_option linter.unusedSimpArgs false
open Go.RowKit
set_option linter.unusedSectionVars false
variable {sp : Sep}


set_option maxRecDepth 100000 in
set_option maxHeartbeats 8000000 in
theorem do_errcut (kind : Int) (x : Nat) (n t : Nm) (ao : Option Addr) (ll cc : Nat) (z : Int) (a : Option Addr) (c : Nat) (R : List (Nm × RFi)) (room : Nat) (due due2 : Bool) (o o2 p k : Int) (w : World) (G : List (Nm × Fl)) (hx : (x : Int) ≠ 0)
    (hw : ∀ w1, Below w.heap.size w w1 → Calls Try.prog 42 #[.agg #[.slice a R.length c, .int .i64 (room : Int), .bool false, .bool due, .int .i64 o, .int .i64 p, .int .i64 k], .int .i64 kind, .string (bs n), .string (bs t), .slice ao ll cc, .int .i64 z] w1 fun e w' => e = .returned (.int .i64 (x : Int)) ∧ Below w1.heap.size w1 w')
    (hdue : ∀ w1, Calls Try.prog 43 #[.agg #[.slice a R.length c, .int .i64 (room : Int), .bool false, .bool due, .int .i64 o, .int .i64 p, .int .i64 k]] w1 fun e w' => e = .returned (.tuple #[.agg #[.slice a R.length c, .int .i64 (room : Int), .bool false, .bool due2, .int .i64 o2, .int .i64 p, .int .i64 k], .bool true]) ∧ Below w1.heap.size w1 w')
    (hfall : ∀ w1, Below w.heap.size w w1 → Calls Try.prog 45 #[.agg #[.slice a R.length c, .int .i64 (room : Int), .bool false, .bool due2, .int .i64 o2, .int .i64 p, .int .i64 k]] w1 fun e w' => ∃ a2 c2 R2, e = .returned (.agg #[.slice a2 (List.length R2) c2, .int .i64 (room : Int), .bool true, .bool false, .int .i64 0, .int .i64 0, .int .i64 0]) ∧ FR sp w' (.slice a2 (List.length R2) c2) R2 ∧ mp RFi.fl R2 = G ∧ Below w1.heap.size w1 w') :
    Calls Try.prog 26 #[.agg #[.slice a R.length c, .int .i64 (room : Int), .bool false, .bool due, .int .i64 o, .int .i64 p, .int .i64 k], .int .i64 kind, .string (bs n), .string (bs t), .slice ao ll cc, .int .i64 z] w fun e w' => ∃ a2 c2 R2, e = .returned (.tuple #[.agg #[.slice a2 (List.length R2) c2, .int .i64 (room : Int), .bool true, .bool false, .int .i64 0, .int .i64 0, .int .i64 0], .int .i64 71]) ∧ FR sp w' (.slice a2 (List.length R2) c2) R2 ∧ mp RFi.fl R2 = G ∧ Below w.heap.size w w' := by
  have HB0 := hid (below2 w (.cells #[.slice a R.length c, .int .i64 (room : Int), .bool false, .bool due, .int .i64 o, .int .i64 p, .int .i64 k] 28) (.cells #[.slice none 0 0, .int .i64 0, .bool false, .bool false, .int .i64 0, .int .i64 0, .int .i64 0] 28))
  have HH := hid (heap_new2 w (.cells #[.slice a R.length c, .int .i64 (room : Int), .bool false, .bool due, .int .i64 o, .int .i64 p, .int .i64 k] 28) (.cells #[.slice none 0 0, .int .i64 0, .bool false, .bool false, .int .i64 0, .int .i64 0, .int .i64 0] 28))
  have HW := hid (hw _ HB0.out)
  have HD := hid hdue
  have hx2 : ((x : Int) == 0) = false := by simpa using hx
  have hx3 : ¬ (x : Int) = 0 := hx
  have HFL := hid hfall
  clear hw hdue hfall hx
  have eg : decide (p < (ll : Int)) = true ∨ decide (p < (ll : Int)) = false := by cases decide (p < (ll : Int)) <;> simp
  rcases eg with eg | eg
  · have eg2 : p < (ll : Int) := of_decide_eq_true eg
    go_enter Try.func26, Try.ntmps26
    go_wp2_with (first
      | (go_at_call 42; refine HW.out.mono ?_; rintro e w1 ⟨rfl, hb⟩; have HB1 := hid (HB0.out.trans (hb.mono HB0.out.size)); have h1 := (hb.block w.heap.size (by simp; omega)).trans HH.out.1; have h2 := (hb.block (w.heap.size + 1) (by simp)).trans HH.out.2; have x0 := cell_blk (i := 0) h1 rfl; have x1 := cell_blk (i := 1) h1 rfl; have x2 := cell_blk (i := 2) h1 rfl; have x3 := cell_blk (i := 3) h1 rfl; have x4 := cell_blk (i := 4) h1 rfl; have x5 := cell_blk (i := 5) h1 rfl; have x6 := cell_blk (i := 6) h1 rfl; have H2 := hid h2; clear hb h1 h2)
      | (go_at_call 43; refine (HD.out _).mono ?_; rintro e w2 ⟨rfl, hb⟩; have HB2 := hid (HB1.out.trans (hb.mono HB1.out.size)); have h2 := (hb.block (w.heap.size + 1) (Array.getElem?_eq_some_iff.1 H2.out).1).trans H2.out; have h3 := (below_at2 (o := .cells #[.slice a R.length c, .int .i64 (room : Int), .bool false, .bool due2, .int .i64 o2, .int .i64 p, .int .i64 k] 28) h2); have H3 := hid h3; have HG2 := hid h2; clear hb h2 h3)
      | (go_at_call 45; refine (HFL.out _ (HB2.out.trans ((new_below w2 (.cells #[.slice a R.length c, .int .i64 (room : Int), .bool false, .bool due2, .int .i64 o2, .int .i64 p, .int .i64 k] 28)).mono HB2.out.size))).mono ?_; rintro e w3 ⟨a3, c3, R3, rfl, hf3, hg3, hb⟩; have HB3 := hid ((HB2.out.trans ((new_below w2 (.cells #[.slice a R.length c, .int .i64 (room : Int), .bool false, .bool due2, .int .i64 o2, .int .i64 p, .int .i64 k] 28)).mono HB2.out.size)).trans (hb.mono (Below.size (HB2.out.trans ((new_below w2 (.cells #[.slice a R.length c, .int .i64 (room : Int), .bool false, .bool due2, .int .i64 o2, .int .i64 p, .int .i64 k] 28)).mono HB2.out.size))))); have h3 := (hb.block (w.heap.size + 1) (Array.getElem?_eq_some_iff.1 H3.out).1).trans H3.out; have y0 := cell_blk (i := 0) h3 rfl; have y1 := cell_blk (i := 1) h3 rfl; have y2 := cell_blk (i := 2) h3 rfl; have y3 := cell_blk (i := 3) h3 rfl; have y4 := cell_blk (i := 4) h3 rfl; have y5 := cell_blk (i := 5) h3 rfl; have y6 := cell_blk (i := 6) h3 rfl; have f0 := frz_blk (i := 0) h3; have f1 := frz_blk (i := 1) h3; have f2 := frz_blk (i := 2) h3; have f3 := frz_blk (i := 3) h3; have f4 := frz_blk (i := 4) h3; have f5 := frz_blk (i := 5) h3; have f6 := frz_blk (i := 6) h3; have H4 := hid h3; have HF3 := hid hf3; have HG3 := hid hg3; clear hb h3 hf3 hg3))
    have HEx := hid (sets7_at H4.out (.slice a3 (List.length R3) c3) (.int .i64 (room : Int)) (.bool true) (.bool false) (.int .i64 0) (.int .i64 0) (.int .i64 0))
    have HEB := hid (sets7_below HB3.out (Nat.le_succ w.heap.size) (.slice a3 (List.length R3) c3) (.int .i64 (room : Int)) (.bool true) (.bool false) (.int .i64 0) (.int .i64 0) (.int .i64 0))
    exact bodyPost_ret (res2 rfl _ _ (w.heap.size + 1) _ rfl HEx.out rfl) rfl ⟨a3, c3, R3, rfl, HF3.out.kept (HF3.out.far7 H4.out) (fun j hj => sets7_far w3 (w.heap.size + 1) (.slice a3 (List.length R3) c3) (.int .i64 (room : Int)) (.bool true) (.bool false) (.int .i64 0) (.int .i64 0) (.int .i64 0) j hj), HG3.out, HEB.out⟩
  · have eg2 : ¬ p < (ll : Int) := of_decide_eq_false eg
    go_enter Try.func26, Try.ntmps26
    go_wp2_with (first
      | (go_at_call 42; refine HW.out.mono ?_; rintro e w1 ⟨rfl, hb⟩; have HB1 := hid (HB0.out.trans (hb.mono HB0.out.size)); have h1 := (hb.block w.heap.size (by simp; omega)).trans HH.out.1; have h2 := (hb.block (w.heap.size + 1) (by simp)).trans HH.out.2; have x0 := cell_blk (i := 0) h1 rfl; have x1 := cell_blk (i := 1) h1 rfl; have x2 := cell_blk (i := 2) h1 rfl; have x3 := cell_blk (i := 3) h1 rfl; have x4 := cell_blk (i := 4) h1 rfl; have x5 := cell_blk (i := 5) h1 rfl; have x6 := cell_blk (i := 6) h1 rfl; have H2 := hid h2; clear hb h1 h2)
      | (go_at_call 43; refine (HD.out _).mono ?_; rintro e w2 ⟨rfl, hb⟩; have HB2 := hid (HB1.out.trans (hb.mono HB1.out.size)); have h2 := (hb.block (w.heap.size + 1) (Array.getElem?_eq_some_iff.1 H2.out).1).trans H2.out; have h3 := (below_at2 (o := .cells #[.slice a R.length c, .int .i64 (room : Int), .bool false, .bool due2, .int .i64 o2, .int .i64 p, .int .i64 k] 28) h2); have H3 := hid h3; have HG2 := hid h2; clear hb h2 h3)
      | (go_at_call 45; refine (HFL.out _ (HB2.out.trans ((new_below w2 (.cells #[.slice a R.length c, .int .i64 (room : Int), .bool false, .bool due2, .int .i64 o2, .int .i64 p, .int .i64 k] 28)).mono HB2.out.size))).mono ?_; rintro e w3 ⟨a3, c3, R3, rfl, hf3, hg3, hb⟩; have HB3 := hid ((HB2.out.trans ((new_below w2 (.cells #[.slice a R.length c, .int .i64 (room : Int), .bool false, .bool due2, .int .i64 o2, .int .i64 p, .int .i64 k] 28)).mono HB2.out.size)).trans (hb.mono (Below.size (HB2.out.trans ((new_below w2 (.cells #[.slice a R.length c, .int .i64 (room : Int), .bool false, .bool due2, .int .i64 o2, .int .i64 p, .int .i64 k] 28)).mono HB2.out.size))))); have h3 := (hb.block (w.heap.size + 1) (Array.getElem?_eq_some_iff.1 H3.out).1).trans H3.out; have y0 := cell_blk (i := 0) h3 rfl; have y1 := cell_blk (i := 1) h3 rfl; have y2 := cell_blk (i := 2) h3 rfl; have y3 := cell_blk (i := 3) h3 rfl; have y4 := cell_blk (i := 4) h3 rfl; have y5 := cell_blk (i := 5) h3 rfl; have y6 := cell_blk (i := 6) h3 rfl; have f0 := frz_blk (i := 0) h3; have f1 := frz_blk (i := 1) h3; have f2 := frz_blk (i := 2) h3; have f3 := frz_blk (i := 3) h3; have f4 := frz_blk (i := 4) h3; have f5 := frz_blk (i := 5) h3; have f6 := frz_blk (i := 6) h3; have H4 := hid h3; have HF3 := hid hf3; have HG3 := hid hg3; clear hb h3 hf3 hg3))
    have HEx := hid (sets7_at H4.out (.slice a3 (List.length R3) c3) (.int .i64 (room : Int)) (.bool true) (.bool false) (.int .i64 0) (.int .i64 0) (.int .i64 0))
    have HEB := hid (sets7_below HB3.out (Nat.le_succ w.heap.size) (.slice a3 (List.length R3) c3) (.int .i64 (room : Int)) (.bool true) (.bool false) (.int .i64 0) (.int .i64 0) (.int .i64 0))
    exact bodyPost_ret (res2 rfl _ _ (w.heap.size + 1) _ rfl HEx.out rfl) rfl ⟨a3, c3, R3, rfl, HF3.out.kept (HF3.out.far7 H4.out) (fun j hj => sets7_far w3 (w.heap.size + 1) (.slice a3 (List.length R3) c3) (.int .i64 (room : Int)) (.bool true) (.bool false) (.int .i64 0) (.int .i64 0) (.int .i64 0) j hj), HG3.out, HEB.out⟩
end

section
set_option linter.unusedVariables false
set_option linter.unusedSimpArgs false
open Go.RowKit
set_option linter.unusedSectionVars false
variable {sp : Sep}


set_option maxRecDepth 100000 in
set_option maxHeartbeats 8000000 in
theorem do_cut (kind : Int) (n t : Nm) (ao : Option Addr) (ll cc : Nat) (z : Int) (a : Option Addr) (c : Nat) (R : List (Nm × RFi)) (room : Nat) (due due2 : Bool) (o o2 p k : Int) (w : World) (G G2 : List (Nm × Fl)) (m : Nat) (so : Bool) (hm : (m : Int) = if p < (ll : Int) then p else (ll : Int)) (hso : decide (0 < p) = so) (hll : ll ≤ cc) (hcm : cc ≤ maxLen)
    (hw : ∀ w1, Below w.heap.size w w1 → Calls Try.prog 42 #[.agg #[.slice a R.length c, .int .i64 (room : Int), .bool false, .bool due, .int .i64 o, .int .i64 p, .int .i64 k], .int .i64 kind, .string (bs n), .string (bs t), .slice ao ll cc, .int .i64 z] w1 fun e w' => e = .returned (.int .i64 0) ∧ Below w1.heap.size w1 w')
    (hdue : ∀ w1, Calls Try.prog 43 #[.agg #[.slice a R.length c, .int .i64 (room : Int), .bool false, .bool due, .int .i64 o, .int .i64 p, .int .i64 k]] w1 fun e w' => e = .returned (.tuple #[.agg #[.slice a R.length c, .int .i64 (room : Int), .bool false, .bool due2, .int .i64 o2, .int .i64 p, .int .i64 k], .bool true]) ∧ Below w1.heap.size w1 w')
    (hdone : ∀ w1, Below w.heap.size w w1 → Calls Try.prog 44 #[.slice a R.length c, .int .i64 kind, .string (bs n), .string (bs t), .slice ao m cc, .int .i64 z, .bool false, .bool so] w1 fun e w' => ∃ v, e = .returned v ∧ ∃ R', FR sp w' v R' ∧ mp RFi.fl R' = G ∧ Below w1.heap.size w1 w')
    (hfall : ∀ w1 a1 c1 R1, Below w.heap.size w w1 → FR sp w1 (.slice a1 (List.length R1) c1) R1 → mp RFi.fl R1 = G → Calls Try.prog 45 #[.agg #[.slice a1 (List.length R1) c1, .int .i64 (room : Int), .bool false, .bool due2, .int .i64 o2, .int .i64 p, .int .i64 k]] w1 fun e w' => ∃ a2 c2 R2, e = .returned (.agg #[.slice a2 (List.length R2) c2, .int .i64 (room : Int), .bool true, .bool false, .int .i64 0, .int .i64 0, .int .i64 0]) ∧ FR sp w' (.slice a2 (List.length R2) c2) R2 ∧ mp RFi.fl R2 = G2 ∧ Below w1.heap.size w1 w') :
    Calls Try.prog 26 #[.agg #[.slice a R.length c, .int .i64 (room : Int), .bool false, .bool due, .int .i64 o, .int .i64 p, .int .i64 k], .int .i64 kind, .string (bs n), .string (bs t), .slice ao ll cc, .int .i64 z] w fun e w' => ∃ a2 c2 R2, e = .returned (.tuple #[.agg #[.slice a2 (List.length R2) c2, .int .i64 (room : Int), .bool true, .bool false, .int .i64 0, .int .i64 0, .int .i64 0], .int .i64 71]) ∧ FR sp w' (.slice a2 (List.length R2) c2) R2 ∧ mp RFi.fl R2 = G2 ∧ Below w.heap.size w w' := by
  have HB0 := hid (below2 w (.cells #[.slice a R.length c, .int .i64 (room : Int), .bool false, .bool due, .int .i64 o, .int .i64 p, .int .i64 k] 28) (.cells #[.slice none 0 0, .int .i64 0, .bool false, .bool false, .int .i64 0, .int .i64 0, .int .i64 0] 28))
  have HH := hid (heap_new2 w (.cells #[.slice a R.length c, .int .i64 (room : Int), .bool false, .bool due, .int .i64 o, .int .i64 p, .int .i64 k] 28) (.cells #[.slice none 0 0, .int .i64 0, .bool false, .bool false, .int .i64 0, .int .i64 0, .int .i64 0] 28))
  have HW := hid (hw _ HB0.out)
  have HD := hid hdue
  have HDN := hid hdone
  have HFL := hid hfall
  have hmxo : Try.prog.follows .mixedOrders = true := by kernel_rfl
  unfold maxLen at hcm
  have eg : decide (p < (ll : Int)) = true ∨ decide (p < (ll : Int)) = false := by cases decide (p < (ll : Int)) <;> simp
  clear hw hdue hdone hfall
  rcases eg with eg | eg
  · have eg2 : p < (ll : Int) := of_decide_eq_true eg
    rw [if_pos eg2] at hm
    subst hm
    have hml : m ≤ ll := by omega
    have hnll : ¬ cc < m := by omega
    go_enter Try.func26, Try.ntmps26
    go_wp2_with (first
      | (go_at_call 42; refine HW.out.mono ?_; rintro e w1 ⟨rfl, hb⟩; have HB1 := hid (HB0.out.trans (hb.mono HB0.out.size)); have h1 := (hb.block w.heap.size (by simp; omega)).trans HH.out.1; have h2 := (hb.block (w.heap.size + 1) (by simp)).trans HH.out.2; have x0 := cell_blk (i := 0) h1 rfl; have x1 := cell_blk (i := 1) h1 rfl; have x2 := cell_blk (i := 2) h1 rfl; have x3 := cell_blk (i := 3) h1 rfl; have x4 := cell_blk (i := 4) h1 rfl; have x5 := cell_blk (i := 5) h1 rfl; have x6 := cell_blk (i := 6) h1 rfl; have H2 := hid h2; clear hb h1 h2)
      | (go_at_call 43; refine (HD.out _).mono ?_; rintro e w2 ⟨rfl, hb⟩; have HB2 := hid (HB1.out.trans (hb.mono HB1.out.size)); have h2 := (hb.block (w.heap.size + 1) (Array.getElem?_eq_some_iff.1 H2.out).1).trans H2.out; have h3 := (below_at2 (o := .cells #[.slice a R.length c, .int .i64 (room : Int), .bool false, .bool due2, .int .i64 o2, .int .i64 (m : Int), .int .i64 k] 28) h2); have y0 := cell_blk (i := 0) h3 rfl; have y1 := cell_blk (i := 1) h3 rfl; have y2 := cell_blk (i := 2) h3 rfl; have y3 := cell_blk (i := 3) h3 rfl; have y4 := cell_blk (i := 4) h3 rfl; have y5 := cell_blk (i := 5) h3 rfl; have y6 := cell_blk (i := 6) h3 rfl; have f0 := frz_blk (i := 0) h3; have f1 := frz_blk (i := 1) h3; have f2 := frz_blk (i := 2) h3; have f3 := frz_blk (i := 3) h3; have f4 := frz_blk (i := 4) h3; have f5 := frz_blk (i := 5) h3; have f6 := frz_blk (i := 6) h3; have H3 := hid h3; have HG2 := hid h2; clear hb h2 h3))
    have z0 : (w2.alloc (.cells #[.slice a R.length c, .int .i64 (room : Int), .bool false, .bool due2, .int .i64 o2, .int .i64 (m : Int), .int .i64 k] 28)).drew.cell? ⟨w2.heap.size, 0, none⟩ = some (.slice a R.length c) := cell_blk (w := (w2.alloc (.cells #[.slice a R.length c, .int .i64 (room : Int), .bool false, .bool due2, .int .i64 o2, .int .i64 (m : Int), .int .i64 k] 28)).drew) (heap_new w2 _) rfl
    have z5 : (w2.alloc (.cells #[.slice a R.length c, .int .i64 (room : Int), .bool false, .bool due2, .int .i64 o2, .int .i64 (m : Int), .int .i64 k] 28)).drew.cell? ⟨w2.heap.size, 5, none⟩ = some (.int .i64 (m : Int)) := cell_blk (w := (w2.alloc (.cells #[.slice a R.length c, .int .i64 (room : Int), .bool false, .bool due2, .int .i64 o2, .int .i64 (m : Int), .int .i64 k] 28)).drew) (heap_new w2 _) rfl
    refine wp_region_held_drew (S := fun u => u.cell? ⟨w2.heap.size, 5, none⟩ = some (.int .i64 (m : Int))) hmxo z5 ?_
    intro _
    refine wpAnyH_take (i := 0) (v := .pointer (some ⟨w2.heap.size, 0, none⟩)) rfl (by kernel_rfl) (by kernel_rfl) (by kernel_rfl) (fun _ _ _ h => h) (Or.inl ⟨by kernel_rfl, fun w hSw => ?_⟩) z5 ?_
    · go_simp
    simp only [Act.put, List.getElem_toArray, List.getElem_cons_succ, List.getElem_cons_zero, List.setIfInBounds_toArray, List.set_cons_zero, List.set_cons_succ]
    refine wpAnyH_take (i := 2) (v := .int .i64 kind) rfl (by kernel_rfl) (by kernel_rfl) (by kernel_rfl) (fun _ _ _ h => h) (Or.inl ⟨by kernel_rfl, fun w hSw => ?_⟩) z5 ?_
    · go_simp
    simp only [Act.put, List.getElem_toArray, List.getElem_cons_succ, List.getElem_cons_zero, List.setIfInBounds_toArray, List.set_cons_zero, List.set_cons_succ]
    refine wpAnyH_take (i := 3) (v := .string (bs n)) rfl (by kernel_rfl) (by kernel_rfl) (by kernel_rfl) (fun _ _ _ h => h) (Or.inl ⟨by kernel_rfl, fun w hSw => ?_⟩) z5 ?_
    · go_simp
    simp only [Act.put, List.getElem_toArray, List.getElem_cons_succ, List.getElem_cons_zero, List.setIfInBounds_toArray, List.set_cons_zero, List.set_cons_succ]
    refine wpAnyH_take (i := 4) (v := .string (bs t)) rfl (by kernel_rfl) (by kernel_rfl) (by kernel_rfl) (fun _ _ _ h => h) (Or.inl ⟨by kernel_rfl, fun w hSw => ?_⟩) z5 ?_
    · go_simp
    simp only [Act.put, List.getElem_toArray, List.getElem_cons_succ, List.getElem_cons_zero, List.setIfInBounds_toArray, List.set_cons_zero, List.set_cons_succ]
    refine wpAnyH_take (i := 5) (v := .slice ao ll cc) rfl (by kernel_rfl) (by kernel_rfl) (by kernel_rfl) (fun _ _ _ h => h) (Or.inl ⟨by kernel_rfl, fun w hSw => ?_⟩) z5 ?_
    · go_simp
    simp only [Act.put, List.getElem_toArray, List.getElem_cons_succ, List.getElem_cons_zero, List.setIfInBounds_toArray, List.set_cons_zero, List.set_cons_succ]
    refine wpAnyH_take (i := 6) (v := .int .i64 (m : Int)) rfl (by kernel_rfl) (by kernel_rfl) (by kernel_rfl) (fun _ _ _ h => h) (Or.inl ⟨by kernel_rfl, fun w hSw => ?_⟩) z5 ?_
    · go_simp
    simp only [Act.put, List.getElem_toArray, List.getElem_cons_succ, List.getElem_cons_zero, List.setIfInBounds_toArray, List.set_cons_zero, List.set_cons_succ]
    refine wpAnyH_take (i := 7) (v := .slice ao m cc) rfl (by kernel_rfl) (by kernel_rfl) (by kernel_rfl) (fun _ _ _ h => h) (Or.inl ⟨by kernel_rfl, fun w hSw => ?_⟩) z5 ?_
    · go_simp
    simp only [Act.put, List.getElem_toArray, List.getElem_cons_succ, List.getElem_cons_zero, List.setIfInBounds_toArray, List.set_cons_zero, List.set_cons_succ]
    refine wpAnyH_take (i := 8) (v := .int .i64 z) rfl (by kernel_rfl) (by kernel_rfl) (by kernel_rfl) (fun _ _ _ h => h) (Or.inl ⟨by kernel_rfl, fun w hSw => ?_⟩) z5 ?_
    · go_simp
    simp only [Act.put, List.getElem_toArray, List.getElem_cons_succ, List.getElem_cons_zero, List.setIfInBounds_toArray, List.set_cons_zero, List.set_cons_succ]
    refine wpAnyH_take (i := 9) (v := .bool false) rfl (by kernel_rfl) (by kernel_rfl) (by kernel_rfl) (fun _ _ _ h => h) (Or.inl ⟨by kernel_rfl, fun w hSw => ?_⟩) z5 ?_
    · go_simp
    simp only [Act.put, List.getElem_toArray, List.getElem_cons_succ, List.getElem_cons_zero, List.setIfInBounds_toArray, List.set_cons_zero, List.set_cons_succ]
    refine wpAnyH_take (i := 10) (v := .bool false) rfl (by kernel_rfl) (by kernel_rfl) (by kernel_rfl) (fun _ _ _ h => h) (Or.inl ⟨by kernel_rfl, fun w hSw => ?_⟩) z5 ?_
    · go_simp
    simp only [Act.put, List.getElem_toArray, List.getElem_cons_succ, List.getElem_cons_zero, List.setIfInBounds_toArray, List.set_cons_zero, List.set_cons_succ]
    refine wpAnyH_take (i := 11) (v := .bool false) rfl (by kernel_rfl) (by kernel_rfl) (by kernel_rfl) (fun _ _ _ h => h) (Or.inl ⟨by kernel_rfl, fun w hSw => ?_⟩) z5 ?_
    · go_simp
    simp only [Act.put, List.getElem_toArray, List.getElem_cons_succ, List.getElem_cons_zero, List.setIfInBounds_toArray, List.set_cons_zero, List.set_cons_succ]
    refine wpAnyH_take (i := 12) (v := .pointer (some ⟨w2.heap.size, 5, none⟩)) rfl (by kernel_rfl) (by kernel_rfl) (by kernel_rfl) (fun _ _ _ h => h) (Or.inl ⟨by kernel_rfl, fun w hSw => ?_⟩) z5 ?_
    · go_simp
    simp only [Act.put, List.getElem_toArray, List.getElem_cons_succ, List.getElem_cons_zero, List.setIfInBounds_toArray, List.set_cons_zero, List.set_cons_succ]
    refine wpAnyH_take (i := 13) (v := .int .i64 (m : Int)) rfl (by kernel_rfl) (by kernel_rfl) (by kernel_rfl) (fun _ _ _ h => h) (Or.inl ⟨by kernel_rfl, fun w hSw => ?_⟩) z5 ?_
    · have hS5 : w.cell? ⟨w2.heap.size, 5, none⟩ = some (.int .i64 (m : Int)) := hSw
      go_simp
    simp only [Act.put, List.getElem_toArray, List.getElem_cons_succ, List.getElem_cons_zero, List.setIfInBounds_toArray, List.set_cons_zero, List.set_cons_succ]
    refine wpAnyH_take (i := 14) (v := .bool so) rfl (by kernel_rfl) (by kernel_rfl) (by kernel_rfl) (fun _ _ _ h => h) (Or.inl ⟨by kernel_rfl, fun w hSw => ?_⟩) z5 ?_
    · first | (go_simp; done) | (rw [← hso]; go_simp; done)
    simp only [Act.put, List.getElem_toArray, List.getElem_cons_succ, List.getElem_cons_zero, List.setIfInBounds_toArray, List.set_cons_zero, List.set_cons_succ]
    refine wpAnyH_take (i := 15) (v := .bool so) rfl (by kernel_rfl) (by kernel_rfl) (by kernel_rfl) (fun _ _ _ h => h) (Or.inl ⟨by kernel_rfl, fun w hSw => ?_⟩) z5 ?_
    · go_simp
    simp only [Act.put, List.getElem_toArray, List.getElem_cons_succ, List.getElem_cons_zero, List.setIfInBounds_toArray, List.set_cons_zero, List.set_cons_succ]
    refine wpAnyH_ready (rs := [1]) (by kernel_rfl) (by simp) ?_
    refine AllReadyH.cons rfl (fun K hK => ?_) AllReadyH.nil
    go_simp
    refine hK.out _ _ z5 (fun _ => ?_)
    clear hK K
    try simp only [Act.put, List.getElem_toArray, List.getElem_cons_succ, List.getElem_cons_zero, List.setIfInBounds_toArray, List.set_cons_zero, List.set_cons_succ]
    refine wpAnyH_ready (rs := [16]) (by kernel_rfl) (by simp) ?_
    refine AllReadyH.cons rfl (fun K hK => ?_) AllReadyH.nil
    go_simp
    refine (HDN.out _ (bdrew (HB2.out.trans ((new_below w2 _).mono HB2.out.size)))).mono ?_
    rintro e w7 ⟨v7, rfl, R', hR7, hG, hb7⟩
    obtain ⟨a7, c7, rfl, _⟩ := hR7.row
    have X7 : w7.heap[w2.heap.size]? = some (.cells #[.slice a R.length c, .int .i64 (room : Int), .bool false, .bool due2, .int .i64 o2, .int .i64 (m : Int), .int .i64 k] 28 (0, 0)) := (hb7.block w2.heap.size (by show w2.heap.size < (w2.alloc _).heap.size; simp)).trans (heap_new w2 _)
    have H7 : w7.heap[w.heap.size + 1]? = some (.cells #[.slice none 0 0, .int .i64 0, .bool false, .bool false, .int .i64 0, .int .i64 0, .int .i64 0] 28 (0, 0)) := (hb7.block (w.heap.size + 1) (Array.getElem?_eq_some_iff.1 H3.out).1).trans H3.out
    have hne : w.heap.size + 1 ≠ w2.heap.size := Nat.ne_of_lt (Array.getElem?_eq_some_iff.1 HG2.out).1
    have HB7 := hid ((bdrew (HB2.out.trans ((new_below w2 (.cells #[.slice a R.length c, .int .i64 (room : Int), .bool false, .bool due2, .int .i64 o2, .int .i64 (m : Int), .int .i64 k] 28)).mono HB2.out.size))).trans (hb7.mono (Nat.le_trans HB2.out.size (by show w2.heap.size ≤ (w2.alloc _).heap.size; simp))))
    have hww : w.heap.size ≤ w2.heap.size := HB2.out.size
    have e75 := cell_blk (i := 5) X7 rfl
    have e70 := cell_blk (i := 0) X7 rfl
    have f70 := frz_blk (i := 0) X7
    have X8 : (w7.setCell ⟨w2.heap.size, 0, none⟩ (.slice a7 R'.length c7)).heap[w2.heap.size]? = some (.cells #[.slice a7 R'.length c7, .int .i64 (room : Int), .bool false, .bool due2, .int .i64 o2, .int .i64 (m : Int), .int .i64 k] 28 (0, 0)) := by
      rw [set_blk (i := 0) _ X7]
      simp
    have H8 : (w7.setCell ⟨w2.heap.size, 0, none⟩ (.slice a7 R'.length c7)).heap[w.heap.size + 1]? = some (.cells #[.slice none 0 0, .int .i64 0, .bool false, .bool false, .int .i64 0, .int .i64 0, .int .i64 0] 28 (0, 0)) := (Below.heap_setCell _ _ _ _ hne).trans H7
    have HB8 := hid (set_below HB7.out hww 0 (.slice a7 R'.length c7))
    have hR8 := hR7.kept (hR7.far7 X7) (w' := w7.setCell ⟨w2.heap.size, 0, none⟩ (.slice a7 R'.length c7)) (fun j hj => Below.heap_setCell _ _ _ _ hj)
    obtain ⟨w8, hw8⟩ : ∃ w8, w8 = w7.setCell ⟨w2.heap.size, 0, none⟩ (.slice a7 R'.length c7) := ⟨_, rfl⟩
    rw [← hw8] at X8 H8 HB8 hR8
    have HR8 := hid hR8
    have HH8 := hid H8
    have z8 := fun i v (hv : (#[.slice a7 R'.length c7, .int .i64 (room : Int), .bool false, .bool due2, .int .i64 o2, .int .i64 (m : Int), .int .i64 k] : Array Value)[i]? = some v) => cell_blk (i := i) X8 hv
    have q0 := z8 0 _ rfl
    have q1 := z8 1 _ rfl
    have q2 := z8 2 _ rfl
    have q3 := z8 3 _ rfl
    have q4 := z8 4 _ rfl
    have q5 := z8 5 _ rfl
    have q6 := z8 6 _ rfl
    have HG := hid hG
    have H78 := hid hw8
    clear hR7 hR8 hG hb7 X7 H7 X8 H8 z8
    refine hK.out _ _ e75 (fun _ => ?_)
    clear hK K
    try simp only [Act.put, List.getElem_toArray, List.getElem_cons_succ, List.getElem_cons_zero, List.setIfInBounds_toArray, List.set_cons_zero, List.set_cons_succ]
    refine wpAnyH_take (i := 17) (v := .pointer (some ⟨w2.heap.size, 0, none⟩)) rfl (by kernel_rfl) (by kernel_rfl) (by kernel_rfl) (fun _ _ _ h => h) (Or.inl ⟨by kernel_rfl, fun w hSw => ?_⟩) e75 ?_
    · go_simp
    simp only [Act.put, List.getElem_toArray, List.getElem_cons_succ, List.getElem_cons_zero, List.setIfInBounds_toArray, List.set_cons_zero, List.set_cons_succ]
    refine wpAnyH_ready (rs := [18]) (by kernel_rfl) (by simp) ?_
    refine AllReadyH.cons rfl (fun K hK => ?_) AllReadyH.nil
    go_simp
    rw [← hw8]
    clear hw8
    refine hK.out _ _ q5 (fun _ => ?_)
    clear hK K
    refine wpAnyH_done (by kernel_rfl) ?_ _
    go_wp2_with (go_at_call 45; refine (HFL.out _ a7 c7 R' HB8.out HR8.out HG.out).mono ?_; rintro e w9 ⟨a3, c3, R3, rfl, hf3, hg3, hb⟩; have HB9 := hid (HB8.out.trans (hb.mono HB8.out.size)); have h3 := (hb.block (w.heap.size + 1) (Array.getElem?_eq_some_iff.1 HH8.out).1).trans HH8.out; have y0 := cell_blk (i := 0) h3 rfl; have f0 := frz_blk (i := 0) h3; have y1 := cell_blk (i := 1) h3 rfl; have f1 := frz_blk (i := 1) h3; have y2 := cell_blk (i := 2) h3 rfl; have f2 := frz_blk (i := 2) h3; have y3 := cell_blk (i := 3) h3 rfl; have f3 := frz_blk (i := 3) h3; have y4 := cell_blk (i := 4) h3 rfl; have f4 := frz_blk (i := 4) h3; have y5 := cell_blk (i := 5) h3 rfl; have f5 := frz_blk (i := 5) h3; have y6 := cell_blk (i := 6) h3 rfl; have f6 := frz_blk (i := 6) h3; have H4 := hid h3; have HF3 := hid hf3; have HG3 := hid hg3; clear hb h3 hf3 hg3)
    have HEx := hid (sets7_at H4.out (.slice a3 (List.length R3) c3) (.int .i64 (room : Int)) (.bool true) (.bool false) (.int .i64 0) (.int .i64 0) (.int .i64 0))
    have HEB := hid (sets7_below HB9.out (Nat.le_succ w.heap.size) (.slice a3 (List.length R3) c3) (.int .i64 (room : Int)) (.bool true) (.bool false) (.int .i64 0) (.int .i64 0) (.int .i64 0))
    exact bodyPost_ret (res2 rfl _ _ (w.heap.size + 1) _ rfl HEx.out rfl) rfl ⟨a3, c3, R3, rfl, HF3.out.kept (HF3.out.far7 H4.out) (fun j hj => sets7_far w9 (w.heap.size + 1) (.slice a3 (List.length R3) c3) (.int .i64 (room : Int)) (.bool true) (.bool false) (.int .i64 0) (.int .i64 0) (.int .i64 0) j hj), HG3.out, HEB.out⟩
  · have eg2 : ¬ p < (ll : Int) := of_decide_eq_false eg
    rw [if_neg eg2] at hm
    obtain rfl : m = ll := by omega
    have hnll : ¬ cc < m := Nat.not_lt.2 hll
    go_enter Try.func26, Try.ntmps26
    go_wp2_with (first
      | (go_at_call 42; refine HW.out.mono ?_; rintro e w1 ⟨rfl, hb⟩; have HB1 := hid (HB0.out.trans (hb.mono HB0.out.size)); have h1 := (hb.block w.heap.size (by simp; omega)).trans HH.out.1; have h2 := (hb.block (w.heap.size + 1) (by simp)).trans HH.out.2; have x0 := cell_blk (i := 0) h1 rfl; have x1 := cell_blk (i := 1) h1 rfl; have x2 := cell_blk (i := 2) h1 rfl; have x3 := cell_blk (i := 3) h1 rfl; have x4 := cell_blk (i := 4) h1 rfl; have x5 := cell_blk (i := 5) h1 rfl; have x6 := cell_blk (i := 6) h1 rfl; have H2 := hid h2; clear hb h1 h2)
      | (go_at_call 43; refine (HD.out _).mono ?_; rintro e w2 ⟨rfl, hb⟩; have HB2 := hid (HB1.out.trans (hb.mono HB1.out.size)); have h2 := (hb.block (w.heap.size + 1) (Array.getElem?_eq_some_iff.1 H2.out).1).trans H2.out; have h3 := (below_at2 (o := .cells #[.slice a R.length c, .int .i64 (room : Int), .bool false, .bool due2, .int .i64 o2, .int .i64 p, .int .i64 k] 28) h2); have y0 := cell_blk (i := 0) h3 rfl; have y1 := cell_blk (i := 1) h3 rfl; have y2 := cell_blk (i := 2) h3 rfl; have y3 := cell_blk (i := 3) h3 rfl; have y4 := cell_blk (i := 4) h3 rfl; have y5 := cell_blk (i := 5) h3 rfl; have y6 := cell_blk (i := 6) h3 rfl; have f0 := frz_blk (i := 0) h3; have f1 := frz_blk (i := 1) h3; have f2 := frz_blk (i := 2) h3; have f3 := frz_blk (i := 3) h3; have f4 := frz_blk (i := 4) h3; have f5 := frz_blk (i := 5) h3; have f6 := frz_blk (i := 6) h3; have H3 := hid h3; have HG2 := hid h2; clear hb h2 h3))
    have z0 : (w2.alloc (.cells #[.slice a R.length c, .int .i64 (room : Int), .bool false, .bool due2, .int .i64 o2, .int .i64 p, .int .i64 k] 28)).drew.cell? ⟨w2.heap.size, 0, none⟩ = some (.slice a R.length c) := cell_blk (w := (w2.alloc (.cells #[.slice a R.length c, .int .i64 (room : Int), .bool false, .bool due2, .int .i64 o2, .int .i64 p, .int .i64 k] 28)).drew) (heap_new w2 _) rfl
    have z5 : (w2.alloc (.cells #[.slice a R.length c, .int .i64 (room : Int), .bool false, .bool due2, .int .i64 o2, .int .i64 p, .int .i64 k] 28)).drew.cell? ⟨w2.heap.size, 5, none⟩ = some (.int .i64 p) := cell_blk (w := (w2.alloc (.cells #[.slice a R.length c, .int .i64 (room : Int), .bool false, .bool due2, .int .i64 o2, .int .i64 p, .int .i64 k] 28)).drew) (heap_new w2 _) rfl
    refine wp_region_held_drew (S := fun u => u.cell? ⟨w2.heap.size, 5, none⟩ = some (.int .i64 p)) hmxo z5 ?_
    intro _
    refine wpAnyH_take (i := 0) (v := .pointer (some ⟨w2.heap.size, 0, none⟩)) rfl (by kernel_rfl) (by kernel_rfl) (by kernel_rfl) (fun _ _ _ h => h) (Or.inl ⟨by kernel_rfl, fun w hSw => ?_⟩) z5 ?_
    · go_simp
    simp only [Act.put, List.getElem_toArray, List.getElem_cons_succ, List.getElem_cons_zero, List.setIfInBounds_toArray, List.set_cons_zero, List.set_cons_succ]
    refine wpAnyH_take (i := 2) (v := .int .i64 kind) rfl (by kernel_rfl) (by kernel_rfl) (by kernel_rfl) (fun _ _ _ h => h) (Or.inl ⟨by kernel_rfl, fun w hSw => ?_⟩) z5 ?_
    · go_simp
    simp only [Act.put, List.getElem_toArray, List.getElem_cons_succ, List.getElem_cons_zero, List.setIfInBounds_toArray, List.set_cons_zero, List.set_cons_succ]
    refine wpAnyH_take (i := 3) (v := .string (bs n)) rfl (by kernel_rfl) (by kernel_rfl) (by kernel_rfl) (fun _ _ _ h => h) (Or.inl ⟨by kernel_rfl, fun w hSw => ?_⟩) z5 ?_
    · go_simp
    simp only [Act.put, List.getElem_toArray, List.getElem_cons_succ, List.getElem_cons_zero, List.setIfInBounds_toArray, List.set_cons_zero, List.set_cons_succ]
    refine wpAnyH_take (i := 4) (v := .string (bs t)) rfl (by kernel_rfl) (by kernel_rfl) (by kernel_rfl) (fun _ _ _ h => h) (Or.inl ⟨by kernel_rfl, fun w hSw => ?_⟩) z5 ?_
    · go_simp
    simp only [Act.put, List.getElem_toArray, List.getElem_cons_succ, List.getElem_cons_zero, List.setIfInBounds_toArray, List.set_cons_zero, List.set_cons_succ]
    refine wpAnyH_take (i := 5) (v := .slice ao m cc) rfl (by kernel_rfl) (by kernel_rfl) (by kernel_rfl) (fun _ _ _ h => h) (Or.inl ⟨by kernel_rfl, fun w hSw => ?_⟩) z5 ?_
    · go_simp
    simp only [Act.put, List.getElem_toArray, List.getElem_cons_succ, List.getElem_cons_zero, List.setIfInBounds_toArray, List.set_cons_zero, List.set_cons_succ]
    refine wpAnyH_take (i := 6) (v := .int .i64 (m : Int)) rfl (by kernel_rfl) (by kernel_rfl) (by kernel_rfl) (fun _ _ _ h => h) (Or.inl ⟨by kernel_rfl, fun w hSw => ?_⟩) z5 ?_
    · go_simp
    simp only [Act.put, List.getElem_toArray, List.getElem_cons_succ, List.getElem_cons_zero, List.setIfInBounds_toArray, List.set_cons_zero, List.set_cons_succ]
    refine wpAnyH_take (i := 7) (v := .slice ao m cc) rfl (by kernel_rfl) (by kernel_rfl) (by kernel_rfl) (fun _ _ _ h => h) (Or.inl ⟨by kernel_rfl, fun w hSw => ?_⟩) z5 ?_
    · go_simp
    simp only [Act.put, List.getElem_toArray, List.getElem_cons_succ, List.getElem_cons_zero, List.setIfInBounds_toArray, List.set_cons_zero, List.set_cons_succ]
    refine wpAnyH_take (i := 8) (v := .int .i64 z) rfl (by kernel_rfl) (by kernel_rfl) (by kernel_rfl) (fun _ _ _ h => h) (Or.inl ⟨by kernel_rfl, fun w hSw => ?_⟩) z5 ?_
    · go_simp
    simp only [Act.put, List.getElem_toArray, List.getElem_cons_succ, List.getElem_cons_zero, List.setIfInBounds_toArray, List.set_cons_zero, List.set_cons_succ]
    refine wpAnyH_take (i := 9) (v := .bool false) rfl (by kernel_rfl) (by kernel_rfl) (by kernel_rfl) (fun _ _ _ h => h) (Or.inl ⟨by kernel_rfl, fun w hSw => ?_⟩) z5 ?_
    · go_simp
    simp only [Act.put, List.getElem_toArray, List.getElem_cons_succ, List.getElem_cons_zero, List.setIfInBounds_toArray, List.set_cons_zero, List.set_cons_succ]
    refine wpAnyH_take (i := 10) (v := .bool false) rfl (by kernel_rfl) (by kernel_rfl) (by kernel_rfl) (fun _ _ _ h => h) (Or.inl ⟨by kernel_rfl, fun w hSw => ?_⟩) z5 ?_
    · go_simp
    simp only [Act.put, List.getElem_toArray, List.getElem_cons_succ, List.getElem_cons_zero, List.setIfInBounds_toArray, List.set_cons_zero, List.set_cons_succ]
    refine wpAnyH_take (i := 11) (v := .bool false) rfl (by kernel_rfl) (by kernel_rfl) (by kernel_rfl) (fun _ _ _ h => h) (Or.inl ⟨by kernel_rfl, fun w hSw => ?_⟩) z5 ?_
    · go_simp
    simp only [Act.put, List.getElem_toArray, List.getElem_cons_succ, List.getElem_cons_zero, List.setIfInBounds_toArray, List.set_cons_zero, List.set_cons_succ]
    refine wpAnyH_take (i := 12) (v := .pointer (some ⟨w2.heap.size, 5, none⟩)) rfl (by kernel_rfl) (by kernel_rfl) (by kernel_rfl) (fun _ _ _ h => h) (Or.inl ⟨by kernel_rfl, fun w hSw => ?_⟩) z5 ?_
    · go_simp
    simp only [Act.put, List.getElem_toArray, List.getElem_cons_succ, List.getElem_cons_zero, List.setIfInBounds_toArray, List.set_cons_zero, List.set_cons_succ]
    refine wpAnyH_take (i := 13) (v := .int .i64 p) rfl (by kernel_rfl) (by kernel_rfl) (by kernel_rfl) (fun _ _ _ h => h) (Or.inl ⟨by kernel_rfl, fun w hSw => ?_⟩) z5 ?_
    · have hS5 : w.cell? ⟨w2.heap.size, 5, none⟩ = some (.int .i64 p) := hSw
      go_simp
    simp only [Act.put, List.getElem_toArray, List.getElem_cons_succ, List.getElem_cons_zero, List.setIfInBounds_toArray, List.set_cons_zero, List.set_cons_succ]
    refine wpAnyH_take (i := 14) (v := .bool so) rfl (by kernel_rfl) (by kernel_rfl) (by kernel_rfl) (fun _ _ _ h => h) (Or.inl ⟨by kernel_rfl, fun w hSw => ?_⟩) z5 ?_
    · first | (go_simp; done) | (rw [← hso]; go_simp; done)
    simp only [Act.put, List.getElem_toArray, List.getElem_cons_succ, List.getElem_cons_zero, List.setIfInBounds_toArray, List.set_cons_zero, List.set_cons_succ]
    refine wpAnyH_take (i := 15) (v := .bool so) rfl (by kernel_rfl) (by kernel_rfl) (by kernel_rfl) (fun _ _ _ h => h) (Or.inl ⟨by kernel_rfl, fun w hSw => ?_⟩) z5 ?_
    · go_simp
    simp only [Act.put, List.getElem_toArray, List.getElem_cons_succ, List.getElem_cons_zero, List.setIfInBounds_toArray, List.set_cons_zero, List.set_cons_succ]
    refine wpAnyH_ready (rs := [1]) (by kernel_rfl) (by simp) ?_
    refine AllReadyH.cons rfl (fun K hK => ?_) AllReadyH.nil
    go_simp
    refine hK.out _ _ z5 (fun _ => ?_)
    clear hK K
    try simp only [Act.put, List.getElem_toArray, List.getElem_cons_succ, List.getElem_cons_zero, List.setIfInBounds_toArray, List.set_cons_zero, List.set_cons_succ]
    refine wpAnyH_ready (rs := [16]) (by kernel_rfl) (by simp) ?_
    refine AllReadyH.cons rfl (fun K hK => ?_) AllReadyH.nil
    go_simp
    refine (HDN.out _ (bdrew (HB2.out.trans ((new_below w2 _).mono HB2.out.size)))).mono ?_
    rintro e w7 ⟨v7, rfl, R', hR7, hG, hb7⟩
    obtain ⟨a7, c7, rfl, _⟩ := hR7.row
    have X7 : w7.heap[w2.heap.size]? = some (.cells #[.slice a R.length c, .int .i64 (room : Int), .bool false, .bool due2, .int .i64 o2, .int .i64 p, .int .i64 k] 28 (0, 0)) := (hb7.block w2.heap.size (by show w2.heap.size < (w2.alloc _).heap.size; simp)).trans (heap_new w2 _)
    have H7 : w7.heap[w.heap.size + 1]? = some (.cells #[.slice none 0 0, .int .i64 0, .bool false, .bool false, .int .i64 0, .int .i64 0, .int .i64 0] 28 (0, 0)) := (hb7.block (w.heap.size + 1) (Array.getElem?_eq_some_iff.1 H3.out).1).trans H3.out
    have hne : w.heap.size + 1 ≠ w2.heap.size := Nat.ne_of_lt (Array.getElem?_eq_some_iff.1 HG2.out).1
    have HB7 := hid ((bdrew (HB2.out.trans ((new_below w2 (.cells #[.slice a R.length c, .int .i64 (room : Int), .bool false, .bool due2, .int .i64 o2, .int .i64 p, .int .i64 k] 28)).mono HB2.out.size))).trans (hb7.mono (Nat.le_trans HB2.out.size (by show w2.heap.size ≤ (w2.alloc _).heap.size; simp))))
    have hww : w.heap.size ≤ w2.heap.size := HB2.out.size
    have e75 := cell_blk (i := 5) X7 rfl
    have e70 := cell_blk (i := 0) X7 rfl
    have f70 := frz_blk (i := 0) X7
    have X8 : (w7.setCell ⟨w2.heap.size, 0, none⟩ (.slice a7 R'.length c7)).heap[w2.heap.size]? = some (.cells #[.slice a7 R'.length c7, .int .i64 (room : Int), .bool false, .bool due2, .int .i64 o2, .int .i64 p, .int .i64 k] 28 (0, 0)) := by
      rw [set_blk (i := 0) _ X7]
      simp
    have H8 : (w7.setCell ⟨w2.heap.size, 0, none⟩ (.slice a7 R'.length c7)).heap[w.heap.size + 1]? = some (.cells #[.slice none 0 0, .int .i64 0, .bool false, .bool false, .int .i64 0, .int .i64 0, .int .i64 0] 28 (0, 0)) := (Below.heap_setCell _ _ _ _ hne).trans H7
    have HB8 := hid (set_below HB7.out hww 0 (.slice a7 R'.length c7))
    have hR8 := hR7.kept (hR7.far7 X7) (w' := w7.setCell ⟨w2.heap.size, 0, none⟩ (.slice a7 R'.length c7)) (fun j hj => Below.heap_setCell _ _ _ _ hj)
    obtain ⟨w8, hw8⟩ : ∃ w8, w8 = w7.setCell ⟨w2.heap.size, 0, none⟩ (.slice a7 R'.length c7) := ⟨_, rfl⟩
    rw [← hw8] at X8 H8 HB8 hR8
    have HR8 := hid hR8
    have HH8 := hid H8
    have z8 := fun i v (hv : (#[.slice a7 R'.length c7, .int .i64 (room : Int), .bool false, .bool due2, .int .i64 o2, .int .i64 p, .int .i64 k] : Array Value)[i]? = some v) => cell_blk (i := i) X8 hv
    have q0 := z8 0 _ rfl
    have q1 := z8 1 _ rfl
    have q2 := z8 2 _ rfl
    have q3 := z8 3 _ rfl
    have q4 := z8 4 _ rfl
    have q5 := z8 5 _ rfl
    have q6 := z8 6 _ rfl
    have HG := hid hG
    have H78 := hid hw8
    clear hR7 hR8 hG hb7 X7 H7 X8 H8 z8
    refine hK.out _ _ e75 (fun _ => ?_)
    clear hK K
    try simp only [Act.put, List.getElem_toArray, List.getElem_cons_succ, List.getElem_cons_zero, List.setIfInBounds_toArray, List.set_cons_zero, List.set_cons_succ]
    refine wpAnyH_take (i := 17) (v := .pointer (some ⟨w2.heap.size, 0, none⟩)) rfl (by kernel_rfl) (by kernel_rfl) (by kernel_rfl) (fun _ _ _ h => h) (Or.inl ⟨by kernel_rfl, fun w hSw => ?_⟩) e75 ?_
    · go_simp
    simp only [Act.put, List.getElem_toArray, List.getElem_cons_succ, List.getElem_cons_zero, List.setIfInBounds_toArray, List.set_cons_zero, List.set_cons_succ]
    refine wpAnyH_ready (rs := [18]) (by kernel_rfl) (by simp) ?_
    refine AllReadyH.cons rfl (fun K hK => ?_) AllReadyH.nil
    go_simp
    rw [← hw8]
    clear hw8
    refine hK.out _ _ q5 (fun _ => ?_)
    clear hK K
    refine wpAnyH_done (by kernel_rfl) ?_ _
    go_wp2_with (go_at_call 45; refine (HFL.out _ a7 c7 R' HB8.out HR8.out HG.out).mono ?_; rintro e w9 ⟨a3, c3, R3, rfl, hf3, hg3, hb⟩; have HB9 := hid (HB8.out.trans (hb.mono HB8.out.size)); have h3 := (hb.block (w.heap.size + 1) (Array.getElem?_eq_some_iff.1 HH8.out).1).trans HH8.out; have y0 := cell_blk (i := 0) h3 rfl; have f0 := frz_blk (i := 0) h3; have y1 := cell_blk (i := 1) h3 rfl; have f1 := frz_blk (i := 1) h3; have y2 := cell_blk (i := 2) h3 rfl; have f2 := frz_blk (i := 2) h3; have y3 := cell_blk (i := 3) h3 rfl; have f3 := frz_blk (i := 3) h3; have y4 := cell_blk (i := 4) h3 rfl; have f4 := frz_blk (i := 4) h3; have y5 := cell_blk (i := 5) h3 rfl; have f5 := frz_blk (i := 5) h3; have y6 := cell_blk (i := 6) h3 rfl; have f6 := frz_blk (i := 6) h3; have H4 := hid h3; have HF3 := hid hf3; have HG3 := hid hg3; clear hb h3 hf3 hg3)
    have HEx := hid (sets7_at H4.out (.slice a3 (List.length R3) c3) (.int .i64 (room : Int)) (.bool true) (.bool false) (.int .i64 0) (.int .i64 0) (.int .i64 0))
    have HEB := hid (sets7_below HB9.out (Nat.le_succ w.heap.size) (.slice a3 (List.length R3) c3) (.int .i64 (room : Int)) (.bool true) (.bool false) (.int .i64 0) (.int .i64 0) (.int .i64 0))
    exact bodyPost_ret (res2 rfl _ _ (w.heap.size + 1) _ rfl HEx.out rfl) rfl ⟨a3, c3, R3, rfl, HF3.out.kept (HF3.out.far7 H4.out) (fun j hj => sets7_far w9 (w.heap.size + 1) (.slice a3 (List.length R3) c3) (.int .i64 (room : Int)) (.bool true) (.bool false) (.int .i64 0) (.int .i64 0) (.int .i64 0) j hj), HG3.out, HEB.out⟩
end
end Go.Proofs.Ytocglenkdjiknaa
