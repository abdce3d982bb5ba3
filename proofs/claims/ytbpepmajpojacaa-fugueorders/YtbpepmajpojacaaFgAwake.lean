/- The first look. -/
import Derived.Test.YtbpepmajpojacaaSMath
import Derived.Sort.AtCall
set_option linter.unusedVariables false
namespace Go.Proofs.Ytbpepmajpojacaa
open Go.RowKit

/-- A text, and dots beside it. -/
structure AS (w0 : World) (t : Nat) (Q : List (Nat × Dt)) (T : List Cr) (w : World) : Prop where
  tm : TM w t T
  low : w0.heap.size ≤ t
  bel : Below w0.heap.size w0 w
  dot : ∀ q ∈ Q, w.heap[q.1]? = some (.cells #[.int .i64 q.2.1, .int .i64 q.2.2] 24 (0, 0))

theorem AS.c0 {w0 : World} {t : Nat} {Q : List (Nat × Dt)} {T : List Cr} {w : World} (h : AS w0 t Q T w) {q : Nat × Dt} (hq : q ∈ Q) : w.cell? ⟨q.1, 0, none⟩ = some (.int .i64 q.2.1) := by simp [World.cell?, h.dot q hq]
theorem AS.c1 {w0 : World} {t : Nat} {Q : List (Nat × Dt)} {T : List Cr} {w : World} (h : AS w0 t Q T w) {q : Nat × Dt} (hq : q ∈ Q) : w.cell? ⟨q.1, 1, none⟩ = some (.int .i64 q.2.2) := by simp [World.cell?, h.dot q hq]

theorem AS.fr {w0 : World} {t : Nat} {Q : List (Nat × Dt)} {T T' : List Cr} {w w' : World} (h : AS w0 t Q T w) (htm : TM w' t T') (hf : FrW t w w') : AS w0 t Q T' w' :=
  ⟨htm, h.low, ⟨hf.os.trans h.bel.os, hf.tape.trans h.bel.tape, hf.output.trans h.bel.output, Nat.le_trans h.bel.size hf.size, fun k hk => (hf.block k (Nat.lt_of_lt_of_le hk h.bel.size) (Or.inl (Nat.lt_of_lt_of_le hk h.low))).trans (h.bel.block k hk)⟩,
   fun q hq => (hf.block q.1 (Array.getElem?_eq_some_iff.1 (h.dot q hq)).1 (Or.inr ⟨_, _, h.dot q hq, by decide, by decide, by decide⟩)).trans (h.dot q hq)⟩

theorem AS.below {w0 : World} {t : Nat} {Q : List (Nat × Dt)} {T : List Cr} {w w' : World} (h : AS w0 t Q T w) (hb : Below w.heap.size w w') : AS w0 t Q T w' := h.fr (h.tm.below hb) (FrW.of_below hb)

theorem AS.alloc {w0 : World} {t : Nat} {Q : List (Nat × Dt)} {T : List Cr} {w : World} (h : AS w0 t Q T w) (d : Dt) : AS w0 t ((w.heap.size, d) :: Q) T (w.alloc (.cells #[.int .i64 d.1, .int .i64 d.2] 24)) := by
  have h' := h.below ((Below.refl _ w).alloc (Nat.le_refl _) (.cells #[.int .i64 d.1, .int .i64 d.2] 24))
  refine ⟨h'.tm, h'.low, h'.bel, fun q hq => ?_⟩
  rcases List.mem_cons.1 hq with rfl | hq
  · exact World.alloc_heap_new _ _
  · exact h'.dot q hq

theorem AS.insert {w0 : World} {t : Nat} {Q : List (Nat × Dt)} {T : List Cr} {w : World} (h : AS w0 t Q T w) (hn : T.length ≤ 100000) {id at_ : Dt} {side ch err : Int} {T' : List Cr} (hp : insP T id at_ side ch = (err, T')) (hid0 : Dw id) (hat : Dw at_) (hch : I64 ch) :
    Calls Try.prog 12 #[.pointer (some ⟨t, 0, none⟩), dv id, dv at_, .int .i64 side, .int .i64 ch] w fun e w' => e = .returned (.int .i64 err) ∧ AS w0 t Q T' w' :=
  (insert_tm h.tm hn id at_ side ch hid0 hat hch).mono (fun e w' ⟨h1, h2, h3⟩ => by rw [hp] at h1 h2; exact ⟨h1, h.fr h2 h3⟩)

theorem AS.delete {w0 : World} {t : Nat} {Q : List (Nat × Dt)} {T : List Cr} {w : World} (h : AS w0 t Q T w) {d : Dt} {err : Int} {T' : List Cr} (hp : delP T d = (err, T')) (hd : Dw d) :
    Calls Try.prog 10 #[.pointer (some ⟨t, 0, none⟩), dv d] w fun e w' => e = .returned (.int .i64 err) ∧ AS w0 t Q T' w' :=
  (delete_tm h.tm d hd).mono (fun e w' ⟨h1, h2, h3⟩ => by rw [hp] at h1 h2; exact ⟨h1, h.fr h2 h3⟩)

def aT1 : List Cr := [⟨(1, 1), (0, 0), true, 97, true⟩]
def aT2 : List Cr := aT1 ++ [⟨(1, 2), (1, 1), true, 98, true⟩]
def aT3 : List Cr := aT2 ++ [⟨(2, 1), (1, 1), true, 99, true⟩]
def aT4 : List Cr := aT3 ++ [⟨(1, 3), (1, 2), false, 100, true⟩]

theorem ap1 : insP [] (1, 1) (0, 0) 1 97 = (0, aT1) := by simp [insP, mayI, aT1]
theorem ap2 : insP aT1 (1, 2) (1, 1) 1 98 = (0, aT2) := by simp [insP, mayI, aT1, aT2]
theorem ap3 : insP aT2 (2, 1) (1, 1) 1 99 = (0, aT3) := by simp [insP, mayI, aT1, aT2, aT3]
theorem ap4 : insP aT3 (1, 3) (1, 2) 0 100 = (0, aT4) := by simp [insP, mayI, aT1, aT2, aT3, aT4]
theorem ap5 : delP aT4 (1, 2) = (0, hide aT4 (1, 2)) := by simp [delP, aT1, aT2, aT3, aT4]
theorem apP : plcI aT3 1 = ((1, 2), 0, 0) := by decide +kernel
theorem apS : strB (seenC aT4) = [97, 100, 98, 99] := by decide +kernel
theorem apL : (seenC aT4).length = 4 := by decide +kernel
theorem apR : strB (seenC (hide aT4 (1, 2))) = [97, 100, 99] := by decide +kernel
theorem apZ : (hide aT4 (1, 2)).length = 4 := by decide +kernel

set_option maxRecDepth 100000 in
set_option maxHeartbeats 4000000 in
theorem awake_any (w : World) : Calls Try.prog 8 #[] w fun e w' => e = .returned (.bool true) ∧ Below w.heap.size w w' := by
  have d11 : Dw (1, 1) := ⟨by decide, by decide⟩
  have d00 : Dw (0, 0) := ⟨by decide, by decide⟩
  have d12 : Dw (1, 2) := ⟨by decide, by decide⟩
  have d21 : Dw (2, 1) := ⟨by decide, by decide⟩
  have d13 : Dw (1, 3) := ⟨by decide, by decide⟩
  have hnew : Calls Try.prog 9 #[] w fun e w' => e = .returned (.pointer (some ⟨w.heap.size, 0, none⟩)) ∧ AS w w.heap.size [] [] w' := (new_tm w).mono (fun e w' ⟨h1, h2, h3⟩ => ⟨h1, h2, Nat.le_refl _, h3, by simp⟩)
  obtain ⟨t, ht⟩ : ∃ t, t = w.heap.size := ⟨_, rfl⟩
  rw [← ht] at hnew
  clear ht
  go_enter Try.func8, Try.ntmps8
  go_upto_region 2 with (go_at_call 9; refine hnew.mono ?_; rintro e w1 ⟨rfl, h1⟩)
  go_upto_region 4 with fail
  obtain ⟨qa, hqa⟩ : ∃ qa, qa = w1.heap.size := ⟨_, rfl⟩
  obtain ⟨qb, hqb⟩ : ∃ qb, qb = w1.heap.size + 1 := ⟨_, rfl⟩
  obtain ⟨w2, hw2⟩ : ∃ w2, w2 = (w1.alloc (.cells #[.int .i64 1, .int .i64 1] 24)).alloc (.cells #[.int .i64 1, .int .i64 2] 24) := ⟨_, rfl⟩
  have h2 : AS w t [(qb, (1, 2)), (qa, (1, 1))] [] w2 := by
    have := (h1.alloc (1, 1)).alloc (1, 2)
    rw [World.size_alloc, ← hqa] at this
    rw [hw2, hqb, ← hqa]
    exact this
  rw [← hw2, ← hqb, ← hqa]
  clear hw2 hqb hqa h1
  have h2_a0 : w2.cell? ⟨qa, 0, none⟩ = some (.int .i64 1) := h2.c0 (q := (qa, (1, 1))) (by simp)
  have h2_a1 : w2.cell? ⟨qa, 1, none⟩ = some (.int .i64 1) := h2.c1 (q := (qa, (1, 1))) (by simp)
  have h2_b0 : w2.cell? ⟨qb, 0, none⟩ = some (.int .i64 1) := h2.c0 (q := (qb, (1, 2))) (by simp)
  have h2_b1 : w2.cell? ⟨qb, 1, none⟩ = some (.int .i64 2) := h2.c1 (q := (qb, (1, 2))) (by simp)
  have hi1 : Calls Try.prog 12 #[.pointer (some ⟨t, 0, none⟩), .agg #[.int .i64 1, .int .i64 1], .agg #[.int .i64 0, .int .i64 0], .int .i64 1, .int .i64 97] w2 fun e w' => e = .returned (.int .i64 0) ∧ AS w t [(qb, (1, 2)), (qa, (1, 1))] aT1 w' := h2.insert (id := (1, 1)) (at_ := (0, 0)) (side := 1) (ch := 97) (by simp) ap1 d11 d00 (by unfold I64; omega)
  go_upto_region 5 with (go_at_call 12; refine hi1.mono ?_; rintro e w3 ⟨rfl, h3⟩)
  have h3_a0 : w3.cell? ⟨qa, 0, none⟩ = some (.int .i64 1) := h3.c0 (q := (qa, (1, 1))) (by simp)
  have h3_a1 : w3.cell? ⟨qa, 1, none⟩ = some (.int .i64 1) := h3.c1 (q := (qa, (1, 1))) (by simp)
  have h3_b0 : w3.cell? ⟨qb, 0, none⟩ = some (.int .i64 1) := h3.c0 (q := (qb, (1, 2))) (by simp)
  have h3_b1 : w3.cell? ⟨qb, 1, none⟩ = some (.int .i64 2) := h3.c1 (q := (qb, (1, 2))) (by simp)
  have hi2 : Calls Try.prog 12 #[.pointer (some ⟨t, 0, none⟩), .agg #[.int .i64 1, .int .i64 2], .agg #[.int .i64 1, .int .i64 1], .int .i64 1, .int .i64 98] w3 fun e w' => e = .returned (.int .i64 0) ∧ AS w t [(qb, (1, 2)), (qa, (1, 1))] aT2 w' := h3.insert (id := (1, 2)) (at_ := (1, 1)) (side := 1) (ch := 98) (by simp [aT1]) ap2 d12 d11 (by unfold I64; omega)
  clear hi1 h2_a0 h2_a1 h2_b0 h2_b1
  go_upto_region 6 with (go_at_call 12; refine hi2.mono ?_; rintro e w4 ⟨rfl, h4⟩)
  have h4_a0 : w4.cell? ⟨qa, 0, none⟩ = some (.int .i64 1) := h4.c0 (q := (qa, (1, 1))) (by simp)
  have h4_a1 : w4.cell? ⟨qa, 1, none⟩ = some (.int .i64 1) := h4.c1 (q := (qa, (1, 1))) (by simp)
  have h4_b0 : w4.cell? ⟨qb, 0, none⟩ = some (.int .i64 1) := h4.c0 (q := (qb, (1, 2))) (by simp)
  have h4_b1 : w4.cell? ⟨qb, 1, none⟩ = some (.int .i64 2) := h4.c1 (q := (qb, (1, 2))) (by simp)
  have hi3 : Calls Try.prog 12 #[.pointer (some ⟨t, 0, none⟩), .agg #[.int .i64 2, .int .i64 1], .agg #[.int .i64 1, .int .i64 1], .int .i64 1, .int .i64 99] w4 fun e w' => e = .returned (.int .i64 0) ∧ AS w t [(qb, (1, 2)), (qa, (1, 1))] aT3 w' := h4.insert (id := (2, 1)) (at_ := (1, 1)) (side := 1) (ch := 99) (by simp [aT1, aT2]) ap3 d21 d11 (by unfold I64; omega)
  clear hi2 h3_a0 h3_a1 h3_b0 h3_b1
  go_upto_region 7 with (go_at_call 12; refine hi3.mono ?_; rintro e w5 ⟨rfl, h5⟩)
  have hpl : Calls Try.prog 25 #[.pointer (some ⟨t, 0, none⟩), .int .i64 1] w5 fun e w' => e = .returned (.tuple #[.agg #[.int .i64 1, .int .i64 2], .int .i64 0, .int .i64 0]) ∧ AS w t [(qb, (1, 2)), (qa, (1, 1))] aT3 w' := (place_tm h5.tm (by simp [aT1, aT2, aT3]) 1 (by unfold I64; omega)).mono (fun e w' ⟨k1, k2⟩ => by rw [apP] at k1; exact ⟨k1, h5.below k2⟩)
  clear hi3 h4_a0 h4_a1 h4_b0 h4_b1
  go_upto_region 8 with (go_at_call 25; refine hpl.mono ?_; rintro e w6 ⟨rfl, h6⟩)
  obtain ⟨qc, hqc⟩ : ∃ qc, qc = w6.heap.size := ⟨_, rfl⟩
  obtain ⟨w7, hw7⟩ : ∃ w7, w7 = w6.alloc (.cells #[.int .i64 1, .int .i64 2] 24) := ⟨_, rfl⟩
  have h7 : AS w t [(qc, (1, 2)), (qb, (1, 2)), (qa, (1, 1))] aT3 w7 := by
    rw [hw7, hqc]
    exact h6.alloc (1, 2)
  rw [← hw7, ← hqc]
  clear hw7 hqc h6 hpl
  have h7_c0 : w7.cell? ⟨qc, 0, none⟩ = some (.int .i64 1) := h7.c0 (q := (qc, (1, 2))) (by simp)
  have h7_c1 : w7.cell? ⟨qc, 1, none⟩ = some (.int .i64 2) := h7.c1 (q := (qc, (1, 2))) (by simp)
  have hi4 : Calls Try.prog 12 #[.pointer (some ⟨t, 0, none⟩), .agg #[.int .i64 1, .int .i64 3], .agg #[.int .i64 1, .int .i64 2], .int .i64 0, .int .i64 100] w7 fun e w' => e = .returned (.int .i64 0) ∧ AS w t [(qc, (1, 2)), (qb, (1, 2)), (qa, (1, 1))] aT4 w' := h7.insert (id := (1, 3)) (at_ := (1, 2)) (side := 0) (ch := 100) (by simp [aT1, aT2, aT3]) ap4 d13 d12 (by unfold I64; omega)
  go_upto_region 9 with (go_at_call 12; refine hi4.mono ?_; rintro e w8 ⟨rfl, h8⟩)
  have h8_c0 : w8.cell? ⟨qc, 0, none⟩ = some (.int .i64 1) := h8.c0 (q := (qc, (1, 2))) (by simp)
  have h8_c1 : w8.cell? ⟨qc, 1, none⟩ = some (.int .i64 2) := h8.c1 (q := (qc, (1, 2))) (by simp)
  have h8_b0 : w8.cell? ⟨qb, 0, none⟩ = some (.int .i64 1) := h8.c0 (q := (qb, (1, 2))) (by simp)
  have h8_b1 : w8.cell? ⟨qb, 1, none⟩ = some (.int .i64 2) := h8.c1 (q := (qb, (1, 2))) (by simp)
  clear hi4 h7_c0 h7_c1
  have hs8 : Calls Try.prog 23 #[.pointer (some ⟨t, 0, none⟩)] w8 fun e w' => e = .returned (.string ⟨#[97, 100, 98, 99]⟩) ∧ AS w t [(qc, (1, 2)), (qb, (1, 2)), (qa, (1, 1))] aT4 w' := (string_tm h8.tm (by simp [aT1, aT2, aT3, aT4])).mono (fun e w' ⟨k1, k2⟩ => by rw [apS] at k1; exact ⟨k1, h8.below k2⟩)
  have hl9 : ∀ w9, AS w t [(qc, (1, 2)), (qb, (1, 2)), (qa, (1, 1))] aT4 w9 → Calls Try.prog 28 #[.pointer (some ⟨t, 0, none⟩)] w9 fun e w' => e = .returned (.int .i64 4) ∧ w'.cell? ⟨qb, 0, none⟩ = some (.int .i64 1) ∧ w'.cell? ⟨qb, 1, none⟩ = some (.int .i64 2) ∧ AS w t [(qc, (1, 2)), (qb, (1, 2)), (qa, (1, 1))] aT4 w' := fun w9 h9 => (len_tm h9.tm (by simp [aT1, aT2, aT3, aT4])).mono (fun e w' ⟨k1, k2⟩ => by
    rw [apL] at k1
    have h' := h9.below k2
    exact ⟨k1, h'.c0 (q := (qb, (1, 2))) (by simp), h'.c1 (q := (qb, (1, 2))) (by simp), h'⟩)
  have hd10 : ∀ w10, AS w t [(qc, (1, 2)), (qb, (1, 2)), (qa, (1, 1))] aT4 w10 → Calls Try.prog 10 #[.pointer (some ⟨t, 0, none⟩), .agg #[.int .i64 1, .int .i64 2]] w10 fun e w' => e = .returned (.int .i64 0) ∧ AS w t [(qc, (1, 2)), (qb, (1, 2)), (qa, (1, 1))] (hide aT4 (1, 2)) w' := fun w10 h10 => h10.delete (d := (1, 2)) ap5 d12
  have hs11 : ∀ w11, AS w t [(qc, (1, 2)), (qb, (1, 2)), (qa, (1, 1))] (hide aT4 (1, 2)) w11 → Calls Try.prog 23 #[.pointer (some ⟨t, 0, none⟩)] w11 fun e w' => e = .returned (.string ⟨#[97, 100, 99]⟩) ∧ AS w t [(qc, (1, 2)), (qb, (1, 2)), (qa, (1, 1))] (hide aT4 (1, 2)) w' := fun w11 h11 => (string_tm h11.tm (by rw [apZ]; omega)).mono (fun e w' ⟨k1, k2⟩ => by rw [apR] at k1; exact ⟨k1, h11.below k2⟩)
  have hz12 : ∀ w12, AS w t [(qc, (1, 2)), (qb, (1, 2)), (qa, (1, 1))] (hide aT4 (1, 2)) w12 → Calls Try.prog 29 #[.pointer (some ⟨t, 0, none⟩)] w12 fun e w' => e = .returned (.int .i64 4) ∧ w' = w12 := fun w12 h12 => (size_tm h12.tm).mono (fun e w' ⟨k1, k2⟩ => by rw [apZ] at k1; exact ⟨k1, k2⟩)
  go_wp2_with (first
    | (have hq := h11; go_at_call 23; refine (hs11 _ h11).mono ?_; rintro e w12 ⟨rfl, h12⟩)
    | (go_at_call 23; refine hs8.mono ?_; rintro e w9 ⟨rfl, h9⟩)
    | (go_at_call 28; refine (hl9 _ h9).mono ?_; rintro e w10 ⟨rfl, k10, k10', h10⟩)
    | (go_at_call 10; refine (hd10 _ h10).mono ?_; rintro e w11 ⟨rfl, h11⟩)
    | (go_at_call 29; refine (hz12 _ h12).mono ?_; rintro e w13 ⟨rfl, rfl⟩))
  go_ret
  exact ⟨rfl, h12.bel⟩
end Go.Proofs.Ytbpepmajpojacaa
