/- Take and the reference's Take: the next dot, what is left, the error. -/
import Derived.Test.YthipadnghdodlaaEPut
import Derived.Test.YthipadnghdodlaaBRefW
namespace Go.Proofs.Ythipadnghdodlaa
open Go.RowKit

/-- What Take tells, what is left, the error. -/
def tk (L : List Int) (e : Int) : Dt × List Int × Int :=
  (if (dec (dec L e).2.1 (dec L e).2.2).2.2 = 0 then (dint (dec L e).1, dint (dec (dec L e).2.1 (dec L e).2.2).1) else (0, 0), (dec (dec L e).2.1 (dec L e).2.2).2.1, (dec (dec L e).2.1 (dec L e).2.2).2.2)

theorem Only.grown {b : Nat} {w w' : World} (h : Only b w w') : w.grownBy w' (some b) := ⟨h.os, h.tape, h.output, Nat.le_of_eq h.size.symm, fun k _ hk => h.block k (fun e => hk (by rw [e]))⟩

theorem take_grown {w w1 w2 : World} {b : Nat} {C : Obj} (o1 : Only b (w.alloc C) w1) (o2 : Only b w1 w2) (x y : Value) :
    w.grownBy ((w2.setCell ⟨w.heap.size, 0, none⟩ x).setCell ⟨w.heap.size, 1, none⟩ y) (some b) := by
  have o := o1.trans o2
  have q := ((Only.refl w.heap.size w2).setCell 0 x).setCell 1 y
  refine ⟨q.os.trans o.os, q.tape.trans o.tape, q.output.trans o.output, ?_, fun k hk hne => ?_⟩
  · rw [q.size, o.size]; simp
  · rw [q.block k (by omega), o.block k (fun e => hne (by rw [e]))]
    exact Below.heap_alloc _ _ _ (by omega)

theorem take_cells {w2 : World} {q : Nat} {u v : Value} (h0 : w2.cell? ⟨q, 0, none⟩ = some u) (h1 : w2.cell? ⟨q, 1, none⟩ = some v) (x y : Value) :
    ((w2.setCell ⟨q, 0, none⟩ x).setCell ⟨q, 1, none⟩ y).cell? ⟨q, 0, none⟩ = some x ∧ ((w2.setCell ⟨q, 0, none⟩ x).setCell ⟨q, 1, none⟩ y).cell? ⟨q, 1, none⟩ = some y := by
  constructor
  · rw [World.cell?_setCell_other _ _ _ _ (by simp), World.cell?_setCell_same' _ _ _ (by rw [h0]; rfl)]
  · rw [World.cell?_setCell_same' _ _ _ (by rw [World.cell?_setCell_other _ _ _ _ (by simp), h1]; rfl)]

set_option maxRecDepth 100000 in
set_option maxHeartbeats 2000000 in
theorem take_any (w : World) (b z : Nat) (L : List Int) (e : Int) (h : Rdr w b z L e) (hz : z < w.heap.size) :
    Calls Try.prog 48 #[.pointer (some ⟨b, 0, none⟩)] w fun r w' => r = .returned (dv (tk L e).1) ∧ Rdr w' b z (tk L e).2.1 (tk L e).2.2 ∧ w.grownBy w' (some b) := by
  have hb0 : RowKit.Below w.heap.size w (w.alloc (.cells #[.int .i64 0, .int .i64 0] 23)) := (Below.refl _ w).alloc (Nat.le_refl _) _
  have h0 := h.below hb0
  have hlt := h.lt
  have c1 := rint_any _ b z L e h0
  have hbq : b ≠ w.heap.size := by omega
  unfold tk
  generalize dec L e = p at *
  obtain ⟨n, L', e'⟩ := p
  simp only at *
  have c2 := fun W (hW : Rdr W b z L' e') => rint_any W b z L' e' hW
  generalize dec L' e' = p at *
  obtain ⟨m, L'', e''⟩ := p
  simp only at *
  clear h h0
  by_cases he : e'' = 0
  · subst he
    go_enter Try.func48, Try.ntmps48
    go_wp2_with (first
      | (go_at_call 23; refine (err_any _ b _ 0 hrd).mono ?_; rintro r w' ⟨rfl, rfl⟩; have r0 := hf0; have r1 := hf1)
      | (go_at_call 49; have hq := o1; refine (c2 w1 r1).mono ?_; rintro r w2 ⟨rfl, r2, o2⟩; obtain ⟨a2, len2, cap2, hrd, hrest⟩ := id r2; have hc0 := (o2.cell (p := ⟨w.heap.size, 0, none⟩) (Ne.symm hbq)).trans hd0; have hc1 := (o2.cell (p := ⟨w.heap.size, 1, none⟩) (Ne.symm hbq)).trans hd1; have hf0 := (o2.frozen (p := ⟨w.heap.size, 0, none⟩) (Ne.symm hbq)).trans he0; have hf1 := (o2.frozen (p := ⟨w.heap.size, 1, none⟩) (Ne.symm hbq)).trans he1)
      | (go_at_call 49; refine c1.mono ?_; rintro r w1 ⟨rfl, r1, o1⟩; have hd0 := (o1.cell (p := ⟨w.heap.size, 0, none⟩) (Ne.symm hbq)).trans (show _ = some (.int .i64 0) by go_simp); have hd1 := (o1.cell (p := ⟨w.heap.size, 1, none⟩) (Ne.symm hbq)).trans (show _ = some (.int .i64 0) by go_simp); have he0 := (o1.frozen (p := ⟨w.heap.size, 0, none⟩) (Ne.symm hbq)).trans (show _ = false by go_simp); have he1 := (o1.frozen (p := ⟨w.heap.size, 1, none⟩) (Ne.symm hbq)).trans (show _ = false by go_simp)))
    obtain ⟨t0, t1⟩ := take_cells hc0 hc1 (.int .i64 (dint n)) (.int .i64 (dint m))
    have hfin := take_grown o1 o2 (.int .i64 (dint n)) (.int .i64 (dint m))
    have hrf := r2.only (((Only.refl w.heap.size w2).setCell 0 (.int .i64 (dint n))).setCell 1 (.int .i64 (dint m))) hbq (by omega)
    generalize ((w2.setCell ⟨w.heap.size, 0, none⟩ (.int .i64 (dint n))).setCell ⟨w.heap.size, 1, none⟩ (.int .i64 (dint m))) = w3 at t0 t1 hfin hrf ⊢
    refine bodyPost_ret (v := .agg #[.int .i64 (dint n), .int .i64 (dint m)]) (by simp [results, Try.results48, go_sem, t0, t1]) rfl ⟨rfl, hrf, hfin⟩
  · have hne : (e'' == 0) = false := by simpa using he
    have hif : (if e'' = 0 then (dint n, dint m) else (0, 0) : Dt) = (0, 0) := by rw [if_neg he]
    rw [hif]
    clear hif
    go_enter Try.func48, Try.ntmps48
    go_wp2_with (first
      | (go_at_call 23; refine (err_any _ b _ e'' hrd).mono ?_; rintro r w' ⟨rfl, rfl⟩; have r0 := hf0; have r1 := hf1)
      | (go_at_call 49; have hq := o1; refine (c2 w1 r1).mono ?_; rintro r w2 ⟨rfl, r2, o2⟩; obtain ⟨a2, len2, cap2, hrd, hrest⟩ := id r2; have hc0 := (o2.cell (p := ⟨w.heap.size, 0, none⟩) (Ne.symm hbq)).trans hd0; have hc1 := (o2.cell (p := ⟨w.heap.size, 1, none⟩) (Ne.symm hbq)).trans hd1; have hf0 := (o2.frozen (p := ⟨w.heap.size, 0, none⟩) (Ne.symm hbq)).trans he0; have hf1 := (o2.frozen (p := ⟨w.heap.size, 1, none⟩) (Ne.symm hbq)).trans he1)
      | (go_at_call 49; refine c1.mono ?_; rintro r w1 ⟨rfl, r1, o1⟩; have hd0 := (o1.cell (p := ⟨w.heap.size, 0, none⟩) (Ne.symm hbq)).trans (show _ = some (.int .i64 0) by go_simp); have hd1 := (o1.cell (p := ⟨w.heap.size, 1, none⟩) (Ne.symm hbq)).trans (show _ = some (.int .i64 0) by go_simp); have he0 := (o1.frozen (p := ⟨w.heap.size, 0, none⟩) (Ne.symm hbq)).trans (show _ = false by go_simp); have he1 := (o1.frozen (p := ⟨w.heap.size, 1, none⟩) (Ne.symm hbq)).trans (show _ = false by go_simp)))
    obtain ⟨t0, t1⟩ := take_cells hc0 hc1 (.int .i64 0) (.int .i64 0)
    have hfin := take_grown o1 o2 (.int .i64 0) (.int .i64 0)
    have hrf := r2.only (((Only.refl w.heap.size w2).setCell 0 (.int .i64 0)).setCell 1 (.int .i64 0)) hbq (by omega)
    generalize ((w2.setCell ⟨w.heap.size, 0, none⟩ (.int .i64 0)).setCell ⟨w.heap.size, 1, none⟩ (.int .i64 0)) = w3 at t0 t1 hfin hrf ⊢
    refine bodyPost_ret (v := .agg #[.int .i64 0, .int .i64 0]) (by simp [results, Try.results48, go_sem, t0, t1]) rfl ⟨rfl, hrf, hfin⟩

end Go.Proofs.Ythipadnghdodlaa
