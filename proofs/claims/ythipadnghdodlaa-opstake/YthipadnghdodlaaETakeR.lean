/- The reference's Take. -/
import Derived.Test.YthipadnghdodlaaETake
namespace Go.Proofs.Ythipadnghdodlaa
open Go.RowKit

set_option maxRecDepth 100000 in
set_option maxHeartbeats 2000000 in
theorem rtake_any (w : World) (b z : Nat) (L : List Int) (e : Int) (h : Rdr w b z L e) (hz : z < w.heap.size) :
    Calls Try.prog 54 #[.pointer (some ⟨b, 0, none⟩)] w fun r w' => r = .returned (dv (tk L e).1) ∧ Rdr w' b z (tk L e).2.1 (tk L e).2.2 ∧ w.grownBy w' (some b) := by
  have hb0 : RowKit.Below w.heap.size w (w.alloc (.cells #[.int .i64 0, .int .i64 0] 23)) := (Below.refl _ w).alloc (Nat.le_refl _) _
  have h0 := h.below hb0
  have hlt := h.lt
  have c1 := wint_any _ b z L e h0
  have hbq : b ≠ w.heap.size := by omega
  unfold tk
  generalize dec L e = p at *
  obtain ⟨n, L', e'⟩ := p
  simp only at *
  have c2 := fun W (hW : Rdr W b z L' e') => wint_any W b z L' e' hW
  generalize dec L' e' = p at *
  obtain ⟨m, L'', e''⟩ := p
  simp only at *
  clear h h0
  by_cases he : e'' = 0
  · subst he
    go_enter Try.func54, Try.ntmps54
    go_wp2_with (first
      | (go_at_call 55; have hq := o1; refine (c2 w1 r1).mono ?_; rintro r w2 ⟨rfl, r2, o2⟩; obtain ⟨a2, len2, cap2, hrd, hrest⟩ := id r2; have hE := hrd.c1; have hc0 := (o2.cell (p := ⟨w.heap.size, 0, none⟩) (Ne.symm hbq)).trans hd0; have hc1 := (o2.cell (p := ⟨w.heap.size, 1, none⟩) (Ne.symm hbq)).trans hd1; have hf0 := (o2.frozen (p := ⟨w.heap.size, 0, none⟩) (Ne.symm hbq)).trans he0; have hf1 := (o2.frozen (p := ⟨w.heap.size, 1, none⟩) (Ne.symm hbq)).trans he1)
      | (go_at_call 55; refine c1.mono ?_; rintro r w1 ⟨rfl, r1, o1⟩; have hd0 := (o1.cell (p := ⟨w.heap.size, 0, none⟩) (Ne.symm hbq)).trans (show _ = some (.int .i64 0) by go_simp); have hd1 := (o1.cell (p := ⟨w.heap.size, 1, none⟩) (Ne.symm hbq)).trans (show _ = some (.int .i64 0) by go_simp); have he0 := (o1.frozen (p := ⟨w.heap.size, 0, none⟩) (Ne.symm hbq)).trans (show _ = false by go_simp); have he1 := (o1.frozen (p := ⟨w.heap.size, 1, none⟩) (Ne.symm hbq)).trans (show _ = false by go_simp)))
    obtain ⟨t0, t1⟩ := take_cells hc0 hc1 (.int .i64 (dint n)) (.int .i64 (dint m))
    have hfin := take_grown o1 o2 (.int .i64 (dint n)) (.int .i64 (dint m))
    have hrf := r2.only (((Only.refl w.heap.size w2).setCell 0 (.int .i64 (dint n))).setCell 1 (.int .i64 (dint m))) hbq (by omega)
    generalize ((w2.setCell ⟨w.heap.size, 0, none⟩ (.int .i64 (dint n))).setCell ⟨w.heap.size, 1, none⟩ (.int .i64 (dint m))) = w3 at t0 t1 hfin hrf ⊢
    refine bodyPost_ret (v := .agg #[.int .i64 (dint n), .int .i64 (dint m)]) (by simp [results, Try.results54, go_sem, t0, t1]) rfl ⟨rfl, hrf, hfin⟩
  · have hne : (e'' == 0) = false := by simpa using he
    have hif : (if e'' = 0 then (dint n, dint m) else (0, 0) : Dt) = (0, 0) := by rw [if_neg he]
    rw [hif]
    clear hif
    go_enter Try.func54, Try.ntmps54
    go_wp2_with (first
      | (go_at_call 55; have hq := o1; refine (c2 w1 r1).mono ?_; rintro r w2 ⟨rfl, r2, o2⟩; obtain ⟨a2, len2, cap2, hrd, hrest⟩ := id r2; have hE := hrd.c1; have hc0 := (o2.cell (p := ⟨w.heap.size, 0, none⟩) (Ne.symm hbq)).trans hd0; have hc1 := (o2.cell (p := ⟨w.heap.size, 1, none⟩) (Ne.symm hbq)).trans hd1; have hf0 := (o2.frozen (p := ⟨w.heap.size, 0, none⟩) (Ne.symm hbq)).trans he0; have hf1 := (o2.frozen (p := ⟨w.heap.size, 1, none⟩) (Ne.symm hbq)).trans he1)
      | (go_at_call 55; refine c1.mono ?_; rintro r w1 ⟨rfl, r1, o1⟩; have hd0 := (o1.cell (p := ⟨w.heap.size, 0, none⟩) (Ne.symm hbq)).trans (show _ = some (.int .i64 0) by go_simp); have hd1 := (o1.cell (p := ⟨w.heap.size, 1, none⟩) (Ne.symm hbq)).trans (show _ = some (.int .i64 0) by go_simp); have he0 := (o1.frozen (p := ⟨w.heap.size, 0, none⟩) (Ne.symm hbq)).trans (show _ = false by go_simp); have he1 := (o1.frozen (p := ⟨w.heap.size, 1, none⟩) (Ne.symm hbq)).trans (show _ = false by go_simp)))
    obtain ⟨t0, t1⟩ := take_cells hc0 hc1 (.int .i64 0) (.int .i64 0)
    have hfin := take_grown o1 o2 (.int .i64 0) (.int .i64 0)
    have hrf := r2.only (((Only.refl w.heap.size w2).setCell 0 (.int .i64 0)).setCell 1 (.int .i64 0)) hbq (by omega)
    generalize ((w2.setCell ⟨w.heap.size, 0, none⟩ (.int .i64 0)).setCell ⟨w.heap.size, 1, none⟩ (.int .i64 0)) = w3 at t0 t1 hfin hrf ⊢
    refine bodyPost_ret (v := .agg #[.int .i64 0, .int .i64 0]) (by simp [results, Try.results54, go_sem, t0, t1]) rfl ⟨rfl, hrf, hfin⟩

end Go.Proofs.Ythipadnghdodlaa
