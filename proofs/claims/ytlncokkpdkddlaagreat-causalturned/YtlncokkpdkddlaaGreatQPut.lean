/- An operation that is stored over another one in a block. No function of the program. -/
import Derived.Test.YtlncokkpdkddlaaGreatQStep
import Derived.Test.YtlncokkpdkddlaaGreatGLook
import Derived.Test.YtlncokkpdkddlaaGreatOCount
namespace Go.Proofs.YtlncokkpdkddlaaGreat
section
open Go.RowKit Go.Maps Go.WideElems Go.MapKept

theorem mo_new1 (w : World) (b : Obj) (x : Mo) : ∀ j y, x.cells[j]? = some y → ((w.alloc b).alloc (.cells (x.o.cells x.dep) 36)).cell? ((⟨w.heap.size + 1, 0, none⟩ : Addr).add j) = some y := by
  have h := opAt_alloc (w.alloc b) x.o x.dep 36
  rw [World.size_alloc] at h
  exact mo_cells _ _ _ h

theorem mo_newd (w : World) (n : Nat) (x : Mo) : ∀ j y, x.cells[j]? = some y → ((w.drewN n).alloc (.cells (x.o.cells x.dep) 36)).cell? ((⟨w.heap.size, 0, none⟩ : Addr).add j) = some y :=
  mo_cells _ _ _ (opAt_alloc (w.drewN n) x.o x.dep 36)

set_option maxRecDepth 100000 in
set_option maxHeartbeats 4000000 in
theorem left_any {w1 : World} {ra : Option Addr} {rc : Nat} {R : List Mo} {w : World} {th : Dt → Bool} {s : Sq} {v : Value} {zs : List Int} {kt kw : Nat} {K : Option Value} {v0 : Value} {No : Nat → Prop} (h : TK w1 ra rc R w th s v zs kt kw K v0 No) (hR : OS w1 ra R.length rc R) (hF : ∀ x ∈ R, x.o.Fits) (hn : R.length ≤ 100000) :
    Calls Tryz.prog 23 #[.pointer (some ⟨w1.heap.size + 2, 0, none⟩)] w fun e w' => ∃ a c, e = .returned (.slice a (R.filter (fun x => !th x.o.id)).length c) ∧ OS w' a (R.filter (fun x => !th x.o.id)).length c (R.filter (fun x => !th x.o.id)) ∧ RowKit.Below w.heap.size w w' := by
  have hRw := hR.below h.below
  have ht0 : w.cell? ⟨w1.heap.size + 2, 0, none⟩ = some (.slice ra R.length rc) := by simp [World.cell?, h.tk]
  have ht1 : w.cell? ⟨w1.heap.size + 2, 1, none⟩ = some (.map (some w1.heap.size)) := by simp [World.cell?, h.tk]
  obtain ⟨gm, hDM, hgm⟩ := h.there
  have hHT := hid h
  have hts : w1.heap.size + 2 < w.heap.size := by have := h.size; omega
  go_enter Tryz.func23, Tryz.ntmps23
  go_wp2
  go_loopw [13, 3] (fun i u wr => ∃ k : Nat, k ≤ R.length ∧ i = .int .i64 k ∧ Hid (OwnO wr w.heap.size u ((R.take k).filter (fun x => !th x.o.id))) ∧ Hid (RowKit.Below w.heap.size w wr)) (fun i _ _ => R.length - (intOf i).toNat)
  case atStart => exact ⟨0, by omega, rfl, hid (World.ownsRow_nil _ _ _ _), hid (Below.refl _ _)⟩
  case round =>
    obtain ⟨k, hk, rfl, hO, hB⟩ := hrel
    by_cases hlt : k < R.length
    · obtain ⟨g, o, rfl, hg, hcell⟩ := (hRw.below hB.out).at (by omega)
      obtain ⟨c0, c1, c2, c3, c4, c5, c6, c7, c8, c9, c10, c11, c12, c13⟩ := hcell k hlt
      have hfx := hF _ (List.getElem_mem hlt)
      have hst := hid (show (R.take (k + 1)).filter (fun x => !th x.o.id) = (R.take k).filter (fun x => !th x.o.id) ++ [R[k]].filter (fun x => !th x.o.id) by rw [List.take_succ_eq_append_getElem hlt, List.filter_append])
      have hfl : ((R.take k).filter (fun x => !th x.o.id)).length ≤ k := by
        have := List.length_filter_le (fun x => !th x.o.id) (R.take k)
        rw [List.length_take] at this
        omega
      generalize R[k] = x at *
      obtain ⟨op, xa, xn, xc, xV⟩ := x
      have hdw : Dw op.id := ⟨hfx.id0, hfx.id1⟩
      obtain ⟨cc, _, _, hlook⟩ := dm_look hDM hdw
      have hF5 : Far wr (wr.alloc (.cells (op.cells (.slice xa xn xc)) 36)) := (Far.refl wr).alloc _
      have hlk : ∀ n, (Instr.lookup 46 (.map (some w1.heap.size)) (dv op.id) true).run Tryz.prog ((wr.alloc (.cells (op.cells (.slice xa xn xc)) 36)).drewN n) = .ok (.tuple #[.int .i64 cc, .bool (th op.id)]) ((wr.alloc (.cells (op.cells (.slice xa xn xc)) 36)).drewN n) := fun n => by
        have := (hlook ((wr.alloc (.cells (op.cells (.slice xa xn xc)) 36)).drewN n) (((hF5.drewN n).below.block _ (Nat.lt_of_lt_of_le hDM.lt hB.out.size)).trans (hB.out.block _ hDM.lt))).1
        rw [hgm] at this
        exact this
      have hsz := hB.out.size
      have t0 : (wr.alloc (.cells (op.cells (.slice xa xn xc)) 36)).cell? ⟨w1.heap.size + 2, 1, none⟩ = some (.map (some w1.heap.size)) := (hF5.below.cell (p := ⟨w1.heap.size + 2, 1, none⟩) (by simp; omega)).trans ((hB.out.cell (p := ⟨w1.heap.size + 2, 1, none⟩) (by simpa using hts)).trans ht1)
      obtain ⟨a0, a1, a2, a3, a4, a5, a6, a7, a8, a9, a10, a11, a12, a13⟩ := opAt_alloc wr op (.slice xa xn xc) 36
      have hb5 : RowKit.Below w.heap.size w (wr.alloc (.cells (op.cells (.slice xa xn xc)) 36)) := hB.out.alloc hsz _
      have hO5 := hid (hO.out.alloc (.cells (op.cells (.slice xa xn xc)) 36))
      have hs5 : (wr.alloc (.cells (op.cells (.slice xa xn xc)) 36)).heap.size = wr.heap.size + 1 := by simp
      have HB5 := hid hb5
      have hq5 : wr.heap.size < (wr.alloc (.cells (op.cells (.slice xa xn xc)) 36)).heap.size := by simp
      obtain ⟨w5, hw5⟩ : ∃ w5, w5 = wr.alloc (.cells (op.cells (.slice xa xn xc)) 36) := ⟨_, rfl⟩
      rw [← hw5] at hlk t0 a0 a1 a2 a3 a4 a5 a6 a7 a8 a9 a10 a11 a12 a13 hO5 hs5 HB5 hq5
      have hs5l : w.heap.size ≤ w5.heap.size := by omega
      have HS5 := hid hs5
      clear hs5
      have hw5' : wr.alloc (.cells #[.int .i64 op.id0, .int .i64 op.id1, .int .i64 op.time, .slice xa xn xc, .int .i64 op.kind, .int .i64 op.bl0, .int .i64 op.bl1, .int .i64 op.at0, .int .i64 op.at1, .int .i64 op.side, .int .i64 op.char, .int .i64 op.pa0, .int .i64 op.pa1, .string op.key] 36) = w5 := hw5.symm
      clear hcell hlook hF hR hRw hb5 hw5 hF5
      go_wp2_with fail
      go_quiet (fail)
      cases hth : th op.id
      · have hst2 := hid (show [(⟨op, xa, xn, xc, xV⟩ : Mo)].filter (fun x => !th x.o.id) = [⟨op, xa, xn, xc, xV⟩] by simp [hth])
        obtain ⟨L', hL'⟩ : ∃ L', L' = (R.take k).filter (fun x => !th x.o.id) := ⟨_, rfl⟩
        rw [← hL'] at hst hO5 hfl
        clear hL'
        obtain ⟨m', hm'⟩ : ∃ m', L'.length = m' := ⟨_, rfl⟩
        rw [hm'] at hfl
        have HM := hid hm'
        clear hm'
        go_wp2_with (first
          | (at_builtin; refine wpList_append_op rfl _ _ rfl w.heap.size u3 m' L' rfl HM.out (hO5.out.alloc _) w5.heap.size ⟨op, xa, xn, xc, xV⟩ rfl (mo_newd w5 nq ⟨op, xa, xn, xc, xV⟩) (by omega) (by simp; omega) ?_; intro g7 cap7 w7 hO7 hG7 hat7 hlt7))
        go_roundw
        case rel =>
          refine ⟨k + 1, by omega, by go_num, hid ?_, hid ?_⟩
          · rw [hst.out, hst2.out]
            have := hO7
            unfold OwnO at this ⊢
            rw [List.length_append, HM.out] at this ⊢
            exact this
          · have hb6 : RowKit.Below w.heap.size w (w5.drewN nq) := ⟨HB5.out.os, HB5.out.tape, HB5.out.output, HB5.out.size, HB5.out.block⟩
            have hb7 := hb6.alloc (B := w.heap.size) hs5l (.cells (op.cells (.slice xa xn xc)) 36)
            exact hb7.grown hG7 (by simp; omega) (fun j hj => (hO5.out.lt j hj).1)
        case measure => simp [intOf]; omega
      · have hst2 := hid (show [(⟨op, xa, xn, xc, xV⟩ : Mo)].filter (fun x => !th x.o.id) = [] by simp [hth])
        go_wp2
        go_roundw
        case rel =>
          refine ⟨k + 1, by omega, by go_num, hid ?_, hid ⟨HB5.out.os, HB5.out.tape, HB5.out.output, HB5.out.size, HB5.out.block⟩⟩
          rw [hst.out, hst2.out, List.append_nil]
          exact hO5.out
        case measure => simp [intOf]; omega
    · obtain rfl : k = R.length := by omega
      rw [List.take_length] at hO
      go_wp2
      go_ret
      obtain ⟨a', c', he, hos⟩ := owned_os hO.out (fun x hx => (hRw.below hB.out).deps x (List.mem_filter.1 hx).1)
      exact ⟨a', c', by rw [← he]; rfl, hos, hB.out⟩
end

section
open Go.RowKit

def put14 (w : World) (q : Nat) (o : OpIn) (v : Value) : World := (((((((((((((w.setCell ⟨q, 0, none⟩ (.int .i64 o.id0)).setCell ⟨q, 1, none⟩ (.int .i64 o.id1)).setCell ⟨q, 2, none⟩ (.int .i64 o.time)).setCell ⟨q, 3, none⟩ v).setCell ⟨q, 4, none⟩ (.int .i64 o.kind)).setCell ⟨q, 5, none⟩ (.int .i64 o.bl0)).setCell ⟨q, 6, none⟩ (.int .i64 o.bl1)).setCell ⟨q, 7, none⟩ (.int .i64 o.at0)).setCell ⟨q, 8, none⟩ (.int .i64 o.at1)).setCell ⟨q, 9, none⟩ (.int .i64 o.side)).setCell ⟨q, 10, none⟩ (.int .i64 o.char)).setCell ⟨q, 11, none⟩ (.int .i64 o.pa0)).setCell ⟨q, 12, none⟩ (.int .i64 o.pa1)).setCell ⟨q, 13, none⟩ (.string o.key)

theorem set14 (x0 x1 x2 x3 x4 x5 x6 x7 x8 x9 x10 x11 x12 x13 y0 y1 y2 y3 y4 y5 y6 y7 y8 y9 y10 y11 y12 y13 : Value) :
    ((((((((((((((#[x0, x1, x2, x3, x4, x5, x6, x7, x8, x9, x10, x11, x12, x13] : Array Value).setIfInBounds 0 y0).setIfInBounds 1 y1).setIfInBounds 2 y2).setIfInBounds 3 y3).setIfInBounds 4 y4).setIfInBounds 5 y5).setIfInBounds 6 y6).setIfInBounds 7 y7).setIfInBounds 8 y8).setIfInBounds 9 y9).setIfInBounds 10 y10).setIfInBounds 11 y11).setIfInBounds 12 y12).setIfInBounds 13 y13 = #[y0, y1, y2, y3, y4, y5, y6, y7, y8, y9, y10, y11, y12, y13] := by
  simp

theorem set_block {w : World} {q j : Nat} {cs : Array Value} {t : TypeId} (h : w.heap[q]? = some (.cells cs t)) (u : Value) : (w.setCell ⟨q, j, none⟩ u).heap[q]? = some (.cells (cs.setIfInBounds j u) t) := by
  simp [World.setCell, Array.getElem?_modify, h]

theorem put14_block {w : World} {q : Nat} {o1 o : OpIn} {v1 v : Value} {t : TypeId} (h : w.heap[q]? = some (.cells (o1.cells v1) t)) : (put14 w q o v).heap[q]? = some (.cells (o.cells v) t) := by
  have h0 := set_block (j := 0) h (.int .i64 o.id0)
  have h1 := set_block (j := 1) h0 (.int .i64 o.id1)
  have h2 := set_block (j := 2) h1 (.int .i64 o.time)
  have h3 := set_block (j := 3) h2 v
  have h4 := set_block (j := 4) h3 (.int .i64 o.kind)
  have h5 := set_block (j := 5) h4 (.int .i64 o.bl0)
  have h6 := set_block (j := 6) h5 (.int .i64 o.bl1)
  have h7 := set_block (j := 7) h6 (.int .i64 o.at0)
  have h8 := set_block (j := 8) h7 (.int .i64 o.at1)
  have h9 := set_block (j := 9) h8 (.int .i64 o.side)
  have h10 := set_block (j := 10) h9 (.int .i64 o.char)
  have h11 := set_block (j := 11) h10 (.int .i64 o.pa0)
  have h12 := set_block (j := 12) h11 (.int .i64 o.pa1)
  have h13 := set_block (j := 13) h12 (.string o.key)
  unfold OpIn.cells at h13
  rw [set14] at h13
  exact h13

theorem put14_grown (w : World) (q : Nat) (o : OpIn) (v : Value) : w.grownBy (put14 w q o v) (some q) :=
  ((((((((((((((World.grownBy.refl _ _).trans (grownBy_setCell _ q 0 _)).trans (grownBy_setCell _ q 1 _)).trans (grownBy_setCell _ q 2 _)).trans (grownBy_setCell _ q 3 _)).trans (grownBy_setCell _ q 4 _)).trans (grownBy_setCell _ q 5 _)).trans (grownBy_setCell _ q 6 _)).trans (grownBy_setCell _ q 7 _)).trans (grownBy_setCell _ q 8 _)).trans (grownBy_setCell _ q 9 _)).trans (grownBy_setCell _ q 10 _)).trans (grownBy_setCell _ q 11 _)).trans (grownBy_setCell _ q 12 _)).trans (grownBy_setCell _ q 13 _)

end
end Go.Proofs.YtlncokkpdkddlaaGreat
