/- The reference: put. -/
import Derived.Test.YtocglenkdjiknaaDkRefD
import Derived.OrdersHeld
import Derived.Deep.RegionHeld
import Derived.Sort.Walk0
set_option linter.unusedVariables false
set_option linter.unusedSimpArgs false
namespace Go.Proofs.Ytocglenkdjiknaa
open Go.RowKit
set_option linter.unusedSectionVars false
variable {sp : Sep}


/-- What put's loop makes of the rest. -/
def lp (n : Nm) (f : RFi) : Bool → List (Nm × RFi) → List (Nm × RFi)
  | d, [] => if d = true then [] else [(n, f)]
  | d, (m, a) :: r => (if d = false ∧ n ≤ m then [(n, f)] else []) ++ (if m = n then [] else [(m, a)]) ++ lp n f (d || decide (n ≤ m)) r

theorem lp_true (n : Nm) (f : RFi) : ∀ (l : List (Nm × RFi)), (∀ p ∈ l, n < p.1) → lp n f true l = l
  | [], _ => rfl
  | (m, a) :: r, h => by
    have h1 := h (m, a) (List.mem_cons_self ..)
    simp only [lp]
    rw [if_neg (by simp), if_neg (fun e => nm_irr n (by rw [← e] at h1 ⊢; exact h1))]
    simp only [Bool.true_or, List.nil_append, List.cons_append]
    rw [lp_true n f r (fun p hp => h p (List.mem_cons_of_mem _ hp))]
theorem lp_put (n : Nm) (f : RFi) : ∀ (l : List (Nm × RFi)), Asc l → lp n f false l = put l n f
  | [], _ => rfl
  | (m, a) :: r, h => by
    simp only [lp, put]
    by_cases e : n = m
    · subst e
      rw [if_pos rfl, if_pos ⟨trivial, List.le_refl _⟩, if_pos rfl]
      rw [show decide (n ≤ n) = true from decide_eq_true (List.le_refl _)]
      simp only [Bool.or_true, List.append_nil, List.cons_append, List.nil_append]
      rw [lp_true n f r h.1]
    · rw [if_neg e]
      by_cases hlt : n < m
      · rw [if_pos hlt, if_pos ⟨trivial, List.le_of_lt hlt⟩, if_neg (fun e' => e e'.symm), show decide (n ≤ m) = true from decide_eq_true (List.le_of_lt hlt)]
        simp only [Bool.or_true, List.cons_append, List.nil_append]
        rw [lp_true n f r (fun p hp => nm_trans hlt (h.1 p hp))]
      · have hnle : ¬ n ≤ m := fun h' => e (List.le_antisymm h' (List.not_lt.1 hlt))
        rw [if_neg hlt, if_neg (fun h' => hnle h'.2), if_neg (fun e' => e e'.symm), show decide (n ≤ m) = false from decide_eq_false hnle]
        simp only [Bool.or_false, List.cons_append, List.nil_append]
        rw [lp_put n f r h.2]
theorem lp_at (n : Nm) (f : RFi) (d : Bool) (R : List (Nm × RFi)) (k : Nat) (q : Nm × RFi) (h : R[k]? = some q) : lp n f d (R.drop k) = (if d = false ∧ n ≤ q.1 then [(n, f)] else []) ++ (if q.1 = n then [] else [q]) ++ lp n f (d || decide (n ≤ q.1)) (R.drop (k + 1)) := by
  obtain ⟨hk, rfl⟩ := List.getElem?_eq_some_iff.1 h
  rw [List.drop_eq_getElem_cons hk]
  rfl

theorem app_below {w0 wr wx w7 : World} {B : Nat} {v : Value} {O : List (Nm × RFi)} {o : Obj} (h : Below B w0 wr) (hB0 : B ≤ wr.heap.size) (ho : OwnF wx B v O) (hg : (wx.alloc o).grownBy w7 v.ownBlock) (hx : wx.heap = wr.heap ∧ wx.os = wr.os ∧ wx.tape = wr.tape ∧ wx.output = wr.output := by exact ⟨rfl, rfl, rfl, rfl⟩) : Below B w0 w7 := by
  obtain ⟨h1, h2, h3, h4⟩ := hx
  have hw : Below B w0 wx := ⟨h2.trans h.os, h3.trans h.tape, h4.trans h.output, by rw [h1]; exact h.size, fun k hk => by rw [h1]; exact h.block k hk⟩
  have hB : B ≤ wx.heap.size := by rw [h1]; exact hB0
  exact (hw.trans ((new_below wx o).mono hB)).grown hg (by simp; omega) (fun j hj => (ho.lt j hj).1)
theorem bdrew {B : Nat} {w0 w : World} (h : Below B w0 w) : Below B w0 w.drew := ⟨h.os, h.tape, h.output, h.size, h.block⟩
theorem bl_of (m n : Nm) : Op.bytesLess (bs m).toList (bs n).toList = decide (m < n) := by rw [bs_list, bs_list, bytesLess_eq]

set_option maxRecDepth 100000 in
set_option maxHeartbeats 8000000 in
theorem rput_any (a : Option Addr) (c : Nat) (R : List (Nm × RFi)) (n : Nm) (f : RFi) (w : World) (h : FR sp w (.slice a R.length c) R) (hl : R.length ≤ 1000) (hA : Asc R) (hf : f.Ok sp w) :
    Calls Try.prog 53 #[.slice a R.length c, .agg #[.string (bs n), .slice f.a f.b.length f.c, .int .i64 (f.s : Int)]] w fun e w' => ∃ v, e = .returned v ∧ FR sp w' v (put R n f) ∧ Below w.heap.size w w' := by
  obtain ⟨a', c', ev, hrow⟩ := h.row
  cases ev
  have HBS := hid h.base
  have HOK : Hid (∀ p ∈ put R n f, p.2.Ok sp w) := hid (fun p hp => by
    rcases mem_put hp with e | e
    · rw [e]; exact hf
    · exact h.ok p e)
  have HR := hid hrow
  have hpl : (put R n f).length ≤ 1001 := by
    rw [len_put n f hA]
    split <;> omega
  have HN1 := hid (heap_new w (.cells #[.string (bs n), .slice f.a f.b.length f.c, .int .i64 (f.s : Int)] 57))
  have HB1 := hid (new_below w (.cells #[.string (bs n), .slice f.a f.b.length f.c, .int .i64 (f.s : Int)] 57))
  have hmxo : Try.prog.follows .mixedOrders = true := by kernel_rfl
  have HPUT := hid (lp_put n f R hA)
  clear h hrow hf
  go_enter Try.func53, Try.ntmps53
  go_wp2
  go_loopw [5, 6, 7] (fun vo vd vi wr => ∃ (k : Nat) (d : Bool) (O : List (Nm × RFi)), vi = .int .i64 (k : Int) ∧ k ≤ R.length ∧ vd = .bool d ∧ Hid (OwnF wr (w.heap.size + 1) vo O) ∧ Hid (O ++ lp n f d (R.drop k) = put R n f) ∧ Hid (Below (w.heap.size + 1) (w.alloc (.cells #[.string (bs n), .slice f.a f.b.length f.c, .int .i64 (f.s : Int)] 57)) wr)) (fun _ _ vi _ => R.length - (intOf vi).toNat)
  case atStart => exact ⟨0, false, [], rfl, Nat.zero_le _, rfl, hid (OwnF.nil _ _), HPUT, hid (Below.refl _ _)⟩
  case round =>
    obtain ⟨k, d, O, rfl, hk, rfl, HO, HI, HB⟩ := hrel
    have hbz : w.heap.size + 1 ≤ wr.heap.size := by have h9 := HB.out.size; simpa using h9
    have hol : O.length ≤ 1001 := by
      have := congrArg List.length HI.out
      rw [List.length_append] at this
      omega
    by_cases hlt : k < R.length
    · have e5 : decide ((k : Int) < (R.length : Int)) = true := decide_eq_true (by omega)
      have hol2 : ∀ (b : Bool), O.length + 2 ≤ 1000000 := fun _ => by omega
      obtain ⟨q, hq⟩ : ∃ q, R[k]? = some q := ⟨R[k], List.getElem?_eq_getElem hlt⟩
      obtain ⟨g, ea, x0, x1, x2⟩ := HR.out k q hq
      subst ea
      have X0 := hid x0
      have X1 := hid x1
      have X2 := hid x2
      have HT := hid (lp_at n f d R k q hq)
      clear x0 x1 x2 hq
      by_cases hqn : q.1 = n
      · have eL : Op.bytesLess (bs n).toList (bs q.1).toList = false := by rw [bl_of, hqn]; exact decide_eq_false (nm_irr n)
        have eE : (bs n).toList = (bs q.1).toList := by rw [hqn]
        have eE2 : ((bs q.1).toList == (bs n).toList) = true := by rw [hqn]; simp
        have eE3 : ((bs n).toList == (bs q.1).toList) = true := by rw [hqn]; simp
        have hnq : decide (n ≤ q.1) = true := decide_eq_true (by rw [hqn]; exact List.le_refl _)
        have hnq2 : n ≤ q.1 := by rw [hqn]; exact List.le_refl _
        have eE4 : (bs q.1).toList = (bs n).toList := by rw [hqn]
        rw [hqn] at HT
        have HQN := hid hqn
        cases d with
        | false =>
          clear hqn eE4 hnq hnq2 eE
          have eE : (bs n).toList = (bs q.1).toList := by rw [HQN.out]
          have HGa := hid (HB1.out.trans (HB.out.mono (by simp)))
          have hbxa := (HB.out.block w.heap.size (by omega)).trans HN1.out
          have p0a : wr.drew.cell? ⟨w.heap.size, 0, none⟩ = some (.string (bs n)) := cell_blk (w := wr.drew) hbxa rfl
          have p1a : wr.drew.cell? ⟨w.heap.size, 1, none⟩ = some (.slice f.a f.b.length f.c) := cell_blk (w := wr.drew) hbxa rfl
          have p2a : wr.drew.cell? ⟨w.heap.size, 2, none⟩ = some (.int .i64 (f.s : Int)) := cell_blk (w := wr.drew) hbxa rfl
          have z0a : wr.drew.cell? ⟨g, k * 3, none⟩ = some (.string (bs q.1)) := (HGa.out.cell (cell_block X0.out)).trans X0.out
          have z1a : wr.drew.cell? ⟨g, k * 3 + 1, none⟩ = some (.slice q.2.a q.2.b.length q.2.c) := (HGa.out.cell (cell_block X1.out)).trans X1.out
          have z2a : wr.drew.cell? ⟨g, k * 3 + 2, none⟩ = some (.int .i64 (q.2.s : Int)) := (HGa.out.cell (cell_block X2.out)).trans X2.out
          have Sa : wr.drew.cell? ⟨w.heap.size, 0, none⟩ = some (.string (bs n)) ∧ wr.drew.cell? ⟨g, k * 3, none⟩ = some (.string (bs q.1)) := ⟨p0a, z0a⟩
          clear hbxa
          go_wp2_with fail
          refine wp_region_held_drew (S := fun w' => w'.cell? ⟨w.heap.size, 0, none⟩ = some (.string (bs n)) ∧ w'.cell? ⟨g, k * 3, none⟩ = some (.string (bs q.1))) hmxo Sa ?_
          intro _
          refine wpAnyH_take (i := 0) (v := .bool false) rfl (by kernel_rfl) (by kernel_rfl) (by kernel_rfl) (fun _ _ _ h => h) (Or.inl ⟨by kernel_rfl, fun w hSw => ?_⟩) Sa ?_
          · obtain ⟨e1, e2⟩ := hSw; go_simp
          simp only [Act.put, List.getElem_toArray, List.getElem_cons_succ, List.getElem_cons_zero, List.setIfInBounds_toArray, List.set_cons_zero, List.set_cons_succ]
          refine wpAnyH_take (i := 1) (v := .bool true) rfl (by kernel_rfl) (by kernel_rfl) (by kernel_rfl) (fun _ _ _ h => h) (Or.inl ⟨by kernel_rfl, fun w hSw => ?_⟩) Sa ?_
          · obtain ⟨e1, e2⟩ := hSw; go_simp
          simp only [Act.put, List.getElem_toArray, List.getElem_cons_succ, List.getElem_cons_zero, List.setIfInBounds_toArray, List.set_cons_zero, List.set_cons_succ]
          refine wpAnyH_take (i := 2) (v := .bool true) rfl (by kernel_rfl) (by kernel_rfl) (by kernel_rfl) (fun _ _ _ h => h) (Or.inl ⟨by kernel_rfl, fun w hSw => ?_⟩) Sa ?_
          · obtain ⟨e1, e2⟩ := hSw; go_simp
          simp only [Act.put, List.getElem_toArray, List.getElem_cons_succ, List.getElem_cons_zero, List.setIfInBounds_toArray, List.set_cons_zero, List.set_cons_succ]
          refine wpAnyH_take (i := 3) (v := .pointer (some ⟨w.heap.size, 0, none⟩)) rfl (by kernel_rfl) (by kernel_rfl) (by kernel_rfl) (fun _ _ _ h => h) (Or.inl ⟨by kernel_rfl, fun w hSw => ?_⟩) Sa ?_
          · obtain ⟨e1, e2⟩ := hSw; go_simp
          simp only [Act.put, List.getElem_toArray, List.getElem_cons_succ, List.getElem_cons_zero, List.setIfInBounds_toArray, List.set_cons_zero, List.set_cons_succ]
          refine wpAnyH_take (i := 4) (v := .string (bs n)) rfl (by kernel_rfl) (by kernel_rfl) (by kernel_rfl) (fun _ _ _ h => h) (Or.inl ⟨by kernel_rfl, fun w hSw => ?_⟩) Sa ?_
          · obtain ⟨e1, e2⟩ := hSw; go_simp
          simp only [Act.put, List.getElem_toArray, List.getElem_cons_succ, List.getElem_cons_zero, List.setIfInBounds_toArray, List.set_cons_zero, List.set_cons_succ]
          refine wpAnyH_take (i := 5) (v := .slice (some ⟨g, 0, none⟩) R.length c) rfl (by kernel_rfl) (by kernel_rfl) (by kernel_rfl) (fun _ _ _ h => h) (Or.inl ⟨by kernel_rfl, fun w hSw => ?_⟩) Sa ?_
          · obtain ⟨e1, e2⟩ := hSw; go_simp
          simp only [Act.put, List.getElem_toArray, List.getElem_cons_succ, List.getElem_cons_zero, List.setIfInBounds_toArray, List.set_cons_zero, List.set_cons_succ]
          refine wpAnyH_take (i := 6) (v := .int .i64 (k : Int)) rfl (by kernel_rfl) (by kernel_rfl) (by kernel_rfl) (fun _ _ _ h => h) (Or.inl ⟨by kernel_rfl, fun w hSw => ?_⟩) Sa ?_
          · obtain ⟨e1, e2⟩ := hSw; go_simp
          simp only [Act.put, List.getElem_toArray, List.getElem_cons_succ, List.getElem_cons_zero, List.setIfInBounds_toArray, List.set_cons_zero, List.set_cons_succ]
          refine wpAnyH_take (i := 7) (v := .pointer (some ⟨g, k * 3, none⟩)) rfl (by kernel_rfl) (by kernel_rfl) (by kernel_rfl) (fun _ _ _ h => h) (Or.inl ⟨by kernel_rfl, fun w hSw => ?_⟩) Sa ?_
          · obtain ⟨e1, e2⟩ := hSw; go_simp
          simp only [Act.put, List.getElem_toArray, List.getElem_cons_succ, List.getElem_cons_zero, List.setIfInBounds_toArray, List.set_cons_zero, List.set_cons_succ]
          refine wpAnyH_take (i := 8) (v := .pointer (some ⟨g, k * 3, none⟩)) rfl (by kernel_rfl) (by kernel_rfl) (by kernel_rfl) (fun _ _ _ h => h) (Or.inl ⟨by kernel_rfl, fun w hSw => ?_⟩) Sa ?_
          · obtain ⟨e1, e2⟩ := hSw; go_simp
          simp only [Act.put, List.getElem_toArray, List.getElem_cons_succ, List.getElem_cons_zero, List.setIfInBounds_toArray, List.set_cons_zero, List.set_cons_succ]
          refine wpAnyH_take (i := 9) (v := .string (bs q.1)) rfl (by kernel_rfl) (by kernel_rfl) (by kernel_rfl) (fun _ _ _ h => h) (Or.inl ⟨by kernel_rfl, fun w hSw => ?_⟩) Sa ?_
          · obtain ⟨e1, e2⟩ := hSw; go_simp
          simp only [Act.put, List.getElem_toArray, List.getElem_cons_succ, List.getElem_cons_zero, List.setIfInBounds_toArray, List.set_cons_zero, List.set_cons_succ]
          refine wpAnyH_take (i := 10) (v := .bool true) rfl (by kernel_rfl) (by kernel_rfl) (by kernel_rfl) (fun _ _ _ h => h) (Or.inl ⟨by kernel_rfl, fun w hSw => ?_⟩) Sa ?_
          · obtain ⟨e1, e2⟩ := hSw; go_simp
          simp only [Act.put, List.getElem_toArray, List.getElem_cons_succ, List.getElem_cons_zero, List.setIfInBounds_toArray, List.set_cons_zero, List.set_cons_succ]
          refine wpAnyH_take (i := 11) (v := .bool true) rfl (by kernel_rfl) (by kernel_rfl) (by kernel_rfl) (fun _ _ _ h => h) (Or.inl ⟨by kernel_rfl, fun w hSw => ?_⟩) Sa ?_
          · obtain ⟨e1, e2⟩ := hSw; go_simp
          simp only [Act.put, List.getElem_toArray, List.getElem_cons_succ, List.getElem_cons_zero, List.setIfInBounds_toArray, List.set_cons_zero, List.set_cons_succ]
          refine wpAnyH_done (by kernel_rfl) ?_ _
          go_wp2_with (at_builtin; refine wpList_append_file rfl _ _ rfl (w.heap.size + 1) _ (O) rfl ((show OwnF wr.drew _ _ _ from HO.out).alloc _) wr.drew.heap.size (n, f) rfl (new_fcs wr.drew (n, f)) (by simp; omega) (by simp; omega) ?_; intro g7 cap7 w7 hO7 hG7; have HO7 := hid hO7; have HB7 := hid (app_below HB.out hbz (show OwnF wr.drew _ _ _ from HO.out) hG7); have hbz7 : w.heap.size + 1 ≤ w7.heap.size := (by have h9 := HB7.out.size; simpa using h9); clear hO7 hG7)
          have HGb := hid (HB1.out.trans (HB7.out.mono (by simp)))
          have hbxb := (HB7.out.block w.heap.size (by omega)).trans HN1.out
          have p0b : w7.drew.cell? ⟨w.heap.size, 0, none⟩ = some (.string (bs n)) := cell_blk (w := w7.drew) hbxb rfl
          have p1b : w7.drew.cell? ⟨w.heap.size, 1, none⟩ = some (.slice f.a f.b.length f.c) := cell_blk (w := w7.drew) hbxb rfl
          have p2b : w7.drew.cell? ⟨w.heap.size, 2, none⟩ = some (.int .i64 (f.s : Int)) := cell_blk (w := w7.drew) hbxb rfl
          have z0b : w7.drew.cell? ⟨g, k * 3, none⟩ = some (.string (bs q.1)) := (HGb.out.cell (cell_block X0.out)).trans X0.out
          have z1b : w7.drew.cell? ⟨g, k * 3 + 1, none⟩ = some (.slice q.2.a q.2.b.length q.2.c) := (HGb.out.cell (cell_block X1.out)).trans X1.out
          have z2b : w7.drew.cell? ⟨g, k * 3 + 2, none⟩ = some (.int .i64 (q.2.s : Int)) := (HGb.out.cell (cell_block X2.out)).trans X2.out
          have Sb : w7.drew.cell? ⟨w.heap.size, 0, none⟩ = some (.string (bs n)) ∧ w7.drew.cell? ⟨g, k * 3, none⟩ = some (.string (bs q.1)) := ⟨p0b, z0b⟩
          clear hbxb
          refine wp_region_held_drew (S := fun w' => w'.cell? ⟨w.heap.size, 0, none⟩ = some (.string (bs n)) ∧ w'.cell? ⟨g, k * 3, none⟩ = some (.string (bs q.1))) hmxo Sb ?_
          intro _
          refine wpAnyH_take (i := 0) (v := .slice (some ⟨g, 0, none⟩) R.length c) rfl (by kernel_rfl) (by kernel_rfl) (by kernel_rfl) (fun _ _ _ h => h) (Or.inl ⟨by kernel_rfl, fun w hSw => ?_⟩) Sb ?_
          · obtain ⟨e1, e2⟩ := hSw; go_simp
          simp only [Act.put, List.getElem_toArray, List.getElem_cons_succ, List.getElem_cons_zero, List.setIfInBounds_toArray, List.set_cons_zero, List.set_cons_succ]
          refine wpAnyH_take (i := 1) (v := .int .i64 (k : Int)) rfl (by kernel_rfl) (by kernel_rfl) (by kernel_rfl) (fun _ _ _ h => h) (Or.inl ⟨by kernel_rfl, fun w hSw => ?_⟩) Sb ?_
          · obtain ⟨e1, e2⟩ := hSw; go_simp
          simp only [Act.put, List.getElem_toArray, List.getElem_cons_succ, List.getElem_cons_zero, List.setIfInBounds_toArray, List.set_cons_zero, List.set_cons_succ]
          refine wpAnyH_take (i := 2) (v := .pointer (some ⟨g, k * 3, none⟩)) rfl (by kernel_rfl) (by kernel_rfl) (by kernel_rfl) (fun _ _ _ h => h) (Or.inl ⟨by kernel_rfl, fun w hSw => ?_⟩) Sb ?_
          · obtain ⟨e1, e2⟩ := hSw; go_simp
          simp only [Act.put, List.getElem_toArray, List.getElem_cons_succ, List.getElem_cons_zero, List.setIfInBounds_toArray, List.set_cons_zero, List.set_cons_succ]
          refine wpAnyH_take (i := 3) (v := .pointer (some ⟨g, k * 3, none⟩)) rfl (by kernel_rfl) (by kernel_rfl) (by kernel_rfl) (fun _ _ _ h => h) (Or.inl ⟨by kernel_rfl, fun w hSw => ?_⟩) Sb ?_
          · obtain ⟨e1, e2⟩ := hSw; go_simp
          simp only [Act.put, List.getElem_toArray, List.getElem_cons_succ, List.getElem_cons_zero, List.setIfInBounds_toArray, List.set_cons_zero, List.set_cons_succ]
          refine wpAnyH_take (i := 4) (v := .string (bs q.1)) rfl (by kernel_rfl) (by kernel_rfl) (by kernel_rfl) (fun _ _ _ h => h) (Or.inl ⟨by kernel_rfl, fun w hSw => ?_⟩) Sb ?_
          · obtain ⟨e1, e2⟩ := hSw; go_simp
          simp only [Act.put, List.getElem_toArray, List.getElem_cons_succ, List.getElem_cons_zero, List.setIfInBounds_toArray, List.set_cons_zero, List.set_cons_succ]
          refine wpAnyH_take (i := 5) (v := .pointer (some ⟨w.heap.size, 0, none⟩)) rfl (by kernel_rfl) (by kernel_rfl) (by kernel_rfl) (fun _ _ _ h => h) (Or.inl ⟨by kernel_rfl, fun w hSw => ?_⟩) Sb ?_
          · obtain ⟨e1, e2⟩ := hSw; go_simp
          simp only [Act.put, List.getElem_toArray, List.getElem_cons_succ, List.getElem_cons_zero, List.setIfInBounds_toArray, List.set_cons_zero, List.set_cons_succ]
          refine wpAnyH_take (i := 6) (v := .string (bs n)) rfl (by kernel_rfl) (by kernel_rfl) (by kernel_rfl) (fun _ _ _ h => h) (Or.inl ⟨by kernel_rfl, fun w hSw => ?_⟩) Sb ?_
          · obtain ⟨e1, e2⟩ := hSw; go_simp
          simp only [Act.put, List.getElem_toArray, List.getElem_cons_succ, List.getElem_cons_zero, List.setIfInBounds_toArray, List.set_cons_zero, List.set_cons_succ]
          refine wpAnyH_take (i := 7) (v := .bool false) rfl (by kernel_rfl) (by kernel_rfl) (by kernel_rfl) (fun _ _ _ h => h) (Or.inl ⟨by kernel_rfl, fun w hSw => ?_⟩) Sb ?_
          · obtain ⟨e1, e2⟩ := hSw; go_simp
          simp only [Act.put, List.getElem_toArray, List.getElem_cons_succ, List.getElem_cons_zero, List.setIfInBounds_toArray, List.set_cons_zero, List.set_cons_succ]
          refine wpAnyH_done (by kernel_rfl) ?_ _
          go_wp2
          go_roundw
          case rel => exact ⟨k + 1, true, O ++ [(n, f)], by go_num, by omega, rfl, HO7, hid (by rw [← HI.out, HT.out]; simp [HQN.out, List.le_refl]), hid (bdrew HB7.out)⟩
          case measure => simp [intOf]; omega
        | true =>
          clear hqn eE4 hnq hnq2 eE
          have HGa := hid (HB1.out.trans (HB.out.mono (by simp)))
          have hbxa := (HB.out.block w.heap.size (by omega)).trans HN1.out
          have p0a : wr.drew.cell? ⟨w.heap.size, 0, none⟩ = some (.string (bs n)) := cell_blk (w := wr.drew) hbxa rfl
          have p1a : wr.drew.cell? ⟨w.heap.size, 1, none⟩ = some (.slice f.a f.b.length f.c) := cell_blk (w := wr.drew) hbxa rfl
          have p2a : wr.drew.cell? ⟨w.heap.size, 2, none⟩ = some (.int .i64 (f.s : Int)) := cell_blk (w := wr.drew) hbxa rfl
          have z0a : wr.drew.cell? ⟨g, k * 3, none⟩ = some (.string (bs q.1)) := (HGa.out.cell (cell_block X0.out)).trans X0.out
          have z1a : wr.drew.cell? ⟨g, k * 3 + 1, none⟩ = some (.slice q.2.a q.2.b.length q.2.c) := (HGa.out.cell (cell_block X1.out)).trans X1.out
          have z2a : wr.drew.cell? ⟨g, k * 3 + 2, none⟩ = some (.int .i64 (q.2.s : Int)) := (HGa.out.cell (cell_block X2.out)).trans X2.out
          have Sa : wr.drew.cell? ⟨w.heap.size, 0, none⟩ = some (.string (bs n)) ∧ wr.drew.cell? ⟨g, k * 3, none⟩ = some (.string (bs q.1)) := ⟨p0a, z0a⟩
          clear hbxa
          go_wp2_with fail
          refine wp_region_held_drew (S := fun w' => w'.cell? ⟨w.heap.size, 0, none⟩ = some (.string (bs n)) ∧ w'.cell? ⟨g, k * 3, none⟩ = some (.string (bs q.1))) hmxo Sa ?_
          intro _
          refine wpAnyH_take (i := 0) (v := .bool true) rfl (by kernel_rfl) (by kernel_rfl) (by kernel_rfl) (fun _ _ _ h => h) (Or.inl ⟨by kernel_rfl, fun w hSw => ?_⟩) Sa ?_
          · obtain ⟨e1, e2⟩ := hSw; go_simp
          simp only [Act.put, List.getElem_toArray, List.getElem_cons_succ, List.getElem_cons_zero, List.setIfInBounds_toArray, List.set_cons_zero, List.set_cons_succ]
          refine wpAnyH_take (i := 1) (v := .bool false) rfl (by kernel_rfl) (by kernel_rfl) (by kernel_rfl) (fun _ _ _ h => h) (Or.inl ⟨by kernel_rfl, fun w hSw => ?_⟩) Sa ?_
          · obtain ⟨e1, e2⟩ := hSw; go_simp
          simp only [Act.put, List.getElem_toArray, List.getElem_cons_succ, List.getElem_cons_zero, List.setIfInBounds_toArray, List.set_cons_zero, List.set_cons_succ]
          refine wpAnyH_take (i := 2) (v := .bool false) rfl (by kernel_rfl) (by kernel_rfl) (by kernel_rfl) (fun _ _ _ h => h) (Or.inl ⟨by kernel_rfl, fun w hSw => ?_⟩) Sa ?_
          · obtain ⟨e1, e2⟩ := hSw; go_simp
          simp only [Act.put, List.getElem_toArray, List.getElem_cons_succ, List.getElem_cons_zero, List.setIfInBounds_toArray, List.set_cons_zero, List.set_cons_succ]
          refine wpAnyH_take (i := 3) (v := undef) rfl (by kernel_rfl) (by kernel_rfl) (by kernel_rfl) (fun _ _ _ h => h) (Or.inr ⟨by kernel_rfl, rfl⟩) Sa ?_
          simp only [Act.put, List.getElem_toArray, List.getElem_cons_succ, List.getElem_cons_zero, List.setIfInBounds_toArray, List.set_cons_zero, List.set_cons_succ]
          refine wpAnyH_take (i := 4) (v := undef) rfl (by kernel_rfl) (by kernel_rfl) (by kernel_rfl) (fun _ _ _ h => h) (Or.inr ⟨by kernel_rfl, rfl⟩) Sa ?_
          simp only [Act.put, List.getElem_toArray, List.getElem_cons_succ, List.getElem_cons_zero, List.setIfInBounds_toArray, List.set_cons_zero, List.set_cons_succ]
          refine wpAnyH_take (i := 5) (v := undef) rfl (by kernel_rfl) (by kernel_rfl) (by kernel_rfl) (fun _ _ _ h => h) (Or.inr ⟨by kernel_rfl, rfl⟩) Sa ?_
          simp only [Act.put, List.getElem_toArray, List.getElem_cons_succ, List.getElem_cons_zero, List.setIfInBounds_toArray, List.set_cons_zero, List.set_cons_succ]
          refine wpAnyH_take (i := 6) (v := undef) rfl (by kernel_rfl) (by kernel_rfl) (by kernel_rfl) (fun _ _ _ h => h) (Or.inr ⟨by kernel_rfl, rfl⟩) Sa ?_
          simp only [Act.put, List.getElem_toArray, List.getElem_cons_succ, List.getElem_cons_zero, List.setIfInBounds_toArray, List.set_cons_zero, List.set_cons_succ]
          refine wpAnyH_take (i := 7) (v := undef) rfl (by kernel_rfl) (by kernel_rfl) (by kernel_rfl) (fun _ _ _ h => h) (Or.inr ⟨by kernel_rfl, rfl⟩) Sa ?_
          simp only [Act.put, List.getElem_toArray, List.getElem_cons_succ, List.getElem_cons_zero, List.setIfInBounds_toArray, List.set_cons_zero, List.set_cons_succ]
          refine wpAnyH_take (i := 8) (v := undef) rfl (by kernel_rfl) (by kernel_rfl) (by kernel_rfl) (fun _ _ _ h => h) (Or.inr ⟨by kernel_rfl, rfl⟩) Sa ?_
          simp only [Act.put, List.getElem_toArray, List.getElem_cons_succ, List.getElem_cons_zero, List.setIfInBounds_toArray, List.set_cons_zero, List.set_cons_succ]
          refine wpAnyH_take (i := 9) (v := undef) rfl (by kernel_rfl) (by kernel_rfl) (by kernel_rfl) (fun _ _ _ h => h) (Or.inr ⟨by kernel_rfl, rfl⟩) Sa ?_
          simp only [Act.put, List.getElem_toArray, List.getElem_cons_succ, List.getElem_cons_zero, List.setIfInBounds_toArray, List.set_cons_zero, List.set_cons_succ]
          refine wpAnyH_take (i := 10) (v := undef) rfl (by kernel_rfl) (by kernel_rfl) (by kernel_rfl) (fun _ _ _ h => h) (Or.inr ⟨by kernel_rfl, rfl⟩) Sa ?_
          simp only [Act.put, List.getElem_toArray, List.getElem_cons_succ, List.getElem_cons_zero, List.setIfInBounds_toArray, List.set_cons_zero, List.set_cons_succ]
          refine wpAnyH_take (i := 11) (v := .bool false) rfl (by kernel_rfl) (by kernel_rfl) (by kernel_rfl) (fun _ _ _ h => h) (Or.inl ⟨by kernel_rfl, fun w hSw => ?_⟩) Sa ?_
          · obtain ⟨e1, e2⟩ := hSw; go_simp
          simp only [Act.put, List.getElem_toArray, List.getElem_cons_succ, List.getElem_cons_zero, List.setIfInBounds_toArray, List.set_cons_zero, List.set_cons_succ]
          refine wpAnyH_done (by kernel_rfl) ?_ _
          go_wp2_with fail
          have HGb := hid (HB1.out.trans (HB.out.mono (by simp)))
          have hbxb := (HB.out.block w.heap.size (by omega)).trans HN1.out
          have p0b : wr.drew.drew.cell? ⟨w.heap.size, 0, none⟩ = some (.string (bs n)) := cell_blk (w := wr.drew.drew) hbxb rfl
          have p1b : wr.drew.drew.cell? ⟨w.heap.size, 1, none⟩ = some (.slice f.a f.b.length f.c) := cell_blk (w := wr.drew.drew) hbxb rfl
          have p2b : wr.drew.drew.cell? ⟨w.heap.size, 2, none⟩ = some (.int .i64 (f.s : Int)) := cell_blk (w := wr.drew.drew) hbxb rfl
          have z0b : wr.drew.drew.cell? ⟨g, k * 3, none⟩ = some (.string (bs q.1)) := (HGb.out.cell (cell_block X0.out)).trans X0.out
          have z1b : wr.drew.drew.cell? ⟨g, k * 3 + 1, none⟩ = some (.slice q.2.a q.2.b.length q.2.c) := (HGb.out.cell (cell_block X1.out)).trans X1.out
          have z2b : wr.drew.drew.cell? ⟨g, k * 3 + 2, none⟩ = some (.int .i64 (q.2.s : Int)) := (HGb.out.cell (cell_block X2.out)).trans X2.out
          have Sb : wr.drew.drew.cell? ⟨w.heap.size, 0, none⟩ = some (.string (bs n)) ∧ wr.drew.drew.cell? ⟨g, k * 3, none⟩ = some (.string (bs q.1)) := ⟨p0b, z0b⟩
          clear hbxb
          refine wp_region_held_drew (S := fun w' => w'.cell? ⟨w.heap.size, 0, none⟩ = some (.string (bs n)) ∧ w'.cell? ⟨g, k * 3, none⟩ = some (.string (bs q.1))) hmxo Sb ?_
          intro _
          refine wpAnyH_take (i := 0) (v := .slice (some ⟨g, 0, none⟩) R.length c) rfl (by kernel_rfl) (by kernel_rfl) (by kernel_rfl) (fun _ _ _ h => h) (Or.inl ⟨by kernel_rfl, fun w hSw => ?_⟩) Sb ?_
          · obtain ⟨e1, e2⟩ := hSw; go_simp
          simp only [Act.put, List.getElem_toArray, List.getElem_cons_succ, List.getElem_cons_zero, List.setIfInBounds_toArray, List.set_cons_zero, List.set_cons_succ]
          refine wpAnyH_take (i := 1) (v := .int .i64 (k : Int)) rfl (by kernel_rfl) (by kernel_rfl) (by kernel_rfl) (fun _ _ _ h => h) (Or.inl ⟨by kernel_rfl, fun w hSw => ?_⟩) Sb ?_
          · obtain ⟨e1, e2⟩ := hSw; go_simp
          simp only [Act.put, List.getElem_toArray, List.getElem_cons_succ, List.getElem_cons_zero, List.setIfInBounds_toArray, List.set_cons_zero, List.set_cons_succ]
          refine wpAnyH_take (i := 2) (v := .pointer (some ⟨g, k * 3, none⟩)) rfl (by kernel_rfl) (by kernel_rfl) (by kernel_rfl) (fun _ _ _ h => h) (Or.inl ⟨by kernel_rfl, fun w hSw => ?_⟩) Sb ?_
          · obtain ⟨e1, e2⟩ := hSw; go_simp
          simp only [Act.put, List.getElem_toArray, List.getElem_cons_succ, List.getElem_cons_zero, List.setIfInBounds_toArray, List.set_cons_zero, List.set_cons_succ]
          refine wpAnyH_take (i := 3) (v := .pointer (some ⟨g, k * 3, none⟩)) rfl (by kernel_rfl) (by kernel_rfl) (by kernel_rfl) (fun _ _ _ h => h) (Or.inl ⟨by kernel_rfl, fun w hSw => ?_⟩) Sb ?_
          · obtain ⟨e1, e2⟩ := hSw; go_simp
          simp only [Act.put, List.getElem_toArray, List.getElem_cons_succ, List.getElem_cons_zero, List.setIfInBounds_toArray, List.set_cons_zero, List.set_cons_succ]
          refine wpAnyH_take (i := 4) (v := .string (bs q.1)) rfl (by kernel_rfl) (by kernel_rfl) (by kernel_rfl) (fun _ _ _ h => h) (Or.inl ⟨by kernel_rfl, fun w hSw => ?_⟩) Sb ?_
          · obtain ⟨e1, e2⟩ := hSw; go_simp
          simp only [Act.put, List.getElem_toArray, List.getElem_cons_succ, List.getElem_cons_zero, List.setIfInBounds_toArray, List.set_cons_zero, List.set_cons_succ]
          refine wpAnyH_take (i := 5) (v := .pointer (some ⟨w.heap.size, 0, none⟩)) rfl (by kernel_rfl) (by kernel_rfl) (by kernel_rfl) (fun _ _ _ h => h) (Or.inl ⟨by kernel_rfl, fun w hSw => ?_⟩) Sb ?_
          · obtain ⟨e1, e2⟩ := hSw; go_simp
          simp only [Act.put, List.getElem_toArray, List.getElem_cons_succ, List.getElem_cons_zero, List.setIfInBounds_toArray, List.set_cons_zero, List.set_cons_succ]
          refine wpAnyH_take (i := 6) (v := .string (bs n)) rfl (by kernel_rfl) (by kernel_rfl) (by kernel_rfl) (fun _ _ _ h => h) (Or.inl ⟨by kernel_rfl, fun w hSw => ?_⟩) Sb ?_
          · obtain ⟨e1, e2⟩ := hSw; go_simp
          simp only [Act.put, List.getElem_toArray, List.getElem_cons_succ, List.getElem_cons_zero, List.setIfInBounds_toArray, List.set_cons_zero, List.set_cons_succ]
          refine wpAnyH_take (i := 7) (v := .bool false) rfl (by kernel_rfl) (by kernel_rfl) (by kernel_rfl) (fun _ _ _ h => h) (Or.inl ⟨by kernel_rfl, fun w hSw => ?_⟩) Sb ?_
          · obtain ⟨e1, e2⟩ := hSw; go_simp
          simp only [Act.put, List.getElem_toArray, List.getElem_cons_succ, List.getElem_cons_zero, List.setIfInBounds_toArray, List.set_cons_zero, List.set_cons_succ]
          refine wpAnyH_done (by kernel_rfl) ?_ _
          go_wp2
          go_roundw
          case rel => exact ⟨k + 1, true, O, by go_num, by omega, rfl, HO, hid (by rw [← HI.out, HT.out]; simp [HQN.out, List.le_refl]), hid (bdrew (bdrew HB.out))⟩
          case measure => simp [intOf]; omega
      · by_cases hlt2 : n < q.1
        · have eL : Op.bytesLess (bs n).toList (bs q.1).toList = true := by rw [bl_of]; exact decide_eq_true hlt2
          have eE2 : ((bs q.1).toList == (bs n).toList) = false := by rw [bs_list, bs_list]; simpa using hqn
          have eN : ¬ (bs q.1).toList = (bs n).toList := by rw [bs_list, bs_list]; exact hqn
          have hle : n ≤ q.1 := List.le_of_lt hlt2
          have HLE := hid hle
          have HQN := hid hqn
          cases d with
          | false =>
            clear hqn hlt2 hle
            have HGa := hid (HB1.out.trans (HB.out.mono (by simp)))
            have hbxa := (HB.out.block w.heap.size (by omega)).trans HN1.out
            have p0a : wr.drew.cell? ⟨w.heap.size, 0, none⟩ = some (.string (bs n)) := cell_blk (w := wr.drew) hbxa rfl
            have p1a : wr.drew.cell? ⟨w.heap.size, 1, none⟩ = some (.slice f.a f.b.length f.c) := cell_blk (w := wr.drew) hbxa rfl
            have p2a : wr.drew.cell? ⟨w.heap.size, 2, none⟩ = some (.int .i64 (f.s : Int)) := cell_blk (w := wr.drew) hbxa rfl
            have z0a : wr.drew.cell? ⟨g, k * 3, none⟩ = some (.string (bs q.1)) := (HGa.out.cell (cell_block X0.out)).trans X0.out
            have z1a : wr.drew.cell? ⟨g, k * 3 + 1, none⟩ = some (.slice q.2.a q.2.b.length q.2.c) := (HGa.out.cell (cell_block X1.out)).trans X1.out
            have z2a : wr.drew.cell? ⟨g, k * 3 + 2, none⟩ = some (.int .i64 (q.2.s : Int)) := (HGa.out.cell (cell_block X2.out)).trans X2.out
            have Sa : wr.drew.cell? ⟨w.heap.size, 0, none⟩ = some (.string (bs n)) ∧ wr.drew.cell? ⟨g, k * 3, none⟩ = some (.string (bs q.1)) := ⟨p0a, z0a⟩
            clear hbxa
            go_wp2_with fail
            refine wp_region_held_drew (S := fun w' => w'.cell? ⟨w.heap.size, 0, none⟩ = some (.string (bs n)) ∧ w'.cell? ⟨g, k * 3, none⟩ = some (.string (bs q.1))) hmxo Sa ?_
            intro _
            refine wpAnyH_take (i := 0) (v := .bool false) rfl (by kernel_rfl) (by kernel_rfl) (by kernel_rfl) (fun _ _ _ h => h) (Or.inl ⟨by kernel_rfl, fun w hSw => ?_⟩) Sa ?_
            · obtain ⟨e1, e2⟩ := hSw; go_simp
            simp only [Act.put, List.getElem_toArray, List.getElem_cons_succ, List.getElem_cons_zero, List.setIfInBounds_toArray, List.set_cons_zero, List.set_cons_succ]
            refine wpAnyH_take (i := 1) (v := .bool true) rfl (by kernel_rfl) (by kernel_rfl) (by kernel_rfl) (fun _ _ _ h => h) (Or.inl ⟨by kernel_rfl, fun w hSw => ?_⟩) Sa ?_
            · obtain ⟨e1, e2⟩ := hSw; go_simp
            simp only [Act.put, List.getElem_toArray, List.getElem_cons_succ, List.getElem_cons_zero, List.setIfInBounds_toArray, List.set_cons_zero, List.set_cons_succ]
            refine wpAnyH_take (i := 2) (v := .bool true) rfl (by kernel_rfl) (by kernel_rfl) (by kernel_rfl) (fun _ _ _ h => h) (Or.inl ⟨by kernel_rfl, fun w hSw => ?_⟩) Sa ?_
            · obtain ⟨e1, e2⟩ := hSw; go_simp
            simp only [Act.put, List.getElem_toArray, List.getElem_cons_succ, List.getElem_cons_zero, List.setIfInBounds_toArray, List.set_cons_zero, List.set_cons_succ]
            refine wpAnyH_take (i := 3) (v := .pointer (some ⟨w.heap.size, 0, none⟩)) rfl (by kernel_rfl) (by kernel_rfl) (by kernel_rfl) (fun _ _ _ h => h) (Or.inl ⟨by kernel_rfl, fun w hSw => ?_⟩) Sa ?_
            · obtain ⟨e1, e2⟩ := hSw; go_simp
            simp only [Act.put, List.getElem_toArray, List.getElem_cons_succ, List.getElem_cons_zero, List.setIfInBounds_toArray, List.set_cons_zero, List.set_cons_succ]
            refine wpAnyH_take (i := 4) (v := .string (bs n)) rfl (by kernel_rfl) (by kernel_rfl) (by kernel_rfl) (fun _ _ _ h => h) (Or.inl ⟨by kernel_rfl, fun w hSw => ?_⟩) Sa ?_
            · obtain ⟨e1, e2⟩ := hSw; go_simp
            simp only [Act.put, List.getElem_toArray, List.getElem_cons_succ, List.getElem_cons_zero, List.setIfInBounds_toArray, List.set_cons_zero, List.set_cons_succ]
            refine wpAnyH_take (i := 5) (v := .slice (some ⟨g, 0, none⟩) R.length c) rfl (by kernel_rfl) (by kernel_rfl) (by kernel_rfl) (fun _ _ _ h => h) (Or.inl ⟨by kernel_rfl, fun w hSw => ?_⟩) Sa ?_
            · obtain ⟨e1, e2⟩ := hSw; go_simp
            simp only [Act.put, List.getElem_toArray, List.getElem_cons_succ, List.getElem_cons_zero, List.setIfInBounds_toArray, List.set_cons_zero, List.set_cons_succ]
            refine wpAnyH_take (i := 6) (v := .int .i64 (k : Int)) rfl (by kernel_rfl) (by kernel_rfl) (by kernel_rfl) (fun _ _ _ h => h) (Or.inl ⟨by kernel_rfl, fun w hSw => ?_⟩) Sa ?_
            · obtain ⟨e1, e2⟩ := hSw; go_simp
            simp only [Act.put, List.getElem_toArray, List.getElem_cons_succ, List.getElem_cons_zero, List.setIfInBounds_toArray, List.set_cons_zero, List.set_cons_succ]
            refine wpAnyH_take (i := 7) (v := .pointer (some ⟨g, k * 3, none⟩)) rfl (by kernel_rfl) (by kernel_rfl) (by kernel_rfl) (fun _ _ _ h => h) (Or.inl ⟨by kernel_rfl, fun w hSw => ?_⟩) Sa ?_
            · obtain ⟨e1, e2⟩ := hSw; go_simp
            simp only [Act.put, List.getElem_toArray, List.getElem_cons_succ, List.getElem_cons_zero, List.setIfInBounds_toArray, List.set_cons_zero, List.set_cons_succ]
            refine wpAnyH_take (i := 8) (v := .pointer (some ⟨g, k * 3, none⟩)) rfl (by kernel_rfl) (by kernel_rfl) (by kernel_rfl) (fun _ _ _ h => h) (Or.inl ⟨by kernel_rfl, fun w hSw => ?_⟩) Sa ?_
            · obtain ⟨e1, e2⟩ := hSw; go_simp
            simp only [Act.put, List.getElem_toArray, List.getElem_cons_succ, List.getElem_cons_zero, List.setIfInBounds_toArray, List.set_cons_zero, List.set_cons_succ]
            refine wpAnyH_take (i := 9) (v := .string (bs q.1)) rfl (by kernel_rfl) (by kernel_rfl) (by kernel_rfl) (fun _ _ _ h => h) (Or.inl ⟨by kernel_rfl, fun w hSw => ?_⟩) Sa ?_
            · obtain ⟨e1, e2⟩ := hSw; go_simp
            simp only [Act.put, List.getElem_toArray, List.getElem_cons_succ, List.getElem_cons_zero, List.setIfInBounds_toArray, List.set_cons_zero, List.set_cons_succ]
            refine wpAnyH_take (i := 10) (v := .bool true) rfl (by kernel_rfl) (by kernel_rfl) (by kernel_rfl) (fun _ _ _ h => h) (Or.inl ⟨by kernel_rfl, fun w hSw => ?_⟩) Sa ?_
            · obtain ⟨e1, e2⟩ := hSw; go_simp
            simp only [Act.put, List.getElem_toArray, List.getElem_cons_succ, List.getElem_cons_zero, List.setIfInBounds_toArray, List.set_cons_zero, List.set_cons_succ]
            refine wpAnyH_take (i := 11) (v := .bool true) rfl (by kernel_rfl) (by kernel_rfl) (by kernel_rfl) (fun _ _ _ h => h) (Or.inl ⟨by kernel_rfl, fun w hSw => ?_⟩) Sa ?_
            · obtain ⟨e1, e2⟩ := hSw; go_simp
            simp only [Act.put, List.getElem_toArray, List.getElem_cons_succ, List.getElem_cons_zero, List.setIfInBounds_toArray, List.set_cons_zero, List.set_cons_succ]
            refine wpAnyH_done (by kernel_rfl) ?_ _
            go_wp2_with (at_builtin; refine wpList_append_file rfl _ _ rfl (w.heap.size + 1) _ (O) rfl ((show OwnF wr.drew _ _ _ from HO.out).alloc _) wr.drew.heap.size (n, f) rfl (new_fcs wr.drew (n, f)) (by simp; omega) (by simp; omega) ?_; intro g7 cap7 w7 hO7 hG7; have HO7 := hid hO7; have HB7 := hid (app_below HB.out hbz (show OwnF wr.drew _ _ _ from HO.out) hG7); have hbz7 : w.heap.size + 1 ≤ w7.heap.size := (by have h9 := HB7.out.size; simpa using h9); clear hO7 hG7)
            have HGb := hid (HB1.out.trans (HB7.out.mono (by simp)))
            have hbxb := (HB7.out.block w.heap.size (by omega)).trans HN1.out
            have p0b : w7.drew.cell? ⟨w.heap.size, 0, none⟩ = some (.string (bs n)) := cell_blk (w := w7.drew) hbxb rfl
            have p1b : w7.drew.cell? ⟨w.heap.size, 1, none⟩ = some (.slice f.a f.b.length f.c) := cell_blk (w := w7.drew) hbxb rfl
            have p2b : w7.drew.cell? ⟨w.heap.size, 2, none⟩ = some (.int .i64 (f.s : Int)) := cell_blk (w := w7.drew) hbxb rfl
            have z0b : w7.drew.cell? ⟨g, k * 3, none⟩ = some (.string (bs q.1)) := (HGb.out.cell (cell_block X0.out)).trans X0.out
            have z1b : w7.drew.cell? ⟨g, k * 3 + 1, none⟩ = some (.slice q.2.a q.2.b.length q.2.c) := (HGb.out.cell (cell_block X1.out)).trans X1.out
            have z2b : w7.drew.cell? ⟨g, k * 3 + 2, none⟩ = some (.int .i64 (q.2.s : Int)) := (HGb.out.cell (cell_block X2.out)).trans X2.out
            have Sb : w7.drew.cell? ⟨w.heap.size, 0, none⟩ = some (.string (bs n)) ∧ w7.drew.cell? ⟨g, k * 3, none⟩ = some (.string (bs q.1)) := ⟨p0b, z0b⟩
            clear hbxb
            refine wp_region_held_drew (S := fun w' => w'.cell? ⟨w.heap.size, 0, none⟩ = some (.string (bs n)) ∧ w'.cell? ⟨g, k * 3, none⟩ = some (.string (bs q.1))) hmxo Sb ?_
            intro _
            refine wpAnyH_take (i := 0) (v := .slice (some ⟨g, 0, none⟩) R.length c) rfl (by kernel_rfl) (by kernel_rfl) (by kernel_rfl) (fun _ _ _ h => h) (Or.inl ⟨by kernel_rfl, fun w hSw => ?_⟩) Sb ?_
            · obtain ⟨e1, e2⟩ := hSw; go_simp
            simp only [Act.put, List.getElem_toArray, List.getElem_cons_succ, List.getElem_cons_zero, List.setIfInBounds_toArray, List.set_cons_zero, List.set_cons_succ]
            refine wpAnyH_take (i := 1) (v := .int .i64 (k : Int)) rfl (by kernel_rfl) (by kernel_rfl) (by kernel_rfl) (fun _ _ _ h => h) (Or.inl ⟨by kernel_rfl, fun w hSw => ?_⟩) Sb ?_
            · obtain ⟨e1, e2⟩ := hSw; go_simp
            simp only [Act.put, List.getElem_toArray, List.getElem_cons_succ, List.getElem_cons_zero, List.setIfInBounds_toArray, List.set_cons_zero, List.set_cons_succ]
            refine wpAnyH_take (i := 2) (v := .pointer (some ⟨g, k * 3, none⟩)) rfl (by kernel_rfl) (by kernel_rfl) (by kernel_rfl) (fun _ _ _ h => h) (Or.inl ⟨by kernel_rfl, fun w hSw => ?_⟩) Sb ?_
            · obtain ⟨e1, e2⟩ := hSw; go_simp
            simp only [Act.put, List.getElem_toArray, List.getElem_cons_succ, List.getElem_cons_zero, List.setIfInBounds_toArray, List.set_cons_zero, List.set_cons_succ]
            refine wpAnyH_take (i := 3) (v := .pointer (some ⟨g, k * 3, none⟩)) rfl (by kernel_rfl) (by kernel_rfl) (by kernel_rfl) (fun _ _ _ h => h) (Or.inl ⟨by kernel_rfl, fun w hSw => ?_⟩) Sb ?_
            · obtain ⟨e1, e2⟩ := hSw; go_simp
            simp only [Act.put, List.getElem_toArray, List.getElem_cons_succ, List.getElem_cons_zero, List.setIfInBounds_toArray, List.set_cons_zero, List.set_cons_succ]
            refine wpAnyH_take (i := 4) (v := .string (bs q.1)) rfl (by kernel_rfl) (by kernel_rfl) (by kernel_rfl) (fun _ _ _ h => h) (Or.inl ⟨by kernel_rfl, fun w hSw => ?_⟩) Sb ?_
            · obtain ⟨e1, e2⟩ := hSw; go_simp
            simp only [Act.put, List.getElem_toArray, List.getElem_cons_succ, List.getElem_cons_zero, List.setIfInBounds_toArray, List.set_cons_zero, List.set_cons_succ]
            refine wpAnyH_take (i := 5) (v := .pointer (some ⟨w.heap.size, 0, none⟩)) rfl (by kernel_rfl) (by kernel_rfl) (by kernel_rfl) (fun _ _ _ h => h) (Or.inl ⟨by kernel_rfl, fun w hSw => ?_⟩) Sb ?_
            · obtain ⟨e1, e2⟩ := hSw; go_simp
            simp only [Act.put, List.getElem_toArray, List.getElem_cons_succ, List.getElem_cons_zero, List.setIfInBounds_toArray, List.set_cons_zero, List.set_cons_succ]
            refine wpAnyH_take (i := 6) (v := .string (bs n)) rfl (by kernel_rfl) (by kernel_rfl) (by kernel_rfl) (fun _ _ _ h => h) (Or.inl ⟨by kernel_rfl, fun w hSw => ?_⟩) Sb ?_
            · obtain ⟨e1, e2⟩ := hSw; go_simp
            simp only [Act.put, List.getElem_toArray, List.getElem_cons_succ, List.getElem_cons_zero, List.setIfInBounds_toArray, List.set_cons_zero, List.set_cons_succ]
            refine wpAnyH_take (i := 7) (v := .bool true) rfl (by kernel_rfl) (by kernel_rfl) (by kernel_rfl) (fun _ _ _ h => h) (Or.inl ⟨by kernel_rfl, fun w hSw => ?_⟩) Sb ?_
            · obtain ⟨e1, e2⟩ := hSw; go_simp
            simp only [Act.put, List.getElem_toArray, List.getElem_cons_succ, List.getElem_cons_zero, List.setIfInBounds_toArray, List.set_cons_zero, List.set_cons_succ]
            refine wpAnyH_done (by kernel_rfl) ?_ _
            go_wp2_with (at_builtin; refine wpList_append_file rfl _ _ rfl (w.heap.size + 1) _ (O ++ [(n, f)]) rfl ((show OwnF w7.drew _ _ _ from HO7.out).alloc _) w7.drew.heap.size q rfl (new_fcs w7.drew q) (by simp; omega) (by simp; omega) ?_; intro g8 cap8 w8 hO8 hG8; have HO8 := hid hO8; have HB8 := hid (app_below HB7.out hbz7 (show OwnF w7.drew _ _ _ from HO7.out) hG8); have hbz8 : w.heap.size + 1 ≤ w8.heap.size := (by have h9 := HB8.out.size; simpa using h9); clear hO8 hG8)
            go_roundw
            case rel => exact ⟨k + 1, true, O ++ [(n, f)] ++ [q], by go_num, by omega, rfl, (by have h9 := HO8; rw [List.length_append] at h9; exact h9), hid (by rw [← HI.out, HT.out]; simp [HQN.out, HLE.out]), HB8⟩
            case measure => simp [intOf]; omega
          | true =>
            clear hqn hlt2 hle
            have HGa := hid (HB1.out.trans (HB.out.mono (by simp)))
            have hbxa := (HB.out.block w.heap.size (by omega)).trans HN1.out
            have p0a : wr.drew.cell? ⟨w.heap.size, 0, none⟩ = some (.string (bs n)) := cell_blk (w := wr.drew) hbxa rfl
            have p1a : wr.drew.cell? ⟨w.heap.size, 1, none⟩ = some (.slice f.a f.b.length f.c) := cell_blk (w := wr.drew) hbxa rfl
            have p2a : wr.drew.cell? ⟨w.heap.size, 2, none⟩ = some (.int .i64 (f.s : Int)) := cell_blk (w := wr.drew) hbxa rfl
            have z0a : wr.drew.cell? ⟨g, k * 3, none⟩ = some (.string (bs q.1)) := (HGa.out.cell (cell_block X0.out)).trans X0.out
            have z1a : wr.drew.cell? ⟨g, k * 3 + 1, none⟩ = some (.slice q.2.a q.2.b.length q.2.c) := (HGa.out.cell (cell_block X1.out)).trans X1.out
            have z2a : wr.drew.cell? ⟨g, k * 3 + 2, none⟩ = some (.int .i64 (q.2.s : Int)) := (HGa.out.cell (cell_block X2.out)).trans X2.out
            have Sa : wr.drew.cell? ⟨w.heap.size, 0, none⟩ = some (.string (bs n)) ∧ wr.drew.cell? ⟨g, k * 3, none⟩ = some (.string (bs q.1)) := ⟨p0a, z0a⟩
            clear hbxa
            go_wp2_with fail
            refine wp_region_held_drew (S := fun w' => w'.cell? ⟨w.heap.size, 0, none⟩ = some (.string (bs n)) ∧ w'.cell? ⟨g, k * 3, none⟩ = some (.string (bs q.1))) hmxo Sa ?_
            intro _
            refine wpAnyH_take (i := 0) (v := .bool true) rfl (by kernel_rfl) (by kernel_rfl) (by kernel_rfl) (fun _ _ _ h => h) (Or.inl ⟨by kernel_rfl, fun w hSw => ?_⟩) Sa ?_
            · obtain ⟨e1, e2⟩ := hSw; go_simp
            simp only [Act.put, List.getElem_toArray, List.getElem_cons_succ, List.getElem_cons_zero, List.setIfInBounds_toArray, List.set_cons_zero, List.set_cons_succ]
            refine wpAnyH_take (i := 1) (v := .bool false) rfl (by kernel_rfl) (by kernel_rfl) (by kernel_rfl) (fun _ _ _ h => h) (Or.inl ⟨by kernel_rfl, fun w hSw => ?_⟩) Sa ?_
            · obtain ⟨e1, e2⟩ := hSw; go_simp
            simp only [Act.put, List.getElem_toArray, List.getElem_cons_succ, List.getElem_cons_zero, List.setIfInBounds_toArray, List.set_cons_zero, List.set_cons_succ]
            refine wpAnyH_take (i := 2) (v := .bool false) rfl (by kernel_rfl) (by kernel_rfl) (by kernel_rfl) (fun _ _ _ h => h) (Or.inl ⟨by kernel_rfl, fun w hSw => ?_⟩) Sa ?_
            · obtain ⟨e1, e2⟩ := hSw; go_simp
            simp only [Act.put, List.getElem_toArray, List.getElem_cons_succ, List.getElem_cons_zero, List.setIfInBounds_toArray, List.set_cons_zero, List.set_cons_succ]
            refine wpAnyH_take (i := 3) (v := undef) rfl (by kernel_rfl) (by kernel_rfl) (by kernel_rfl) (fun _ _ _ h => h) (Or.inr ⟨by kernel_rfl, rfl⟩) Sa ?_
            simp only [Act.put, List.getElem_toArray, List.getElem_cons_succ, List.getElem_cons_zero, List.setIfInBounds_toArray, List.set_cons_zero, List.set_cons_succ]
            refine wpAnyH_take (i := 4) (v := undef) rfl (by kernel_rfl) (by kernel_rfl) (by kernel_rfl) (fun _ _ _ h => h) (Or.inr ⟨by kernel_rfl, rfl⟩) Sa ?_
            simp only [Act.put, List.getElem_toArray, List.getElem_cons_succ, List.getElem_cons_zero, List.setIfInBounds_toArray, List.set_cons_zero, List.set_cons_succ]
            refine wpAnyH_take (i := 5) (v := undef) rfl (by kernel_rfl) (by kernel_rfl) (by kernel_rfl) (fun _ _ _ h => h) (Or.inr ⟨by kernel_rfl, rfl⟩) Sa ?_
            simp only [Act.put, List.getElem_toArray, List.getElem_cons_succ, List.getElem_cons_zero, List.setIfInBounds_toArray, List.set_cons_zero, List.set_cons_succ]
            refine wpAnyH_take (i := 6) (v := undef) rfl (by kernel_rfl) (by kernel_rfl) (by kernel_rfl) (fun _ _ _ h => h) (Or.inr ⟨by kernel_rfl, rfl⟩) Sa ?_
            simp only [Act.put, List.getElem_toArray, List.getElem_cons_succ, List.getElem_cons_zero, List.setIfInBounds_toArray, List.set_cons_zero, List.set_cons_succ]
            refine wpAnyH_take (i := 7) (v := undef) rfl (by kernel_rfl) (by kernel_rfl) (by kernel_rfl) (fun _ _ _ h => h) (Or.inr ⟨by kernel_rfl, rfl⟩) Sa ?_
            simp only [Act.put, List.getElem_toArray, List.getElem_cons_succ, List.getElem_cons_zero, List.setIfInBounds_toArray, List.set_cons_zero, List.set_cons_succ]
            refine wpAnyH_take (i := 8) (v := undef) rfl (by kernel_rfl) (by kernel_rfl) (by kernel_rfl) (fun _ _ _ h => h) (Or.inr ⟨by kernel_rfl, rfl⟩) Sa ?_
            simp only [Act.put, List.getElem_toArray, List.getElem_cons_succ, List.getElem_cons_zero, List.setIfInBounds_toArray, List.set_cons_zero, List.set_cons_succ]
            refine wpAnyH_take (i := 9) (v := undef) rfl (by kernel_rfl) (by kernel_rfl) (by kernel_rfl) (fun _ _ _ h => h) (Or.inr ⟨by kernel_rfl, rfl⟩) Sa ?_
            simp only [Act.put, List.getElem_toArray, List.getElem_cons_succ, List.getElem_cons_zero, List.setIfInBounds_toArray, List.set_cons_zero, List.set_cons_succ]
            refine wpAnyH_take (i := 10) (v := undef) rfl (by kernel_rfl) (by kernel_rfl) (by kernel_rfl) (fun _ _ _ h => h) (Or.inr ⟨by kernel_rfl, rfl⟩) Sa ?_
            simp only [Act.put, List.getElem_toArray, List.getElem_cons_succ, List.getElem_cons_zero, List.setIfInBounds_toArray, List.set_cons_zero, List.set_cons_succ]
            refine wpAnyH_take (i := 11) (v := .bool false) rfl (by kernel_rfl) (by kernel_rfl) (by kernel_rfl) (fun _ _ _ h => h) (Or.inl ⟨by kernel_rfl, fun w hSw => ?_⟩) Sa ?_
            · obtain ⟨e1, e2⟩ := hSw; go_simp
            simp only [Act.put, List.getElem_toArray, List.getElem_cons_succ, List.getElem_cons_zero, List.setIfInBounds_toArray, List.set_cons_zero, List.set_cons_succ]
            refine wpAnyH_done (by kernel_rfl) ?_ _
            go_wp2_with fail
            have HGb := hid (HB1.out.trans (HB.out.mono (by simp)))
            have hbxb := (HB.out.block w.heap.size (by omega)).trans HN1.out
            have p0b : wr.drew.drew.cell? ⟨w.heap.size, 0, none⟩ = some (.string (bs n)) := cell_blk (w := wr.drew.drew) hbxb rfl
            have p1b : wr.drew.drew.cell? ⟨w.heap.size, 1, none⟩ = some (.slice f.a f.b.length f.c) := cell_blk (w := wr.drew.drew) hbxb rfl
            have p2b : wr.drew.drew.cell? ⟨w.heap.size, 2, none⟩ = some (.int .i64 (f.s : Int)) := cell_blk (w := wr.drew.drew) hbxb rfl
            have z0b : wr.drew.drew.cell? ⟨g, k * 3, none⟩ = some (.string (bs q.1)) := (HGb.out.cell (cell_block X0.out)).trans X0.out
            have z1b : wr.drew.drew.cell? ⟨g, k * 3 + 1, none⟩ = some (.slice q.2.a q.2.b.length q.2.c) := (HGb.out.cell (cell_block X1.out)).trans X1.out
            have z2b : wr.drew.drew.cell? ⟨g, k * 3 + 2, none⟩ = some (.int .i64 (q.2.s : Int)) := (HGb.out.cell (cell_block X2.out)).trans X2.out
            have Sb : wr.drew.drew.cell? ⟨w.heap.size, 0, none⟩ = some (.string (bs n)) ∧ wr.drew.drew.cell? ⟨g, k * 3, none⟩ = some (.string (bs q.1)) := ⟨p0b, z0b⟩
            clear hbxb
            refine wp_region_held_drew (S := fun w' => w'.cell? ⟨w.heap.size, 0, none⟩ = some (.string (bs n)) ∧ w'.cell? ⟨g, k * 3, none⟩ = some (.string (bs q.1))) hmxo Sb ?_
            intro _
            refine wpAnyH_take (i := 0) (v := .slice (some ⟨g, 0, none⟩) R.length c) rfl (by kernel_rfl) (by kernel_rfl) (by kernel_rfl) (fun _ _ _ h => h) (Or.inl ⟨by kernel_rfl, fun w hSw => ?_⟩) Sb ?_
            · obtain ⟨e1, e2⟩ := hSw; go_simp
            simp only [Act.put, List.getElem_toArray, List.getElem_cons_succ, List.getElem_cons_zero, List.setIfInBounds_toArray, List.set_cons_zero, List.set_cons_succ]
            refine wpAnyH_take (i := 1) (v := .int .i64 (k : Int)) rfl (by kernel_rfl) (by kernel_rfl) (by kernel_rfl) (fun _ _ _ h => h) (Or.inl ⟨by kernel_rfl, fun w hSw => ?_⟩) Sb ?_
            · obtain ⟨e1, e2⟩ := hSw; go_simp
            simp only [Act.put, List.getElem_toArray, List.getElem_cons_succ, List.getElem_cons_zero, List.setIfInBounds_toArray, List.set_cons_zero, List.set_cons_succ]
            refine wpAnyH_take (i := 2) (v := .pointer (some ⟨g, k * 3, none⟩)) rfl (by kernel_rfl) (by kernel_rfl) (by kernel_rfl) (fun _ _ _ h => h) (Or.inl ⟨by kernel_rfl, fun w hSw => ?_⟩) Sb ?_
            · obtain ⟨e1, e2⟩ := hSw; go_simp
            simp only [Act.put, List.getElem_toArray, List.getElem_cons_succ, List.getElem_cons_zero, List.setIfInBounds_toArray, List.set_cons_zero, List.set_cons_succ]
            refine wpAnyH_take (i := 3) (v := .pointer (some ⟨g, k * 3, none⟩)) rfl (by kernel_rfl) (by kernel_rfl) (by kernel_rfl) (fun _ _ _ h => h) (Or.inl ⟨by kernel_rfl, fun w hSw => ?_⟩) Sb ?_
            · obtain ⟨e1, e2⟩ := hSw; go_simp
            simp only [Act.put, List.getElem_toArray, List.getElem_cons_succ, List.getElem_cons_zero, List.setIfInBounds_toArray, List.set_cons_zero, List.set_cons_succ]
            refine wpAnyH_take (i := 4) (v := .string (bs q.1)) rfl (by kernel_rfl) (by kernel_rfl) (by kernel_rfl) (fun _ _ _ h => h) (Or.inl ⟨by kernel_rfl, fun w hSw => ?_⟩) Sb ?_
            · obtain ⟨e1, e2⟩ := hSw; go_simp
            simp only [Act.put, List.getElem_toArray, List.getElem_cons_succ, List.getElem_cons_zero, List.setIfInBounds_toArray, List.set_cons_zero, List.set_cons_succ]
            refine wpAnyH_take (i := 5) (v := .pointer (some ⟨w.heap.size, 0, none⟩)) rfl (by kernel_rfl) (by kernel_rfl) (by kernel_rfl) (fun _ _ _ h => h) (Or.inl ⟨by kernel_rfl, fun w hSw => ?_⟩) Sb ?_
            · obtain ⟨e1, e2⟩ := hSw; go_simp
            simp only [Act.put, List.getElem_toArray, List.getElem_cons_succ, List.getElem_cons_zero, List.setIfInBounds_toArray, List.set_cons_zero, List.set_cons_succ]
            refine wpAnyH_take (i := 6) (v := .string (bs n)) rfl (by kernel_rfl) (by kernel_rfl) (by kernel_rfl) (fun _ _ _ h => h) (Or.inl ⟨by kernel_rfl, fun w hSw => ?_⟩) Sb ?_
            · obtain ⟨e1, e2⟩ := hSw; go_simp
            simp only [Act.put, List.getElem_toArray, List.getElem_cons_succ, List.getElem_cons_zero, List.setIfInBounds_toArray, List.set_cons_zero, List.set_cons_succ]
            refine wpAnyH_take (i := 7) (v := .bool true) rfl (by kernel_rfl) (by kernel_rfl) (by kernel_rfl) (fun _ _ _ h => h) (Or.inl ⟨by kernel_rfl, fun w hSw => ?_⟩) Sb ?_
            · obtain ⟨e1, e2⟩ := hSw; go_simp
            simp only [Act.put, List.getElem_toArray, List.getElem_cons_succ, List.getElem_cons_zero, List.setIfInBounds_toArray, List.set_cons_zero, List.set_cons_succ]
            refine wpAnyH_done (by kernel_rfl) ?_ _
            go_wp2_with (at_builtin; refine wpList_append_file rfl _ _ rfl (w.heap.size + 1) _ (O) rfl ((show OwnF wr.drew.drew _ _ _ from HO.out).alloc _) wr.drew.drew.heap.size q rfl (new_fcs wr.drew.drew q) (by simp; omega) (by simp; omega) ?_; intro g8 cap8 w8 hO8 hG8; have HO8 := hid hO8; have HB8 := hid (app_below HB.out hbz (show OwnF wr.drew.drew _ _ _ from HO.out) hG8); have hbz8 : w.heap.size + 1 ≤ w8.heap.size := (by have h9 := HB8.out.size; simpa using h9); clear hO8 hG8)
            go_roundw
            case rel => exact ⟨k + 1, true, O ++ [q], by go_num, by omega, rfl, HO8, hid (by rw [← HI.out, HT.out]; simp [HQN.out, HLE.out]), HB8⟩
            case measure => simp [intOf]; omega
        · have eL : Op.bytesLess (bs n).toList (bs q.1).toList = false := by rw [bl_of]; exact decide_eq_false hlt2
          have eE2 : ((bs q.1).toList == (bs n).toList) = false := by rw [bs_list, bs_list]; simpa using hqn
          have eE3 : ((bs n).toList == (bs q.1).toList) = false := by rw [bs_list, bs_list]; simpa using fun e : n = q.1 => hqn e.symm
          have eN : ¬ (bs q.1).toList = (bs n).toList := by rw [bs_list, bs_list]; exact hqn
          have eN2 : ¬ (bs n).toList = (bs q.1).toList := fun e => eN e.symm
          have hnle : ¬ n ≤ q.1 := fun h' => hqn (List.le_antisymm (List.not_lt.1 hlt2) h')
          have HLE := hid hnle
          have HQN := hid hqn
          cases d with
          | false =>
            clear hqn hlt2 hnle
            have HGa := hid (HB1.out.trans (HB.out.mono (by simp)))
            have hbxa := (HB.out.block w.heap.size (by omega)).trans HN1.out
            have p0a : wr.drew.cell? ⟨w.heap.size, 0, none⟩ = some (.string (bs n)) := cell_blk (w := wr.drew) hbxa rfl
            have p1a : wr.drew.cell? ⟨w.heap.size, 1, none⟩ = some (.slice f.a f.b.length f.c) := cell_blk (w := wr.drew) hbxa rfl
            have p2a : wr.drew.cell? ⟨w.heap.size, 2, none⟩ = some (.int .i64 (f.s : Int)) := cell_blk (w := wr.drew) hbxa rfl
            have z0a : wr.drew.cell? ⟨g, k * 3, none⟩ = some (.string (bs q.1)) := (HGa.out.cell (cell_block X0.out)).trans X0.out
            have z1a : wr.drew.cell? ⟨g, k * 3 + 1, none⟩ = some (.slice q.2.a q.2.b.length q.2.c) := (HGa.out.cell (cell_block X1.out)).trans X1.out
            have z2a : wr.drew.cell? ⟨g, k * 3 + 2, none⟩ = some (.int .i64 (q.2.s : Int)) := (HGa.out.cell (cell_block X2.out)).trans X2.out
            have Sa : wr.drew.cell? ⟨w.heap.size, 0, none⟩ = some (.string (bs n)) ∧ wr.drew.cell? ⟨g, k * 3, none⟩ = some (.string (bs q.1)) := ⟨p0a, z0a⟩
            clear hbxa
            go_wp2_with fail
            refine wp_region_held_drew (S := fun w' => w'.cell? ⟨w.heap.size, 0, none⟩ = some (.string (bs n)) ∧ w'.cell? ⟨g, k * 3, none⟩ = some (.string (bs q.1))) hmxo Sa ?_
            intro _
            refine wpAnyH_take (i := 0) (v := .bool false) rfl (by kernel_rfl) (by kernel_rfl) (by kernel_rfl) (fun _ _ _ h => h) (Or.inl ⟨by kernel_rfl, fun w hSw => ?_⟩) Sa ?_
            · obtain ⟨e1, e2⟩ := hSw; go_simp
            simp only [Act.put, List.getElem_toArray, List.getElem_cons_succ, List.getElem_cons_zero, List.setIfInBounds_toArray, List.set_cons_zero, List.set_cons_succ]
            refine wpAnyH_take (i := 1) (v := .bool true) rfl (by kernel_rfl) (by kernel_rfl) (by kernel_rfl) (fun _ _ _ h => h) (Or.inl ⟨by kernel_rfl, fun w hSw => ?_⟩) Sa ?_
            · obtain ⟨e1, e2⟩ := hSw; go_simp
            simp only [Act.put, List.getElem_toArray, List.getElem_cons_succ, List.getElem_cons_zero, List.setIfInBounds_toArray, List.set_cons_zero, List.set_cons_succ]
            refine wpAnyH_take (i := 2) (v := .bool true) rfl (by kernel_rfl) (by kernel_rfl) (by kernel_rfl) (fun _ _ _ h => h) (Or.inl ⟨by kernel_rfl, fun w hSw => ?_⟩) Sa ?_
            · obtain ⟨e1, e2⟩ := hSw; go_simp
            simp only [Act.put, List.getElem_toArray, List.getElem_cons_succ, List.getElem_cons_zero, List.setIfInBounds_toArray, List.set_cons_zero, List.set_cons_succ]
            refine wpAnyH_take (i := 3) (v := .pointer (some ⟨w.heap.size, 0, none⟩)) rfl (by kernel_rfl) (by kernel_rfl) (by kernel_rfl) (fun _ _ _ h => h) (Or.inl ⟨by kernel_rfl, fun w hSw => ?_⟩) Sa ?_
            · obtain ⟨e1, e2⟩ := hSw; go_simp
            simp only [Act.put, List.getElem_toArray, List.getElem_cons_succ, List.getElem_cons_zero, List.setIfInBounds_toArray, List.set_cons_zero, List.set_cons_succ]
            refine wpAnyH_take (i := 4) (v := .string (bs n)) rfl (by kernel_rfl) (by kernel_rfl) (by kernel_rfl) (fun _ _ _ h => h) (Or.inl ⟨by kernel_rfl, fun w hSw => ?_⟩) Sa ?_
            · obtain ⟨e1, e2⟩ := hSw; go_simp
            simp only [Act.put, List.getElem_toArray, List.getElem_cons_succ, List.getElem_cons_zero, List.setIfInBounds_toArray, List.set_cons_zero, List.set_cons_succ]
            refine wpAnyH_take (i := 5) (v := .slice (some ⟨g, 0, none⟩) R.length c) rfl (by kernel_rfl) (by kernel_rfl) (by kernel_rfl) (fun _ _ _ h => h) (Or.inl ⟨by kernel_rfl, fun w hSw => ?_⟩) Sa ?_
            · obtain ⟨e1, e2⟩ := hSw; go_simp
            simp only [Act.put, List.getElem_toArray, List.getElem_cons_succ, List.getElem_cons_zero, List.setIfInBounds_toArray, List.set_cons_zero, List.set_cons_succ]
            refine wpAnyH_take (i := 6) (v := .int .i64 (k : Int)) rfl (by kernel_rfl) (by kernel_rfl) (by kernel_rfl) (fun _ _ _ h => h) (Or.inl ⟨by kernel_rfl, fun w hSw => ?_⟩) Sa ?_
            · obtain ⟨e1, e2⟩ := hSw; go_simp
            simp only [Act.put, List.getElem_toArray, List.getElem_cons_succ, List.getElem_cons_zero, List.setIfInBounds_toArray, List.set_cons_zero, List.set_cons_succ]
            refine wpAnyH_take (i := 7) (v := .pointer (some ⟨g, k * 3, none⟩)) rfl (by kernel_rfl) (by kernel_rfl) (by kernel_rfl) (fun _ _ _ h => h) (Or.inl ⟨by kernel_rfl, fun w hSw => ?_⟩) Sa ?_
            · obtain ⟨e1, e2⟩ := hSw; go_simp
            simp only [Act.put, List.getElem_toArray, List.getElem_cons_succ, List.getElem_cons_zero, List.setIfInBounds_toArray, List.set_cons_zero, List.set_cons_succ]
            refine wpAnyH_take (i := 8) (v := .pointer (some ⟨g, k * 3, none⟩)) rfl (by kernel_rfl) (by kernel_rfl) (by kernel_rfl) (fun _ _ _ h => h) (Or.inl ⟨by kernel_rfl, fun w hSw => ?_⟩) Sa ?_
            · obtain ⟨e1, e2⟩ := hSw; go_simp
            simp only [Act.put, List.getElem_toArray, List.getElem_cons_succ, List.getElem_cons_zero, List.setIfInBounds_toArray, List.set_cons_zero, List.set_cons_succ]
            refine wpAnyH_take (i := 9) (v := .string (bs q.1)) rfl (by kernel_rfl) (by kernel_rfl) (by kernel_rfl) (fun _ _ _ h => h) (Or.inl ⟨by kernel_rfl, fun w hSw => ?_⟩) Sa ?_
            · obtain ⟨e1, e2⟩ := hSw; go_simp
            simp only [Act.put, List.getElem_toArray, List.getElem_cons_succ, List.getElem_cons_zero, List.setIfInBounds_toArray, List.set_cons_zero, List.set_cons_succ]
            refine wpAnyH_take (i := 10) (v := .bool false) rfl (by kernel_rfl) (by kernel_rfl) (by kernel_rfl) (fun _ _ _ h => h) (Or.inl ⟨by kernel_rfl, fun w hSw => ?_⟩) Sa ?_
            · obtain ⟨e1, e2⟩ := hSw; go_simp
            simp only [Act.put, List.getElem_toArray, List.getElem_cons_succ, List.getElem_cons_zero, List.setIfInBounds_toArray, List.set_cons_zero, List.set_cons_succ]
            refine wpAnyH_take (i := 11) (v := .bool false) rfl (by kernel_rfl) (by kernel_rfl) (by kernel_rfl) (fun _ _ _ h => h) (Or.inl ⟨by kernel_rfl, fun w hSw => ?_⟩) Sa ?_
            · obtain ⟨e1, e2⟩ := hSw; go_simp
            simp only [Act.put, List.getElem_toArray, List.getElem_cons_succ, List.getElem_cons_zero, List.setIfInBounds_toArray, List.set_cons_zero, List.set_cons_succ]
            refine wpAnyH_done (by kernel_rfl) ?_ _
            go_wp2_with fail
            have HGb := hid (HB1.out.trans (HB.out.mono (by simp)))
            have hbxb := (HB.out.block w.heap.size (by omega)).trans HN1.out
            have p0b : wr.drew.drew.cell? ⟨w.heap.size, 0, none⟩ = some (.string (bs n)) := cell_blk (w := wr.drew.drew) hbxb rfl
            have p1b : wr.drew.drew.cell? ⟨w.heap.size, 1, none⟩ = some (.slice f.a f.b.length f.c) := cell_blk (w := wr.drew.drew) hbxb rfl
            have p2b : wr.drew.drew.cell? ⟨w.heap.size, 2, none⟩ = some (.int .i64 (f.s : Int)) := cell_blk (w := wr.drew.drew) hbxb rfl
            have z0b : wr.drew.drew.cell? ⟨g, k * 3, none⟩ = some (.string (bs q.1)) := (HGb.out.cell (cell_block X0.out)).trans X0.out
            have z1b : wr.drew.drew.cell? ⟨g, k * 3 + 1, none⟩ = some (.slice q.2.a q.2.b.length q.2.c) := (HGb.out.cell (cell_block X1.out)).trans X1.out
            have z2b : wr.drew.drew.cell? ⟨g, k * 3 + 2, none⟩ = some (.int .i64 (q.2.s : Int)) := (HGb.out.cell (cell_block X2.out)).trans X2.out
            have Sb : wr.drew.drew.cell? ⟨w.heap.size, 0, none⟩ = some (.string (bs n)) ∧ wr.drew.drew.cell? ⟨g, k * 3, none⟩ = some (.string (bs q.1)) := ⟨p0b, z0b⟩
            clear hbxb
            refine wp_region_held_drew (S := fun w' => w'.cell? ⟨w.heap.size, 0, none⟩ = some (.string (bs n)) ∧ w'.cell? ⟨g, k * 3, none⟩ = some (.string (bs q.1))) hmxo Sb ?_
            intro _
            refine wpAnyH_take (i := 0) (v := .slice (some ⟨g, 0, none⟩) R.length c) rfl (by kernel_rfl) (by kernel_rfl) (by kernel_rfl) (fun _ _ _ h => h) (Or.inl ⟨by kernel_rfl, fun w hSw => ?_⟩) Sb ?_
            · obtain ⟨e1, e2⟩ := hSw; go_simp
            simp only [Act.put, List.getElem_toArray, List.getElem_cons_succ, List.getElem_cons_zero, List.setIfInBounds_toArray, List.set_cons_zero, List.set_cons_succ]
            refine wpAnyH_take (i := 1) (v := .int .i64 (k : Int)) rfl (by kernel_rfl) (by kernel_rfl) (by kernel_rfl) (fun _ _ _ h => h) (Or.inl ⟨by kernel_rfl, fun w hSw => ?_⟩) Sb ?_
            · obtain ⟨e1, e2⟩ := hSw; go_simp
            simp only [Act.put, List.getElem_toArray, List.getElem_cons_succ, List.getElem_cons_zero, List.setIfInBounds_toArray, List.set_cons_zero, List.set_cons_succ]
            refine wpAnyH_take (i := 2) (v := .pointer (some ⟨g, k * 3, none⟩)) rfl (by kernel_rfl) (by kernel_rfl) (by kernel_rfl) (fun _ _ _ h => h) (Or.inl ⟨by kernel_rfl, fun w hSw => ?_⟩) Sb ?_
            · obtain ⟨e1, e2⟩ := hSw; go_simp
            simp only [Act.put, List.getElem_toArray, List.getElem_cons_succ, List.getElem_cons_zero, List.setIfInBounds_toArray, List.set_cons_zero, List.set_cons_succ]
            refine wpAnyH_take (i := 3) (v := .pointer (some ⟨g, k * 3, none⟩)) rfl (by kernel_rfl) (by kernel_rfl) (by kernel_rfl) (fun _ _ _ h => h) (Or.inl ⟨by kernel_rfl, fun w hSw => ?_⟩) Sb ?_
            · obtain ⟨e1, e2⟩ := hSw; go_simp
            simp only [Act.put, List.getElem_toArray, List.getElem_cons_succ, List.getElem_cons_zero, List.setIfInBounds_toArray, List.set_cons_zero, List.set_cons_succ]
            refine wpAnyH_take (i := 4) (v := .string (bs q.1)) rfl (by kernel_rfl) (by kernel_rfl) (by kernel_rfl) (fun _ _ _ h => h) (Or.inl ⟨by kernel_rfl, fun w hSw => ?_⟩) Sb ?_
            · obtain ⟨e1, e2⟩ := hSw; go_simp
            simp only [Act.put, List.getElem_toArray, List.getElem_cons_succ, List.getElem_cons_zero, List.setIfInBounds_toArray, List.set_cons_zero, List.set_cons_succ]
            refine wpAnyH_take (i := 5) (v := .pointer (some ⟨w.heap.size, 0, none⟩)) rfl (by kernel_rfl) (by kernel_rfl) (by kernel_rfl) (fun _ _ _ h => h) (Or.inl ⟨by kernel_rfl, fun w hSw => ?_⟩) Sb ?_
            · obtain ⟨e1, e2⟩ := hSw; go_simp
            simp only [Act.put, List.getElem_toArray, List.getElem_cons_succ, List.getElem_cons_zero, List.setIfInBounds_toArray, List.set_cons_zero, List.set_cons_succ]
            refine wpAnyH_take (i := 6) (v := .string (bs n)) rfl (by kernel_rfl) (by kernel_rfl) (by kernel_rfl) (fun _ _ _ h => h) (Or.inl ⟨by kernel_rfl, fun w hSw => ?_⟩) Sb ?_
            · obtain ⟨e1, e2⟩ := hSw; go_simp
            simp only [Act.put, List.getElem_toArray, List.getElem_cons_succ, List.getElem_cons_zero, List.setIfInBounds_toArray, List.set_cons_zero, List.set_cons_succ]
            refine wpAnyH_take (i := 7) (v := .bool true) rfl (by kernel_rfl) (by kernel_rfl) (by kernel_rfl) (fun _ _ _ h => h) (Or.inl ⟨by kernel_rfl, fun w hSw => ?_⟩) Sb ?_
            · obtain ⟨e1, e2⟩ := hSw; go_simp
            simp only [Act.put, List.getElem_toArray, List.getElem_cons_succ, List.getElem_cons_zero, List.setIfInBounds_toArray, List.set_cons_zero, List.set_cons_succ]
            refine wpAnyH_done (by kernel_rfl) ?_ _
            go_wp2_with (at_builtin; refine wpList_append_file rfl _ _ rfl (w.heap.size + 1) _ (O) rfl ((show OwnF wr.drew.drew _ _ _ from HO.out).alloc _) wr.drew.drew.heap.size q rfl (new_fcs wr.drew.drew q) (by simp; omega) (by simp; omega) ?_; intro g8 cap8 w8 hO8 hG8; have HO8 := hid hO8; have HB8 := hid (app_below HB.out hbz (show OwnF wr.drew.drew _ _ _ from HO.out) hG8); have hbz8 : w.heap.size + 1 ≤ w8.heap.size := (by have h9 := HB8.out.size; simpa using h9); clear hO8 hG8)
            go_roundw
            case rel => exact ⟨k + 1, false, O ++ [q], by go_num, by omega, rfl, HO8, hid (by rw [← HI.out, HT.out]; simp [HQN.out, HLE.out]), HB8⟩
            case measure => simp [intOf]; omega
          | true =>
            clear hqn hlt2 hnle
            have HGa := hid (HB1.out.trans (HB.out.mono (by simp)))
            have hbxa := (HB.out.block w.heap.size (by omega)).trans HN1.out
            have p0a : wr.drew.cell? ⟨w.heap.size, 0, none⟩ = some (.string (bs n)) := cell_blk (w := wr.drew) hbxa rfl
            have p1a : wr.drew.cell? ⟨w.heap.size, 1, none⟩ = some (.slice f.a f.b.length f.c) := cell_blk (w := wr.drew) hbxa rfl
            have p2a : wr.drew.cell? ⟨w.heap.size, 2, none⟩ = some (.int .i64 (f.s : Int)) := cell_blk (w := wr.drew) hbxa rfl
            have z0a : wr.drew.cell? ⟨g, k * 3, none⟩ = some (.string (bs q.1)) := (HGa.out.cell (cell_block X0.out)).trans X0.out
            have z1a : wr.drew.cell? ⟨g, k * 3 + 1, none⟩ = some (.slice q.2.a q.2.b.length q.2.c) := (HGa.out.cell (cell_block X1.out)).trans X1.out
            have z2a : wr.drew.cell? ⟨g, k * 3 + 2, none⟩ = some (.int .i64 (q.2.s : Int)) := (HGa.out.cell (cell_block X2.out)).trans X2.out
            have Sa : wr.drew.cell? ⟨w.heap.size, 0, none⟩ = some (.string (bs n)) ∧ wr.drew.cell? ⟨g, k * 3, none⟩ = some (.string (bs q.1)) := ⟨p0a, z0a⟩
            clear hbxa
            go_wp2_with fail
            refine wp_region_held_drew (S := fun w' => w'.cell? ⟨w.heap.size, 0, none⟩ = some (.string (bs n)) ∧ w'.cell? ⟨g, k * 3, none⟩ = some (.string (bs q.1))) hmxo Sa ?_
            intro _
            refine wpAnyH_take (i := 0) (v := .bool true) rfl (by kernel_rfl) (by kernel_rfl) (by kernel_rfl) (fun _ _ _ h => h) (Or.inl ⟨by kernel_rfl, fun w hSw => ?_⟩) Sa ?_
            · obtain ⟨e1, e2⟩ := hSw; go_simp
            simp only [Act.put, List.getElem_toArray, List.getElem_cons_succ, List.getElem_cons_zero, List.setIfInBounds_toArray, List.set_cons_zero, List.set_cons_succ]
            refine wpAnyH_take (i := 1) (v := .bool false) rfl (by kernel_rfl) (by kernel_rfl) (by kernel_rfl) (fun _ _ _ h => h) (Or.inl ⟨by kernel_rfl, fun w hSw => ?_⟩) Sa ?_
            · obtain ⟨e1, e2⟩ := hSw; go_simp
            simp only [Act.put, List.getElem_toArray, List.getElem_cons_succ, List.getElem_cons_zero, List.setIfInBounds_toArray, List.set_cons_zero, List.set_cons_succ]
            refine wpAnyH_take (i := 2) (v := .bool false) rfl (by kernel_rfl) (by kernel_rfl) (by kernel_rfl) (fun _ _ _ h => h) (Or.inl ⟨by kernel_rfl, fun w hSw => ?_⟩) Sa ?_
            · obtain ⟨e1, e2⟩ := hSw; go_simp
            simp only [Act.put, List.getElem_toArray, List.getElem_cons_succ, List.getElem_cons_zero, List.setIfInBounds_toArray, List.set_cons_zero, List.set_cons_succ]
            refine wpAnyH_take (i := 3) (v := undef) rfl (by kernel_rfl) (by kernel_rfl) (by kernel_rfl) (fun _ _ _ h => h) (Or.inr ⟨by kernel_rfl, rfl⟩) Sa ?_
            simp only [Act.put, List.getElem_toArray, List.getElem_cons_succ, List.getElem_cons_zero, List.setIfInBounds_toArray, List.set_cons_zero, List.set_cons_succ]
            refine wpAnyH_take (i := 4) (v := undef) rfl (by kernel_rfl) (by kernel_rfl) (by kernel_rfl) (fun _ _ _ h => h) (Or.inr ⟨by kernel_rfl, rfl⟩) Sa ?_
            simp only [Act.put, List.getElem_toArray, List.getElem_cons_succ, List.getElem_cons_zero, List.setIfInBounds_toArray, List.set_cons_zero, List.set_cons_succ]
            refine wpAnyH_take (i := 5) (v := undef) rfl (by kernel_rfl) (by kernel_rfl) (by kernel_rfl) (fun _ _ _ h => h) (Or.inr ⟨by kernel_rfl, rfl⟩) Sa ?_
            simp only [Act.put, List.getElem_toArray, List.getElem_cons_succ, List.getElem_cons_zero, List.setIfInBounds_toArray, List.set_cons_zero, List.set_cons_succ]
            refine wpAnyH_take (i := 6) (v := undef) rfl (by kernel_rfl) (by kernel_rfl) (by kernel_rfl) (fun _ _ _ h => h) (Or.inr ⟨by kernel_rfl, rfl⟩) Sa ?_
            simp only [Act.put, List.getElem_toArray, List.getElem_cons_succ, List.getElem_cons_zero, List.setIfInBounds_toArray, List.set_cons_zero, List.set_cons_succ]
            refine wpAnyH_take (i := 7) (v := undef) rfl (by kernel_rfl) (by kernel_rfl) (by kernel_rfl) (fun _ _ _ h => h) (Or.inr ⟨by kernel_rfl, rfl⟩) Sa ?_
            simp only [Act.put, List.getElem_toArray, List.getElem_cons_succ, List.getElem_cons_zero, List.setIfInBounds_toArray, List.set_cons_zero, List.set_cons_succ]
            refine wpAnyH_take (i := 8) (v := undef) rfl (by kernel_rfl) (by kernel_rfl) (by kernel_rfl) (fun _ _ _ h => h) (Or.inr ⟨by kernel_rfl, rfl⟩) Sa ?_
            simp only [Act.put, List.getElem_toArray, List.getElem_cons_succ, List.getElem_cons_zero, List.setIfInBounds_toArray, List.set_cons_zero, List.set_cons_succ]
            refine wpAnyH_take (i := 9) (v := undef) rfl (by kernel_rfl) (by kernel_rfl) (by kernel_rfl) (fun _ _ _ h => h) (Or.inr ⟨by kernel_rfl, rfl⟩) Sa ?_
            simp only [Act.put, List.getElem_toArray, List.getElem_cons_succ, List.getElem_cons_zero, List.setIfInBounds_toArray, List.set_cons_zero, List.set_cons_succ]
            refine wpAnyH_take (i := 10) (v := undef) rfl (by kernel_rfl) (by kernel_rfl) (by kernel_rfl) (fun _ _ _ h => h) (Or.inr ⟨by kernel_rfl, rfl⟩) Sa ?_
            simp only [Act.put, List.getElem_toArray, List.getElem_cons_succ, List.getElem_cons_zero, List.setIfInBounds_toArray, List.set_cons_zero, List.set_cons_succ]
            refine wpAnyH_take (i := 11) (v := .bool false) rfl (by kernel_rfl) (by kernel_rfl) (by kernel_rfl) (fun _ _ _ h => h) (Or.inl ⟨by kernel_rfl, fun w hSw => ?_⟩) Sa ?_
            · obtain ⟨e1, e2⟩ := hSw; go_simp
            simp only [Act.put, List.getElem_toArray, List.getElem_cons_succ, List.getElem_cons_zero, List.setIfInBounds_toArray, List.set_cons_zero, List.set_cons_succ]
            refine wpAnyH_done (by kernel_rfl) ?_ _
            go_wp2_with fail
            have HGb := hid (HB1.out.trans (HB.out.mono (by simp)))
            have hbxb := (HB.out.block w.heap.size (by omega)).trans HN1.out
            have p0b : wr.drew.drew.cell? ⟨w.heap.size, 0, none⟩ = some (.string (bs n)) := cell_blk (w := wr.drew.drew) hbxb rfl
            have p1b : wr.drew.drew.cell? ⟨w.heap.size, 1, none⟩ = some (.slice f.a f.b.length f.c) := cell_blk (w := wr.drew.drew) hbxb rfl
            have p2b : wr.drew.drew.cell? ⟨w.heap.size, 2, none⟩ = some (.int .i64 (f.s : Int)) := cell_blk (w := wr.drew.drew) hbxb rfl
            have z0b : wr.drew.drew.cell? ⟨g, k * 3, none⟩ = some (.string (bs q.1)) := (HGb.out.cell (cell_block X0.out)).trans X0.out
            have z1b : wr.drew.drew.cell? ⟨g, k * 3 + 1, none⟩ = some (.slice q.2.a q.2.b.length q.2.c) := (HGb.out.cell (cell_block X1.out)).trans X1.out
            have z2b : wr.drew.drew.cell? ⟨g, k * 3 + 2, none⟩ = some (.int .i64 (q.2.s : Int)) := (HGb.out.cell (cell_block X2.out)).trans X2.out
            have Sb : wr.drew.drew.cell? ⟨w.heap.size, 0, none⟩ = some (.string (bs n)) ∧ wr.drew.drew.cell? ⟨g, k * 3, none⟩ = some (.string (bs q.1)) := ⟨p0b, z0b⟩
            clear hbxb
            refine wp_region_held_drew (S := fun w' => w'.cell? ⟨w.heap.size, 0, none⟩ = some (.string (bs n)) ∧ w'.cell? ⟨g, k * 3, none⟩ = some (.string (bs q.1))) hmxo Sb ?_
            intro _
            refine wpAnyH_take (i := 0) (v := .slice (some ⟨g, 0, none⟩) R.length c) rfl (by kernel_rfl) (by kernel_rfl) (by kernel_rfl) (fun _ _ _ h => h) (Or.inl ⟨by kernel_rfl, fun w hSw => ?_⟩) Sb ?_
            · obtain ⟨e1, e2⟩ := hSw; go_simp
            simp only [Act.put, List.getElem_toArray, List.getElem_cons_succ, List.getElem_cons_zero, List.setIfInBounds_toArray, List.set_cons_zero, List.set_cons_succ]
            refine wpAnyH_take (i := 1) (v := .int .i64 (k : Int)) rfl (by kernel_rfl) (by kernel_rfl) (by kernel_rfl) (fun _ _ _ h => h) (Or.inl ⟨by kernel_rfl, fun w hSw => ?_⟩) Sb ?_
            · obtain ⟨e1, e2⟩ := hSw; go_simp
            simp only [Act.put, List.getElem_toArray, List.getElem_cons_succ, List.getElem_cons_zero, List.setIfInBounds_toArray, List.set_cons_zero, List.set_cons_succ]
            refine wpAnyH_take (i := 2) (v := .pointer (some ⟨g, k * 3, none⟩)) rfl (by kernel_rfl) (by kernel_rfl) (by kernel_rfl) (fun _ _ _ h => h) (Or.inl ⟨by kernel_rfl, fun w hSw => ?_⟩) Sb ?_
            · obtain ⟨e1, e2⟩ := hSw; go_simp
            simp only [Act.put, List.getElem_toArray, List.getElem_cons_succ, List.getElem_cons_zero, List.setIfInBounds_toArray, List.set_cons_zero, List.set_cons_succ]
            refine wpAnyH_take (i := 3) (v := .pointer (some ⟨g, k * 3, none⟩)) rfl (by kernel_rfl) (by kernel_rfl) (by kernel_rfl) (fun _ _ _ h => h) (Or.inl ⟨by kernel_rfl, fun w hSw => ?_⟩) Sb ?_
            · obtain ⟨e1, e2⟩ := hSw; go_simp
            simp only [Act.put, List.getElem_toArray, List.getElem_cons_succ, List.getElem_cons_zero, List.setIfInBounds_toArray, List.set_cons_zero, List.set_cons_succ]
            refine wpAnyH_take (i := 4) (v := .string (bs q.1)) rfl (by kernel_rfl) (by kernel_rfl) (by kernel_rfl) (fun _ _ _ h => h) (Or.inl ⟨by kernel_rfl, fun w hSw => ?_⟩) Sb ?_
            · obtain ⟨e1, e2⟩ := hSw; go_simp
            simp only [Act.put, List.getElem_toArray, List.getElem_cons_succ, List.getElem_cons_zero, List.setIfInBounds_toArray, List.set_cons_zero, List.set_cons_succ]
            refine wpAnyH_take (i := 5) (v := .pointer (some ⟨w.heap.size, 0, none⟩)) rfl (by kernel_rfl) (by kernel_rfl) (by kernel_rfl) (fun _ _ _ h => h) (Or.inl ⟨by kernel_rfl, fun w hSw => ?_⟩) Sb ?_
            · obtain ⟨e1, e2⟩ := hSw; go_simp
            simp only [Act.put, List.getElem_toArray, List.getElem_cons_succ, List.getElem_cons_zero, List.setIfInBounds_toArray, List.set_cons_zero, List.set_cons_succ]
            refine wpAnyH_take (i := 6) (v := .string (bs n)) rfl (by kernel_rfl) (by kernel_rfl) (by kernel_rfl) (fun _ _ _ h => h) (Or.inl ⟨by kernel_rfl, fun w hSw => ?_⟩) Sb ?_
            · obtain ⟨e1, e2⟩ := hSw; go_simp
            simp only [Act.put, List.getElem_toArray, List.getElem_cons_succ, List.getElem_cons_zero, List.setIfInBounds_toArray, List.set_cons_zero, List.set_cons_succ]
            refine wpAnyH_take (i := 7) (v := .bool true) rfl (by kernel_rfl) (by kernel_rfl) (by kernel_rfl) (fun _ _ _ h => h) (Or.inl ⟨by kernel_rfl, fun w hSw => ?_⟩) Sb ?_
            · obtain ⟨e1, e2⟩ := hSw; go_simp
            simp only [Act.put, List.getElem_toArray, List.getElem_cons_succ, List.getElem_cons_zero, List.setIfInBounds_toArray, List.set_cons_zero, List.set_cons_succ]
            refine wpAnyH_done (by kernel_rfl) ?_ _
            go_wp2_with (at_builtin; refine wpList_append_file rfl _ _ rfl (w.heap.size + 1) _ (O) rfl ((show OwnF wr.drew.drew _ _ _ from HO.out).alloc _) wr.drew.drew.heap.size q rfl (new_fcs wr.drew.drew q) (by simp; omega) (by simp; omega) ?_; intro g8 cap8 w8 hO8 hG8; have HO8 := hid hO8; have HB8 := hid (app_below HB.out hbz (show OwnF wr.drew.drew _ _ _ from HO.out) hG8); have hbz8 : w.heap.size + 1 ≤ w8.heap.size := (by have h9 := HB8.out.size; simpa using h9); clear hO8 hG8)
            go_roundw
            case rel => exact ⟨k + 1, true, O ++ [q], by go_num, by omega, rfl, HO8, hid (by rw [← HI.out, HT.out]; simp [HQN.out, HLE.out]), HB8⟩
            case measure => simp [intOf]; omega
    · obtain rfl : k = R.length := by omega
      have e5 : decide ((R.length : Int) < (R.length : Int)) = false := by simp
      have hI := HI.out
      rw [List.drop_of_length_le (Nat.le_refl _)] at hI
      have HG := hid (HB1.out.trans (HB.out.mono (by simp)))
      have hbx := (HB.out.block w.heap.size (by omega)).trans HN1.out
      have p0 : wr.cell? ⟨w.heap.size, 0, none⟩ = some (.string (bs n)) := cell_blk hbx rfl
      have p1 : wr.cell? ⟨w.heap.size, 1, none⟩ = some (.slice f.a f.b.length f.c) := cell_blk hbx rfl
      have p2 : wr.cell? ⟨w.heap.size, 2, none⟩ = some (.int .i64 (f.s : Int)) := cell_blk hbx rfl
      clear hbx
      cases d with
      | true =>
        have hI2 : Hid (O = put R n f) := hid (by simpa [lp] using hI)
        clear hI
        go_wp2
        go_ret
        refine ⟨_, rfl, ?_, HG.out⟩
        rw [← hI2.out]
        exact HO.out.fr HG.out (fun p hp => HOK.out p (by rw [← hI2.out]; exact hp)) HBS.out (by omega)
      | false =>
        have hI2 : Hid (O ++ [(n, f)] = put R n f) := hid (by simpa [lp] using hI)
        clear hI
        go_wp2_with (at_builtin; refine wpList_append_file rfl _ _ rfl (w.heap.size + 1) _ (O) rfl ((show OwnF wr _ _ _ from HO.out).alloc _) wr.heap.size (n, f) rfl (new_fcs wr (n, f)) (by simp; omega) (by simp; omega) ?_; intro g7 cap7 w7 hO7 hG7; have HO7 := hid hO7; have HB7 := hid (app_below HB.out hbz (show OwnF wr _ _ _ from HO.out) hG7); have hbz7 : w.heap.size + 1 ≤ w7.heap.size := (by have h9 := HB7.out.size; simpa using h9); clear hO7 hG7)
        go_ret
        have HG7 := hid (HB1.out.trans (HB7.out.mono (by simp)))
        refine ⟨_, rfl, ?_, HG7.out⟩
        rw [← hI2.out]
        exact HO7.out.fr HG7.out (fun p hp => HOK.out p (by rw [← hI2.out]; exact hp)) HBS.out (by omega)
end Go.Proofs.Ytocglenkdjiknaa
