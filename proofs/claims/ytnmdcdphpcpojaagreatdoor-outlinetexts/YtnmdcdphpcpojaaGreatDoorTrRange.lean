/- A range over a closure that has a box of its own, a place. No function of the program. -/
import Derived.Test.YtnmdcdphpcpojaaGreatDoorTrBs
import Derived.Test.YtnmdcdphpcpojaaGreatDoorOParts
import Derived.Test.YtnmdcdphpcpojaaGreatDoorTrCmp
import Derived.Test.YtnmdcdphpcpojaaGreatDoorTrInsG
import Derived.RangeFuncNested
import Derived.RangeFuncBound
import Derived.RangeFuncCalls
import Derived.RangeFuncLeaves
import Derived.RangeFuncWrites
import Derived.RangeFuncBox
import Derived.Shelf.Abstract
import Derived.Shelf.RegionOpen
import Derived.OwnWalkIn
import Derived.TacticsInMore
import Derived.LoopNIn
import Derived.LoopIn
namespace Go.Proofs.YtnmdcdphpcpojaaGreatDoor
section
set_option linter.unusedVariables false
set_option linter.unusedSimpArgs false
open Go.RowKit

set_option maxRecDepth 100000 in
set_option maxHeartbeats 8000000 in
theorem rank_any (t o : Nat) (mv kv : Value) (S : List Sp) (a : Option Addr) (n c : Nat) (s : Sp) (w : World) (hnd : (S.map Sp.b).Nodup) (hdw : ∀ x ∈ S, Dw x.b) (hc : w.cell? ⟨t, o, none⟩ = some mv) (hk : w.cell? ⟨t, o + 1, none⟩ = some kv) (h : PlV w mv S) (hlk : ∀ W, Below w.heap.size w W → (Instr.lookup 114 kv (dv s.p) false).run Tryz.prog W = .ok (.slice a n c) W) (hps : PS w a n c ((kidS S s.p).map Sp.b)) (hn : n ≤ 1000000) :
    Calls Tryz.prog 154 #[.pointer (some ⟨t, o, none⟩), dv s.b, plv (s.p, s.k)] w fun e w' => e = .returned (.int .i64 (rkL kdl (kidS S s.p) s : Nat)) ∧ Below w.heap.size w w' := by
  obtain ⟨⟨b1, b2⟩, ⟨p1, p2⟩, ky⟩ := s
  have mixed := mixed
  have hmxo : Tryz.prog.follows .mixedOrders = true := by kernel_rfl
  simp only at hlk hps ⊢
  obtain ⟨W0, hW0⟩ : ∃ W0, W0 = ((w.alloc (.cells #[.pointer (some ⟨t, o, none⟩)] 117)).alloc (.cells #[.int .i64 b1, .int .i64 b2] 24)).alloc (.cells #[.int .i64 p1, .int .i64 p2, .string ky] 113) := ⟨_, rfl⟩
  have hB0 : Below w.heap.size w W0 := by rw [hW0]; exact (((Below.refl _ w).alloc (Nat.le_refl _) _).alloc (by simp) _).alloc (by simp; omega) _
  have hb0 : W0.heap[w.heap.size]? = some (.cells #[.pointer (some ⟨t, o, none⟩)] 117 (0, 0)) := by
    rw [hW0]
    exact (Below.heap_alloc _ _ _ (by simp; omega)).trans ((Below.heap_alloc _ _ _ (by simp)).trans (World.alloc_heap_new w _))
  have hb1 : W0.heap[w.heap.size + 1]? = some (.cells #[.int .i64 b1, .int .i64 b2] 24 (0, 0)) := by
    rw [hW0]
    have := World.alloc_heap_new (w.alloc (.cells #[.pointer (some ⟨t, o, none⟩)] 117)) (.cells #[.int .i64 b1, .int .i64 b2] 24)
    rw [World.size_alloc] at this
    exact (Below.heap_alloc _ _ _ (by simp)).trans this
  have hb2 : W0.heap[w.heap.size + 1 + 1]? = some (.cells #[.int .i64 p1, .int .i64 p2, .string ky] 113 (0, 0)) := by
    rw [hW0]
    have := World.alloc_heap_new ((w.alloc (.cells #[.pointer (some ⟨t, o, none⟩)] 117)).alloc (.cells #[.int .i64 b1, .int .i64 b2] 24)) (.cells #[.int .i64 p1, .int .i64 p2, .string ky] 113)
    rw [World.size_alloc, World.size_alloc] at this
    exact this
  have hl0 := (Array.getElem?_eq_some_iff.1 hb0).1
  have hl1 := (Array.getElem?_eq_some_iff.1 hb1).1
  have hl2 := (Array.getElem?_eq_some_iff.1 hb2).1
  have HS : Hid (∀ W, Below W0.heap.size W0 W → (W.cell? ⟨w.heap.size, 0, none⟩ = some (.pointer (some ⟨t, o, none⟩)) ∧ W.cell? ⟨t, o + 1, none⟩ = some kv ∧ W.cell? ⟨w.heap.size + 1, 0, none⟩ = some (.int .i64 b1) ∧ W.cell? ⟨w.heap.size + 1, 1, none⟩ = some (.int .i64 b2) ∧ W.cell? ⟨w.heap.size + 1 + 1, 0, none⟩ = some (.int .i64 p1) ∧ W.cell? ⟨w.heap.size + 1 + 1, 1, none⟩ = some (.int .i64 p2) ∧ (Instr.lookup 114 kv (.agg #[.int .i64 p1, .int .i64 p2]) false).run Tryz.prog W = .ok (.slice a n c) W)) := hid (fun W hb => by
    have g0 := (hb.block _ hl0).trans hb0
    have g1 := (hb.block _ hl1).trans hb1
    have g2 := (hb.block _ hl2).trans hb2
    have hbw := hB0.trans (hb.mono hB0.size)
    exact ⟨by simp [World.cell?, g0], (hbw.cell (p := ⟨t, o + 1, none⟩) (cell_in hk)).trans hk, by simp [World.cell?, g1], by simp [World.cell?, g1], by simp [World.cell?, g2], by simp [World.cell?, g2], hlk W hbw⟩)
  obtain ⟨R, hR⟩ : ∃ R, R = rkL kdl (kidS S (p1, p2)) ⟨(b1, b2), (p1, p2), ky⟩ := ⟨_, rfl⟩
  have HB0 : Hid (Below W0.heap.size W0 W0.drew) := hid ((Far.refl W0).drewN 1).below
  have hS0 := HS.out _ HB0.out
  have HBs : Hid (∀ W, Below W0.heap.size W0 W → Calls Tryz.prog 179 #[.slice a n c, .agg #[.int .i64 b1, .int .i64 b2], .func (.func 180) #[] #[.pointer (some ⟨w.heap.size, 0, none⟩), .pointer (some ⟨w.heap.size + 1 + 1, 0, none⟩)]] W fun e w' => ∃ f, e = .returned (.tuple #[.int .i64 (R : Int), .bool f]) ∧ Hid (Below W0.heap.size W0 w')) := hid (fun W hb => by
    have g0 := (hb.block _ hl0).trans hb0
    have g2 := (hb.block _ hl2).trans hb2
    have hbw := hB0.trans (hb.mono hB0.size)
    have h1 := trbs_any a n c t o (w.heap.size) (w.heap.size + 1 + 1) mv S (kidS S (p1, p2)) ⟨(b1, b2), (p1, p2), ky⟩ W (hps.below hbw) hn hnd (fun x hx => ((kidS_mem hnd).1 hx).1) (fun x hx => hdw x ((kidS_mem hnd).1 hx).1) (kidS_srt hnd _) (by simp [World.cell?, g0]) (by simp [World.cell?, g2]) ((hbw.cell (p := ⟨t, o, none⟩) (cell_in hc)).trans hc) (h.below hbw)
    rw [← hR] at h1
    exact h1.mono (fun e w' ⟨f, k1, k2⟩ => ⟨f, k1, hid (hb.trans (k2.mono hb.size))⟩))
  rw [← hR]
  have HW := hid hW0
  clear hW0 hb0 hb1 hb2 hl0 hl1 hl2 hc hk h hlk hps hR hnd hdw
  show Calls Tryz.prog 154 #[.pointer (some ⟨t, o, none⟩), .agg #[.int .i64 b1, .int .i64 b2], .agg #[.int .i64 p1, .int .i64 p2, .string ky]] w _
  go_enter Tryz.func154, Tryz.ntmps154
  go_wp2_with fail
  rw [← HW.out]
  refine wp_region_held_drew (S := fun w' => w'.cell? ⟨w.heap.size, 0, none⟩ = some (.pointer (some ⟨t, o, none⟩)) ∧ w'.cell? ⟨t, o + 1, none⟩ = some kv ∧ w'.cell? ⟨w.heap.size + 1, 0, none⟩ = some (.int .i64 b1) ∧ w'.cell? ⟨w.heap.size + 1, 1, none⟩ = some (.int .i64 b2) ∧ w'.cell? ⟨w.heap.size + 1 + 1, 0, none⟩ = some (.int .i64 p1) ∧ w'.cell? ⟨w.heap.size + 1 + 1, 1, none⟩ = some (.int .i64 p2) ∧ (Instr.lookup 114 kv (.agg #[.int .i64 p1, .int .i64 p2]) false).run Tryz.prog w' = .ok (.slice a n c) w') hmxo hS0 ?_
  intro _
  refine wpAnyH_take (i := 0) (v := .pointer (some ⟨t, o, none⟩)) rfl (by kernel_rfl) (by kernel_rfl) (by kernel_rfl) (fun _ _ _ h => h) (Or.inl ⟨by kernel_rfl, fun w hSw => ?_⟩) hS0 ?_
  · obtain ⟨e1, e2, e3, e4, e5, e6, e7⟩ := hSw; go_simp
  simp only [Act.put, List.getElem_toArray, List.getElem_cons_succ, List.getElem_cons_zero, List.setIfInBounds_toArray, List.set_cons_zero, List.set_cons_succ]
  refine wpAnyH_take (i := 1) (v := .pointer (some ⟨t, o, none⟩)) rfl (by kernel_rfl) (by kernel_rfl) (by kernel_rfl) (fun _ _ _ h => h) (Or.inl ⟨by kernel_rfl, fun w hSw => ?_⟩) hS0 ?_
  · obtain ⟨e1, e2, e3, e4, e5, e6, e7⟩ := hSw; go_simp
  simp only [Act.put, List.getElem_toArray, List.getElem_cons_succ, List.getElem_cons_zero, List.setIfInBounds_toArray, List.set_cons_zero, List.set_cons_succ]
  refine wpAnyH_take (i := 2) (v := .pointer (some ⟨t, o + 1, none⟩)) rfl (by kernel_rfl) (by kernel_rfl) (by kernel_rfl) (fun _ _ _ h => h) (Or.inl ⟨by kernel_rfl, fun w hSw => ?_⟩) hS0 ?_
  · obtain ⟨e1, e2, e3, e4, e5, e6, e7⟩ := hSw; go_simp
  simp only [Act.put, List.getElem_toArray, List.getElem_cons_succ, List.getElem_cons_zero, List.setIfInBounds_toArray, List.set_cons_zero, List.set_cons_succ]
  refine wpAnyH_take (i := 3) (v := kv) rfl (by kernel_rfl) (by kernel_rfl) (by kernel_rfl) (fun _ _ _ h => h) (Or.inl ⟨by kernel_rfl, fun w hSw => ?_⟩) hS0 ?_
  · obtain ⟨e1, e2, e3, e4, e5, e6, e7⟩ := hSw; go_simp
  simp only [Act.put, List.getElem_toArray, List.getElem_cons_succ, List.getElem_cons_zero, List.setIfInBounds_toArray, List.set_cons_zero, List.set_cons_succ]
  refine wpAnyH_take (i := 4) (v := .pointer (some ⟨w.heap.size + 1 + 1, 0, none⟩)) rfl (by kernel_rfl) (by kernel_rfl) (by kernel_rfl) (fun _ _ _ h => h) (Or.inl ⟨by kernel_rfl, fun w hSw => ?_⟩) hS0 ?_
  · obtain ⟨e1, e2, e3, e4, e5, e6, e7⟩ := hSw; go_simp
  simp only [Act.put, List.getElem_toArray, List.getElem_cons_succ, List.getElem_cons_zero, List.setIfInBounds_toArray, List.set_cons_zero, List.set_cons_succ]
  refine wpAnyH_take (i := 5) (v := .agg #[.int .i64 p1, .int .i64 p2]) rfl (by kernel_rfl) (by kernel_rfl) (by kernel_rfl) (fun _ _ _ h => h) (Or.inl ⟨by kernel_rfl, fun w hSw => ?_⟩) hS0 ?_
  · obtain ⟨e1, e2, e3, e4, e5, e6, e7⟩ := hSw; go_simp
  simp only [Act.put, List.getElem_toArray, List.getElem_cons_succ, List.getElem_cons_zero, List.setIfInBounds_toArray, List.set_cons_zero, List.set_cons_succ]
  refine wpAnyH_take (i := 6) (v := .slice a n c) rfl (by kernel_rfl) (by kernel_rfl) (by kernel_rfl) (fun _ _ _ h => h) (Or.inl ⟨by kernel_rfl, fun w hSw => ?_⟩) hS0 ?_
  · obtain ⟨e1, e2, e3, e4, e5, e6, e7⟩ := hSw; go_simp
  simp only [Act.put, List.getElem_toArray, List.getElem_cons_succ, List.getElem_cons_zero, List.setIfInBounds_toArray, List.set_cons_zero, List.set_cons_succ]
  refine wpAnyH_take (i := 7) (v := .agg #[.int .i64 b1, .int .i64 b2]) rfl (by kernel_rfl) (by kernel_rfl) (by kernel_rfl) (fun _ _ _ h => h) (Or.inl ⟨by kernel_rfl, fun w hSw => ?_⟩) hS0 ?_
  · obtain ⟨e1, e2, e3, e4, e5, e6, e7⟩ := hSw; go_simp
  simp only [Act.put, List.getElem_toArray, List.getElem_cons_succ, List.getElem_cons_zero, List.setIfInBounds_toArray, List.set_cons_zero, List.set_cons_succ]
  refine wpAnyH_take (i := 8) (v := .func (.func 180) #[] #[.pointer (some ⟨w.heap.size, 0, none⟩), .pointer (some ⟨w.heap.size + 1 + 1, 0, none⟩)]) rfl (by kernel_rfl) (by kernel_rfl) (by kernel_rfl) (fun _ _ _ h => h) (Or.inl ⟨by kernel_rfl, fun w hSw => ?_⟩) hS0 ?_
  · obtain ⟨e1, e2, e3, e4, e5, e6, e7⟩ := hSw; go_simp
  simp only [Act.put, List.getElem_toArray, List.getElem_cons_succ, List.getElem_cons_zero, List.setIfInBounds_toArray, List.set_cons_zero, List.set_cons_succ]
  refine wpAnyH_ready (rs := [9]) (by kernel_rfl) (by simp) ?_
  refine AllReadyH.cons rfl (fun K hK => ?_) AllReadyH.nil
  go_simp
  refine (HBs.out _ HB0.out).mono ?_
  rintro e U1 ⟨f, rfl, hU1⟩
  have hS1 := HS.out _ hU1.out
  refine hK.out _ _ hS1 (fun _ => ?_)
  clear hK K
  refine wpAnyH_take (i := 10) (v := .tuple #[.int .i64 (R : Int), .bool f]) rfl (by kernel_rfl) (by kernel_rfl) (by kernel_rfl) (fun _ _ _ h => h) (Or.inl ⟨by kernel_rfl, fun w hSw => ?_⟩) hS1 ?_
  · obtain ⟨e1, e2, e3, e4, e5, e6, e7⟩ := hSw; go_simp
  simp only [Act.put, List.getElem_toArray, List.getElem_cons_succ, List.getElem_cons_zero, List.setIfInBounds_toArray, List.set_cons_zero, List.set_cons_succ]
  refine wpAnyH_take (i := 11) (v := .int .i64 (R : Int)) rfl (by kernel_rfl) (by kernel_rfl) (by kernel_rfl) (fun _ _ _ h => h) (Or.inl ⟨by kernel_rfl, fun w hSw => ?_⟩) hS1 ?_
  · obtain ⟨e1, e2, e3, e4, e5, e6, e7⟩ := hSw; go_simp
  simp only [Act.put, List.getElem_toArray, List.getElem_cons_succ, List.getElem_cons_zero, List.setIfInBounds_toArray, List.set_cons_zero, List.set_cons_succ]
  refine wpAnyH_take (i := 12) (v := .bool f) rfl (by kernel_rfl) (by kernel_rfl) (by kernel_rfl) (fun _ _ _ h => h) (Or.inl ⟨by kernel_rfl, fun w hSw => ?_⟩) hS1 ?_
  · obtain ⟨e1, e2, e3, e4, e5, e6, e7⟩ := hSw; go_simp
  simp only [Act.put, List.getElem_toArray, List.getElem_cons_succ, List.getElem_cons_zero, List.setIfInBounds_toArray, List.set_cons_zero, List.set_cons_succ]
  refine wpAnyH_take (i := 13) (v := .int .i64 (R : Int)) rfl (by kernel_rfl) (by kernel_rfl) (by kernel_rfl) (fun _ _ _ h => h) (Or.inl ⟨by kernel_rfl, fun w hSw => ?_⟩) hS1 ?_
  · obtain ⟨e1, e2, e3, e4, e5, e6, e7⟩ := hSw; go_simp
  simp only [Act.put, List.getElem_toArray, List.getElem_cons_succ, List.getElem_cons_zero, List.setIfInBounds_toArray, List.set_cons_zero, List.set_cons_succ]
  refine wpAnyH_take (i := 14) (v := .bool f) rfl (by kernel_rfl) (by kernel_rfl) (by kernel_rfl) (fun _ _ _ h => h) (Or.inl ⟨by kernel_rfl, fun w hSw => ?_⟩) hS1 ?_
  · obtain ⟨e1, e2, e3, e4, e5, e6, e7⟩ := hSw; go_simp
  simp only [Act.put, List.getElem_toArray, List.getElem_cons_succ, List.getElem_cons_zero, List.setIfInBounds_toArray, List.set_cons_zero, List.set_cons_succ]
  refine wpAnyH_done (by kernel_rfl) ?_ _
  go_wp2
  go_ret
  exact ⟨rfl, hB0.trans (hU1.out.mono hB0.size)⟩
end

section
set_option linter.unusedVariables false
set_option linter.unusedSimpArgs false
open Go.RowKit

/-- What is known behind the first steps. -/
structure LF (w W : World) (t m k : Nat) (f : Rf) (lg fd dn : Value) (S : List Sp) (B : Nat → Prop) (b1 b2 p1 p2 : Int) (ky : ByteArray) : Prop where
  sm : SM w W t m k f lg fd dn S B
  b0 : W.heap[w.heap.size]? = some (.cells #[.int .i64 b1, .int .i64 b2] 24 (0, 0))
  b1 : W.heap[w.heap.size + 1]? = some (.cells #[.int .i64 p1, .int .i64 p2, .string ky] 113 (0, 0))
  old : ∀ p q, f p = some q → q.1 < w.heap.size

theorem LF.cells {w W V : World} {t m k : Nat} {f : Rf} {lg fd dn : Value} {S : List Sp} {B : Nat → Prop} {b1 b2 p1 p2 : Int} {ky : ByteArray} (h : LF w W t m k f lg fd dn S B b1 b2 p1 p2 ky) (ht : V.heap[t]? = W.heap[t]?) (h0 : V.heap[w.heap.size]? = W.heap[w.heap.size]?) (h1 : V.heap[w.heap.size + 1]? = W.heap[w.heap.size + 1]?) : V.cell? ⟨t, 3, none⟩ = some (.map (some m)) ∧ V.cell? ⟨t, 4, none⟩ = some (.map (some k)) ∧ V.cell? ⟨w.heap.size, 0, none⟩ = some (.int .i64 b1) ∧ V.cell? ⟨w.heap.size, 1, none⟩ = some (.int .i64 b2) ∧ V.cell? ⟨w.heap.size + 1, 0, none⟩ = some (.int .i64 p1) ∧ V.cell? ⟨w.heap.size + 1, 1, none⟩ = some (.int .i64 p2) ∧ V.cell? ⟨w.heap.size + 1, 2, none⟩ = some (.string ky) := by
  have e := ht.trans h.sm.tb
  have e0 := h0.trans h.b0
  have e1 := h1.trans h.b1
  exact ⟨by simp [World.cell?, e], by simp [World.cell?, e], by simp [World.cell?, e0], by simp [World.cell?, e0], by simp [World.cell?, e1], by simp [World.cell?, e1], by simp [World.cell?, e1]⟩
set_option maxRecDepth 100000 in
/-- What the steps behind it come to. -/
theorem lay_tail {w W1 : World} {t m k : Nat} {f : Rf} {lg fd dn : Value} {S : List Sp} {B : Nat → Prop} {b1 b2 p1 p2 : Int} {ky : ByteArray} (hL : LF w W1 t m k f lg fd dn S B b1 b2 p1 p2 ky) (hBt : ¬ B t) (hBs : ∀ j, B j → j < w.heap.size) (htw : t < w.heap.size) (hnd : ((S ++ [(⟨(b1, b2), (p1, p2), ky⟩ : Sp)]).map Sp.b).Nodup) (hdw : ∀ x ∈ S, Dw x.b) (hdb : Dw (b1, b2)) (hdp : Dw (p1, p2)) (hlen : S.length < 1000000) :
    ∃ R : Nat, Calls Tryz.prog 154 #[.pointer (some ⟨t, 3, none⟩), .agg #[.int .i64 b1, .int .i64 b2], .agg #[.int .i64 p1, .int .i64 p2, .string ky]] W1 fun e W2 => e = .returned (.int .i64 (R : Int)) ∧ (W2.cell? ⟨t, 3, none⟩ = some (.map (some m)) ∧ W2.cell? ⟨t, 4, none⟩ = some (.map (some k)) ∧ W2.cell? ⟨w.heap.size, 0, none⟩ = some (.int .i64 b1) ∧ W2.cell? ⟨w.heap.size, 1, none⟩ = some (.int .i64 b2) ∧ W2.cell? ⟨w.heap.size + 1, 0, none⟩ = some (.int .i64 p1) ∧ W2.cell? ⟨w.heap.size + 1, 1, none⟩ = some (.int .i64 p2) ∧ W2.cell? ⟨w.heap.size + 1, 2, none⟩ = some (.string ky)) ∧ (W2.drew.cell? ⟨t, 3, none⟩ = some (.map (some m)) ∧ W2.drew.cell? ⟨t, 4, none⟩ = some (.map (some k)) ∧ W2.drew.cell? ⟨w.heap.size, 0, none⟩ = some (.int .i64 b1) ∧ W2.drew.cell? ⟨w.heap.size, 1, none⟩ = some (.int .i64 b2) ∧ W2.drew.cell? ⟨w.heap.size + 1, 0, none⟩ = some (.int .i64 p1) ∧ W2.drew.cell? ⟨w.heap.size + 1, 1, none⟩ = some (.int .i64 p2) ∧ W2.drew.cell? ⟨w.heap.size + 1, 2, none⟩ = some (.string ky)) ∧ ∃ W3, (Instr.mapUpdate 111 (.map (some m)) (.agg #[.int .i64 b1, .int .i64 b2]) (.agg #[.int .i64 p1, .int .i64 p2, .string ky])).run Tryz.prog W2.drew = .ok () W3 ∧ (W3.cell? ⟨t, 3, none⟩ = some (.map (some m)) ∧ W3.cell? ⟨t, 4, none⟩ = some (.map (some k)) ∧ W3.cell? ⟨w.heap.size, 0, none⟩ = some (.int .i64 b1) ∧ W3.cell? ⟨w.heap.size, 1, none⟩ = some (.int .i64 b2) ∧ W3.cell? ⟨w.heap.size + 1, 0, none⟩ = some (.int .i64 p1) ∧ W3.cell? ⟨w.heap.size + 1, 1, none⟩ = some (.int .i64 p2) ∧ W3.cell? ⟨w.heap.size + 1, 2, none⟩ = some (.string ky)) ∧ (W3.drew.cell? ⟨t, 3, none⟩ = some (.map (some m)) ∧ W3.drew.cell? ⟨t, 4, none⟩ = some (.map (some k)) ∧ W3.drew.cell? ⟨w.heap.size, 0, none⟩ = some (.int .i64 b1) ∧ W3.drew.cell? ⟨w.heap.size, 1, none⟩ = some (.int .i64 b2) ∧ W3.drew.cell? ⟨w.heap.size + 1, 0, none⟩ = some (.int .i64 p1) ∧ W3.drew.cell? ⟨w.heap.size + 1, 1, none⟩ = some (.int .i64 p2) ∧ W3.drew.cell? ⟨w.heap.size + 1, 2, none⟩ = some (.string ky)) ∧ ∃ vs, (Instr.lookup 114 (.map (some k)) (.agg #[.int .i64 p1, .int .i64 p2]) false).run Tryz.prog W3.drew = .ok vs W3.drew ∧ (Instr.lookup 114 (.map (some k)) (.agg #[.int .i64 p1, .int .i64 p2]) false).run Tryz.prog (W3.alloc (.cells #[.int .i64 b1, .int .i64 b2] 24)).drew = .ok vs (W3.alloc (.cells #[.int .i64 b1, .int .i64 b2] 24)).drew ∧ ((W3.alloc (.cells #[.int .i64 b1, .int .i64 b2] 24)).drew.cell? ⟨t, 3, none⟩ = some (.map (some m)) ∧ (W3.alloc (.cells #[.int .i64 b1, .int .i64 b2] 24)).drew.cell? ⟨t, 4, none⟩ = some (.map (some k)) ∧ (W3.alloc (.cells #[.int .i64 b1, .int .i64 b2] 24)).drew.cell? ⟨w.heap.size, 0, none⟩ = some (.int .i64 b1) ∧ (W3.alloc (.cells #[.int .i64 b1, .int .i64 b2] 24)).drew.cell? ⟨w.heap.size, 1, none⟩ = some (.int .i64 b2) ∧ (W3.alloc (.cells #[.int .i64 b1, .int .i64 b2] 24)).drew.cell? ⟨w.heap.size + 1, 0, none⟩ = some (.int .i64 p1) ∧ (W3.alloc (.cells #[.int .i64 b1, .int .i64 b2] 24)).drew.cell? ⟨w.heap.size + 1, 1, none⟩ = some (.int .i64 p2) ∧ (W3.alloc (.cells #[.int .i64 b1, .int .i64 b2] 24)).drew.cell? ⟨w.heap.size + 1, 2, none⟩ = some (.string ky)) ∧
      Calls Tryz.prog 156 #[vs, .int .i64 (R : Int), .slice (some ⟨W3.heap.size, 0, none⟩) 1 1] (W3.alloc (.cells #[.int .i64 b1, .int .i64 b2] 24)).drew fun e W5 => ∃ v5 W6, e = .returned v5 ∧ (W5.cell? ⟨t, 3, none⟩ = some (.map (some m)) ∧ W5.cell? ⟨t, 4, none⟩ = some (.map (some k)) ∧ W5.cell? ⟨w.heap.size, 0, none⟩ = some (.int .i64 b1) ∧ W5.cell? ⟨w.heap.size, 1, none⟩ = some (.int .i64 b2) ∧ W5.cell? ⟨w.heap.size + 1, 0, none⟩ = some (.int .i64 p1) ∧ W5.cell? ⟨w.heap.size + 1, 1, none⟩ = some (.int .i64 p2) ∧ W5.cell? ⟨w.heap.size + 1, 2, none⟩ = some (.string ky)) ∧ (Instr.mapUpdate 114 (.map (some k)) (.agg #[.int .i64 p1, .int .i64 p2]) v5).run Tryz.prog W5 = .ok () W6 ∧ (W6.cell? ⟨t, 3, none⟩ = some (.map (some m)) ∧ W6.cell? ⟨t, 4, none⟩ = some (.map (some k)) ∧ W6.cell? ⟨w.heap.size, 0, none⟩ = some (.int .i64 b1) ∧ W6.cell? ⟨w.heap.size, 1, none⟩ = some (.int .i64 b2) ∧ W6.cell? ⟨w.heap.size + 1, 0, none⟩ = some (.int .i64 p1) ∧ W6.cell? ⟨w.heap.size + 1, 1, none⟩ = some (.int .i64 p2) ∧ W6.cell? ⟨w.heap.size + 1, 2, none⟩ = some (.string ky)) ∧ Hid (TB W6 t lg fd dn (.map (some m)) (.map (some k)) ∧ SB W6 (.map (some m)) (.map (some k)) (S ++ [(⟨(b1, b2), (p1, p2), ky⟩ : Sp)]) (Bn w W6 B) ∧ KB w W6 B t) := by
  have hsm := hL.sm
  have hn : (S.map Sp.b).Nodup := by rw [List.map_append, List.nodup_append] at hnd; exact hnd.1
  have hno : lk S (b1, b2) = none := lk_none.2 (fun x hx e => by
    rw [List.map_append, List.nodup_append] at hnd
    exact hnd.2.2 _ (List.mem_map.2 ⟨x, hx, rfl⟩) (b1, b2) (by simp) e)
  have hzw := hsm.kb.size
  have hl0 := (Array.getElem?_eq_some_iff.1 hL.b0).1
  have hl1 := (Array.getElem?_eq_some_iff.1 hL.b1).1
  have htm : t ≠ m := hsm.pm.cells hsm.tb
  have htk : t ≠ k := hsm.km.cells hsm.tb
  have h0m : w.heap.size ≠ m := hsm.pm.cells hL.b0
  have h0k : w.heap.size ≠ k := hsm.km.cells hL.b0
  have h1m : w.heap.size + 1 ≠ m := hsm.pm.cells hL.b1
  have h1k : w.heap.size + 1 ≠ k := hsm.km.cells hL.b1
  have hmw := hsm.pm.lt
  have hkw := hsm.km.lt
  have hrow : ∀ p q, f p = some q → q.1 < W1.heap.size ∧ q.1 ≠ m ∧ q.1 ≠ k ∧ q.1 ≠ t ∧ q.1 ≠ w.heap.size ∧ q.1 ≠ w.heap.size + 1 := fun p q e => by
    have h := hsm.rw.row p
    rw [e] at h
    obtain ⟨_, _, _, cs, hc⟩ := row_block h
    have ho := hL.old _ _ e
    refine ⟨(Array.getElem?_eq_some_iff.1 hc).1, hsm.pm.cells hc, hsm.km.cells hc, fun e' => ?_, by omega, by omega⟩
    have := hsm.tb
    unfold TB at this
    rw [← e', hc] at this
    simp at this
  have hob : ∀ j, (slv (f (p1, p2))).ownBlock = some j → ∃ q, f (p1, p2) = some q ∧ q.1 = j := fun j hj => by
    cases e : f (p1, p2) with
    | none => rw [e] at hj; simp [slv, Value.ownBlock] at hj
    | some q => rw [e] at hj; exact ⟨q, rfl, by simpa [slv, Value.ownBlock] using hj⟩
  have hlook : ∀ V : World, V.heap[k]? = W1.heap[k]? → (Instr.lookup 114 (.map (some k)) (.agg #[.int .i64 p1, .int .i64 p2]) false).run Tryz.prog V = .ok (slv (f (p1, p2))) V := fun V hV => by
    have h7 := (hsm.km.same hV).look (d := (p1, p2)) hdp
    unfold dv at h7
    exact h7
  obtain ⟨a, c0, he, hps⟩ := row_ps (hsm.rw.row (p1, p2))
  have hkl : (kidB S (p1, p2)).length ≤ 1000000 := by
    unfold kidB
    rw [List.length_map]
    have := kidS_len hn (p1, p2)
    omega
  have cW1 := hL.cells (V := W1) rfl rfl rfl
  have hlk2 : ∀ V : World, Below W1.heap.size W1 V → (Instr.lookup 114 (.map (some k)) (dv (p1, p2)) false).run Tryz.prog V = .ok (.slice a (kidB S (p1, p2)).length c0) V := fun V hV => by
    have := hlook V (hV.block k hkw)
    rw [he] at this
    exact this
  have hR := rank_any t 3 (.map (some m)) (.map (some k)) S a (kidB S (p1, p2)).length c0 (⟨(b1, b2), (p1, p2), ky⟩ : Sp) W1 hn hdw cW1.1 cW1.2.1 (Or.inr ⟨m, rfl, hsm.pm⟩) hlk2 hps hkl
  refine ⟨rkL kdl (kidS S (p1, p2)) (⟨(b1, b2), (p1, p2), ky⟩ : Sp), hR.mono ?_⟩
  rintro e W2 ⟨rfl, h2⟩
  have hz2 := h2.size
  have a2 : ∀ j, j < W1.heap.size → W2.heap[j]? = W1.heap[j]? := fun j hj => h2.block j hj
  obtain ⟨W3, hr3, hp3, g3⟩ := PLM.lay (w := W2.drew) (hsm.pm.same (a2 m hmw)) (s := (⟨(b1, b2), (p1, p2), ky⟩ : Sp)) hdb hno (by unfold maxLen; omega)
  have g3' : W2.grownBy W3 (some m) := (grownBy_drew1 W2 (some m)).trans g3
  have hz3 := g3'.size
  have a3 : ∀ j, j < W1.heap.size → j ≠ m → W3.heap[j]? = W1.heap[j]? := fun j hj hm => (g3'.block j (by omega) (by simpa using hm)).trans (a2 j hj)
  obtain ⟨W4, hW4⟩ : ∃ W4, W4 = (W3.alloc (.cells #[.int .i64 b1, .int .i64 b2] 24)).drew := ⟨_, rfl⟩
  have g4 : W3.grownBy W4 none := by rw [hW4]; exact (World.grownBy_alloc W3 _ none).trans (grownBy_drew1 _ _)
  have hz4 : W4.heap.size = W3.heap.size + 1 := by rw [hW4]; simp [World.drew]
  have a4 : ∀ j, j < W1.heap.size → j ≠ m → W4.heap[j]? = W1.heap[j]? := fun j hj hm => (g4.block j (by omega) (by simp)).trans (a3 j hj hm)
  have hv4 : W4.heap[W3.heap.size]? = some (.cells #[.int .i64 b1, .int .i64 b2] 24 (0, 0)) := by rw [hW4]; exact World.alloc_heap_new W3 _
  refine ⟨rfl, hL.cells (a2 t (by omega)) (a2 _ hl0) (a2 _ hl1), hL.cells (a2 t (by omega)) (a2 _ hl0) (a2 _ hl1), W3, hr3, hL.cells (a3 t (by omega) htm) (a3 _ hl0 h0m) (a3 _ hl1 h1m), hL.cells (a3 t (by omega) htm) (a3 _ hl0 h0m) (a3 _ hl1 h1m), slv (f (p1, p2)), hlook _ (a3 k hkw (Ne.symm hsm.ne)), ?_⟩
  rw [← hW4]
  refine ⟨hlook _ (a4 k hkw (Ne.symm hsm.ne)), hL.cells (a4 t (by omega) htm) (a4 _ hl0 h0m) (a4 _ hl1 h1m), ?_⟩
  have hI := dinsert_dots 0 (slv (f (p1, p2))) (rkL kdl (kidS S (p1, p2)) (⟨(b1, b2), (p1, p2), ky⟩ : Sp)) W3.heap.size (kidB S (p1, p2)) (b1, b2) W4 (by unfold kidB; rw [List.length_map]; exact rk_le _ _ _) hkl (Nat.zero_le _) (row_kept (hsm.rw.row (p1, p2)) (fun q e => a4 _ (hrow _ _ e).1 (hrow _ _ e).2.1)) (fun e => by obtain ⟨q, e1, e2⟩ := hob _ e; have := (hrow _ _ e1).1; omega) hv4
  refine hI.mono ?_
  rintro e W5 ⟨g, c, rfl, ho, g5, hg⟩
  have hz5 := g5.size
  have a5 : ∀ j, j < W1.heap.size → j ≠ m → (∀ q, f (p1, p2) = some q → j ≠ q.1) → W5.heap[j]? = W1.heap[j]? := fun j hj hm hq => (g5.block j (by omega) (fun e => by obtain ⟨q, e1, e2⟩ := hob j e.symm; exact hq q e1 e2.symm)).trans (a4 j hj hm)
  have hkr : ∀ q, f (p1, p2) = some q → k ≠ q.1 := fun q e => Ne.symm (hrow _ _ e).2.2.1
  obtain ⟨W6, hr6, hk6, g6⟩ := KM.put (w := W5) (hsm.km.same (a5 k hkw (Ne.symm hsm.ne) hkr)) hdp (g, (kidB S (p1, p2)).length + 1, c) (by unfold maxLen; omega)
  have a6 : ∀ j, j < W1.heap.size → j ≠ m → j ≠ k → (∀ q, f (p1, p2) = some q → j ≠ q.1) → W6.heap[j]? = W1.heap[j]? := fun j hj hm hk hq => (g6.block j (by omega) (by simpa using hk)).trans (a5 j hj hm hq)
  have q0 : ∀ q, f (p1, p2) = some q → w.heap.size ≠ q.1 := fun q e => Ne.symm (hrow _ _ e).2.2.2.2.1
  have q1 : ∀ q, f (p1, p2) = some q → w.heap.size + 1 ≠ q.1 := fun q e => Ne.symm (hrow _ _ e).2.2.2.2.2
  have qt : ∀ q, f (p1, p2) = some q → t ≠ q.1 := fun q e => Ne.symm (hrow _ _ e).2.2.2.1
  refine ⟨_, W6, rfl, hL.cells (a5 t (by omega) htm qt) (a5 _ hl0 h0m q0) (a5 _ hl1 h1m q1), hr6, hL.cells (a6 t (by omega) htm htk qt) (a6 _ hl0 h0m h0k q0) (a6 _ hl1 h1m h1k q1), hid ?_⟩
  exact lay_fin (s := (⟨(b1, b2), (p1, p2), ky⟩ : Sp)) hBt hBs htw hsm hnd h2 hp3 g3' g4 g5 ho hg hk6 g6

theorem plmap_none (W : World) : (binOp .eql 111 (.map none) (.map none)).run Tryz.prog W = .ok (.bool true) W := by
  have hd : Op.maxDepth = (Op.maxDepth - 1) + 1 := by decide
  simp only [binOp, Op.equal]
  rw [hd]
  simp [Op.equalIn, run_underlying Tryz.underlying111]
theorem plmap_some (b : Nat) (W : World) : (binOp .eql 111 (.map (some b)) (.map none)).run Tryz.prog W = .ok (.bool false) W := by
  have hd : Op.maxDepth = (Op.maxDepth - 1) + 1 := by decide
  simp only [binOp, Op.equal]
  rw [hd]
  simp [Op.equalIn, run_underlying Tryz.underlying111]
end

section
set_option linter.unusedVariables false
open Go.RowKit Go.Shelf

/-- What the closure may turn: what is no cells, or a place's cells. -/
def TurnsT (o : Obj) : Prop := o.isCells = false ∨ ∃ cs fz, o = .cells cs 113 fz

/-- It abides the turn of such a block, at or beyond B. -/
def OwnT {β : Type} (B : Nat) (I : β → World → Prop) : Prop :=
  ∀ s W W' row, I s W → W.grownBy W' row → (∀ r, row = some r → B ≤ r ∧ ∃ o : Obj, W.heap[r]? = some o ∧ TurnsT o) → I s W'

theorem OwnT.putObj {β : Type} {B : Nat} {I : β → World → Prop} (h : OwnT B I) {s : β} {W : World} {l : Nat} {o : Obj} (o' : Obj) (hs : I s W) (hB : B ≤ l) (hl : W.heap[l]? = some o) (ho : o.isCells = false) : I s (W.putObj l o') :=
  h s W _ (some l) hs (grownBy_putObj' W l o') (fun r e => by cases e; exact ⟨hB, o, hl, Or.inl ho⟩)
theorem OwnT.alloc {β : Type} {B : Nat} {I : β → World → Prop} (h : OwnT B I) {s : β} {W : World} (o : Obj) (hs : I s W) : I s (W.alloc o) :=
  h s W _ none hs (World.grownBy_alloc W o none) (fun r e => by cases e)
theorem OwnT.drew {β : Type} {B : Nat} {I : β → World → Prop} (h : OwnT B I) {s : β} {W : World} (hs : I s W) : I s W.drew :=
  h s W _ none hs ⟨rfl, rfl, rfl, Nat.le_refl _, fun _ _ _ => rfl⟩ (fun r e => by cases e)

/-- What a closure that is ranged over does: it hands elements to yield, one by one, till a round says 'no more'. lb: what it captured. -/
def SeqU {α : Type} (n : Nat) (P : Program) (gf : Nat) (lb : Array Value) (encs : α → Array Value) (Kp : World → World → Prop) (S Sp : List α → Prop) (N : Nat) (w : World) : Prop :=
  ∀ (l : Nat) (J Jx : List α → World → Prop) (W : World), Below w.heap.size w W → OwnT W.heap.size J → OwnT W.heap.size Jx →
    (∀ pre x W1, J pre W1 → pre.length < N → YieldAt Fence.wide (n - 1) P l (encs x) W1 fun e W' =>
      (e = .returned (.bool true) ∧ J (pre ++ [x]) W' ∧ Kp W1 W' ∧ KeepsFrom W.heap.size W1 W') ∨ (e = .returned (.bool false) ∧ Jx (pre ++ [x]) W' ∧ KeepsFrom W.heap.size W1 W')) →
    J [] W →
    CallsIn Fence.wide n P gf (#[.func (.yield l) #[] #[]] ++ lb) W fun e W' => (∃ v, e = .returned v) ∧ ((∃ xs, S xs ∧ J xs W') ∨ (∃ pre, Sp pre ∧ Jx pre W'))

/-- What a round keeps: all cells but one's own, all places' cells, all maps below. -/
structure KU (n₀ : Nat) (own : Nat → Prop) (W W' : World) : Prop where
  size : W.heap.size ≤ W'.heap.size
  cells : ∀ (k : Nat) (cs : Array Value) (ty : TypeId) (fz : Nat × Nat), W.heap[k]? = some (.cells cs ty fz) → (¬ own k ∨ ty = 113) → W'.heap[k]? = some (.cells cs ty fz)
  maps : ∀ (k : Nat), k < n₀ → ∀ es c, W.heap[k]? = some (.map es c) → W'.heap[k]? = some (.map es c)

theorem KU.trans {n₀ : Nat} {own : Nat → Prop} {A B C : World} (h : KU n₀ own A B) (k : KU n₀ own B C) : KU n₀ own A C :=
  ⟨Nat.le_trans h.size k.size, fun i cs ty fz hi hn => k.cells i cs ty fz (h.cells i cs ty fz hi hn) hn, fun i hi es c he => k.maps i hi es c (h.maps i hi es c he)⟩

theorem KU.put {n₀ : Nat} {own : Nat → Prop} (W : World) (l : Nat) (o o' : Obj) (hl : n₀ ≤ l) (ho : W.heap[l]? = some o) (hc : o.isCells = false) : KU n₀ own W (W.putObj l o') :=
  ⟨by simp [World.putObj], fun k cs ty fz hk _ => (World.putObj_heap_other (fun e => by subst e; rw [ho] at hk; cases hk; cases hc)).trans hk, fun k hk es c he => (World.putObj_heap_other (by omega)).trans he⟩

theorem KU.below {n₀ : Nat} {own : Nat → Prop} {W W' : World} (h : Below W.heap.size W W') (hn : n₀ ≤ W.heap.size) : KU n₀ own W W' :=
  ⟨h.size, fun k cs ty fz hk _ => (h.block k (Array.getElem?_eq_some_iff.1 hk).1).trans hk, fun k hk es c he => (h.block k (by omega)).trans he⟩

theorem KU.cell {n₀ : Nat} {own : Nat → Prop} {W W' : World} (h : KU n₀ own W W') {b j : Nat} {v : Value} (hc : W.cell? ⟨b, j, none⟩ = some v) (hn : ¬ own b) : W'.cell? ⟨b, j, none⟩ = some v := by
  simp only [World.cell?] at hc ⊢
  cases hb : W.heap[b]? with
  | none => rw [hb] at hc; simp at hc
  | some o =>
    rw [hb] at hc
    cases o with
    | cells cs ty fz => rw [h.cells b cs ty fz hb (Or.inl hn)]; simpa using hc
    | _ => simp at hc

/-- The places, in a map below. -/
def PlB (n₀ : Nat) (w : World) (mv : Value) (S : List Sp) : Prop := (mv = .map none ∧ S = []) ∨ ∃ m, mv = .map (some m) ∧ m < n₀ ∧ PLM w m S

theorem PlB.v {n₀ : Nat} {w : World} {mv : Value} {S : List Sp} (h : PlB n₀ w mv S) : PlV w mv S := by
  rcases h with h | ⟨m, e, _, h⟩
  · exact Or.inl h
  · exact Or.inr ⟨m, e, h⟩
theorem PlV.b {w : World} {mv : Value} {S : List Sp} (h : PlV w mv S) : PlB w.heap.size w mv S := by
  rcases h with h | ⟨m, e, h⟩
  · exact Or.inl h
  · exact Or.inr ⟨m, e, h.lt, h⟩
theorem PlB.same {n₀ : Nat} {w w' : World} {mv : Value} {S : List Sp} (h : PlB n₀ w mv S) (hs : ∀ k, k < n₀ → ∀ es c, w.heap[k]? = some (.map es c) → w'.heap[k]? = some (.map es c)) : PlB n₀ w' mv S := by
  rcases h with h | ⟨m, e, hm, h⟩
  · exact Or.inl h
  · refine Or.inr ⟨m, e, hm, ?_⟩
    obtain ⟨D, ⟨es, clock, h1, h2⟩, hT⟩ := h
    exact ⟨D, ⟨es, clock, hs m hm es clock h1, h2⟩, hT⟩

variable {n : Nat} {P : Program}

theorem range_up {α : Type} {g : Operand} {ps : Array Tmp} {assign body : Code} {Q : Exit → Act → World → Prop} {a : Act} {w : World}
    {gf : Nat} {lb : Array Value} (hg : a.eval g = .func (.func gf) #[] lb) (eg : ∀ args w, (callFunc gf args).run P w = .ok (.enter gf args) w)
    {encs : α → Array Value} {Kp : World → World → Prop} {S Sp : List α → Prop} {N : Nat} {w0 : World} (hseq : SeqU (n - 1) P gf lb encs Kp S Sp N w0)
    (hKt : ∀ {A B C : World}, Kp A B → Kp B C → Kp A C) (hKb : ∀ (W : World) (l : Nat) (o o' : Obj), w.heap.size ≤ l → W.heap[l]? = some o → o.isCells = false → o.isWalk = false → Kp W (W.putObj l o')) (hb0 : Below w0.heap.size w0 w) (hps : ∀ x, (encs x).size = ps.size)
    (I : List α → World → Prop) (Ix : Code → List α → World → Prop) (hI : OwnT w.heap.size I) (hIx : ∀ c, OwnT w.heap.size (Ix c)) (h0 : I [] w) (Ax : α → Act → World → Prop) (hAx : ∀ x a', OwnT w.heap.size (fun (_ : Unit) W => Ax x a' W))
    (hassign : ∀ (l : Nat) (pre : List α) (x : α) (W : World) (K : Act → World → Prop), I pre W → (∀ a' W', KeepsFrom w.heap.size W W' → Kp W W' → I pre W' → Ax x a' W' → K a' W') →
      assign.wpIn (Fence.wide.inRound l) (n - 1 - 1) P (Exit.then K (fun _ _ _ => False)) { tmps := (ps.zip (encs x)).foldl (fun t (p, v) => t.setIfInBounds p v) a.tmps, defers := [] } W)
    (hbody : ∀ (l : Nat) (pre : List α) (x : α) (a' : Act) (W : World), I pre W → Ax x a' W → pre.length < N → body.wpIn (Fence.wide.inRound l) (n - 1 - 1) P (ownPostG w.heap.size Kp I Ix (pre ++ [x]) W) a' W)
    (hdone : ∀ (D : Nat) (xs : List α) (W : World), w.heap.size ≤ D → S xs → I xs W → W.heap[D]? = some (.deferred (some [])) → Q .normal { a with defers := { target := .collected D, args := #[] } :: a.defers } W)
    (hstop : ∀ (D : Nat) (c : Code) (pre : List α) (W : World), w.heap.size ≤ D → Sp pre → Ix c pre W → W.heap[D]? = some (.deferred (some [])) → c.wpIn Fence.wide n P Q { a with defers := { target := .collected D, args := #[] } :: a.defers } W) :
    (Code.rangeFunc g ps assign body).wpIn Fence.wide n P Q a w := by
  refine wpIn_rangeFunc fun fn hfn => ?_
  obtain ⟨lp, hlp⟩ : ∃ lp : LoopState → Option Code → Loop, lp = fun st pe => { state := st, pending := pe, fn, tmps := a.tmps, params := ps, assign, body, defers := w.heap.size } := ⟨_, rfl⟩
  obtain ⟨V, hV⟩ : ∃ V, (w.alloc (.deferred (some []))).alloc (.loop (lp .ready none)) = V := ⟨_, rfl⟩
  have hVs : V.heap.size = w.heap.size + 2 := by rw [← hV]; simp
  have hVl : V.heap[w.heap.size + 1]? = some (.loop (lp .ready none)) := by
    rw [← hV]
    have := World.alloc_heap_new (w.alloc (.deferred (some []))) (.loop (lp .ready none))
    rwa [World.size_alloc] at this
  have hVd : V.heap[w.heap.size]? = some (.deferred (some [])) := by
    rw [← hV]
    exact (Below.heap_alloc _ _ _ (by simp)).trans (World.alloc_heap_new w _)
  have hVI : I [] V := by rw [← hV]; exact hI.alloc _ (hI.alloc _ h0)
  have hVb : Below w0.heap.size w0 V := by
    rw [← hV]
    exact hb0.trans ((((Below.refl _ w).alloc (Nat.le_refl _) _).alloc (by simp) _).mono hb0.size)
  refine ⟨w.heap.size + 1, [{ target := .collected w.heap.size, args := #[] }], V, { target := .fn (.func gf) lb, args := #[.func (.yield (w.heap.size + 1)) #[] #[]] }, V, gf, #[.func (.yield (w.heap.size + 1)) #[] #[]] ++ lb, V, ?_, ?_, ?_, ?_, ?_, ?_⟩
  · rw [← hV, hlp]; exact run_enterLoop_outer _ _ _ _ _
  · simp only [resolve, hg]
    simp [go_sem]
  · intro f' _; trivial
  · simp [invoke, go_sem, eg]
  · intro h; simp [Fence.wide] at h
  · have hnw : ∀ {A : World} {row : Option Nat}, (∀ r, row = some r → V.heap.size ≤ r ∧ ∃ o : Obj, A.heap[r]? = some o ∧ TurnsT o) → (∀ r, row = some r → w.heap.size ≤ r ∧ ∃ o : Obj, A.heap[r]? = some o ∧ TurnsT o) := fun hr r e => by
      obtain ⟨hB, o, ho, hw⟩ := hr r e
      exact ⟨by omega, o, ho, hw⟩
    have hst : ∀ {A B : World} {row : Option Nat} {k : Nat} {o : Obj}, A.grownBy B row → (∀ r, row = some r → V.heap.size ≤ r ∧ ∃ o : Obj, A.heap[r]? = some o ∧ TurnsT o) → k < V.heap.size → A.heap[k]? = some o → B.heap[k]? = some o := fun {A B row k o} hg' hr hk ho =>
      (hg'.block k (Array.getElem?_eq_some_iff.1 ho).1 (fun e => by have := (hr k e.symm).1; omega)).trans ho
    have hput : ∀ (A : World) (o' : Obj), KeepsFrom V.heap.size A (A.putObj (w.heap.size + 1) o') := fun A o' => ⟨by simp [World.putObj], fun k o hk ho _ => (World.putObj_heap_other (by omega)).trans ho⟩
    have hround : ∀ pre x W, (I pre W ∧ W.heap[w.heap.size + 1]? = some (.loop (lp .ready none)) ∧ W.heap[w.heap.size]? = some (.deferred (some []))) → pre.length < N → YieldAt Fence.wide (n - 1 - 1) P (w.heap.size + 1) (encs x) W fun e W' =>
        (e = .returned (.bool true) ∧ (I (pre ++ [x]) W' ∧ W'.heap[w.heap.size + 1]? = some (.loop (lp .ready none)) ∧ W'.heap[w.heap.size]? = some (.deferred (some []))) ∧ Kp W W' ∧ KeepsFrom V.heap.size W W') ∨ (e = .returned (.bool false) ∧ (∃ c, Ix c (pre ++ [x]) W' ∧ W'.heap[w.heap.size + 1]? = some (.loop (lp .done (some c))) ∧ W'.heap[w.heap.size]? = some (.deferred (some []))) ∧ KeepsFrom V.heap.size W W') := by
      rintro pre x W ⟨hi, hl, hk⟩ hlen
      have hlt : w.heap.size + 1 < W.heap.size := (Array.getElem?_eq_some_iff.1 hl).1
      have hy := run_yield (P := P) (args := encs x) hl (by rw [hlp]; exact hps x)
      rw [hlp] at hy
      refine ⟨fn, _, assign, body, hy, roundIn_of_wpIn hfn (hassign _ pre x W _ hi ?_)⟩
      intro a' Wa hkfa hkpa hia hax
      replace hl := hkfa.same _ _ (by omega) hl rfl
      replace hk := hkfa.same _ _ (Nat.le_refl _) hk rfl
      replace hlt : w.heap.size + 1 < Wa.heap.size := (Array.getElem?_eq_some_iff.1 hl).1
      refine ⟨_, run_beginRound hl (by rw [hlp]), ?_⟩
      obtain ⟨W2, hW2⟩ : ∃ W2, W2 = Wa.putObj (w.heap.size + 1) (.loop { lp .ready none with state := .busy }) := ⟨_, rfl⟩
      have hl2 : W2.heap[w.heap.size + 1]? = some (.loop { lp .ready none with state := .busy }) := by rw [hW2]; exact World.putObj_heap_same hlt
      have hk2 : W2.heap[w.heap.size]? = some (.deferred (some [])) := by rw [hW2]; exact (World.putObj_heap_other (by omega)).trans hk
      have hw2 : Kp W W2 := by rw [hW2]; exact hKt hkpa (hKb _ _ _ _ (by omega) hl rfl rfl)
      have hi2 : I pre W2 := by rw [hW2]; exact hI.putObj _ hia (by omega) hl rfl
      have hax2 : Ax x a' W2 := by rw [hW2]; exact (hAx x a').putObj (s := ()) _ hax (by omega) hl rfl
      have hf2 : KeepsFrom V.heap.size W W2 := by rw [hW2]; exact KeepsFrom.trans ⟨hkfa.size, fun k o hk ho hc => hkfa.same k o (by omega) ho hc⟩ (hput _ _)
      rw [← hW2]
      refine wpIn_mono (hbody _ pre x a' W2 hi2 hax2 hlen) ?_
      have fin : ∀ (jump : Option Code) (W3 : World), KeepsFrom w.heap.size W2 W3 →
          (Instr.endRound (w.heap.size + 1) jump).run P W3 = .ok (.bool jump.isNone) (W3.putObj (w.heap.size + 1) (.loop (lp (if jump.isNone then .ready else .done) jump))) ∧
          W3.heap[w.heap.size + 1]? = some (.loop { lp .ready none with state := .busy }) ∧
          (W3.putObj (w.heap.size + 1) (.loop (lp (if jump.isNone then .ready else .done) jump))).heap[w.heap.size + 1]? = some (.loop (lp (if jump.isNone then .ready else .done) jump)) ∧
          (W3.putObj (w.heap.size + 1) (.loop (lp (if jump.isNone then .ready else .done) jump))).heap[w.heap.size]? = some (.deferred (some [])) := fun jump W3 hk3 => by
        have hl3 := hk3.same _ _ (by omega) hl2 rfl
        have hrun := run_endRound (P := P) jump hl3
        rw [hlp] at hrun ⊢
        exact ⟨hrun, by rw [hlp] at hl3; exact hl3, World.putObj_heap_same (Array.getElem?_eq_some_iff.1 hl3).1, (World.putObj_heap_other (by omega)).trans (hk3.same _ _ (Nat.le_refl _) hk2 rfl)⟩
      have leave : ∀ (c : Code) (W3 : World), KeepsFrom w.heap.size W2 W3 → Ix c (pre ++ [x]) W3 → ∃ v W4, (Instr.endRound (w.heap.size + 1) (some c)).run P W3 = .ok v W4 ∧ ((Ending.returned v = .returned (.bool true) ∧ (I (pre ++ [x]) W4 ∧ W4.heap[w.heap.size + 1]? = some (.loop (lp .ready none)) ∧ W4.heap[w.heap.size]? = some (.deferred (some []))) ∧ Kp W W4 ∧ KeepsFrom V.heap.size W W4) ∨ (Ending.returned v = .returned (.bool false) ∧ (∃ c, Ix c (pre ++ [x]) W4 ∧ W4.heap[w.heap.size + 1]? = some (.loop (lp .done (some c))) ∧ W4.heap[w.heap.size]? = some (.deferred (some []))) ∧ KeepsFrom V.heap.size W W4)) := fun c W3 hk3 hi3 => by
        obtain ⟨hr, hl3, hl4, hk4⟩ := fin (some c) W3 hk3
        exact ⟨_, _, hr, .inr ⟨rfl, ⟨c, (hIx _).putObj _ hi3 (by omega) hl3 rfl, hl4, hk4⟩, (hf2.trans ⟨hk3.size, fun k o hk ho hc => hk3.same k o (by omega) ho hc⟩).trans (hput _ _)⟩⟩
      rintro e a3 W3 hp
      cases e with
      | normal =>
        obtain ⟨hk3, hkp3, hi3⟩ := hp
        obtain ⟨hr, hl3, hl4, hk4⟩ := fin none W3 hk3
        exact ⟨_, _, hr, .inl ⟨rfl, ⟨hI.putObj _ hi3 (by omega) hl3 rfl, hl4, hk4⟩, hKt (hKt hw2 hkp3) (hKb _ _ _ _ (by omega) hl3 rfl rfl), (hf2.trans ⟨hk3.size, fun k o hk ho hc => hk3.same k o (by omega) ho hc⟩).trans (hput _ _)⟩⟩
      | ret => exact leave _ W3 hp.1 hp.2
      | exit id => exact leave _ W3 hp.1 hp.2
      | goto t => exact leave _ W3 hp.1 hp.2
      | panic ch => exact hp.elim
      | outgrown => exact hp.elim
    refine (hseq (w.heap.size + 1)
      (fun pre W => I pre W ∧ W.heap[w.heap.size + 1]? = some (.loop (lp .ready none)) ∧ W.heap[w.heap.size]? = some (.deferred (some [])))
      (fun pre W => ∃ c, Ix c pre W ∧ W.heap[w.heap.size + 1]? = some (.loop (lp .done (some c))) ∧ W.heap[w.heap.size]? = some (.deferred (some [])))
      V hVb
      (fun s A B row hs hg' hr => ⟨hI s A B row hs.1 hg' (hnw hr), hst hg' hr (by omega) hs.2.1, hst hg' hr (by omega) hs.2.2⟩)
      (fun s A B row hs hg' hr => by
        obtain ⟨c, hc, hl, hk⟩ := hs
        exact ⟨c, hIx c s A B row hc hg' (hnw hr), hst hg' hr (by omega) hl, hst hg' hr (by omega) hk⟩)
      hround ⟨hVI, hVl, hVd⟩).mono ?_
    rintro e W2 ⟨⟨v, rfl⟩, (⟨xs, hS, hi, hl, hk⟩ | ⟨pre, hSp, c, hi, hl, hk⟩)⟩
    · exact ⟨none, _, by have hrun := run_endLoop (P := P) hl (by rw [hlp]; simp); rw [hlp] at hrun; exact hrun, hdone _ xs _ (Nat.le_refl _) hS (hI.putObj _ hi (by omega) hl rfl) ((World.putObj_heap_other (by omega)).trans hk)⟩
    · exact ⟨some c, _, by have hrun := run_endLoop (P := P) hl (by rw [hlp]; simp); rw [hlp] at hrun; exact hrun, hstop _ c pre _ (Nat.le_refl _) hSp ((hIx c).putObj _ hi (by omega) hl rfl) ((World.putObj_heap_other (by omega)).trans hk)⟩
end
end Go.Proofs.YtnmdcdphpcpojaaGreatDoor
