/- New, There, Parent, Took, Kids. -/
import Derived.Test.YtplcohjpchfkkaaTrMove
import Derived.Test.YtplcohjpchfkkaaMKeys
set_option linter.unusedVariables false
set_option linter.unusedSimpArgs false
namespace Go.Proofs.Ytplcohjpchfkkaa
open Go.RowKit

/-- now, of a tree as its users see it. -/
theorem now_tt {t : Nat} {l : List Mv} {A : Nat → Prop} {w : World} (h : TT w t l A) :
    Calls Try.prog 39 #[.pointer (some ⟨t, 0, none⟩)] w fun e w' => e = .returned (.pointer (some ⟨t, 3, none⟩)) ∧ ∃ gs S lg fd pl kd fl B A', TR w' t l l.length gs S lg fd pl kd fl B A' ∧ fl.length = l.length ∧ (∀ (i g : Nat) (m : Mv), gs[i]? = some g → l[i]? = some m → (m, g) ∈ fl) ∧ (∀ x ∈ fl, ∃ i : Nat, gs[i]? = some x.2 ∧ l[i]? = some x.1) ∧ KA w w' A A' := by
  obtain ⟨k, gs, S, lg, fd, pl, kd, fl, B, h1, h2, h3, h4⟩ := h
  refine (now_any t l k gs S lg fd pl kd fl B A w h1).mono ?_
  rintro e w' ⟨e1, S', pl', kd', B', A', h5, h6⟩
  exact ⟨e1, gs, S', lg, fd, pl', kd', fl, B', A', h5, h2, h3, h4, h6⟩

theorem TR.tt {w : World} {t : Nat} {l : List Mv} {k : Nat} {gs : List Nat} {S : List Sp} {lg fd pl kd : Value} {fl : List (Mv × Nat)} {B A : Nat → Prop} (h : TR w t l k gs S lg fd pl kd fl B A) (h2 : fl.length = l.length) (h3 : ∀ (i g : Nat) (m : Mv), gs[i]? = some g → l[i]? = some m → (m, g) ∈ fl) (h4 : ∀ x ∈ fl, ∃ i : Nat, gs[i]? = some x.2 ∧ l[i]? = some x.1) : TT w t l A := ⟨k, gs, S, lg, fd, pl, kd, fl, B, h, h2, h3, h4⟩

theorem TR.lk_run {w : World} {t : Nat} {l : List Mv} {gs : List Nat} {S : List Sp} {lg fd pl kd : Value} {fl : List (Mv × Nat)} {B A : Nat → Prop} (h : TR w t l l.length gs S lg fd pl kd fl B A) : S.Perm (run l) ∧ (∀ d, lk S d = lk (run l) d) ∧ (∀ p, kidB S p = kidB (run l) p) ∧ (∀ d, pth S d = pth (run l) d) := by
  have hp := h.perm
  rw [List.take_length] at hp
  obtain ⟨r, hr⟩ := h.tk
  exact ⟨hp, lk_perm hr.nd hp, fun p => by unfold kidB; rw [kidS_perm hr.nd hp p], hr.pth_perm hp⟩

theorem KA.pre {w V X : World} {A A' : Nat → Prop} (hA : ∀ j, A j → j < w.heap.size) (hb : Below w.heap.size w V) (h : KA V X A A') : KA w X A A' :=
  (KA.below (A := A) hb).trans h
theorem KA.post {w V X : World} {A A' : Nat → Prop} (h : KA w V A A') (hb : Below V.heap.size V X) : KA w X A A' := h.trans (KA.below (A := A') hb)

theorem new_tt (w : World) : Calls Try.prog 10 #[] w fun e w' => e = .returned (.pointer (some ⟨w.heap.size, 0, none⟩)) ∧ TT w' w.heap.size [] (fun j => j = w.heap.size) ∧ Below w.heap.size w w' := by
  have hb : Below w.heap.size w (w.alloc (.cells #[.slice none 0 0, .map none, .int .i64 0, .map none, .map none] 68)) := (Below.refl _ w).alloc (Nat.le_refl _) _
  have hn : (w.alloc (.cells #[.slice none 0 0, .map none, .int .i64 0, .map none, .map none] 68)).heap[w.heap.size]? = some (.cells #[.slice none 0 0, .map none, .int .i64 0, .map none, .map none] 68 (0, 0)) := World.alloc_heap_new w _
  have HF : Hid (TT (w.alloc (.cells #[.slice none 0 0, .map none, .int .i64 0, .map none, .map none] 68)) w.heap.size [] (fun j => j = w.heap.size)) := hid
    ⟨0, [], [], .slice none 0 0, .map none, .map none, .map none, [], fun _ => False, ⟨hn, World.ownsRow_nil _ _ _ _, rfl, List.nodup_nil, fun i g m h1 h2 => by simp at h1, Nat.le_refl _, Or.inl ⟨rfl, rfl, rfl⟩, List.Perm.refl _, Lg.nil, by simp, fun j hj => hj.elim, fun hj => hj, fun g hg => by simp at hg, fun j hj => by simp [Value.ownBlock] at hj, Or.inl ⟨rfl, rfl⟩, by simp, fun j hj => hj.elim, rfl, fun g hg => by simp at hg, fun j hj => by simp [Value.ownBlock] at hj, fun j hj => by subst hj; simp⟩, rfl, fun i g m h1 h2 => by simp at h1, by simp⟩
  have HB := hid hb
  clear hb hn
  go_enter Try.func10, Try.ntmps10
  go_wp2
  go_ret
  exact ⟨rfl, HF.out, HB.out⟩

set_option maxRecDepth 100000 in
set_option maxHeartbeats 4000000 in
theorem there_tt (t : Nat) (l : List Mv) (A : Nat → Prop) (d : Dt) (w : World) (h : TT w t l A) (hd : Dw d) :
    Calls Try.prog 25 #[.pointer (some ⟨t, 0, none⟩), dv d] w fun e w' => e = .returned (.bool (lk (run l) d).isSome) ∧ ∃ A', TT w' t l A' ∧ KA w w' A A' := by
  obtain ⟨d1, d2⟩ := d
  have hmxo : Try.prog.follows .mixedOrders = true := by kernel_rfl
  obtain ⟨W0, hW0⟩ : ∃ W0, W0 = w.alloc (.cells #[.int .i64 d1, .int .i64 d2] 24) := ⟨_, rfl⟩
  have hB0 : Below w.heap.size w W0 := by rw [hW0]; exact (Below.refl _ w).alloc (Nat.le_refl _) _
  have hb0 : W0.heap[w.heap.size]? = some (.cells #[.int .i64 d1, .int .i64 d2] 24 (0, 0)) := by rw [hW0]; exact World.alloc_heap_new w _
  have hl0 := (Array.getElem?_eq_some_iff.1 hb0).1
  have hAH : ¬ A w.heap.size := fun e => by have := h.lt _ e; omega
  have hTT := h.below hB0
  have hT0 : TT W0.drew t l A := hTT.same (Nat.le_refl _) (fun j _ => rfl)
  obtain ⟨Bv, hBv⟩ : ∃ Bv, Bv = (lk (run l) (d1, d2)).isSome := ⟨_, rfl⟩
  have HN := (now_tt hT0).mono (R' := fun e W1 => e = .returned (.pointer (some ⟨t, 3, none⟩)) ∧ (W1.cell? ⟨w.heap.size, 0, none⟩ = some (.int .i64 d1) ∧ W1.cell? ⟨w.heap.size, 1, none⟩ = some (.int .i64 d2)) ∧ Calls Try.prog 43 #[.pointer (some ⟨t, 3, none⟩), .agg #[.int .i64 d1, .int .i64 d2]] W1 fun e W2 => e = .returned (.bool Bv) ∧ (W2.cell? ⟨w.heap.size, 0, none⟩ = some (.int .i64 d1) ∧ W2.cell? ⟨w.heap.size, 1, none⟩ = some (.int .i64 d2)) ∧ Hid (∃ A', TT W2 t l A' ∧ KA w W2 A A')) (fun e W1 hh => by
    obtain ⟨e1, gs, S, lg, fd, pl, kd, fl, B, A', h1, h2, h3, h4, h5⟩ := hh
    obtain ⟨q1, q2, q3, q4⟩ := h1.lk_run
    have c0 : W1.heap[w.heap.size]? = _ := (h5.keep w.heap.size hl0 hAH).trans hb0
    have htb := h1.tb
    unfold TB at htb
    refine ⟨e1, ⟨by simp [World.cell?, c0], by simp [World.cell?, c0]⟩, ?_⟩
    refine (there_any t 3 pl S (d1, d2) hd W1 (by simp [World.cell?, htb]) h1.sb.v).mono ?_
    rintro e W2 ⟨e2, hb⟩
    have c2 : W2.heap[w.heap.size]? = _ := (hb.block w.heap.size (Array.getElem?_eq_some_iff.1 c0).1).trans c0
    refine ⟨by rw [e2, q2, hBv], ⟨by simp [World.cell?, c2], by simp [World.cell?, c2]⟩, hid ⟨A', (h1.tt h2 h3 h4).below hb, ?_⟩⟩
    exact (KA.pre h.lt (hB0.trans ((((Far.refl W0).drewN 1).below).mono hB0.size)) h5).post hb)
  have hS0 : W0.drew.cell? ⟨w.heap.size, 0, none⟩ = some (.int .i64 d1) ∧ W0.drew.cell? ⟨w.heap.size, 1, none⟩ = some (.int .i64 d2) := ⟨by show W0.cell? _ = _; simp [World.cell?, hb0], by show W0.cell? _ = _; simp [World.cell?, hb0]⟩
  have HW := hid hW0
  have HBV := hid hBv
  rw [← HBV.out]
  clear hW0 hB0 hb0 hl0 hAH hTT hT0 hBv h
  go_enter Try.func25, Try.ntmps25
  go_wp2_with fail
  rw [← HW.out]
  refine wp_region_held_drew (S := fun w' => w'.cell? ⟨w.heap.size, 0, none⟩ = some (.int .i64 d1) ∧ w'.cell? ⟨w.heap.size, 1, none⟩ = some (.int .i64 d2)) hmxo hS0 ?_
  intro _
  refine wpAnyH_take (i := 0) (v := .pointer (some ⟨t, 0, none⟩)) rfl (by kernel_rfl) (by kernel_rfl) (by kernel_rfl) (fun _ _ _ h => h) (Or.inl ⟨by kernel_rfl, fun w hSw => ?_⟩) hS0 ?_
  · obtain ⟨e1, e2⟩ := hSw; go_simp
  simp only [Act.put, List.getElem_toArray, List.getElem_cons_succ, List.getElem_cons_zero, List.setIfInBounds_toArray, List.set_cons_zero, List.set_cons_succ]
  refine wpAnyH_take (i := 2) (v := .agg #[.int .i64 d1, .int .i64 d2]) rfl (by kernel_rfl) (by kernel_rfl) (by kernel_rfl) (fun _ _ _ h => h) (Or.inl ⟨by kernel_rfl, fun w hSw => ?_⟩) hS0 ?_
  · obtain ⟨e1, e2⟩ := hSw; go_simp
  simp only [Act.put, List.getElem_toArray, List.getElem_cons_succ, List.getElem_cons_zero, List.setIfInBounds_toArray, List.set_cons_zero, List.set_cons_succ]
  refine wpAnyH_ready (rs := [1]) (by kernel_rfl) (by simp) ?_
  refine AllReadyH.cons rfl (fun K hK => ?_) AllReadyH.nil
  go_simp
  refine HN.mono ?_
  rintro e W1 ⟨rfl, S1, HT⟩
  refine hK.out _ _ S1 (fun _ => ?_)
  clear hK K
  refine wpAnyH_ready (rs := [3]) (by kernel_rfl) (by simp) ?_
  refine AllReadyH.cons rfl (fun K hK => ?_) AllReadyH.nil
  go_simp
  refine HT.mono ?_
  rintro e W2 ⟨rfl, S2, HF⟩
  refine hK.out _ _ S2 (fun _ => ?_)
  clear hK K
  refine wpAnyH_take (i := 4) (v := .bool Bv) rfl (by kernel_rfl) (by kernel_rfl) (by kernel_rfl) (fun _ _ _ h => h) (Or.inl ⟨by kernel_rfl, fun w hSw => ?_⟩) S2 ?_
  · obtain ⟨e1, e2⟩ := hSw; go_simp
  simp only [Act.put, List.getElem_toArray, List.getElem_cons_succ, List.getElem_cons_zero, List.setIfInBounds_toArray, List.set_cons_zero, List.set_cons_succ]
  refine wpAnyH_done (by kernel_rfl) ?_ _
  go_wp2
  go_ret
  exact ⟨rfl, HF.out⟩
end Go.Proofs.Ytplcohjpchfkkaa
