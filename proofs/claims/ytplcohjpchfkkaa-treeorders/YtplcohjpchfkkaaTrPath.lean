/- Path. -/
import Derived.Test.YtplcohjpchfkkaaMRow
set_option linter.unusedVariables false
set_option linter.unusedSimpArgs false
namespace Go.Proofs.Ytplcohjpchfkkaa
open Go.RowKit Go.Shelf

attribute [local go_sem] Oper.semAt_some

theorem Tk.pth_len {S : List Sp} {r : Dt → Nat} (h : Tk S r) (b : Dt) : (pth S b).length ≤ S.length := by
  unfold pth
  exact h.up_len _ _

set_option maxRecDepth 100000 in
set_option maxHeartbeats 4000000 in
theorem path_tt (t : Nat) (l : List Mv) (A : Nat → Prop) (d : Dt) (w : World) (h : TT w t l A) (hd : Dw d) :
    Calls Try.prog 20 #[.pointer (some ⟨t, 0, none⟩), dv d] w fun e w' => ∃ A', RowOf w w' A' (pth (run l) d) e ∧ TT w' t l A' ∧ KA w w' A A' := by
  obtain ⟨d1, d2⟩ := d
  have hmxo : Try.prog.follows .mixedOrders = true := by kernel_rfl
  obtain ⟨i0, hi, hz0, hz1, hz2⟩ := info_parts Try.infoDD
  obtain ⟨W0, hW0⟩ : ∃ W0, W0 = (w.alloc (.cells #[.int .i64 d1, .int .i64 d2] 24)).alloc (.cells #[.slice none 0 0] 29) := ⟨_, rfl⟩
  have hB0 : Below w.heap.size w W0 := by rw [hW0]; exact ((Below.refl _ w).alloc (Nat.le_refl _) _).alloc (by simp) _
  have hsz : W0.heap.size = w.heap.size + 2 := by rw [hW0]; simp
  have hb0 : W0.heap[w.heap.size]? = some (.cells #[.int .i64 d1, .int .i64 d2] 24 (0, 0)) := by rw [hW0]; exact (Below.heap_alloc _ _ _ (by simp)).trans (World.alloc_heap_new w _)
  have hb1 : W0.heap[w.heap.size + 1]? = some (.cells #[.slice none 0 0] 29 (0, 0)) := by
    rw [hW0]
    have := World.alloc_heap_new (w.alloc (.cells #[.int .i64 d1, .int .i64 d2] 24)) (.cells #[.slice none 0 0] 29)
    rw [World.size_alloc] at this
    exact this
  have hT0 : TT W0.drew t l A := (h.below hB0).same (Nat.le_refl _) (fun j _ => rfl)
  have hAH : ∀ j, w.heap.size ≤ j → ¬ A j := fun j hj e => by have := h.lt _ e; omega
  have HN := (now_tt hT0).mono (R' := fun e W1 => e = .returned (.pointer (some ⟨t, 3, none⟩)) ∧ (W1.cell? ⟨w.heap.size, 0, none⟩ = some (.int .i64 d1) ∧ W1.cell? ⟨w.heap.size, 1, none⟩ = some (.int .i64 d2)) ∧ Calls Try.prog 41 #[.pointer (some ⟨t, 3, none⟩), .agg #[.int .i64 d1, .int .i64 d2]] W1 fun e V => e = .returned (.func (.func 62) #[] #[.pointer (some ⟨W1.heap.size, 0, none⟩), .pointer (some ⟨W1.heap.size + 1, 0, none⟩)]) ∧ (V.cell? ⟨w.heap.size, 0, none⟩ = some (.int .i64 d1) ∧ V.cell? ⟨w.heap.size, 1, none⟩ = some (.int .i64 d2)) ∧ Hid (∃ S r pl A', V.heap.size = W1.heap.size + 2 ∧ Tk S r ∧ Ws S ∧ S.length ≤ 1000 ∧ (∀ d, pth S d = pth (run l) d) ∧ V.cell? ⟨W1.heap.size, 0, none⟩ = some (.pointer (some ⟨t, 3, none⟩)) ∧ V.cell? ⟨t, 3, none⟩ = some pl ∧ V.cell? ⟨W1.heap.size + 1, 0, none⟩ = some (.int .i64 d1) ∧ V.cell? ⟨W1.heap.size + 1, 1, none⟩ = some (.int .i64 d2) ∧ PlB V.heap.size V pl S ∧ V.heap[w.heap.size + 1]? = some (.cells #[.slice none 0 0] 29 (0, 0)) ∧ TT V t l A' ∧ KA w V A A' ∧ ¬ A' (w.heap.size + 1) ∧ w.heap.size + 2 ≤ W1.heap.size)) (fun e W1 hh => by
    obtain ⟨e1, gs, S, lg, fd, pl, kd, fl, B, A', h1, h2, h3, h4, h5⟩ := hh
    obtain ⟨q1, q2, q3, q4⟩ := h1.lk_run
    obtain ⟨r, hr⟩ := h1.tk
    obtain ⟨s1, s2, s3⟩ := h1.spots
    have hz : W0.heap.size ≤ W1.heap.size := h5.size
    have c0 : W1.heap[w.heap.size]? = _ := (h5.keep w.heap.size (by show _ < W0.heap.size; omega) (hAH _ (Nat.le_refl _))).trans hb0
    have c1 : W1.heap[w.heap.size + 1]? = _ := (h5.keep (w.heap.size + 1) (by show _ < W0.heap.size; omega) (hAH _ (by omega))).trans hb1
    have htb := h1.tb
    unfold TB at htb
    have htw := (Array.getElem?_eq_some_iff.1 htb).1
    refine ⟨e1, ⟨by simp [World.cell?, c0], by simp [World.cell?, c0]⟩, ?_⟩
    refine (up_made t 3 (d1, d2) W1).mono ?_
    rintro e V ⟨e2, hV⟩
    have hbV : Below W1.heap.size W1 V := by rw [hV]; exact ((Below.refl _ W1).alloc (Nat.le_refl _) _).alloc (by simp) _
    have hVz : V.heap.size = W1.heap.size + 2 := by rw [hV]; simp
    have k0 := (hbV.block w.heap.size (by omega)).trans c0
    have k1 := (hbV.block (w.heap.size + 1) (by omega)).trans c1
    have kt := (hbV.block t htw).trans htb
    have b0 : V.heap[W1.heap.size]? = some (.cells #[.pointer (some ⟨t, 3, none⟩)] 86 (0, 0)) := by rw [hV]; exact (Below.heap_alloc _ _ _ (by simp)).trans (World.alloc_heap_new W1 _)
    have b1 : V.heap[W1.heap.size + 1]? = some (.cells #[.int .i64 d1, .int .i64 d2] 24 (0, 0)) := by
      rw [hV]
      have := World.alloc_heap_new (W1.alloc (.cells #[.pointer (some ⟨t, 3, none⟩)] 86)) (.cells #[.int .i64 d1, .int .i64 d2] 24)
      rw [World.size_alloc] at this
      exact this
    refine ⟨e2, ⟨by simp [World.cell?, k0], by simp [World.cell?, k0]⟩, hid ⟨S, r, pl, A', hVz, hr, s1, s3, q4, by simp [World.cell?, b0], by simp [World.cell?, kt], by simp [World.cell?, b1], by simp [World.cell?, b1], (h1.sb.v.below hbV).b, k1, (h1.tt h2 h3 h4).below hbV, ?_, fun e => ?_, by omega⟩⟩
    · exact (KA.pre h.lt (hB0.trans ((((Far.refl W0).drewN 1).below).mono hB0.size)) h5).post hbV
    · rcases h5.new _ e with e | e
      · exact hAH _ (by omega) e
      · have : W0.drew.heap.size = W0.heap.size := rfl
        omega)
  have hS0 : W0.drew.cell? ⟨w.heap.size, 0, none⟩ = some (.int .i64 d1) ∧ W0.drew.cell? ⟨w.heap.size, 1, none⟩ = some (.int .i64 d2) := ⟨by show W0.cell? _ = _; simp [World.cell?, hb0], by show W0.cell? _ = _; simp [World.cell?, hb0]⟩
  have HW := hid hW0
  have hTw : t < w.heap.size := h.lt t h.at_
  clear hW0 hB0 hb0 hb1 hAH hT0 h hsz
  refine (callsIn_wide (n := 3)).1 ?_
  refine callsIn_of_wp_marks Try.func20 rfl trivial ?_ rfl
  simp only [Try.ntmps20, List.size_toArray, List.length_cons, List.length_nil, Nat.reduceAdd, Nat.reduceSub, Array.replicate_succ, Array.replicate_zero, List.push_toArray, List.append_toArray, List.nil_append, List.cons_append]
  gi_wp2_with fail
  rw [← HW.out]
  refine wpIn_wide.2 ?_
  refine wp_region_held_drew (S := fun w' => w'.cell? ⟨w.heap.size, 0, none⟩ = some (.int .i64 d1) ∧ w'.cell? ⟨w.heap.size, 1, none⟩ = some (.int .i64 d2)) hmxo hS0 ?_
  intro _
  obtain ⟨y0, y1⟩ := hS0
  have hS0 := And.intro y0 y1
  refine wpAnyH_ready (rs := [0, 2]) (by kernel_rfl) (by simp) ?_
  refine AllReadyH.cons rfl (fun K hK => ?_) (AllReadyH.cons rfl (fun K hK => ?_) AllReadyH.nil)
  · go_simp
    refine hK.out _ _ hS0 (fun _ => ?_)
    clear hK K
    refine wpAnyH_ready (rs := [1, 2]) (by kernel_rfl) (by simp) ?_
    refine AllReadyH.cons rfl (fun K hK => ?_) (AllReadyH.cons rfl (fun K hK => ?_) AllReadyH.nil)
    · go_simp
      refine HN.mono ?_
      rintro e W1 ⟨rfl, S1, HU⟩
      refine hK.out _ _ S1 (fun _ => ?_)
      clear hK K
      clear y0 y1
      obtain ⟨y0, y1⟩ := S1
      have S1 := And.intro y0 y1
      refine wpAnyH_ready (rs := [2]) (by kernel_rfl) (by simp) ?_
      refine AllReadyH.cons rfl (fun K hK => ?_) AllReadyH.nil
      go_simp
      refine hK.out _ _ S1 (fun _ => ?_)
      clear hK K
      refine wpAnyH_ready (rs := [3]) (by kernel_rfl) (by simp) ?_
      refine AllReadyH.cons rfl (fun K hK => ?_) AllReadyH.nil
      go_simp
      refine HU.mono ?_
      rintro e V ⟨rfl, S2, HF⟩
      refine hK.out _ _ S2 (fun _ => ?_)
      clear hK K
      refine wpAnyH_done (by kernel_rfl) ?_ _
      clear HN HU S1 S2 hS0
      obtain ⟨ub, hub⟩ : ∃ ub, ub = W1.heap.size := ⟨_, rfl⟩
      rw [← hub] at HF ⊢
      clear hub
      obtain ⟨S, r, pl, A', hVz, hr, s1, s3, q4, b0, bt, b1, b2, hP, hbx, hTT, hKA, hnA, hub⟩ := HF.out
      clear HF
      obtain ⟨Bs, hBs'⟩ : ∃ Bs, Bs = w.heap.size + 1 := ⟨_, rfl⟩
      have hBs : Bs < V.heap.size := by omega
      have HNs : Hid ((pth S (d1, d2)).length ≤ 1000000) := hid (by have := hr.pth_len (d1, d2); omega)
      have hI0 : RI V Bs [] V := ⟨⟨_, by rw [hBs']; exact hbx, World.ownsRow_nil _ _ _ _⟩, Nat.le_refl _, fun j _ _ => rfl, Sm.refl _⟩
      have hseq : SeqU (3 - 1) Try.prog 62 #[.pointer (some ⟨ub, 0, none⟩), .pointer (some ⟨ub + 1, 0, none⟩)] (fun x : Dt => #[Value.agg #[.int .i64 x.1, .int .i64 x.2]]) (KU V.heap.size (fun k => V.heap.size ≤ k ∨ k = Bs)) (fun xs => xs = pth S (d1, d2)) (fun pre => pre <+: pth S (d1, d2)) (pth S (d1, d2)).length V :=
        up_seq (t := t) (o := 3) (mv := pl) (fun k h1 h2 => by omega) hr s1 hd (Nat.le_refl _) (by omega) (by omega) (by omega) b0 bt b1 b2 hP
      have HB := hid hBs'
      have HVZ := hid hVz
      clear hVz
      gi_wp2_with fail
      rw [← hBs']
      clear hBs' hr s1 s3 b0 bt b1 b2 hP hbx
      refine range_up (α := Dt) (gf := 62) rfl (enters_of Try.func62 (by kernel_rfl) rfl) hseq (fun h k => h.trans k) (fun W l o o' hl ho hc _ => KU.put W l o o' hl ho hc) (Below.refl _ _) (fun _ => rfl)
        (RI V Bs) (fun _ _ _ => False) (RI.own hBs) (fun _ _ _ _ _ h _ _ => h) hI0
        (fun x a' W => ∃ u, a' = { tmps := #[.pointer (some ⟨t, 0, none⟩), .agg #[.int .i64 d1, .int .i64 d2], undef, .pointer (some ⟨w.heap.size, 0, none⟩), .slice none 0 0, .pointer (some ⟨Bs, 0, none⟩), .pointer (some ⟨u, 0, none⟩), .pointer (some ⟨t, 0, none⟩), .pointer (some ⟨t, 3, none⟩), .agg #[.int .i64 d1, .int .i64 d2], .func (.func 62) #[] #[.pointer (some ⟨ub, 0, none⟩), .pointer (some ⟨ub + 1, 0, none⟩)], .agg #[.int .i64 x.1, .int .i64 x.2], undef, undef, undef, undef, undef], defers := [] } ∧ W.heap[u]? = some (.cells #[.int .i64 x.1, .int .i64 x.2] 24 (0, 0)) ∧ V.heap.size ≤ u) ?ownax ?assign ?body ?done (fun _ _ _ _ _ _ h _ => h.elim)
      case ownax =>
        rintro x a' _ A B row ⟨u, e, h1, h2⟩ hg hrow
        refine ⟨u, e, (hg.block u (Array.getElem?_eq_some_iff.1 h1).1 (fun e' => ?_)).trans h1, h2⟩
        obtain ⟨_, ob, hob, ht'⟩ := hrow u e'.symm
        rw [h1] at hob
        cases hob
        rcases ht' with ht' | ⟨cs, fz, ht'⟩
        · cases ht'
        · cases ht'
      case assign =>
        rintro l pre x W K hI hK
        have hg := World.grownBy_alloc W (.cells #[.int .i64 x.1, .int .i64 x.2] 24) none
        have hfin := hid (hK { tmps := #[.pointer (some ⟨t, 0, none⟩), .agg #[.int .i64 d1, .int .i64 d2], undef, .pointer (some ⟨w.heap.size, 0, none⟩), .slice none 0 0, .pointer (some ⟨Bs, 0, none⟩), .pointer (some ⟨W.heap.size, 0, none⟩), .pointer (some ⟨t, 0, none⟩), .pointer (some ⟨t, 3, none⟩), .agg #[.int .i64 d1, .int .i64 d2], .func (.func 62) #[] #[.pointer (some ⟨ub, 0, none⟩), .pointer (some ⟨ub + 1, 0, none⟩)], .agg #[.int .i64 x.1, .int .i64 x.2], undef, undef, undef, undef, undef], defers := [] } (W.alloc (.cells #[.int .i64 x.1, .int .i64 x.2] 24)) (KeepsFrom.of_grownBy hg (fun j e => by cases e)) (KU.below ((Below.refl _ W).alloc (Nat.le_refl _) _) hI.size) (hI.alloc hBs _) ⟨W.heap.size, rfl, World.alloc_heap_new W _, hI.size⟩)
        clear hK hg hI
        gi_wp2
        exact hfin.out
      case body =>
        rintro l' pre x a' W ⟨⟨v, h1, h2⟩, h3, h4, h5⟩ ⟨u, rfl, hu, hul⟩ hlen
        obtain ⟨x1, x2⟩ := x
        have e0 : W.cell? ⟨u, 0, none⟩ = some (.int .i64 x1) := by simp [World.cell?, hu]
        have e1 : W.cell? ⟨u, 1, none⟩ = some (.int .i64 x2) := by simp [World.cell?, hu]
        have cb := h1.cell
        have hpl : pre.length < 1000000 := Nat.lt_of_lt_of_le hlen HNs.out
        gi_wp2_with (first
          | (gi_at_builtin; refine wpListIn_append_own _ rfl _ _ 29 rfl V.heap.size 24 i0 (.agg #[.int .i64 0, .int .i64 0]) 2 16 Try.underlying29 hi hz0 hz1 hz2 rfl (by decide) _ _ _ rfl (h2.alloc _) ⟨W.heap.size, 0, none⟩ 1 1 [.int .i64 x1, .int .i64 x2] rfl rfl (cell_two _ _ _) (by simp [Value.oneCell']) (by unfold maxLen; omega) (by omega) (by simp; omega) ?_; intro v' w2 hown' hg hnil; obtain ⟨g', cap', rfl⟩ := ownsRow_succ hown'; obtain ⟨q1, q2, HQ⟩ := RI.app (x := (x1, x2)) hBs h3 h4 h5 h1 h2 hown' hg; clear hown' hg hnil)
          | gi_in)
        exact ⟨HQ.out.2.1, HQ.out.2.2, HQ.out.1⟩

      case done =>
        rintro D ys W hD hS' ⟨⟨v, h1, h2⟩, h3, h4, h5⟩ hK
        subst hS'
        rw [q4] at h2
        have cb := h1.cell
        have hfin : Hid (∃ A'', RowOf w (W.putObj D (.deferred none)) A'' (pth (run l) (d1, d2)) (.returned v) ∧ TT (W.putObj D (.deferred none)) t l A'' ∧ KA w (W.putObj D (.deferred none)) A A'') := hid ⟨A', ⟨v, rfl, owns_base (ownsRow_putObj h2 (.deferred none) hK rfl) hKA.size, fun j hj e => by have := (h2.lt j hj).1; have := hTT.lt j e; omega⟩, hTT.same (by simp [World.putObj]; omega) (fun j hj => (World.putObj_heap_other (by have := hTT.lt j hj; omega)).trans (h4 j (hTT.lt j hj) (fun e => hnA (by rw [← HB.out, ← e]; exact hj)))), by have := hKA.size; simp [World.putObj]; omega, fun j hj hA => (World.putObj_heap_other (by have := hKA.size; omega)).trans ((h4 j (by have := hKA.size; omega) (by rw [HB.out]; omega)).trans (hKA.keep j hj hA)), hKA.new, hKA.sm.trans (h5.trans ⟨rfl, rfl, rfl⟩)⟩
        clear h1 h2 h3 h4 hKA hTT hnA
        gi_wp2
        refine ⟨by simp, .inl ⟨_, _, rfl, run_takeDeferred hK, ?_⟩⟩
        refine ⟨_, results_tmp rfl _ _ _, ?_⟩
        exact hfin.out
    · go_simp
      refine hK.out _ _ hS0 (fun _ => ?_)
      clear hK K
      refine wpAnyH_ready (rs := [1]) (by kernel_rfl) (by simp) ?_
      refine AllReadyH.cons rfl (fun K hK => ?_) AllReadyH.nil
      go_simp
      refine HN.mono ?_
      rintro e W1 ⟨rfl, S1, HU⟩
      refine hK.out _ _ S1 (fun _ => ?_)
      clear hK K
      refine wpAnyH_ready (rs := [3]) (by kernel_rfl) (by simp) ?_
      refine AllReadyH.cons rfl (fun K hK => ?_) AllReadyH.nil
      go_simp
      refine HU.mono ?_
      rintro e V ⟨rfl, S2, HF⟩
      refine hK.out _ _ S2 (fun _ => ?_)
      clear hK K
      refine wpAnyH_done (by kernel_rfl) ?_ _
      clear HN HU S1 S2 hS0
      obtain ⟨ub, hub⟩ : ∃ ub, ub = W1.heap.size := ⟨_, rfl⟩
      rw [← hub] at HF ⊢
      clear hub
      obtain ⟨S, r, pl, A', hVz, hr, s1, s3, q4, b0, bt, b1, b2, hP, hbx, hTT, hKA, hnA, hub⟩ := HF.out
      clear HF
      obtain ⟨Bs, hBs'⟩ : ∃ Bs, Bs = w.heap.size + 1 := ⟨_, rfl⟩
      have hBs : Bs < V.heap.size := by omega
      have HNs : Hid ((pth S (d1, d2)).length ≤ 1000000) := hid (by have := hr.pth_len (d1, d2); omega)
      have hI0 : RI V Bs [] V := ⟨⟨_, by rw [hBs']; exact hbx, World.ownsRow_nil _ _ _ _⟩, Nat.le_refl _, fun j _ _ => rfl, Sm.refl _⟩
      have hseq : SeqU (3 - 1) Try.prog 62 #[.pointer (some ⟨ub, 0, none⟩), .pointer (some ⟨ub + 1, 0, none⟩)] (fun x : Dt => #[Value.agg #[.int .i64 x.1, .int .i64 x.2]]) (KU V.heap.size (fun k => V.heap.size ≤ k ∨ k = Bs)) (fun xs => xs = pth S (d1, d2)) (fun pre => pre <+: pth S (d1, d2)) (pth S (d1, d2)).length V :=
        up_seq (t := t) (o := 3) (mv := pl) (fun k h1 h2 => by omega) hr s1 hd (Nat.le_refl _) (by omega) (by omega) (by omega) b0 bt b1 b2 hP
      have HB := hid hBs'
      have HVZ := hid hVz
      clear hVz
      gi_wp2_with fail
      rw [← hBs']
      clear hBs' hr s1 s3 b0 bt b1 b2 hP hbx
      refine range_up (α := Dt) (gf := 62) rfl (enters_of Try.func62 (by kernel_rfl) rfl) hseq (fun h k => h.trans k) (fun W l o o' hl ho hc _ => KU.put W l o o' hl ho hc) (Below.refl _ _) (fun _ => rfl)
        (RI V Bs) (fun _ _ _ => False) (RI.own hBs) (fun _ _ _ _ _ h _ _ => h) hI0
        (fun x a' W => ∃ u, a' = { tmps := #[.pointer (some ⟨t, 0, none⟩), .agg #[.int .i64 d1, .int .i64 d2], undef, .pointer (some ⟨w.heap.size, 0, none⟩), .slice none 0 0, .pointer (some ⟨Bs, 0, none⟩), .pointer (some ⟨u, 0, none⟩), .pointer (some ⟨t, 0, none⟩), .pointer (some ⟨t, 3, none⟩), .agg #[.int .i64 d1, .int .i64 d2], .func (.func 62) #[] #[.pointer (some ⟨ub, 0, none⟩), .pointer (some ⟨ub + 1, 0, none⟩)], .agg #[.int .i64 x.1, .int .i64 x.2], undef, undef, undef, undef, undef], defers := [] } ∧ W.heap[u]? = some (.cells #[.int .i64 x.1, .int .i64 x.2] 24 (0, 0)) ∧ V.heap.size ≤ u) ?ownax ?assign ?body ?done (fun _ _ _ _ _ _ h _ => h.elim)
      case ownax =>
        rintro x a' _ A B row ⟨u, e, h1, h2⟩ hg hrow
        refine ⟨u, e, (hg.block u (Array.getElem?_eq_some_iff.1 h1).1 (fun e' => ?_)).trans h1, h2⟩
        obtain ⟨_, ob, hob, ht'⟩ := hrow u e'.symm
        rw [h1] at hob
        cases hob
        rcases ht' with ht' | ⟨cs, fz, ht'⟩
        · cases ht'
        · cases ht'
      case assign =>
        rintro l pre x W K hI hK
        have hg := World.grownBy_alloc W (.cells #[.int .i64 x.1, .int .i64 x.2] 24) none
        have hfin := hid (hK { tmps := #[.pointer (some ⟨t, 0, none⟩), .agg #[.int .i64 d1, .int .i64 d2], undef, .pointer (some ⟨w.heap.size, 0, none⟩), .slice none 0 0, .pointer (some ⟨Bs, 0, none⟩), .pointer (some ⟨W.heap.size, 0, none⟩), .pointer (some ⟨t, 0, none⟩), .pointer (some ⟨t, 3, none⟩), .agg #[.int .i64 d1, .int .i64 d2], .func (.func 62) #[] #[.pointer (some ⟨ub, 0, none⟩), .pointer (some ⟨ub + 1, 0, none⟩)], .agg #[.int .i64 x.1, .int .i64 x.2], undef, undef, undef, undef, undef], defers := [] } (W.alloc (.cells #[.int .i64 x.1, .int .i64 x.2] 24)) (KeepsFrom.of_grownBy hg (fun j e => by cases e)) (KU.below ((Below.refl _ W).alloc (Nat.le_refl _) _) hI.size) (hI.alloc hBs _) ⟨W.heap.size, rfl, World.alloc_heap_new W _, hI.size⟩)
        clear hK hg hI
        gi_wp2
        exact hfin.out
      case body =>
        rintro l' pre x a' W ⟨⟨v, h1, h2⟩, h3, h4, h5⟩ ⟨u, rfl, hu, hul⟩ hlen
        obtain ⟨x1, x2⟩ := x
        have e0 : W.cell? ⟨u, 0, none⟩ = some (.int .i64 x1) := by simp [World.cell?, hu]
        have e1 : W.cell? ⟨u, 1, none⟩ = some (.int .i64 x2) := by simp [World.cell?, hu]
        have cb := h1.cell
        have hpl : pre.length < 1000000 := Nat.lt_of_lt_of_le hlen HNs.out
        gi_wp2_with (first
          | (gi_at_builtin; refine wpListIn_append_own _ rfl _ _ 29 rfl V.heap.size 24 i0 (.agg #[.int .i64 0, .int .i64 0]) 2 16 Try.underlying29 hi hz0 hz1 hz2 rfl (by decide) _ _ _ rfl (h2.alloc _) ⟨W.heap.size, 0, none⟩ 1 1 [.int .i64 x1, .int .i64 x2] rfl rfl (cell_two _ _ _) (by simp [Value.oneCell']) (by unfold maxLen; omega) (by omega) (by simp; omega) ?_; intro v' w2 hown' hg hnil; obtain ⟨g', cap', rfl⟩ := ownsRow_succ hown'; obtain ⟨q1, q2, HQ⟩ := RI.app (x := (x1, x2)) hBs h3 h4 h5 h1 h2 hown' hg; clear hown' hg hnil)
          | gi_in)
        exact ⟨HQ.out.2.1, HQ.out.2.2, HQ.out.1⟩

      case done =>
        rintro D ys W hD hS' ⟨⟨v, h1, h2⟩, h3, h4, h5⟩ hK
        subst hS'
        rw [q4] at h2
        have cb := h1.cell
        have hfin : Hid (∃ A'', RowOf w (W.putObj D (.deferred none)) A'' (pth (run l) (d1, d2)) (.returned v) ∧ TT (W.putObj D (.deferred none)) t l A'' ∧ KA w (W.putObj D (.deferred none)) A A'') := hid ⟨A', ⟨v, rfl, owns_base (ownsRow_putObj h2 (.deferred none) hK rfl) hKA.size, fun j hj e => by have := (h2.lt j hj).1; have := hTT.lt j e; omega⟩, hTT.same (by simp [World.putObj]; omega) (fun j hj => (World.putObj_heap_other (by have := hTT.lt j hj; omega)).trans (h4 j (hTT.lt j hj) (fun e => hnA (by rw [← HB.out, ← e]; exact hj)))), by have := hKA.size; simp [World.putObj]; omega, fun j hj hA => (World.putObj_heap_other (by have := hKA.size; omega)).trans ((h4 j (by have := hKA.size; omega) (by rw [HB.out]; omega)).trans (hKA.keep j hj hA)), hKA.new, hKA.sm.trans (h5.trans ⟨rfl, rfl, rfl⟩)⟩
        clear h1 h2 h3 h4 hKA hTT hnA
        gi_wp2
        refine ⟨by simp, .inl ⟨_, _, rfl, run_takeDeferred hK, ?_⟩⟩
        refine ⟨_, results_tmp rfl _ _ _, ?_⟩
        exact hfin.out
  · go_simp
    refine hK.out _ _ hS0 (fun _ => ?_)
    clear hK K
    refine wpAnyH_ready (rs := [0]) (by kernel_rfl) (by simp) ?_
    refine AllReadyH.cons rfl (fun K hK => ?_) AllReadyH.nil
    go_simp
    refine hK.out _ _ hS0 (fun _ => ?_)
    clear hK K
    refine wpAnyH_ready (rs := [1]) (by kernel_rfl) (by simp) ?_
    refine AllReadyH.cons rfl (fun K hK => ?_) AllReadyH.nil
    go_simp
    refine HN.mono ?_
    rintro e W1 ⟨rfl, S1, HU⟩
    refine hK.out _ _ S1 (fun _ => ?_)
    clear hK K
    refine wpAnyH_ready (rs := [3]) (by kernel_rfl) (by simp) ?_
    refine AllReadyH.cons rfl (fun K hK => ?_) AllReadyH.nil
    go_simp
    refine HU.mono ?_
    rintro e V ⟨rfl, S2, HF⟩
    refine hK.out _ _ S2 (fun _ => ?_)
    clear hK K
    refine wpAnyH_done (by kernel_rfl) ?_ _
    clear HN HU S1 S2 hS0
    obtain ⟨ub, hub⟩ : ∃ ub, ub = W1.heap.size := ⟨_, rfl⟩
    rw [← hub] at HF ⊢
    clear hub
    obtain ⟨S, r, pl, A', hVz, hr, s1, s3, q4, b0, bt, b1, b2, hP, hbx, hTT, hKA, hnA, hub⟩ := HF.out
    clear HF
    obtain ⟨Bs, hBs'⟩ : ∃ Bs, Bs = w.heap.size + 1 := ⟨_, rfl⟩
    have hBs : Bs < V.heap.size := by omega
    have HNs : Hid ((pth S (d1, d2)).length ≤ 1000000) := hid (by have := hr.pth_len (d1, d2); omega)
    have hI0 : RI V Bs [] V := ⟨⟨_, by rw [hBs']; exact hbx, World.ownsRow_nil _ _ _ _⟩, Nat.le_refl _, fun j _ _ => rfl, Sm.refl _⟩
    have hseq : SeqU (3 - 1) Try.prog 62 #[.pointer (some ⟨ub, 0, none⟩), .pointer (some ⟨ub + 1, 0, none⟩)] (fun x : Dt => #[Value.agg #[.int .i64 x.1, .int .i64 x.2]]) (KU V.heap.size (fun k => V.heap.size ≤ k ∨ k = Bs)) (fun xs => xs = pth S (d1, d2)) (fun pre => pre <+: pth S (d1, d2)) (pth S (d1, d2)).length V :=
      up_seq (t := t) (o := 3) (mv := pl) (fun k h1 h2 => by omega) hr s1 hd (Nat.le_refl _) (by omega) (by omega) (by omega) b0 bt b1 b2 hP
    have HB := hid hBs'
    have HVZ := hid hVz
    clear hVz
    gi_wp2_with fail
    rw [← hBs']
    clear hBs' hr s1 s3 b0 bt b1 b2 hP hbx
    refine range_up (α := Dt) (gf := 62) rfl (enters_of Try.func62 (by kernel_rfl) rfl) hseq (fun h k => h.trans k) (fun W l o o' hl ho hc _ => KU.put W l o o' hl ho hc) (Below.refl _ _) (fun _ => rfl)
      (RI V Bs) (fun _ _ _ => False) (RI.own hBs) (fun _ _ _ _ _ h _ _ => h) hI0
      (fun x a' W => ∃ u, a' = { tmps := #[.pointer (some ⟨t, 0, none⟩), .agg #[.int .i64 d1, .int .i64 d2], undef, .pointer (some ⟨w.heap.size, 0, none⟩), .slice none 0 0, .pointer (some ⟨Bs, 0, none⟩), .pointer (some ⟨u, 0, none⟩), .pointer (some ⟨t, 0, none⟩), .pointer (some ⟨t, 3, none⟩), .agg #[.int .i64 d1, .int .i64 d2], .func (.func 62) #[] #[.pointer (some ⟨ub, 0, none⟩), .pointer (some ⟨ub + 1, 0, none⟩)], .agg #[.int .i64 x.1, .int .i64 x.2], undef, undef, undef, undef, undef], defers := [] } ∧ W.heap[u]? = some (.cells #[.int .i64 x.1, .int .i64 x.2] 24 (0, 0)) ∧ V.heap.size ≤ u) ?ownax ?assign ?body ?done (fun _ _ _ _ _ _ h _ => h.elim)
    case ownax =>
      rintro x a' _ A B row ⟨u, e, h1, h2⟩ hg hrow
      refine ⟨u, e, (hg.block u (Array.getElem?_eq_some_iff.1 h1).1 (fun e' => ?_)).trans h1, h2⟩
      obtain ⟨_, ob, hob, ht'⟩ := hrow u e'.symm
      rw [h1] at hob
      cases hob
      rcases ht' with ht' | ⟨cs, fz, ht'⟩
      · cases ht'
      · cases ht'
    case assign =>
      rintro l pre x W K hI hK
      have hg := World.grownBy_alloc W (.cells #[.int .i64 x.1, .int .i64 x.2] 24) none
      have hfin := hid (hK { tmps := #[.pointer (some ⟨t, 0, none⟩), .agg #[.int .i64 d1, .int .i64 d2], undef, .pointer (some ⟨w.heap.size, 0, none⟩), .slice none 0 0, .pointer (some ⟨Bs, 0, none⟩), .pointer (some ⟨W.heap.size, 0, none⟩), .pointer (some ⟨t, 0, none⟩), .pointer (some ⟨t, 3, none⟩), .agg #[.int .i64 d1, .int .i64 d2], .func (.func 62) #[] #[.pointer (some ⟨ub, 0, none⟩), .pointer (some ⟨ub + 1, 0, none⟩)], .agg #[.int .i64 x.1, .int .i64 x.2], undef, undef, undef, undef, undef], defers := [] } (W.alloc (.cells #[.int .i64 x.1, .int .i64 x.2] 24)) (KeepsFrom.of_grownBy hg (fun j e => by cases e)) (KU.below ((Below.refl _ W).alloc (Nat.le_refl _) _) hI.size) (hI.alloc hBs _) ⟨W.heap.size, rfl, World.alloc_heap_new W _, hI.size⟩)
      clear hK hg hI
      gi_wp2
      exact hfin.out
    case body =>
      rintro l' pre x a' W ⟨⟨v, h1, h2⟩, h3, h4, h5⟩ ⟨u, rfl, hu, hul⟩ hlen
      obtain ⟨x1, x2⟩ := x
      have e0 : W.cell? ⟨u, 0, none⟩ = some (.int .i64 x1) := by simp [World.cell?, hu]
      have e1 : W.cell? ⟨u, 1, none⟩ = some (.int .i64 x2) := by simp [World.cell?, hu]
      have cb := h1.cell
      have hpl : pre.length < 1000000 := Nat.lt_of_lt_of_le hlen HNs.out
      gi_wp2_with (first
        | (gi_at_builtin; refine wpListIn_append_own _ rfl _ _ 29 rfl V.heap.size 24 i0 (.agg #[.int .i64 0, .int .i64 0]) 2 16 Try.underlying29 hi hz0 hz1 hz2 rfl (by decide) _ _ _ rfl (h2.alloc _) ⟨W.heap.size, 0, none⟩ 1 1 [.int .i64 x1, .int .i64 x2] rfl rfl (cell_two _ _ _) (by simp [Value.oneCell']) (by unfold maxLen; omega) (by omega) (by simp; omega) ?_; intro v' w2 hown' hg hnil; obtain ⟨g', cap', rfl⟩ := ownsRow_succ hown'; obtain ⟨q1, q2, HQ⟩ := RI.app (x := (x1, x2)) hBs h3 h4 h5 h1 h2 hown' hg; clear hown' hg hnil)
        | gi_in)
      exact ⟨HQ.out.2.1, HQ.out.2.2, HQ.out.1⟩

    case done =>
      rintro D ys W hD hS' ⟨⟨v, h1, h2⟩, h3, h4, h5⟩ hK
      subst hS'
      rw [q4] at h2
      have cb := h1.cell
      have hfin : Hid (∃ A'', RowOf w (W.putObj D (.deferred none)) A'' (pth (run l) (d1, d2)) (.returned v) ∧ TT (W.putObj D (.deferred none)) t l A'' ∧ KA w (W.putObj D (.deferred none)) A A'') := hid ⟨A', ⟨v, rfl, owns_base (ownsRow_putObj h2 (.deferred none) hK rfl) hKA.size, fun j hj e => by have := (h2.lt j hj).1; have := hTT.lt j e; omega⟩, hTT.same (by simp [World.putObj]; omega) (fun j hj => (World.putObj_heap_other (by have := hTT.lt j hj; omega)).trans (h4 j (hTT.lt j hj) (fun e => hnA (by rw [← HB.out, ← e]; exact hj)))), by have := hKA.size; simp [World.putObj]; omega, fun j hj hA => (World.putObj_heap_other (by have := hKA.size; omega)).trans ((h4 j (by have := hKA.size; omega) (by rw [HB.out]; omega)).trans (hKA.keep j hj hA)), hKA.new, hKA.sm.trans (h5.trans ⟨rfl, rfl, rfl⟩)⟩
      clear h1 h2 h3 h4 hKA hTT hnA
      gi_wp2
      refine ⟨by simp, .inl ⟨_, _, rfl, run_takeDeferred hK, ?_⟩⟩
      refine ⟨_, results_tmp rfl _ _ _, ?_⟩
      exact hfin.out
end Go.Proofs.Ytplcohjpchfkkaa
