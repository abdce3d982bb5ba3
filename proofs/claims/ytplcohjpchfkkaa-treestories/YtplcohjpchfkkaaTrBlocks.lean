/- Blocks. -/
import Derived.Test.YtplcohjpchfkkaaMPlaces
import Derived.Shelf.SlSortCmp.WholeK
import Derived.Test.YtplcohjpchfkkaaProg
import Derived.Test.YtplcohjpchfkkaaTrCollect
namespace Go.Proofs.Ytplcohjpchfkkaa
section
set_option linter.unusedVariables false
set_option linter.unusedSimpArgs false
open Go.RowKit Go.Shelf

attribute [local go_sem] Oper.semAt_some

theorem Tk.pth_len {S : List Sp} {r : Dt → Nat} (h : Tk S r) (b : Dt) : (pth S b).length ≤ S.length := by
  unfold pth
  exact h.up_len _ _

set_option maxRecDepth 100000 in
set_option maxHeartbeats 4000000 in
theorem path_tt (t : Nat) (l : List Mv) (A : Nat → Prop) (d : Dt) (w : World) (h : TT w t l A) (hd : Dw d) :
    Calls Try.prog 20 #[.pointer (some ⟨t, 0, none⟩), dv d] w fun e w' => ∃ A', RowOf w w' A' (pth (run l) d) e ∧ TT w' t l A' ∧ KA w w' A A' := by
  obtain ⟨d1, d2⟩ := d
  have hmxo : Try.prog.follows .mixedOrders = true := by kernel_rfl
  obtain ⟨i0, hi, hz0, hz1, hz2⟩ := info_parts Try.infoDD
  obtain ⟨W0, hW0⟩ : ∃ W0, W0 = (w.alloc (.cells #[.int .i64 d1, .int .i64 d2] 24)).alloc (.cells #[.slice none 0 0] 29) := ⟨_, rfl⟩
  have hB0 : Below w.heap.size w W0 := by rw [hW0]; exact ((Below.refl _ w).alloc (Nat.le_refl _) _).alloc (by simp) _
  have hsz : W0.heap.size = w.heap.size + 2 := by rw [hW0]; simp
  have hb0 : W0.heap[w.heap.size]? = some (.cells #[.int .i64 d1, .int .i64 d2] 24 (0, 0)) := by rw [hW0]; exact (Below.heap_alloc _ _ _ (by simp)).trans (World.alloc_heap_new w _)
  have hb1 : W0.heap[w.heap.size + 1]? = some (.cells #[.slice none 0 0] 29 (0, 0)) := by
    rw [hW0]
    have := World.alloc_heap_new (w.alloc (.cells #[.int .i64 d1, .int .i64 d2] 24)) (.cells #[.slice none 0 0] 29)
    rw [World.size_alloc] at this
    exact this
  have hT0 : TT W0.drew t l A := (h.below hB0).same (Nat.le_refl _) (fun j _ => rfl)
  have hAH : ∀ j, w.heap.size ≤ j → ¬ A j := fun j hj e => by have := h.lt _ e; omega
  have HN := (now_tt hT0).mono (R' := fun e W1 => e = .returned (.pointer (some ⟨t, 3, none⟩)) ∧ (W1.cell? ⟨w.heap.size, 0, none⟩ = some (.int .i64 d1) ∧ W1.cell? ⟨w.heap.size, 1, none⟩ = some (.int .i64 d2)) ∧ Calls Try.prog 41 #[.pointer (some ⟨t, 3, none⟩), .agg #[.int .i64 d1, .int .i64 d2]] W1 fun e V => e = .returned (.func (.func 62) #[] #[.pointer (some ⟨W1.heap.size, 0, none⟩), .pointer (some ⟨W1.heap.size + 1, 0, none⟩)]) ∧ (V.cell? ⟨w.heap.size, 0, none⟩ = some (.int .i64 d1) ∧ V.cell? ⟨w.heap.size, 1, none⟩ = some (.int .i64 d2)) ∧ Hid (∃ S r pl A', V.heap.size = W1.heap.size + 2 ∧ Tk S r ∧ Ws S ∧ S.length ≤ 1000 ∧ (∀ d, pth S d = pth (run l) d) ∧ V.cell? ⟨W1.heap.size, 0, none⟩ = some (.pointer (some ⟨t, 3, none⟩)) ∧ V.cell? ⟨t, 3, none⟩ = some pl ∧ V.cell? ⟨W1.heap.size + 1, 0, none⟩ = some (.int .i64 d1) ∧ V.cell? ⟨W1.heap.size + 1, 1, none⟩ = some (.int .i64 d2) ∧ PlB V.heap.size V pl S ∧ V.heap[w.heap.size + 1]? = some (.cells #[.slice none 0 0] 29 (0, 0)) ∧ TT V t l A' ∧ KA w V A A' ∧ ¬ A' (w.heap.size + 1) ∧ w.heap.size + 2 ≤ W1.heap.size)) (fun e W1 hh => by
    obtain ⟨e1, gs, S, lg, fd, pl, kd, fl, B, A', h1, h2, h3, h4, h5⟩ := hh
    obtain ⟨q1, q2, q3, q4⟩ := h1.lk_run
    obtain ⟨r, hr⟩ := h1.tk
    obtain ⟨s1, s2, s3⟩ := h1.spots
    have hz : W0.heap.size ≤ W1.heap.size := h5.size
    have c0 : W1.heap[w.heap.size]? = _ := (h5.keep w.heap.size (by show _ < W0.heap.size; omega) (hAH _ (Nat.le_refl _))).trans hb0
    have c1 : W1.heap[w.heap.size + 1]? = _ := (h5.keep (w.heap.size + 1) (by show _ < W0.heap.size; omega) (hAH _ (by omega))).trans hb1
    have htb := h1.tb
    unfold TB at htb
    have htw := (Array.getElem?_eq_some_iff.1 htb).1
    refine ⟨e1, ⟨by simp [World.cell?, c0], by simp [World.cell?, c0]⟩, ?_⟩
    refine (up_made t 3 (d1, d2) W1).mono ?_
    rintro e V ⟨e2, hV⟩
    have hbV : Below W1.heap.size W1 V := by rw [hV]; exact ((Below.refl _ W1).alloc (Nat.le_refl _) _).alloc (by simp) _
    have hVz : V.heap.size = W1.heap.size + 2 := by rw [hV]; simp
    have k0 := (hbV.block w.heap.size (by omega)).trans c0
    have k1 := (hbV.block (w.heap.size + 1) (by omega)).trans c1
    have kt := (hbV.block t htw).trans htb
    have b0 : V.heap[W1.heap.size]? = some (.cells #[.pointer (some ⟨t, 3, none⟩)] 86 (0, 0)) := by rw [hV]; exact (Below.heap_alloc _ _ _ (by simp)).trans (World.alloc_heap_new W1 _)
    have b1 : V.heap[W1.heap.size + 1]? = some (.cells #[.int .i64 d1, .int .i64 d2] 24 (0, 0)) := by
      rw [hV]
      have := World.alloc_heap_new (W1.alloc (.cells #[.pointer (some ⟨t, 3, none⟩)] 86)) (.cells #[.int .i64 d1, .int .i64 d2] 24)
      rw [World.size_alloc] at this
      exact this
    refine ⟨e2, ⟨by simp [World.cell?, k0], by simp [World.cell?, k0]⟩, hid ⟨S, r, pl, A', hVz, hr, s1, s3, q4, by simp [World.cell?, b0], by simp [World.cell?, kt], by simp [World.cell?, b1], by simp [World.cell?, b1], (h1.sb.v.below hbV).b, k1, (h1.tt h2 h3 h4).below hbV, ?_, fun e => ?_, by omega⟩⟩
    · exact (KA.pre h.lt (hB0.trans ((((Far.refl W0).drewN 1).below).mono hB0.size)) h5).post hbV
    · rcases h5.new _ e with e | e
      · exact hAH _ (by omega) e
      · have : W0.drew.heap.size = W0.heap.size := rfl
        omega)
  have hS0 : W0.drew.cell? ⟨w.heap.size, 0, none⟩ = some (.int .i64 d1) ∧ W0.drew.cell? ⟨w.heap.size, 1, none⟩ = some (.int .i64 d2) := ⟨by show W0.cell? _ = _; simp [World.cell?, hb0], by show W0.cell? _ = _; simp [World.cell?, hb0]⟩
  have HW := hid hW0
  have hTw : t < w.heap.size := h.lt t h.at_
  clear hW0 hB0 hb0 hb1 hAH hT0 h hsz
  refine (callsIn_wide (n := 3)).1 ?_
  refine callsIn_of_wp_marks Try.func20 rfl trivial ?_ rfl
  simp only [Try.ntmps20, List.size_toArray, List.length_cons, List.length_nil, Nat.reduceAdd, Nat.reduceSub, Array.replicate_succ, Array.replicate_zero, List.push_toArray, List.append_toArray, List.nil_append, List.cons_append]
  gi_wp2_with fail
  rw [← HW.out]
  refine wpIn_wide.2 ?_
  refine wp_region_held_drew (S := fun w' => w'.cell? ⟨w.heap.size, 0, none⟩ = some (.int .i64 d1) ∧ w'.cell? ⟨w.heap.size, 1, none⟩ = some (.int .i64 d2)) hmxo hS0 ?_
  intro _
  obtain ⟨y0, y1⟩ := hS0
  have hS0 := And.intro y0 y1
  refine wpAnyH_ready (rs := [0, 2]) (by kernel_rfl) (by simp) ?_
  refine AllReadyH.cons rfl (fun K hK => ?_) (AllReadyH.cons rfl (fun K hK => ?_) AllReadyH.nil)
  · go_simp
    refine hK.out _ _ hS0 (fun _ => ?_)
    clear hK K
    refine wpAnyH_ready (rs := [1, 2]) (by kernel_rfl) (by simp) ?_
    refine AllReadyH.cons rfl (fun K hK => ?_) (AllReadyH.cons rfl (fun K hK => ?_) AllReadyH.nil)
    · go_simp
      refine HN.mono ?_
      rintro e W1 ⟨rfl, S1, HU⟩
      refine hK.out _ _ S1 (fun _ => ?_)
      clear hK K
      clear y0 y1
      obtain ⟨y0, y1⟩ := S1
      have S1 := And.intro y0 y1
      refine wpAnyH_ready (rs := [2]) (by kernel_rfl) (by simp) ?_
      refine AllReadyH.cons rfl (fun K hK => ?_) AllReadyH.nil
      go_simp
      refine hK.out _ _ S1 (fun _ => ?_)
      clear hK K
      refine wpAnyH_ready (rs := [3]) (by kernel_rfl) (by simp) ?_
      refine AllReadyH.cons rfl (fun K hK => ?_) AllReadyH.nil
      go_simp
      refine HU.mono ?_
      rintro e V ⟨rfl, S2, HF⟩
      refine hK.out _ _ S2 (fun _ => ?_)
      clear hK K
      refine wpAnyH_done (by kernel_rfl) ?_ _
      clear HN HU S1 S2 hS0
      obtain ⟨ub, hub⟩ : ∃ ub, ub = W1.heap.size := ⟨_, rfl⟩
      rw [← hub] at HF ⊢
      clear hub
      obtain ⟨S, r, pl, A', hVz, hr, s1, s3, q4, b0, bt, b1, b2, hP, hbx, hTT, hKA, hnA, hub⟩ := HF.out
      clear HF
      obtain ⟨Bs, hBs'⟩ : ∃ Bs, Bs = w.heap.size + 1 := ⟨_, rfl⟩
      have hBs : Bs < V.heap.size := by omega
      have HNs : Hid ((pth S (d1, d2)).length ≤ 1000000) := hid (by have := hr.pth_len (d1, d2); omega)
      have hI0 : RI V Bs [] V := ⟨⟨_, by rw [hBs']; exact hbx, World.ownsRow_nil _ _ _ _⟩, Nat.le_refl _, fun j _ _ => rfl, Sm.refl _⟩
      have hseq : SeqU (3 - 1) Try.prog 62 #[.pointer (some ⟨ub, 0, none⟩), .pointer (some ⟨ub + 1, 0, none⟩)] (fun x : Dt => #[Value.agg #[.int .i64 x.1, .int .i64 x.2]]) (KU V.heap.size (fun k => V.heap.size ≤ k ∨ k = Bs)) (fun xs => xs = pth S (d1, d2)) (fun pre => pre <+: pth S (d1, d2)) (pth S (d1, d2)).length V :=
        up_seq (t := t) (o := 3) (mv := pl) (fun k h1 h2 => by omega) hr s1 hd (Nat.le_refl _) (by omega) (by omega) (by omega) b0 bt b1 b2 hP
      have HB := hid hBs'
      have HVZ := hid hVz
      clear hVz
      gi_wp2_with fail
      rw [← hBs']
      clear hBs' hr s1 s3 b0 bt b1 b2 hP hbx
      refine range_up (α := Dt) (gf := 62) rfl (enters_of Try.func62 (by kernel_rfl) rfl) hseq (fun h k => h.trans k) (fun W l o o' hl ho hc _ => KU.put W l o o' hl ho hc) (Below.refl _ _) (fun _ => rfl)
        (RI V Bs) (fun _ _ _ => False) (RI.own hBs) (fun _ _ _ _ _ h _ _ => h) hI0
        (fun x a' W => ∃ u, a' = { tmps := #[.pointer (some ⟨t, 0, none⟩), .agg #[.int .i64 d1, .int .i64 d2], undef, .pointer (some ⟨w.heap.size, 0, none⟩), .slice none 0 0, .pointer (some ⟨Bs, 0, none⟩), .pointer (some ⟨u, 0, none⟩), .pointer (some ⟨t, 0, none⟩), .pointer (some ⟨t, 3, none⟩), .agg #[.int .i64 d1, .int .i64 d2], .func (.func 62) #[] #[.pointer (some ⟨ub, 0, none⟩), .pointer (some ⟨ub + 1, 0, none⟩)], .agg #[.int .i64 x.1, .int .i64 x.2], undef, undef, undef, undef, undef], defers := [] } ∧ W.heap[u]? = some (.cells #[.int .i64 x.1, .int .i64 x.2] 24 (0, 0)) ∧ V.heap.size ≤ u) ?ownax ?assign ?body ?done (fun _ _ _ _ _ _ h _ => h.elim)
      case ownax =>
        rintro x a' _ A B row ⟨u, e, h1, h2⟩ hg hrow
        refine ⟨u, e, (hg.block u (Array.getElem?_eq_some_iff.1 h1).1 (fun e' => ?_)).trans h1, h2⟩
        obtain ⟨_, ob, hob, ht'⟩ := hrow u e'.symm
        rw [h1] at hob
        cases hob
        rcases ht' with ht' | ⟨cs, fz, ht'⟩
        · cases ht'
        · cases ht'
      case assign =>
        rintro l pre x W K hI hK
        have hg := World.grownBy_alloc W (.cells #[.int .i64 x.1, .int .i64 x.2] 24) none
        have hfin := hid (hK { tmps := #[.pointer (some ⟨t, 0, none⟩), .agg #[.int .i64 d1, .int .i64 d2], undef, .pointer (some ⟨w.heap.size, 0, none⟩), .slice none 0 0, .pointer (some ⟨Bs, 0, none⟩), .pointer (some ⟨W.heap.size, 0, none⟩), .pointer (some ⟨t, 0, none⟩), .pointer (some ⟨t, 3, none⟩), .agg #[.int .i64 d1, .int .i64 d2], .func (.func 62) #[] #[.pointer (some ⟨ub, 0, none⟩), .pointer (some ⟨ub + 1, 0, none⟩)], .agg #[.int .i64 x.1, .int .i64 x.2], undef, undef, undef, undef, undef], defers := [] } (W.alloc (.cells #[.int .i64 x.1, .int .i64 x.2] 24)) (KeepsFrom.of_grownBy hg (fun j e => by cases e)) (KU.below ((Below.refl _ W).alloc (Nat.le_refl _) _) hI.size) (hI.alloc hBs _) ⟨W.heap.size, rfl, World.alloc_heap_new W _, hI.size⟩)
        clear hK hg hI
        gi_wp2
        exact hfin.out
      case body =>
        rintro l' pre x a' W ⟨⟨v, h1, h2⟩, h3, h4, h5⟩ ⟨u, rfl, hu, hul⟩ hlen
        obtain ⟨x1, x2⟩ := x
        have e0 : W.cell? ⟨u, 0, none⟩ = some (.int .i64 x1) := by simp [World.cell?, hu]
        have e1 : W.cell? ⟨u, 1, none⟩ = some (.int .i64 x2) := by simp [World.cell?, hu]
        have cb := h1.cell
        have hpl : pre.length < 1000000 := Nat.lt_of_lt_of_le hlen HNs.out
        gi_wp2_with (first
          | (gi_at_builtin; refine wpListIn_append_own _ rfl _ _ 29 rfl V.heap.size 24 i0 (.agg #[.int .i64 0, .int .i64 0]) 2 16 Try.underlying29 hi hz0 hz1 hz2 rfl (by decide) _ _ _ rfl (h2.alloc _) ⟨W.heap.size, 0, none⟩ 1 1 [.int .i64 x1, .int .i64 x2] rfl rfl (cell_two _ _ _) (by simp [Value.oneCell']) (by unfold maxLen; omega) (by omega) (by simp; omega) ?_; intro v' w2 hown' hg hnil; obtain ⟨g', cap', rfl⟩ := ownsRow_succ hown'; obtain ⟨q1, q2, HQ⟩ := RI.app (x := (x1, x2)) hBs h3 h4 h5 h1 h2 hown' hg; clear hown' hg hnil)
          | gi_in)
        exact ⟨HQ.out.2.1, HQ.out.2.2, HQ.out.1⟩

      case done =>
        rintro D ys W hD hS' ⟨⟨v, h1, h2⟩, h3, h4, h5⟩ hK
        subst hS'
        rw [q4] at h2
        have cb := h1.cell
        have hfin : Hid (∃ A'', RowOf w (W.putObj D (.deferred none)) A'' (pth (run l) (d1, d2)) (.returned v) ∧ TT (W.putObj D (.deferred none)) t l A'' ∧ KA w (W.putObj D (.deferred none)) A A'') := hid ⟨A', ⟨v, rfl, owns_base (ownsRow_putObj h2 (.deferred none) hK rfl) hKA.size, fun j hj e => by have := (h2.lt j hj).1; have := hTT.lt j e; omega⟩, hTT.same (by simp [World.putObj]; omega) (fun j hj => (World.putObj_heap_other (by have := hTT.lt j hj; omega)).trans (h4 j (hTT.lt j hj) (fun e => hnA (by rw [← HB.out, ← e]; exact hj)))), by have := hKA.size; simp [World.putObj]; omega, fun j hj hA => (World.putObj_heap_other (by have := hKA.size; omega)).trans ((h4 j (by have := hKA.size; omega) (by rw [HB.out]; omega)).trans (hKA.keep j hj hA)), hKA.new, hKA.sm.trans (h5.trans ⟨rfl, rfl, rfl⟩)⟩
        clear h1 h2 h3 h4 hKA hTT hnA
        gi_wp2
        refine ⟨by simp, .inl ⟨_, _, rfl, run_takeDeferred hK, ?_⟩⟩
        refine ⟨_, results_tmp rfl _ _ _, ?_⟩
        exact hfin.out
    · go_simp
      refine hK.out _ _ hS0 (fun _ => ?_)
      clear hK K
      refine wpAnyH_ready (rs := [1]) (by kernel_rfl) (by simp) ?_
      refine AllReadyH.cons rfl (fun K hK => ?_) AllReadyH.nil
      go_simp
      refine HN.mono ?_
      rintro e W1 ⟨rfl, S1, HU⟩
      refine hK.out _ _ S1 (fun _ => ?_)
      clear hK K
      refine wpAnyH_ready (rs := [3]) (by kernel_rfl) (by simp) ?_
      refine AllReadyH.cons rfl (fun K hK => ?_) AllReadyH.nil
      go_simp
      refine HU.mono ?_
      rintro e V ⟨rfl, S2, HF⟩
      refine hK.out _ _ S2 (fun _ => ?_)
      clear hK K
      refine wpAnyH_done (by kernel_rfl) ?_ _
      clear HN HU S1 S2 hS0
      obtain ⟨ub, hub⟩ : ∃ ub, ub = W1.heap.size := ⟨_, rfl⟩
      rw [← hub] at HF ⊢
      clear hub
      obtain ⟨S, r, pl, A', hVz, hr, s1, s3, q4, b0, bt, b1, b2, hP, hbx, hTT, hKA, hnA, hub⟩ := HF.out
      clear HF
      obtain ⟨Bs, hBs'⟩ : ∃ Bs, Bs = w.heap.size + 1 := ⟨_, rfl⟩
      have hBs : Bs < V.heap.size := by omega
      have HNs : Hid ((pth S (d1, d2)).length ≤ 1000000) := hid (by have := hr.pth_len (d1, d2); omega)
      have hI0 : RI V Bs [] V := ⟨⟨_, by rw [hBs']; exact hbx, World.ownsRow_nil _ _ _ _⟩, Nat.le_refl _, fun j _ _ => rfl, Sm.refl _⟩
      have hseq : SeqU (3 - 1) Try.prog 62 #[.pointer (some ⟨ub, 0, none⟩), .pointer (some ⟨ub + 1, 0, none⟩)] (fun x : Dt => #[Value.agg #[.int .i64 x.1, .int .i64 x.2]]) (KU V.heap.size (fun k => V.heap.size ≤ k ∨ k = Bs)) (fun xs => xs = pth S (d1, d2)) (fun pre => pre <+: pth S (d1, d2)) (pth S (d1, d2)).length V :=
        up_seq (t := t) (o := 3) (mv := pl) (fun k h1 h2 => by omega) hr s1 hd (Nat.le_refl _) (by omega) (by omega) (by omega) b0 bt b1 b2 hP
      have HB := hid hBs'
      have HVZ := hid hVz
      clear hVz
      gi_wp2_with fail
      rw [← hBs']
      clear hBs' hr s1 s3 b0 bt b1 b2 hP hbx
      refine range_up (α := Dt) (gf := 62) rfl (enters_of Try.func62 (by kernel_rfl) rfl) hseq (fun h k => h.trans k) (fun W l o o' hl ho hc _ => KU.put W l o o' hl ho hc) (Below.refl _ _) (fun _ => rfl)
        (RI V Bs) (fun _ _ _ => False) (RI.own hBs) (fun _ _ _ _ _ h _ _ => h) hI0
        (fun x a' W => ∃ u, a' = { tmps := #[.pointer (some ⟨t, 0, none⟩), .agg #[.int .i64 d1, .int .i64 d2], undef, .pointer (some ⟨w.heap.size, 0, none⟩), .slice none 0 0, .pointer (some ⟨Bs, 0, none⟩), .pointer (some ⟨u, 0, none⟩), .pointer (some ⟨t, 0, none⟩), .pointer (some ⟨t, 3, none⟩), .agg #[.int .i64 d1, .int .i64 d2], .func (.func 62) #[] #[.pointer (some ⟨ub, 0, none⟩), .pointer (some ⟨ub + 1, 0, none⟩)], .agg #[.int .i64 x.1, .int .i64 x.2], undef, undef, undef, undef, undef], defers := [] } ∧ W.heap[u]? = some (.cells #[.int .i64 x.1, .int .i64 x.2] 24 (0, 0)) ∧ V.heap.size ≤ u) ?ownax ?assign ?body ?done (fun _ _ _ _ _ _ h _ => h.elim)
      case ownax =>
        rintro x a' _ A B row ⟨u, e, h1, h2⟩ hg hrow
        refine ⟨u, e, (hg.block u (Array.getElem?_eq_some_iff.1 h1).1 (fun e' => ?_)).trans h1, h2⟩
        obtain ⟨_, ob, hob, ht'⟩ := hrow u e'.symm
        rw [h1] at hob
        cases hob
        rcases ht' with ht' | ⟨cs, fz, ht'⟩
        · cases ht'
        · cases ht'
      case assign =>
        rintro l pre x W K hI hK
        have hg := World.grownBy_alloc W (.cells #[.int .i64 x.1, .int .i64 x.2] 24) none
        have hfin := hid (hK { tmps := #[.pointer (some ⟨t, 0, none⟩), .agg #[.int .i64 d1, .int .i64 d2], undef, .pointer (some ⟨w.heap.size, 0, none⟩), .slice none 0 0, .pointer (some ⟨Bs, 0, none⟩), .pointer (some ⟨W.heap.size, 0, none⟩), .pointer (some ⟨t, 0, none⟩), .pointer (some ⟨t, 3, none⟩), .agg #[.int .i64 d1, .int .i64 d2], .func (.func 62) #[] #[.pointer (some ⟨ub, 0, none⟩), .pointer (some ⟨ub + 1, 0, none⟩)], .agg #[.int .i64 x.1, .int .i64 x.2], undef, undef, undef, undef, undef], defers := [] } (W.alloc (.cells #[.int .i64 x.1, .int .i64 x.2] 24)) (KeepsFrom.of_grownBy hg (fun j e => by cases e)) (KU.below ((Below.refl _ W).alloc (Nat.le_refl _) _) hI.size) (hI.alloc hBs _) ⟨W.heap.size, rfl, World.alloc_heap_new W _, hI.size⟩)
        clear hK hg hI
        gi_wp2
        exact hfin.out
      case body =>
        rintro l' pre x a' W ⟨⟨v, h1, h2⟩, h3, h4, h5⟩ ⟨u, rfl, hu, hul⟩ hlen
        obtain ⟨x1, x2⟩ := x
        have e0 : W.cell? ⟨u, 0, none⟩ = some (.int .i64 x1) := by simp [World.cell?, hu]
        have e1 : W.cell? ⟨u, 1, none⟩ = some (.int .i64 x2) := by simp [World.cell?, hu]
        have cb := h1.cell
        have hpl : pre.length < 1000000 := Nat.lt_of_lt_of_le hlen HNs.out
        gi_wp2_with (first
          | (gi_at_builtin; refine wpListIn_append_own _ rfl _ _ 29 rfl V.heap.size 24 i0 (.agg #[.int .i64 0, .int .i64 0]) 2 16 Try.underlying29 hi hz0 hz1 hz2 rfl (by decide) _ _ _ rfl (h2.alloc _) ⟨W.heap.size, 0, none⟩ 1 1 [.int .i64 x1, .int .i64 x2] rfl rfl (cell_two _ _ _) (by simp [Value.oneCell']) (by unfold maxLen; omega) (by omega) (by simp; omega) ?_; intro v' w2 hown' hg hnil; obtain ⟨g', cap', rfl⟩ := ownsRow_succ hown'; obtain ⟨q1, q2, HQ⟩ := RI.app (x := (x1, x2)) hBs h3 h4 h5 h1 h2 hown' hg; clear hown' hg hnil)
          | gi_in)
        exact ⟨HQ.out.2.1, HQ.out.2.2, HQ.out.1⟩

      case done =>
        rintro D ys W hD hS' ⟨⟨v, h1, h2⟩, h3, h4, h5⟩ hK
        subst hS'
        rw [q4] at h2
        have cb := h1.cell
        have hfin : Hid (∃ A'', RowOf w (W.putObj D (.deferred none)) A'' (pth (run l) (d1, d2)) (.returned v) ∧ TT (W.putObj D (.deferred none)) t l A'' ∧ KA w (W.putObj D (.deferred none)) A A'') := hid ⟨A', ⟨v, rfl, owns_base (ownsRow_putObj h2 (.deferred none) hK rfl) hKA.size, fun j hj e => by have := (h2.lt j hj).1; have := hTT.lt j e; omega⟩, hTT.same (by simp [World.putObj]; omega) (fun j hj => (World.putObj_heap_other (by have := hTT.lt j hj; omega)).trans (h4 j (hTT.lt j hj) (fun e => hnA (by rw [← HB.out, ← e]; exact hj)))), by have := hKA.size; simp [World.putObj]; omega, fun j hj hA => (World.putObj_heap_other (by have := hKA.size; omega)).trans ((h4 j (by have := hKA.size; omega) (by rw [HB.out]; omega)).trans (hKA.keep j hj hA)), hKA.new, hKA.sm.trans (h5.trans ⟨rfl, rfl, rfl⟩)⟩
        clear h1 h2 h3 h4 hKA hTT hnA
        gi_wp2
        refine ⟨by simp, .inl ⟨_, _, rfl, run_takeDeferred hK, ?_⟩⟩
        refine ⟨_, results_tmp rfl _ _ _, ?_⟩
        exact hfin.out
  · go_simp
    refine hK.out _ _ hS0 (fun _ => ?_)
    clear hK K
    refine wpAnyH_ready (rs := [0]) (by kernel_rfl) (by simp) ?_
    refine AllReadyH.cons rfl (fun K hK => ?_) AllReadyH.nil
    go_simp
    refine hK.out _ _ hS0 (fun _ => ?_)
    clear hK K
    refine wpAnyH_ready (rs := [1]) (by kernel_rfl) (by simp) ?_
    refine AllReadyH.cons rfl (fun K hK => ?_) AllReadyH.nil
    go_simp
    refine HN.mono ?_
    rintro e W1 ⟨rfl, S1, HU⟩
    refine hK.out _ _ S1 (fun _ => ?_)
    clear hK K
    refine wpAnyH_ready (rs := [3]) (by kernel_rfl) (by simp) ?_
    refine AllReadyH.cons rfl (fun K hK => ?_) AllReadyH.nil
    go_simp
    refine HU.mono ?_
    rintro e V ⟨rfl, S2, HF⟩
    refine hK.out _ _ S2 (fun _ => ?_)
    clear hK K
    refine wpAnyH_done (by kernel_rfl) ?_ _
    clear HN HU S1 S2 hS0
    obtain ⟨ub, hub⟩ : ∃ ub, ub = W1.heap.size := ⟨_, rfl⟩
    rw [← hub] at HF ⊢
    clear hub
    obtain ⟨S, r, pl, A', hVz, hr, s1, s3, q4, b0, bt, b1, b2, hP, hbx, hTT, hKA, hnA, hub⟩ := HF.out
    clear HF
    obtain ⟨Bs, hBs'⟩ : ∃ Bs, Bs = w.heap.size + 1 := ⟨_, rfl⟩
    have hBs : Bs < V.heap.size := by omega
    have HNs : Hid ((pth S (d1, d2)).length ≤ 1000000) := hid (by have := hr.pth_len (d1, d2); omega)
    have hI0 : RI V Bs [] V := ⟨⟨_, by rw [hBs']; exact hbx, World.ownsRow_nil _ _ _ _⟩, Nat.le_refl _, fun j _ _ => rfl, Sm.refl _⟩
    have hseq : SeqU (3 - 1) Try.prog 62 #[.pointer (some ⟨ub, 0, none⟩), .pointer (some ⟨ub + 1, 0, none⟩)] (fun x : Dt => #[Value.agg #[.int .i64 x.1, .int .i64 x.2]]) (KU V.heap.size (fun k => V.heap.size ≤ k ∨ k = Bs)) (fun xs => xs = pth S (d1, d2)) (fun pre => pre <+: pth S (d1, d2)) (pth S (d1, d2)).length V :=
      up_seq (t := t) (o := 3) (mv := pl) (fun k h1 h2 => by omega) hr s1 hd (Nat.le_refl _) (by omega) (by omega) (by omega) b0 bt b1 b2 hP
    have HB := hid hBs'
    have HVZ := hid hVz
    clear hVz
    gi_wp2_with fail
    rw [← hBs']
    clear hBs' hr s1 s3 b0 bt b1 b2 hP hbx
    refine range_up (α := Dt) (gf := 62) rfl (enters_of Try.func62 (by kernel_rfl) rfl) hseq (fun h k => h.trans k) (fun W l o o' hl ho hc _ => KU.put W l o o' hl ho hc) (Below.refl _ _) (fun _ => rfl)
      (RI V Bs) (fun _ _ _ => False) (RI.own hBs) (fun _ _ _ _ _ h _ _ => h) hI0
      (fun x a' W => ∃ u, a' = { tmps := #[.pointer (some ⟨t, 0, none⟩), .agg #[.int .i64 d1, .int .i64 d2], undef, .pointer (some ⟨w.heap.size, 0, none⟩), .slice none 0 0, .pointer (some ⟨Bs, 0, none⟩), .pointer (some ⟨u, 0, none⟩), .pointer (some ⟨t, 0, none⟩), .pointer (some ⟨t, 3, none⟩), .agg #[.int .i64 d1, .int .i64 d2], .func (.func 62) #[] #[.pointer (some ⟨ub, 0, none⟩), .pointer (some ⟨ub + 1, 0, none⟩)], .agg #[.int .i64 x.1, .int .i64 x.2], undef, undef, undef, undef, undef], defers := [] } ∧ W.heap[u]? = some (.cells #[.int .i64 x.1, .int .i64 x.2] 24 (0, 0)) ∧ V.heap.size ≤ u) ?ownax ?assign ?body ?done (fun _ _ _ _ _ _ h _ => h.elim)
    case ownax =>
      rintro x a' _ A B row ⟨u, e, h1, h2⟩ hg hrow
      refine ⟨u, e, (hg.block u (Array.getElem?_eq_some_iff.1 h1).1 (fun e' => ?_)).trans h1, h2⟩
      obtain ⟨_, ob, hob, ht'⟩ := hrow u e'.symm
      rw [h1] at hob
      cases hob
      rcases ht' with ht' | ⟨cs, fz, ht'⟩
      · cases ht'
      · cases ht'
    case assign =>
      rintro l pre x W K hI hK
      have hg := World.grownBy_alloc W (.cells #[.int .i64 x.1, .int .i64 x.2] 24) none
      have hfin := hid (hK { tmps := #[.pointer (some ⟨t, 0, none⟩), .agg #[.int .i64 d1, .int .i64 d2], undef, .pointer (some ⟨w.heap.size, 0, none⟩), .slice none 0 0, .pointer (some ⟨Bs, 0, none⟩), .pointer (some ⟨W.heap.size, 0, none⟩), .pointer (some ⟨t, 0, none⟩), .pointer (some ⟨t, 3, none⟩), .agg #[.int .i64 d1, .int .i64 d2], .func (.func 62) #[] #[.pointer (some ⟨ub, 0, none⟩), .pointer (some ⟨ub + 1, 0, none⟩)], .agg #[.int .i64 x.1, .int .i64 x.2], undef, undef, undef, undef, undef], defers := [] } (W.alloc (.cells #[.int .i64 x.1, .int .i64 x.2] 24)) (KeepsFrom.of_grownBy hg (fun j e => by cases e)) (KU.below ((Below.refl _ W).alloc (Nat.le_refl _) _) hI.size) (hI.alloc hBs _) ⟨W.heap.size, rfl, World.alloc_heap_new W _, hI.size⟩)
      clear hK hg hI
      gi_wp2
      exact hfin.out
    case body =>
      rintro l' pre x a' W ⟨⟨v, h1, h2⟩, h3, h4, h5⟩ ⟨u, rfl, hu, hul⟩ hlen
      obtain ⟨x1, x2⟩ := x
      have e0 : W.cell? ⟨u, 0, none⟩ = some (.int .i64 x1) := by simp [World.cell?, hu]
      have e1 : W.cell? ⟨u, 1, none⟩ = some (.int .i64 x2) := by simp [World.cell?, hu]
      have cb := h1.cell
      have hpl : pre.length < 1000000 := Nat.lt_of_lt_of_le hlen HNs.out
      gi_wp2_with (first
        | (gi_at_builtin; refine wpListIn_append_own _ rfl _ _ 29 rfl V.heap.size 24 i0 (.agg #[.int .i64 0, .int .i64 0]) 2 16 Try.underlying29 hi hz0 hz1 hz2 rfl (by decide) _ _ _ rfl (h2.alloc _) ⟨W.heap.size, 0, none⟩ 1 1 [.int .i64 x1, .int .i64 x2] rfl rfl (cell_two _ _ _) (by simp [Value.oneCell']) (by unfold maxLen; omega) (by omega) (by simp; omega) ?_; intro v' w2 hown' hg hnil; obtain ⟨g', cap', rfl⟩ := ownsRow_succ hown'; obtain ⟨q1, q2, HQ⟩ := RI.app (x := (x1, x2)) hBs h3 h4 h5 h1 h2 hown' hg; clear hown' hg hnil)
        | gi_in)
      exact ⟨HQ.out.2.1, HQ.out.2.2, HQ.out.1⟩

    case done =>
      rintro D ys W hD hS' ⟨⟨v, h1, h2⟩, h3, h4, h5⟩ hK
      subst hS'
      rw [q4] at h2
      have cb := h1.cell
      have hfin : Hid (∃ A'', RowOf w (W.putObj D (.deferred none)) A'' (pth (run l) (d1, d2)) (.returned v) ∧ TT (W.putObj D (.deferred none)) t l A'' ∧ KA w (W.putObj D (.deferred none)) A A'') := hid ⟨A', ⟨v, rfl, owns_base (ownsRow_putObj h2 (.deferred none) hK rfl) hKA.size, fun j hj e => by have := (h2.lt j hj).1; have := hTT.lt j e; omega⟩, hTT.same (by simp [World.putObj]; omega) (fun j hj => (World.putObj_heap_other (by have := hTT.lt j hj; omega)).trans (h4 j (hTT.lt j hj) (fun e => hnA (by rw [← HB.out, ← e]; exact hj)))), by have := hKA.size; simp [World.putObj]; omega, fun j hj hA => (World.putObj_heap_other (by have := hKA.size; omega)).trans ((h4 j (by have := hKA.size; omega) (by rw [HB.out]; omega)).trans (hKA.keep j hj hA)), hKA.new, hKA.sm.trans (h5.trans ⟨rfl, rfl, rfl⟩)⟩
      clear h1 h2 h3 h4 hKA hTT hnA
      gi_wp2
      refine ⟨by simp, .inl ⟨_, _, rfl, run_takeDeferred hK, ?_⟩⟩
      refine ⟨_, results_tmp rfl _ _ _, ?_⟩
      exact hfin.out
end

section
open Go.Shelf

def ren : Ren := ⟨fun | 6 => 78 | 15 => 89 | 14 => 88 | 28 => 106 | 29 => 107 | 20 => 98 | 21 => 99 | 22 => 100 | 23 => 101 | 24 => 102 | 25 => 103 | 26 => 104 | 27 => 105 | 46 => 110 | 47 => 111 | 48 => 112 | 49 => 113 | 50 => 114 | 57 => 116 | n => n, fun | 22 => 29 | 24 => 24 | 25 => 119 | 3 => 3 | 39 => 116 | 0 => 0 | 53 => 145 | 55 => 147 | 4 => 4 | 46 => 139 | 45 => 138 | 50 => 101 | 5 => 5 | 9 => 9 | 66 => 148 | 70 => 152 | 76 => 155 | 77 => 156 | n => n, fun n => n⟩

theorem lays : SlLaysF0.n6 Try.prog ren := {
  mixed := by kernel_rfl
  f6 := ⟨Try.f78.name, by decide, Try.func78.trans (congrArg some (by kernel_rfl))⟩
  f14 := ⟨Try.f88.name, by decide, Try.func88.trans (congrArg some (by kernel_rfl))⟩
  f15 := Try.func89.trans (congrArg some (by kernel_rfl))
  f20 := ⟨Try.f98.name, by decide, Try.func98.trans (congrArg some (by kernel_rfl))⟩
  f21 := ⟨Try.f99.name, by decide, Try.func99.trans (congrArg some (by kernel_rfl))⟩
  f22 := ⟨Try.f100.name, by decide, Try.func100.trans (congrArg some (by kernel_rfl))⟩
  f23 := ⟨Try.f101.name, by decide, Try.func101.trans (congrArg some (by kernel_rfl))⟩
  f24 := ⟨Try.f102.name, by decide, Try.func102.trans (congrArg some (by kernel_rfl))⟩
  f25 := ⟨Try.f103.name, by decide, Try.func103.trans (congrArg some (by kernel_rfl))⟩
  f26 := ⟨Try.f104.name, by decide, Try.func104.trans (congrArg some (by kernel_rfl))⟩
  f27 := ⟨Try.f105.name, by decide, Try.func105.trans (congrArg some (by kernel_rfl))⟩
  f28 := Try.func106.trans (congrArg some (by kernel_rfl))
  f29 := Try.func107.trans (congrArg some (by kernel_rfl))
  f46 := ⟨Try.f110.name, by decide, Try.func110.trans (congrArg some (by kernel_rfl))⟩
  f47 := Try.func111.trans (congrArg some (by kernel_rfl))
  f48 := Try.func112.trans (congrArg some (by kernel_rfl))
  f49 := ⟨Try.f113.name, by decide, Try.func113.trans (congrArg some (by kernel_rfl))⟩
  f50 := ⟨Try.f114.name, by decide, Try.func114.trans (congrArg some (by kernel_rfl))⟩
  f57 := ⟨Try.f116.name, by decide, Try.func116.trans (congrArg some (by kernel_rfl))⟩
  t0 := Try.underlying0
  a0 := Try.isAgg0
  z0 := Try.sizeOf0
  v0 := Try.zeroValue0
  t3 := Try.underlying3
  a3 := Try.isAgg3
  z3 := Try.sizeOf3
  v3 := Try.zeroValue3
  t4 := Try.underlying4
  a4 := Try.isAgg4
  z4 := Try.sizeOf4
  v4 := Try.zeroValue4
  t5 := Try.underlying5
  a5 := Try.isAgg5
  z5 := Try.sizeOf5
  v5 := Try.zeroValue5
  t9 := Try.underlying9
  a9 := Try.isAgg9
  z9 := Try.sizeOf9
  v9 := Try.zeroValue9
  t22 := Try.underlying29
  a22 := Try.isAgg29
  z22 := Try.sizeOf29
  v22 := Try.zeroValue29
  t25 := Try.underlying119
  a25 := Try.isAgg119
  z25 := Try.sizeOf119
  v25 := Try.zeroValue119
  t39 := Try.underlying116
  a39 := Try.isAgg116
  z39 := Try.sizeOf116
  v39 := Try.zeroValue116
  t45 := Try.underlying138
  a45 := Try.isAgg138
  z45 := Try.sizeOf138
  v45 := Try.zeroValue138
  t46 := Try.underlying139
  a46 := Try.isAgg139
  z46 := Try.sizeOf139
  v46 := Try.zeroValue139
  t50 := Try.underlying101
  a50 := Try.isAgg101
  z50 := Try.sizeOf101
  v50 := Try.zeroValue101
  t53 := Try.underlying145
  a53 := Try.isAgg145
  z53 := Try.sizeOf145
  v53 := Try.zeroValue145
  t55 := Try.underlying147
  a55 := Try.isAgg147
  z55 := Try.sizeOf147
  v55 := Try.zeroValue147
  t66 := Try.underlying148
  a66 := Try.isAgg148
  z66 := Try.sizeOf148
  v66 := Try.zeroValue148
  t70 := Try.underlying152
  a70 := Try.isAgg152
  z70 := Try.sizeOf152
  v70 := Try.zeroValue152
  t76 := Try.underlying155
  a76 := Try.isAgg155
  z76 := Try.sizeOf155
  v76 := Try.zeroValue155
  t77 := Try.underlying156
  a77 := Try.isAgg156
  z77 := Try.sizeOf156
  v77 := Try.zeroValue156
}
end

section
open Go.RowKit
open Go.Sort (grow ahead putRow putCells mapBlock onCells Holds HoldsK flatK putRowK PermIn SortedIn SWO size_flatK get_flatK heap_grow_old)

/-- A dot's two cells. -/
def encD (x : Dt) : List Value := [.int .i64 x.1, .int .i64 x.2]

theorem lt_cfd (x y : Dt) : ltOf cfd x y = dl x y := by
  unfold ltOf cfd
  by_cases h : x = y
  · subst h; simp [dl_irrefl]
  · by_cases h2 : dl x y = true
    · simp [h, h2]
    · simp [h, h2]

theorem swo_cfd : SWO (ltOf cfd) := by
  refine ⟨fun x => ?_, fun x y z h1 h2 => ?_, fun x y z h1 h2 => ?_⟩
  · rw [lt_cfd]; exact dl_irrefl x
  · rw [lt_cfd] at *; exact dl_trans h1 h2
  · rw [lt_cfd] at *
    have k1 : ¬ dl x y = true := by rw [h1]; simp
    have k2 : ¬ dl y z = true := by rw [h2]; simp
    cases hh : dl x z
    · rfl
    · rw [dl_iff] at *; omega

theorem cmp_lays (blk off size : Nat) (w : World) : CmpLays Try.prog 79 #[] encD 2 cfd blk off size w := fun _ _ _ _ x y =>
  (dorder_any x y _).mono fun _ _ ⟨he, q, os, hw⟩ => ⟨he, q, os, hw⟩

theorem flatK_list (d : Array Dt) : (flatK encD 2 d).toList = flat d.toList := by
  apply List.ext_getElem?
  intro t
  by_cases ht : t < d.size * 2
  · have h1 : (flatK encD 2 d)[t]! = (encD d[t / 2]!)[t % 2]! := get_flatK encD 2 d t ht
    have hi : t / 2 < d.toList.length := by simp; omega
    have hi' : t / 2 < d.size := by omega
    obtain ⟨f1, f2⟩ := flat_get d.toList (t / 2) hi
    have e0 : (flatK encD 2 d).toList[t]? = some ((flatK encD 2 d)[t]!) := by
      rw [Array.getElem?_toList, getElem!_pos _ t (by rw [size_flatK]; exact ht), Array.getElem?_eq_getElem (by rw [size_flatK]; exact ht)]
    rw [e0, h1, getElem!_pos d (t / 2) hi']
    rcases Nat.mod_two_eq_zero_or_one t with hm | hm
    · have : t = t / 2 * 2 := by omega
      rw [hm]
      conv => rhs; rw [this]
      rw [f1]
      simp [encD]
    · have : t = t / 2 * 2 + 1 := by omega
      rw [hm]
      conv => rhs; rw [this]
      rw [f2]
      simp [encD]
  · rw [List.getElem?_eq_none (by rw [Array.length_toList, size_flatK]; omega), List.getElem?_eq_none (by rw [flat_length, Array.length_toList]; omega)]

theorem holds_own {w : World} {base g c : Nat} {ds : List Dt} (h : Own w base g ds.length c ds) : HoldsK encD 2 w g 0 ds.toArray := by
  rcases h.2 with ⟨h0, _⟩ | ⟨g', cap', cur, hv, hg, hb, hn, hcap, hsz, ht⟩
  · cases h0
  · cases hv
    intro j hj
    rw [size_flatK] at hj
    have hj' : j < ds.length * 2 := by simpa using hj
    refine ⟨?_, by simp [World.frozen?, hb]⟩
    have h1 : (cur.toList.take (ds.length * 2))[j]? = (flat ds)[j]? := by rw [ht]
    rw [List.getElem?_take_of_lt hj'] at h1
    simp only [World.cell?, hb, Nat.zero_add]
    simp only [Option.isSome_none, Bool.false_eq_true, if_false]
    rw [← Array.getElem?_toList, h1]
    have e := flatK_list ds.toArray
    have e2 : ds.toArray.toList = ds := rfl
    rw [e2] at e
    rw [← e, Array.getElem?_toList, getElem!_pos _ j (by rw [size_flatK]; exact hj), Array.getElem?_eq_getElem (by rw [size_flatK]; exact hj)]
    rfl

theorem sorted_up {ts : List Dt} (hn : ts.Nodup) (h : SortedIn (ltOf cfd) 0 ts.toArray.size ts.toArray) : Up ts := by
  refine List.pairwise_iff_getElem.2 fun i j hi hj hij => ?_
  have := h i j (Nat.zero_le _) hij (by simpa using hj)
  rw [lt_cfd, getElem!_pos _ j (by simpa using hj), getElem!_pos _ i (by simpa using hi)] at this
  have hne : ts[j] ≠ ts[i] := fun e => by
    have := (List.getElem_inj hn).1 e
    omega
  exact dl_total hne (by simpa using this)

theorem heap_sortedK {w : World} {g n : Nat} {os : Array Obj} {cur : Array Value} {e : TypeId} {fr : Nat × Nat} (d : Array Dt) (hb : w.heap[g]? = some (.cells cur e fr)) :
    (sortWorldK encD 2 w g 0 n d os).heap[g]? = some (.cells (putCells id 0 (flatK encD 2 d) cur) e fr) := by
  have hg : g < w.heap.size := (Array.getElem?_eq_some_iff.1 hb).1
  unfold sortWorldK putRowK
  rw [heap_grow_old _ _ (by simpa using hg)]
  simp [putRow, mapBlock, Array.getElem?_modify, hb, onCells]

theorem grownBy_sortedK {w : World} {g n : Nat} {os : Array Obj} (d : Array Dt) : w.grownBy (sortWorldK encD 2 w g 0 n d os) (some g) := by
  unfold sortWorldK putRowK
  refine ⟨rfl, rfl, rfl, by simp, fun k hk hne => ?_⟩
  rw [heap_grow_old _ _ (by simpa using hk)]
  have : g ≠ k := fun e => hne (by rw [e])
  simp [putRow, mapBlock, Array.getElem?_modify, this]

theorem take_putK (cur : Array Value) (ts : List Dt) (h : ts.length * 2 ≤ cur.size) : (putCells id 0 (flatK encD 2 ts.toArray) cur).toList.take (ts.length * 2) = flat ts := by
  have e : (flatK encD 2 ts.toArray).toList = flat ts := flatK_list ts.toArray
  apply List.ext_getElem?
  intro j
  by_cases hj : j < ts.length * 2
  · rw [List.getElem?_take_of_lt hj, Array.getElem?_toList, ← e, Array.getElem?_toList]
    simp [putCells, hj, show j < cur.size by omega]
  · rw [List.getElem?_take_eq_none (by omega), List.getElem?_eq_none (by rw [flat_length]; omega)]

set_option maxHeartbeats 1000000 in
theorem sortSays : SortSays := by
  intro base g c ds w hown hnd hsz
  have eg : ∀ args w, (callFunc 79 args).run Try.prog w = .ok (.enter 79 args) w := enters_of Try.func79 (by kernel_rfl) rfl
  have hgl : g < w.heap.size := (hown.lt g rfl).2
  have hcon := AnyQ.slices_SortFunc lays 2 Try.isAgg24 Try.sizeOf24 encD (fun _ => rfl) (fun x v hv => by simp [encD] at hv; rcases hv with rfl | rfl <;> rfl) cfd swo_cfd 79 #[] g 0 c ds.toArray w eg (cmp_lays g 0 ds.toArray.size w) (holds_own hown) hgl (by simp; omega)
  refine Calls.mono hcon ?_
  rintro e w' ⟨rfl, d', n, os, hp, hs, rfl⟩
  have hsize : d'.size = ds.length := by simpa using hp.1
  have hperm : d'.toList.Perm ds := by
    have := hp.2.2
    have e1 : ds.take d'.size = ds := by rw [hsize, List.take_length]
    simpa [← hsize, e1] using this
  have hup : Up d'.toList := sorted_up (hperm.nodup_iff.2 hnd) (by simpa [hsize] using hs)
  have hrise : d'.toList = rise ds := eq_rise hup (fun d => hperm.mem_iff)
  refine ⟨rfl, ?_, grownBy_sortedK _⟩
  rcases hown.2 with ⟨h0, _⟩ | ⟨g', cap', cur, hv, hg, hb, hn, hcap, hcs, ht⟩
  · cases h0
  · cases hv
    refine ⟨by rw [flat_length, nodup_rise_length hnd], .inr ⟨g, c, _, rfl, hg, heap_sortedK _ hb, hn, hcap, by simp [putCells, hcs], ?_⟩⟩
    rw [← hrise, ← hsize]
    have := take_putK cur d'.toList (by rw [Array.length_toList, hsize]; omega)
    simpa using this
end

section
open Go.RowKit Go.Sort Go.Maps

theorem Own.base {w : World} {b b' g n c : Nat} {L : List Dt} (h : Own w b g n c L) (hb : b' ≤ b) : Own w b' g n c L := by
  obtain ⟨h1, h2⟩ := h
  refine ⟨h1, ?_⟩
  rcases h2 with h2 | ⟨g', cap', cur, hv, hg, r⟩
  · exact .inl h2
  · exact .inr ⟨g', cap', cur, hv, Nat.le_trans hb hg, r⟩

/-- A call answers a new slice that holds L. -/
def GivesN (w : World) (L : List Dt) (e : Ending) (w' : World) : Prop :=
  ∃ g c, e = .returned (.slice (some ⟨g, 0, none⟩) L.length c) ∧ Own w' w.heap.size g L.length c L ∧ Below w.heap.size w w'

set_option maxHeartbeats 1000000 in
theorem rising_any (a : Option Addr) (n c : Nat) (L : List Dt) (w : World) (hs : PS w a n c L) (hd : Dws L) (hn : n ≤ 1000000) :
    Calls Try.prog 36 #[.slice a n c] w (GivesN w (rise L)) := by
  have hp := places_any a n c L w hs hd hn
  go_enter Try.func36, Try.ntmps36
  go_wp2_with (first
    | (go_at_call 57; refine (row_any sortSays _ n (pl L) L w1 hdm (fun d _ => pl_some L d) hd hn).mono ?_; rintro e w2 ⟨g, c2, rfl, ho, b2⟩)
    | (go_at_call 58; refine hp.mono ?_; rintro e w1 ⟨rfl, hdm, b1⟩))
  go_ret
  exact ⟨g, c2, rfl, ho.base b1.size, below2 b1 b2⟩
end

section
set_option linter.unusedVariables false
set_option linter.unusedSimpArgs false
open Go.RowKit

/-- All blocks, by their identities. -/
def blks (l : List Mv) : List Dt := rise ((run l).map Sp.b)

theorem keys_rise {S S' : List Sp} (hp : S.Perm S') (hn : (S.map Sp.b).Nodup) (hd : ∀ x ∈ S, Dw x.b) {xs : List Dt} (h : KeysOfS S xs) : rise xs = rise (S'.map Sp.b) := by
  refine up_ext (up_rise _) (up_rise _) (fun d => ?_)
  rw [mem_rise, mem_rise]
  have e : ∀ d, d ∈ S'.map Sp.b ↔ (lk S d).isSome = true := fun d => by
    rw [lk_perm hn hp d]
    cases hl : lk S' d with
    | none =>
      simp only [Option.isSome_none, Bool.false_eq_true, iff_false]
      intro hm
      obtain ⟨s, hs, e⟩ := List.mem_map.1 hm
      exact lk_none.1 hl s hs e
    | some q =>
      obtain ⟨s, hs, e, _⟩ := lk_some hl
      simp only [Option.isSome_some, iff_true]
      exact List.mem_map.2 ⟨s, hs, e⟩
  rw [e]
  constructor
  · intro hm
    exact (h.2.2 d (h.2.1 d hm)).1 hm
  · intro hm
    have hm' := hm
    rw [← e] at hm'
    obtain ⟨s, hs, e2⟩ := List.mem_map.1 ((hp.map Sp.b).mem_iff.2 hm')
    refine (h.2.2 d ?_).2 hm
    rw [← e2]
    exact hd s hs

set_option maxRecDepth 100000 in
set_option maxHeartbeats 4000000 in
theorem blocks_tt (t : Nat) (l : List Mv) (A : Nat → Prop) (w : World) (h : TT w t l A) :
    Calls Try.prog 14 #[.pointer (some ⟨t, 0, none⟩)] w fun e w' => ∃ A', RowOf w w' A' (blks l) e ∧ TT w' t l A' ∧ KA w w' A A' := by
  have HN := (now_tt h).mono (R' := fun e W1 => e = .returned (.pointer (some ⟨t, 3, none⟩)) ∧ ∃ mo, W1.cell? ⟨t, 3, none⟩ = some (.map mo) ∧ Calls Try.prog 38 #[.map mo] W1 fun e W2 => e = .returned (.func (.func 60) #[] #[.pointer (some ⟨W1.heap.size, 0, none⟩)]) ∧ Calls Try.prog 37 #[.func (.func 60) #[] #[.pointer (some ⟨W1.heap.size, 0, none⟩)]] W2 fun e W3 => ∃ v, e = .returned v ∧ Calls Try.prog 36 #[v] W3 fun e W4 => ∃ v', e = .returned v' ∧ Hid (∃ A', RowOf w W4 A' (blks l) (.returned v') ∧ TT W4 t l A' ∧ KA w W4 A A')) (fun e W1 hh => by
    obtain ⟨e1, gs, S, lg, fd, pl, kd, fl, B, A', h1, h2, h3, h4, h5⟩ := hh
    obtain ⟨q1, q2, q3, q4⟩ := h1.lk_run
    obtain ⟨r, hr⟩ := h1.tk
    obtain ⟨s1, s2, s3⟩ := h1.spots
    have htb := h1.tb
    unfold TB at htb
    obtain ⟨mo, rfl⟩ : ∃ mo, pl = .map mo := by
      rcases h1.sb.v with ⟨e, _⟩ | ⟨m, e, _⟩
      · exact ⟨_, e⟩
      · exact ⟨_, e⟩
    refine ⟨e1, mo, by simp [World.cell?, htb], (keys_made mo W1).mono ?_⟩
    rintro e W2 ⟨e2, hW2⟩
    have hb2 : Below W1.heap.size W1 W2 := by rw [hW2]; exact (Below.refl _ W1).alloc (Nat.le_refl _) _
    have hm2 : W2.heap[W1.heap.size]? = some (.cells #[.map mo] 63 (0, 0)) := by rw [hW2]; exact World.alloc_heap_new W1 _
    refine ⟨e2, (collect_any W1.heap.size (.map mo) S W2 (by simp [World.cell?, hm2]) (h1.sb.v.below hb2) (by omega)).mono ?_⟩
    rintro e W3 ⟨v, xs, e3, hxs, ho, hb3⟩
    obtain ⟨a, c, rfl, hps⟩ := owned_ps ho rfl
    have hb13 := (NB.of hb2).trans hb3
    have hxl : xs.length ≤ 1000000 := by
      have hpm : xs.Perm (S.map Sp.b) := (List.perm_ext_iff_of_nodup hxs.1 hr.nd).2 (fun d => ⟨fun hd => by
        have := (hxs.2.2 d (hxs.2.1 d hd)).1 hd
        cases hl : lk S d with
        | none => rw [hl] at this; cases this
        | some q =>
          obtain ⟨s, hs, e, _⟩ := lk_some hl
          exact List.mem_map.2 ⟨s, hs, e⟩, fun hd => by
        obtain ⟨s, hs, e⟩ := List.mem_map.1 hd
        refine (hxs.2.2 d (by rw [← e]; exact s2 s hs)).2 ?_
        rw [← e, lk_mem hr.nd hs]
        rfl⟩)
      have := hpm.length_eq
      rw [List.length_map] at this
      omega
    refine ⟨_, e3, (rising_any a xs.length c xs W3 hps hxs.2.1 hxl).mono ?_⟩
    rintro e W4 ⟨g, c4, e4, ho4, hb4⟩
    rw [keys_rise q1 hr.nd s2 hxs] at e4 ho4
    have hb14 := hb13.trans (NB.of hb4)
    have hz3 := hb13.1
    refine ⟨_, e4, hid ⟨A', ⟨_, rfl, owns_base ho4 (Nat.le_trans h5.size hz3), fun j hj e => ?_⟩, (h1.tt h2 h3 h4).same hb14.1 (fun j hj => hb14.2.1 j (h1.as_ j hj)), h5.trans hb14.ka⟩⟩
    have := (ho4.lt j hj).1
    have := h1.as_ j e
    omega)
  clear h
  go_enter Try.func14, Try.ntmps14
  go_wp2_with (first
    | (go_at_call 36; refine HR.mono ?_; rintro e W4 ⟨v', rfl, HF⟩)
    | (go_at_call 37; refine HC.mono ?_; rintro e W3 ⟨v, rfl, HR⟩)
    | (go_at_call 38; refine HK.mono ?_; rintro e W2 ⟨rfl, HC⟩)
    | (go_at_call 39; refine HN.mono ?_; rintro e W1 ⟨rfl, mo, cp, HK⟩))
  go_ret
  exact HF.out
end
end Go.Proofs.Ytplcohjpchfkkaa
