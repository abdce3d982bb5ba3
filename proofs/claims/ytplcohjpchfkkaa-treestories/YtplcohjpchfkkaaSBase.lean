/- Stories: what is made, raw; abs and Latest. -/
import Derived.Test.YtplcohjpchfkkaaTrNone
import Derived.Test.YtplcohjpchfkkaaORChk1
import Derived.Test.YtplcohjpchfkkaaTrThere
namespace Go.Proofs.Ytplcohjpchfkkaa
section
set_option linter.unusedVariables false
set_option linter.unusedSimpArgs false
open Go.RowKit Go.Shelf

attribute [local go_sem] Oper.semAt_some

theorem slice_formN {w : World} {base n : Nat} {v : Value} {L : List Dt} (h : w.ownsRow base 24 2 v n (flat L)) : ∃ a c, v = .slice a n c := by
  rcases h.2 with ⟨e, h0⟩ | ⟨g, cap, cur, e, _⟩
  · exact ⟨none, 0, by rw [e, h0]⟩
  · exact ⟨_, _, e⟩

set_option maxRecDepth 100000 in
set_option maxHeartbeats 4000000 in
theorem path_none (d : Dt) (w : World) (hd : Dw d) :
    Calls Try.prog 20 #[.pointer none, dv d] w fun e w' => ∃ a c, e = .returned (.slice a 0 c) ∧ Below w.heap.size w w' := by
  obtain ⟨d1, d2⟩ := d
  have hmxo : Try.prog.follows .mixedOrders = true := by kernel_rfl
  obtain ⟨i0, hi, hz0, hz1, hz2⟩ := info_parts Try.infoDD
  obtain ⟨W0, hW0⟩ : ∃ W0, W0 = (w.alloc (.cells #[.int .i64 d1, .int .i64 d2] 24)).alloc (.cells #[.slice none 0 0] 29) := ⟨_, rfl⟩
  have hB0 : Below w.heap.size w W0 := by rw [hW0]; exact ((Below.refl _ w).alloc (Nat.le_refl _) _).alloc (by simp) _
  have hsz : W0.heap.size = w.heap.size + 2 := by rw [hW0]; simp
  have hb0 : W0.heap[w.heap.size]? = some (.cells #[.int .i64 d1, .int .i64 d2] 24 (0, 0)) := by rw [hW0]; exact (Below.heap_alloc _ _ _ (by simp)).trans (World.alloc_heap_new w _)
  have hb1 : W0.heap[w.heap.size + 1]? = some (.cells #[.slice none 0 0] 29 (0, 0)) := by
    rw [hW0]
    have := World.alloc_heap_new (w.alloc (.cells #[.int .i64 d1, .int .i64 d2] 24)) (.cells #[.slice none 0 0] 29)
    rw [World.size_alloc] at this
    exact this
  obtain ⟨t, ht⟩ : ∃ t, t = W0.drew.heap.size := ⟨_, rfl⟩
  have HN := (now_none W0.drew).mono (R' := fun e W1 => e = .returned (.pointer (some ⟨t, 0, none⟩)) ∧ (W1.cell? ⟨w.heap.size, 0, none⟩ = some (.int .i64 d1) ∧ W1.cell? ⟨w.heap.size, 1, none⟩ = some (.int .i64 d2)) ∧ Calls Try.prog 41 #[.pointer (some ⟨t, 0, none⟩), .agg #[.int .i64 d1, .int .i64 d2]] W1 fun e V => e = .returned (.func (.func 62) #[] #[.pointer (some ⟨W1.heap.size, 0, none⟩), .pointer (some ⟨W1.heap.size + 1, 0, none⟩)]) ∧ (V.cell? ⟨w.heap.size, 0, none⟩ = some (.int .i64 d1) ∧ V.cell? ⟨w.heap.size, 1, none⟩ = some (.int .i64 d2)) ∧ Hid (∃ S r pl, V.heap.size = W1.heap.size + 2 ∧ Tk S r ∧ Ws S ∧ S.length ≤ 1000 ∧ S = [] ∧ V.cell? ⟨W1.heap.size, 0, none⟩ = some (.pointer (some ⟨t, 0, none⟩)) ∧ V.cell? ⟨t, 0, none⟩ = some pl ∧ V.cell? ⟨W1.heap.size + 1, 0, none⟩ = some (.int .i64 d1) ∧ V.cell? ⟨W1.heap.size + 1, 1, none⟩ = some (.int .i64 d2) ∧ PlB V.heap.size V pl S ∧ V.heap[w.heap.size + 1]? = some (.cells #[.slice none 0 0] 29 (0, 0)) ∧ Below w.heap.size w V ∧ w.heap.size + 2 ≤ t ∧ t < W1.heap.size)) (fun e W1 hh => by
    obtain ⟨e1, e2⟩ := hh
    have h5 : Below W0.drew.heap.size W0.drew W1 := by rw [e2]; exact (Below.refl _ W0.drew).alloc (Nat.le_refl _) _
    have hst : W1.heap[t]? = some (.cells #[.map none, .map none] 66 (0, 0)) := by rw [e2, ht]; exact World.alloc_heap_new W0.drew _
    have htw := (Array.getElem?_eq_some_iff.1 hst).1
    have hz : W0.heap.size ≤ W1.heap.size := h5.size
    have c0 : W1.heap[w.heap.size]? = _ := (h5.block w.heap.size (by show _ < W0.heap.size; omega)).trans hb0
    have c1 : W1.heap[w.heap.size + 1]? = _ := (h5.block (w.heap.size + 1) (by show _ < W0.heap.size; omega)).trans hb1
    refine ⟨by rw [e1, ht], ⟨by simp [World.cell?, c0], by simp [World.cell?, c0]⟩, ?_⟩
    refine (up_made t 0 (d1, d2) W1).mono ?_
    rintro e V ⟨e2', hV⟩
    have hbV : Below W1.heap.size W1 V := by rw [hV]; exact ((Below.refl _ W1).alloc (Nat.le_refl _) _).alloc (by simp) _
    have hVz : V.heap.size = W1.heap.size + 2 := by rw [hV]; simp
    have k0 := (hbV.block w.heap.size (by omega)).trans c0
    have k1 := (hbV.block (w.heap.size + 1) (by omega)).trans c1
    have kt := (hbV.block t htw).trans hst
    have b0 : V.heap[W1.heap.size]? = some (.cells #[.pointer (some ⟨t, 0, none⟩)] 86 (0, 0)) := by rw [hV]; exact (Below.heap_alloc _ _ _ (by simp)).trans (World.alloc_heap_new W1 _)
    have b1 : V.heap[W1.heap.size + 1]? = some (.cells #[.int .i64 d1, .int .i64 d2] 24 (0, 0)) := by
      rw [hV]
      have := World.alloc_heap_new (W1.alloc (.cells #[.pointer (some ⟨t, 0, none⟩)] 86)) (.cells #[.int .i64 d1, .int .i64 d2] 24)
      rw [World.size_alloc] at this
      exact this
    have hBd : Below w.heap.size w W0.drew := hB0.trans ((((Far.refl W0).drewN 1).below).mono hB0.size)
    have hBe := hBd.trans (h5.mono hBd.size)
    refine ⟨e2', ⟨by simp [World.cell?, k0], by simp [World.cell?, k0]⟩, hid ⟨[], _, .map none, hVz, Tk.nil, (fun s hs => by simp at hs), by simp, rfl, by simp [World.cell?, b0], by simp [World.cell?, kt], by simp [World.cell?, b1], by simp [World.cell?, b1], (show PlV V (.map none) [] from Or.inl ⟨rfl, rfl⟩).b, k1, hBe.trans (hbV.mono hBe.size), by have : t = W0.heap.size := ht; omega, htw⟩⟩)
  have hS0 : W0.drew.cell? ⟨w.heap.size, 0, none⟩ = some (.int .i64 d1) ∧ W0.drew.cell? ⟨w.heap.size, 1, none⟩ = some (.int .i64 d2) := ⟨by show W0.cell? _ = _; simp [World.cell?, hb0], by show W0.cell? _ = _; simp [World.cell?, hb0]⟩
  have HW := hid hW0
  clear hW0 hB0 hb0 hb1 hsz ht
  refine (callsIn_wide (n := 3)).1 ?_
  refine callsIn_of_wp_marks Try.func20 rfl trivial ?_ rfl
  simp only [Try.ntmps20, List.size_toArray, List.length_cons, List.length_nil, Nat.reduceAdd, Nat.reduceSub, Array.replicate_succ, Array.replicate_zero, List.push_toArray, List.append_toArray, List.nil_append, List.cons_append]
  gi_wp2_with fail
  rw [← HW.out]
  refine wpIn_wide.2 ?_
  refine wp_region_held_drew (S := fun w' => w'.cell? ⟨w.heap.size, 0, none⟩ = some (.int .i64 d1) ∧ w'.cell? ⟨w.heap.size, 1, none⟩ = some (.int .i64 d2)) hmxo hS0 ?_
  intro _
  obtain ⟨y0, y1⟩ := hS0
  have hS0 := And.intro y0 y1
  refine wpAnyH_ready (rs := [0, 2]) (by kernel_rfl) (by simp) ?_
  refine AllReadyH.cons rfl (fun K hK => ?_) (AllReadyH.cons rfl (fun K hK => ?_) AllReadyH.nil)
  · go_simp
    refine hK.out _ _ hS0 (fun _ => ?_)
    clear hK K
    refine wpAnyH_ready (rs := [1, 2]) (by kernel_rfl) (by simp) ?_
    refine AllReadyH.cons rfl (fun K hK => ?_) (AllReadyH.cons rfl (fun K hK => ?_) AllReadyH.nil)
    · go_simp
      refine HN.mono ?_
      rintro e W1 ⟨rfl, S1, HU⟩
      refine hK.out _ _ S1 (fun _ => ?_)
      clear hK K
      clear y0 y1
      obtain ⟨y0, y1⟩ := S1
      have S1 := And.intro y0 y1
      refine wpAnyH_ready (rs := [2]) (by kernel_rfl) (by simp) ?_
      refine AllReadyH.cons rfl (fun K hK => ?_) AllReadyH.nil
      go_simp
      refine hK.out _ _ S1 (fun _ => ?_)
      clear hK K
      refine wpAnyH_ready (rs := [3]) (by kernel_rfl) (by simp) ?_
      refine AllReadyH.cons rfl (fun K hK => ?_) AllReadyH.nil
      go_simp
      refine HU.mono ?_
      rintro e V ⟨rfl, S2, HF⟩
      refine hK.out _ _ S2 (fun _ => ?_)
      clear hK K
      refine wpAnyH_done (by kernel_rfl) ?_ _
      clear HN HU S1 S2 hS0
      obtain ⟨ub, hub⟩ : ∃ ub, ub = W1.heap.size := ⟨_, rfl⟩
      rw [← hub] at HF ⊢
      clear hub
      obtain ⟨S, r, pl, hVz, hr, s1, s3, hS0', b0, bt, b1, b2, hP, hbx, hBel, hub⟩ := HF.out
      clear HF
      obtain ⟨Bs, hBs'⟩ : ∃ Bs, Bs = w.heap.size + 1 := ⟨_, rfl⟩
      have hBs : Bs < V.heap.size := by omega
      have HNs : Hid ((pth S (d1, d2)).length = 0) := hid (by rw [hS0']; rfl)
      have HS0 := hid hS0'
      clear hS0'
      have hI0 : RI V Bs [] V := ⟨⟨_, by rw [hBs']; exact hbx, World.ownsRow_nil _ _ _ _⟩, Nat.le_refl _, fun j _ _ => rfl, Sm.refl _⟩
      have hseq : SeqU (3 - 1) Try.prog 62 #[.pointer (some ⟨ub, 0, none⟩), .pointer (some ⟨ub + 1, 0, none⟩)] (fun x : Dt => #[Value.agg #[.int .i64 x.1, .int .i64 x.2]]) (KU V.heap.size (fun k => V.heap.size ≤ k ∨ k = Bs)) (fun xs => xs = pth S (d1, d2)) (fun pre => pre <+: pth S (d1, d2)) (pth S (d1, d2)).length V :=
        up_seq (t := t) (o := 0) (mv := pl) (fun k h1 h2 => by omega) hr s1 hd (Nat.le_refl _) (by omega) (by omega) (by omega) b0 bt b1 b2 hP
      have HB := hid hBs'
      have HVZ := hid hVz
      clear hVz
      gi_wp2_with fail
      rw [← hBs']
      clear hBs' hr s1 s3 b0 bt b1 b2 hP hbx
      refine range_up (α := Dt) (gf := 62) rfl (enters_of Try.func62 (by kernel_rfl) rfl) hseq (fun h k => h.trans k) (fun W l o o' hl ho hc _ => KU.put W l o o' hl ho hc) (Below.refl _ _) (fun _ => rfl)
        (RI V Bs) (fun _ _ _ => False) (RI.own hBs) (fun _ _ _ _ _ h _ _ => h) hI0
        (fun x a' W => ∃ u, a' = { tmps := #[.pointer none, .agg #[.int .i64 d1, .int .i64 d2], undef, .pointer (some ⟨w.heap.size, 0, none⟩), .slice none 0 0, .pointer (some ⟨Bs, 0, none⟩), .pointer (some ⟨u, 0, none⟩), .pointer none, .pointer (some ⟨t, 0, none⟩), .agg #[.int .i64 d1, .int .i64 d2], .func (.func 62) #[] #[.pointer (some ⟨ub, 0, none⟩), .pointer (some ⟨ub + 1, 0, none⟩)], .agg #[.int .i64 x.1, .int .i64 x.2], undef, undef, undef, undef, undef], defers := [] } ∧ W.heap[u]? = some (.cells #[.int .i64 x.1, .int .i64 x.2] 24 (0, 0)) ∧ V.heap.size ≤ u) ?ownax ?assign ?body ?done (fun _ _ _ _ _ _ h _ => h.elim)
      case ownax =>
        rintro x a' _ A B row ⟨u, e, h1, h2⟩ hg hrow
        refine ⟨u, e, (hg.block u (Array.getElem?_eq_some_iff.1 h1).1 (fun e' => ?_)).trans h1, h2⟩
        obtain ⟨_, ob, hob, ht'⟩ := hrow u e'.symm
        rw [h1] at hob
        cases hob
        rcases ht' with ht' | ⟨cs, fz, ht'⟩
        · cases ht'
        · cases ht'
      case assign =>
        rintro l pre x W K hI hK
        have hg := World.grownBy_alloc W (.cells #[.int .i64 x.1, .int .i64 x.2] 24) none
        have hfin := hid (hK { tmps := #[.pointer none, .agg #[.int .i64 d1, .int .i64 d2], undef, .pointer (some ⟨w.heap.size, 0, none⟩), .slice none 0 0, .pointer (some ⟨Bs, 0, none⟩), .pointer (some ⟨W.heap.size, 0, none⟩), .pointer none, .pointer (some ⟨t, 0, none⟩), .agg #[.int .i64 d1, .int .i64 d2], .func (.func 62) #[] #[.pointer (some ⟨ub, 0, none⟩), .pointer (some ⟨ub + 1, 0, none⟩)], .agg #[.int .i64 x.1, .int .i64 x.2], undef, undef, undef, undef, undef], defers := [] } (W.alloc (.cells #[.int .i64 x.1, .int .i64 x.2] 24)) (KeepsFrom.of_grownBy hg (fun j e => by cases e)) (KU.below ((Below.refl _ W).alloc (Nat.le_refl _) _) hI.size) (hI.alloc hBs _) ⟨W.heap.size, rfl, World.alloc_heap_new W _, hI.size⟩)
        clear hK hg hI
        gi_wp2
        exact hfin.out
      case body =>
        rintro l' pre x a' W _ _ hlen
        exact absurd hlen (by rw [HNs.out]; omega)

      case done =>
        rintro D ys W hD hS' ⟨⟨v, h1, h2⟩, h3, h4, h5⟩ hK
        subst hS'
        rw [HS0.out] at h2
        have cb := h1.cell
        have hfin : Hid (∃ a c, Ending.returned v = .returned (.slice a 0 c) ∧ Below w.heap.size w (W.putObj D (.deferred none))) := hid (by
          obtain ⟨a, c, e⟩ := slice_formN (L := pth [] (d1, d2)) h2
          have hsm := (Sm.b hBel).trans (h5.trans (show Sm W (W.putObj D (.deferred none)) from ⟨rfl, rfl, rfl⟩))
          exact ⟨a, c, by rw [e]; rfl, hsm.1, hsm.2.1, hsm.2.2, by have := hBel.size; simp [World.putObj]; omega, fun j hj => (World.putObj_heap_other (by have := hBel.size; omega)).trans ((h4 j (by have := hBel.size; omega) (by rw [HB.out]; omega)).trans (hBel.block j hj))⟩)
        clear h1 h2 h3 h4 hBel
        gi_wp2
        refine ⟨by simp, .inl ⟨_, _, rfl, run_takeDeferred hK, ?_⟩⟩
        refine ⟨_, results_tmp rfl _ _ _, ?_⟩
        exact hfin.out
    · go_simp
      refine hK.out _ _ hS0 (fun _ => ?_)
      clear hK K
      refine wpAnyH_ready (rs := [1]) (by kernel_rfl) (by simp) ?_
      refine AllReadyH.cons rfl (fun K hK => ?_) AllReadyH.nil
      go_simp
      refine HN.mono ?_
      rintro e W1 ⟨rfl, S1, HU⟩
      refine hK.out _ _ S1 (fun _ => ?_)
      clear hK K
      refine wpAnyH_ready (rs := [3]) (by kernel_rfl) (by simp) ?_
      refine AllReadyH.cons rfl (fun K hK => ?_) AllReadyH.nil
      go_simp
      refine HU.mono ?_
      rintro e V ⟨rfl, S2, HF⟩
      refine hK.out _ _ S2 (fun _ => ?_)
      clear hK K
      refine wpAnyH_done (by kernel_rfl) ?_ _
      clear HN HU S1 S2 hS0
      obtain ⟨ub, hub⟩ : ∃ ub, ub = W1.heap.size := ⟨_, rfl⟩
      rw [← hub] at HF ⊢
      clear hub
      obtain ⟨S, r, pl, hVz, hr, s1, s3, hS0', b0, bt, b1, b2, hP, hbx, hBel, hub⟩ := HF.out
      clear HF
      obtain ⟨Bs, hBs'⟩ : ∃ Bs, Bs = w.heap.size + 1 := ⟨_, rfl⟩
      have hBs : Bs < V.heap.size := by omega
      have HNs : Hid ((pth S (d1, d2)).length = 0) := hid (by rw [hS0']; rfl)
      have HS0 := hid hS0'
      clear hS0'
      have hI0 : RI V Bs [] V := ⟨⟨_, by rw [hBs']; exact hbx, World.ownsRow_nil _ _ _ _⟩, Nat.le_refl _, fun j _ _ => rfl, Sm.refl _⟩
      have hseq : SeqU (3 - 1) Try.prog 62 #[.pointer (some ⟨ub, 0, none⟩), .pointer (some ⟨ub + 1, 0, none⟩)] (fun x : Dt => #[Value.agg #[.int .i64 x.1, .int .i64 x.2]]) (KU V.heap.size (fun k => V.heap.size ≤ k ∨ k = Bs)) (fun xs => xs = pth S (d1, d2)) (fun pre => pre <+: pth S (d1, d2)) (pth S (d1, d2)).length V :=
        up_seq (t := t) (o := 0) (mv := pl) (fun k h1 h2 => by omega) hr s1 hd (Nat.le_refl _) (by omega) (by omega) (by omega) b0 bt b1 b2 hP
      have HB := hid hBs'
      have HVZ := hid hVz
      clear hVz
      gi_wp2_with fail
      rw [← hBs']
      clear hBs' hr s1 s3 b0 bt b1 b2 hP hbx
      refine range_up (α := Dt) (gf := 62) rfl (enters_of Try.func62 (by kernel_rfl) rfl) hseq (fun h k => h.trans k) (fun W l o o' hl ho hc _ => KU.put W l o o' hl ho hc) (Below.refl _ _) (fun _ => rfl)
        (RI V Bs) (fun _ _ _ => False) (RI.own hBs) (fun _ _ _ _ _ h _ _ => h) hI0
        (fun x a' W => ∃ u, a' = { tmps := #[.pointer none, .agg #[.int .i64 d1, .int .i64 d2], undef, .pointer (some ⟨w.heap.size, 0, none⟩), .slice none 0 0, .pointer (some ⟨Bs, 0, none⟩), .pointer (some ⟨u, 0, none⟩), .pointer none, .pointer (some ⟨t, 0, none⟩), .agg #[.int .i64 d1, .int .i64 d2], .func (.func 62) #[] #[.pointer (some ⟨ub, 0, none⟩), .pointer (some ⟨ub + 1, 0, none⟩)], .agg #[.int .i64 x.1, .int .i64 x.2], undef, undef, undef, undef, undef], defers := [] } ∧ W.heap[u]? = some (.cells #[.int .i64 x.1, .int .i64 x.2] 24 (0, 0)) ∧ V.heap.size ≤ u) ?ownax ?assign ?body ?done (fun _ _ _ _ _ _ h _ => h.elim)
      case ownax =>
        rintro x a' _ A B row ⟨u, e, h1, h2⟩ hg hrow
        refine ⟨u, e, (hg.block u (Array.getElem?_eq_some_iff.1 h1).1 (fun e' => ?_)).trans h1, h2⟩
        obtain ⟨_, ob, hob, ht'⟩ := hrow u e'.symm
        rw [h1] at hob
        cases hob
        rcases ht' with ht' | ⟨cs, fz, ht'⟩
        · cases ht'
        · cases ht'
      case assign =>
        rintro l pre x W K hI hK
        have hg := World.grownBy_alloc W (.cells #[.int .i64 x.1, .int .i64 x.2] 24) none
        have hfin := hid (hK { tmps := #[.pointer none, .agg #[.int .i64 d1, .int .i64 d2], undef, .pointer (some ⟨w.heap.size, 0, none⟩), .slice none 0 0, .pointer (some ⟨Bs, 0, none⟩), .pointer (some ⟨W.heap.size, 0, none⟩), .pointer none, .pointer (some ⟨t, 0, none⟩), .agg #[.int .i64 d1, .int .i64 d2], .func (.func 62) #[] #[.pointer (some ⟨ub, 0, none⟩), .pointer (some ⟨ub + 1, 0, none⟩)], .agg #[.int .i64 x.1, .int .i64 x.2], undef, undef, undef, undef, undef], defers := [] } (W.alloc (.cells #[.int .i64 x.1, .int .i64 x.2] 24)) (KeepsFrom.of_grownBy hg (fun j e => by cases e)) (KU.below ((Below.refl _ W).alloc (Nat.le_refl _) _) hI.size) (hI.alloc hBs _) ⟨W.heap.size, rfl, World.alloc_heap_new W _, hI.size⟩)
        clear hK hg hI
        gi_wp2
        exact hfin.out
      case body =>
        rintro l' pre x a' W _ _ hlen
        exact absurd hlen (by rw [HNs.out]; omega)

      case done =>
        rintro D ys W hD hS' ⟨⟨v, h1, h2⟩, h3, h4, h5⟩ hK
        subst hS'
        rw [HS0.out] at h2
        have cb := h1.cell
        have hfin : Hid (∃ a c, Ending.returned v = .returned (.slice a 0 c) ∧ Below w.heap.size w (W.putObj D (.deferred none))) := hid (by
          obtain ⟨a, c, e⟩ := slice_formN (L := pth [] (d1, d2)) h2
          have hsm := (Sm.b hBel).trans (h5.trans (show Sm W (W.putObj D (.deferred none)) from ⟨rfl, rfl, rfl⟩))
          exact ⟨a, c, by rw [e]; rfl, hsm.1, hsm.2.1, hsm.2.2, by have := hBel.size; simp [World.putObj]; omega, fun j hj => (World.putObj_heap_other (by have := hBel.size; omega)).trans ((h4 j (by have := hBel.size; omega) (by rw [HB.out]; omega)).trans (hBel.block j hj))⟩)
        clear h1 h2 h3 h4 hBel
        gi_wp2
        refine ⟨by simp, .inl ⟨_, _, rfl, run_takeDeferred hK, ?_⟩⟩
        refine ⟨_, results_tmp rfl _ _ _, ?_⟩
        exact hfin.out
  · go_simp
    refine hK.out _ _ hS0 (fun _ => ?_)
    clear hK K
    refine wpAnyH_ready (rs := [0]) (by kernel_rfl) (by simp) ?_
    refine AllReadyH.cons rfl (fun K hK => ?_) AllReadyH.nil
    go_simp
    refine hK.out _ _ hS0 (fun _ => ?_)
    clear hK K
    refine wpAnyH_ready (rs := [1]) (by kernel_rfl) (by simp) ?_
    refine AllReadyH.cons rfl (fun K hK => ?_) AllReadyH.nil
    go_simp
    refine HN.mono ?_
    rintro e W1 ⟨rfl, S1, HU⟩
    refine hK.out _ _ S1 (fun _ => ?_)
    clear hK K
    refine wpAnyH_ready (rs := [3]) (by kernel_rfl) (by simp) ?_
    refine AllReadyH.cons rfl (fun K hK => ?_) AllReadyH.nil
    go_simp
    refine HU.mono ?_
    rintro e V ⟨rfl, S2, HF⟩
    refine hK.out _ _ S2 (fun _ => ?_)
    clear hK K
    refine wpAnyH_done (by kernel_rfl) ?_ _
    clear HN HU S1 S2 hS0
    obtain ⟨ub, hub⟩ : ∃ ub, ub = W1.heap.size := ⟨_, rfl⟩
    rw [← hub] at HF ⊢
    clear hub
    obtain ⟨S, r, pl, hVz, hr, s1, s3, hS0', b0, bt, b1, b2, hP, hbx, hBel, hub⟩ := HF.out
    clear HF
    obtain ⟨Bs, hBs'⟩ : ∃ Bs, Bs = w.heap.size + 1 := ⟨_, rfl⟩
    have hBs : Bs < V.heap.size := by omega
    have HNs : Hid ((pth S (d1, d2)).length = 0) := hid (by rw [hS0']; rfl)
    have HS0 := hid hS0'
    clear hS0'
    have hI0 : RI V Bs [] V := ⟨⟨_, by rw [hBs']; exact hbx, World.ownsRow_nil _ _ _ _⟩, Nat.le_refl _, fun j _ _ => rfl, Sm.refl _⟩
    have hseq : SeqU (3 - 1) Try.prog 62 #[.pointer (some ⟨ub, 0, none⟩), .pointer (some ⟨ub + 1, 0, none⟩)] (fun x : Dt => #[Value.agg #[.int .i64 x.1, .int .i64 x.2]]) (KU V.heap.size (fun k => V.heap.size ≤ k ∨ k = Bs)) (fun xs => xs = pth S (d1, d2)) (fun pre => pre <+: pth S (d1, d2)) (pth S (d1, d2)).length V :=
      up_seq (t := t) (o := 0) (mv := pl) (fun k h1 h2 => by omega) hr s1 hd (Nat.le_refl _) (by omega) (by omega) (by omega) b0 bt b1 b2 hP
    have HB := hid hBs'
    have HVZ := hid hVz
    clear hVz
    gi_wp2_with fail
    rw [← hBs']
    clear hBs' hr s1 s3 b0 bt b1 b2 hP hbx
    refine range_up (α := Dt) (gf := 62) rfl (enters_of Try.func62 (by kernel_rfl) rfl) hseq (fun h k => h.trans k) (fun W l o o' hl ho hc _ => KU.put W l o o' hl ho hc) (Below.refl _ _) (fun _ => rfl)
      (RI V Bs) (fun _ _ _ => False) (RI.own hBs) (fun _ _ _ _ _ h _ _ => h) hI0
      (fun x a' W => ∃ u, a' = { tmps := #[.pointer none, .agg #[.int .i64 d1, .int .i64 d2], undef, .pointer (some ⟨w.heap.size, 0, none⟩), .slice none 0 0, .pointer (some ⟨Bs, 0, none⟩), .pointer (some ⟨u, 0, none⟩), .pointer none, .pointer (some ⟨t, 0, none⟩), .agg #[.int .i64 d1, .int .i64 d2], .func (.func 62) #[] #[.pointer (some ⟨ub, 0, none⟩), .pointer (some ⟨ub + 1, 0, none⟩)], .agg #[.int .i64 x.1, .int .i64 x.2], undef, undef, undef, undef, undef], defers := [] } ∧ W.heap[u]? = some (.cells #[.int .i64 x.1, .int .i64 x.2] 24 (0, 0)) ∧ V.heap.size ≤ u) ?ownax ?assign ?body ?done (fun _ _ _ _ _ _ h _ => h.elim)
    case ownax =>
      rintro x a' _ A B row ⟨u, e, h1, h2⟩ hg hrow
      refine ⟨u, e, (hg.block u (Array.getElem?_eq_some_iff.1 h1).1 (fun e' => ?_)).trans h1, h2⟩
      obtain ⟨_, ob, hob, ht'⟩ := hrow u e'.symm
      rw [h1] at hob
      cases hob
      rcases ht' with ht' | ⟨cs, fz, ht'⟩
      · cases ht'
      · cases ht'
    case assign =>
      rintro l pre x W K hI hK
      have hg := World.grownBy_alloc W (.cells #[.int .i64 x.1, .int .i64 x.2] 24) none
      have hfin := hid (hK { tmps := #[.pointer none, .agg #[.int .i64 d1, .int .i64 d2], undef, .pointer (some ⟨w.heap.size, 0, none⟩), .slice none 0 0, .pointer (some ⟨Bs, 0, none⟩), .pointer (some ⟨W.heap.size, 0, none⟩), .pointer none, .pointer (some ⟨t, 0, none⟩), .agg #[.int .i64 d1, .int .i64 d2], .func (.func 62) #[] #[.pointer (some ⟨ub, 0, none⟩), .pointer (some ⟨ub + 1, 0, none⟩)], .agg #[.int .i64 x.1, .int .i64 x.2], undef, undef, undef, undef, undef], defers := [] } (W.alloc (.cells #[.int .i64 x.1, .int .i64 x.2] 24)) (KeepsFrom.of_grownBy hg (fun j e => by cases e)) (KU.below ((Below.refl _ W).alloc (Nat.le_refl _) _) hI.size) (hI.alloc hBs _) ⟨W.heap.size, rfl, World.alloc_heap_new W _, hI.size⟩)
      clear hK hg hI
      gi_wp2
      exact hfin.out
    case body =>
      rintro l' pre x a' W _ _ hlen
      exact absurd hlen (by rw [HNs.out]; omega)

    case done =>
      rintro D ys W hD hS' ⟨⟨v, h1, h2⟩, h3, h4, h5⟩ hK
      subst hS'
      rw [HS0.out] at h2
      have cb := h1.cell
      have hfin : Hid (∃ a c, Ending.returned v = .returned (.slice a 0 c) ∧ Below w.heap.size w (W.putObj D (.deferred none))) := hid (by
        obtain ⟨a, c, e⟩ := slice_formN (L := pth [] (d1, d2)) h2
        have hsm := (Sm.b hBel).trans (h5.trans (show Sm W (W.putObj D (.deferred none)) from ⟨rfl, rfl, rfl⟩))
        exact ⟨a, c, by rw [e]; rfl, hsm.1, hsm.2.1, hsm.2.2, by have := hBel.size; simp [World.putObj]; omega, fun j hj => (World.putObj_heap_other (by have := hBel.size; omega)).trans ((h4 j (by have := hBel.size; omega) (by rw [HB.out]; omega)).trans (hBel.block j hj))⟩)
      clear h1 h2 h3 h4 hBel
      gi_wp2
      refine ⟨by simp, .inl ⟨_, _, rfl, run_takeDeferred hK, ?_⟩⟩
      refine ⟨_, results_tmp rfl _ _ _, ?_⟩
      exact hfin.out
end

section
set_option linter.unusedVariables false
set_option linter.unusedSimpArgs false
open Go.RowKit

set_option maxRecDepth 100000 in
set_option maxHeartbeats 2000000 in
theorem kids_none (d : Dt) (hd : Dw d) (w : World) : Calls Try.prog 17 #[.pointer none, dv d] w (Gives w []) := by
  obtain ⟨d1, d2⟩ := d
  have hmxo : Try.prog.follows .mixedOrders = true := by kernel_rfl
  obtain ⟨W0, hW0⟩ : ∃ W0, W0 = w.alloc (.cells #[.int .i64 d1, .int .i64 d2] 24) := ⟨_, rfl⟩
  have hB0 : Below w.heap.size w W0 := by rw [hW0]; exact (Below.refl _ w).alloc (Nat.le_refl _) _
  have hb0 : W0.heap[w.heap.size]? = some (.cells #[.int .i64 d1, .int .i64 d2] 24 (0, 0)) := by rw [hW0]; exact World.alloc_heap_new w _
  have hl0 := (Array.getElem?_eq_some_iff.1 hb0).1
  obtain ⟨N0, hN0⟩ : ∃ N0, N0 = W0.drew.heap.size := ⟨_, rfl⟩
  have HN := (now_none W0.drew).mono (R' := fun e W1 => e = .returned (.pointer (some ⟨N0, 0, none⟩)) ∧ (W1.cell? ⟨w.heap.size, 0, none⟩ = some (.int .i64 d1) ∧ W1.cell? ⟨w.heap.size, 1, none⟩ = some (.int .i64 d2)) ∧ ∃ kd a n c, W1.cell? ⟨N0, 1, none⟩ = some kd ∧ (Instr.lookup 64 kd (.agg #[.int .i64 d1, .int .i64 d2]) false).run Try.prog W1 = .ok (.slice a n c) W1 ∧ Calls Try.prog 40 #[.slice a n c] W1 fun e W2 => ∃ v, e = .returned v ∧ (W2.cell? ⟨w.heap.size, 0, none⟩ = some (.int .i64 d1) ∧ W2.cell? ⟨w.heap.size, 1, none⟩ = some (.int .i64 d2)) ∧ Hid (Gives w [] (.returned v) W2)) (fun e W1 hh => by
    obtain ⟨e1, e2⟩ := hh
    have hB1 : Below W0.drew.heap.size W0.drew W1 := by rw [e2]; exact (Below.refl _ W0.drew).alloc (Nat.le_refl _) _
    have hBd : Below w.heap.size w W0.drew := hB0.trans ((((Far.refl W0).drewN 1).below).mono hB0.size)
    have hBe := hBd.trans (hB1.mono hBd.size)
    have c0 : W1.heap[w.heap.size]? = _ := (hB1.block w.heap.size hl0).trans hb0
    refine ⟨by rw [e1, hN0], ⟨by simp [World.cell?, c0], by simp [World.cell?, c0]⟩, .map none, none, 0, 0, by rw [e2, hN0]; exact (state_none W0.drew).2, sl_nil W1 hd, ?_⟩
    refine (tclone_any (L := []) (PS.none W1) (by omega)).mono ?_
    rintro e W2 ⟨v, e3, ho, hb⟩
    have c2 : W2.heap[w.heap.size]? = _ := (hb.block w.heap.size (Array.getElem?_eq_some_iff.1 c0).1).trans c0
    exact ⟨v, e3, ⟨by simp [World.cell?, c2], by simp [World.cell?, c2]⟩, hid ⟨v, rfl, owns_base ho hBe.size, hBe.trans (hb.mono hBe.size)⟩⟩)
  have hS0 : W0.drew.cell? ⟨w.heap.size, 0, none⟩ = some (.int .i64 d1) ∧ W0.drew.cell? ⟨w.heap.size, 1, none⟩ = some (.int .i64 d2) := ⟨by show W0.cell? _ = _; simp [World.cell?, hb0], by show W0.cell? _ = _; simp [World.cell?, hb0]⟩
  have HW := hid hW0
  clear hW0 hB0 hb0 hl0 hN0
  go_enter Try.func17, Try.ntmps17
  go_wp2_with fail
  rw [← HW.out]
  refine wp_region_held_drew (S := fun w' => w'.cell? ⟨w.heap.size, 0, none⟩ = some (.int .i64 d1) ∧ w'.cell? ⟨w.heap.size, 1, none⟩ = some (.int .i64 d2)) hmxo hS0 ?_
  intro _
  refine wpAnyH_take (i := 0) (v := .pointer none) rfl (by kernel_rfl) (by kernel_rfl) (by kernel_rfl) (fun _ _ _ h => h) (Or.inl ⟨by kernel_rfl, fun w hSw => ?_⟩) hS0 ?_
  · obtain ⟨e1, e2⟩ := hSw; go_simp
  simp only [Act.put, List.getElem_toArray, List.getElem_cons_succ, List.getElem_cons_zero, List.setIfInBounds_toArray, List.set_cons_zero, List.set_cons_succ]
  refine wpAnyH_take (i := 5) (v := .agg #[.int .i64 d1, .int .i64 d2]) rfl (by kernel_rfl) (by kernel_rfl) (by kernel_rfl) (fun _ _ _ h => h) (Or.inl ⟨by kernel_rfl, fun w hSw => ?_⟩) hS0 ?_
  · obtain ⟨e1, e2⟩ := hSw; go_simp
  simp only [Act.put, List.getElem_toArray, List.getElem_cons_succ, List.getElem_cons_zero, List.setIfInBounds_toArray, List.set_cons_zero, List.set_cons_succ]
  refine wpAnyH_ready (rs := [1]) (by kernel_rfl) (by simp) ?_
  refine AllReadyH.cons rfl (fun K hK => ?_) AllReadyH.nil
  go_simp
  refine HN.mono ?_
  rintro e W1 ⟨rfl, S1, kd, a, n, c, ck, hlk, HC⟩
  refine hK.out _ _ S1 (fun _ => ?_)
  clear hK K
  refine wpAnyH_take (i := 2) (v := .pointer (some ⟨N0, 0, none⟩)) rfl (by kernel_rfl) (by kernel_rfl) (by kernel_rfl) (fun _ _ _ h => h) (Or.inl ⟨by kernel_rfl, fun w hSw => ?_⟩) S1 ?_
  · obtain ⟨e1, e2⟩ := hSw; go_simp
  simp only [Act.put, List.getElem_toArray, List.getElem_cons_succ, List.getElem_cons_zero, List.setIfInBounds_toArray, List.set_cons_zero, List.set_cons_succ]
  refine wpAnyH_take (i := 3) (v := .pointer (some ⟨N0, 1, none⟩)) rfl (by kernel_rfl) (by kernel_rfl) (by kernel_rfl) (fun _ _ _ h => h) (Or.inl ⟨by kernel_rfl, fun w hSw => ?_⟩) S1 ?_
  · obtain ⟨e1, e2⟩ := hSw; go_simp
  simp only [Act.put, List.getElem_toArray, List.getElem_cons_succ, List.getElem_cons_zero, List.setIfInBounds_toArray, List.set_cons_zero, List.set_cons_succ]
  refine wpAnyH_ready (rs := [4]) (by kernel_rfl) (by simp) ?_
  refine AllReadyH.cons rfl (fun K hK => ?_) AllReadyH.nil
  go_simp
  refine hK.out _ _ S1 (fun _ => ?_)
  clear hK K
  refine wpAnyH_ready (rs := [6]) (by kernel_rfl) (by simp) ?_
  refine AllReadyH.cons rfl (fun K hK => ?_) AllReadyH.nil
  go_simp
  refine hK.out _ _ S1 (fun _ => ?_)
  clear hK K
  refine wpAnyH_ready (rs := [7]) (by kernel_rfl) (by simp) ?_
  refine AllReadyH.cons rfl (fun K hK => ?_) AllReadyH.nil
  go_simp
  refine HC.mono ?_
  rintro e W2 ⟨v, rfl, S2, HF⟩
  refine hK.out _ _ S2 (fun _ => ?_)
  clear hK K
  refine wpAnyH_take (i := 8) (v := v) rfl (by kernel_rfl) (by kernel_rfl) (by kernel_rfl) (fun _ _ _ h => h) (Or.inl ⟨by kernel_rfl, fun w hSw => ?_⟩) S2 ?_
  · obtain ⟨e1, e2⟩ := hSw; go_simp
  simp only [Act.put, List.getElem_toArray, List.getElem_cons_succ, List.getElem_cons_zero, List.setIfInBounds_toArray, List.set_cons_zero, List.set_cons_succ]
  refine wpAnyH_done (by kernel_rfl) ?_ _
  go_wp2
  go_ret
  exact HF.out
end

section
set_option linter.unusedVariables false
set_option linter.unusedSimpArgs false
open Go.RowKit

set_option maxRecDepth 100000 in
set_option maxHeartbeats 2000000 in
theorem blocks_none (w : World) : Calls Try.prog 14 #[.pointer none] w fun e w' => ∃ a c, e = .returned (.slice a 0 c) ∧ NB w w' := by
  have HN := (now_none w).mono (R' := fun e W1 => e = .returned (.pointer (some ⟨w.heap.size, 0, none⟩)) ∧ W1.cell? ⟨w.heap.size, 0, none⟩ = some (.map none) ∧ Calls Try.prog 38 #[.map none] W1 fun e W2 => e = .returned (.func (.func 60) #[] #[.pointer (some ⟨W1.heap.size, 0, none⟩)]) ∧ Calls Try.prog 37 #[.func (.func 60) #[] #[.pointer (some ⟨W1.heap.size, 0, none⟩)]] W2 fun e W3 => ∃ v, e = .returned v ∧ Calls Try.prog 36 #[v] W3 fun e W4 => ∃ v', e = .returned v' ∧ Hid (∃ a c, v' = .slice a 0 c ∧ NB w W4)) (fun e W1 hh => by
    obtain ⟨e1, e2⟩ := hh
    have hb1 : Below w.heap.size w W1 := by rw [e2]; exact (Below.refl _ w).alloc (Nat.le_refl _) _
    refine ⟨e1, by rw [e2]; exact (state_none w).1, (keys_made none W1).mono ?_⟩
    rintro e W2 ⟨e2, hW2⟩
    have hb2 : Below W1.heap.size W1 W2 := by rw [hW2]; exact (Below.refl _ W1).alloc (Nat.le_refl _) _
    have hm2 : W2.heap[W1.heap.size]? = some (.cells #[.map none] 63 (0, 0)) := by rw [hW2]; exact World.alloc_heap_new W1 _
    refine ⟨e2, (collect_any W1.heap.size (.map none) [] W2 (by simp [World.cell?, hm2]) (Or.inl ⟨rfl, rfl⟩) (by simp)).mono ?_⟩
    rintro e W3 ⟨v, xs, e3, hxs, ho, hb3⟩
    have hx0 : xs = [] := by
      cases xs with
      | nil => rfl
      | cons x r =>
        have := (hxs.2.2 x (hxs.2.1 x (by simp))).1 (by simp)
        cases this
    subst hx0
    obtain ⟨a, c, rfl, hps⟩ := owned_ps ho rfl
    refine ⟨_, e3, (rising_any a ([] : List Dt).length c [] W3 hps hxs.2.1 (by simp)).mono ?_⟩
    rintro e W4 ⟨g, c4, e4, ho4, hb4⟩
    exact ⟨_, e4, hid ⟨_, _, rfl, (NB.of hb1).trans (((NB.of hb2).trans hb3).trans (NB.of hb4))⟩⟩)
  go_enter Try.func14, Try.ntmps14
  go_wp2_with (first
    | (go_at_call 36; refine HR.mono ?_; rintro e W4 ⟨v', rfl, HF⟩)
    | (go_at_call 37; refine HC.mono ?_; rintro e W3 ⟨v, rfl, HR⟩)
    | (go_at_call 38; refine HK.mono ?_; rintro e W2 ⟨rfl, HC⟩)
    | (go_at_call 39; refine HN.mono ?_; rintro e W1 ⟨rfl, cp, HK⟩))
  go_ret
  obtain ⟨a, c, h1, h2⟩ := HF.out
  exact ⟨a, c, by rw [← h1]; rfl, h2⟩
end

section
open Go.RowKit
open Go.Sort (grow)

/-- What an actor does, raw. -/
structure Md where
  act : Int
  kn : Int
  kd : Int
  ma : Int
  mb : Int
  key : ByteArray

def Md.cells (m : Md) : Array Value := #[.int .i64 m.act, .int .i64 m.kn, .int .i64 m.kd, .int .i64 m.ma, .int .i64 m.mb, .string m.key]
abbrev mv (m : Md) : Value := .agg m.cells

/-- A number that fits. -/
def F64 (n : Int) : Prop := -9223372036854775808 ≤ n ∧ n ≤ 9223372036854775807

theorem f64_of {n : Int} (h : (Lit.int .i64 n).wf = true) : F64 n := by
  simp [Lit.wf] at h
  unfold F64
  exact h

structure Md.Fits (m : Md) : Prop where
  act : F64 m.act
  kn : F64 m.kn
  kd : F64 m.kd
  ma : F64 m.ma
  mb : F64 m.mb
  key : m.key.size ≤ maxLen

structure MdAt (w : World) (q : Nat) (m : Md) : Prop where
  c0 : w.cell? ⟨q, 0, none⟩ = some (.int .i64 m.act)
  c1 : w.cell? ⟨q, 1, none⟩ = some (.int .i64 m.kn)
  c2 : w.cell? ⟨q, 2, none⟩ = some (.int .i64 m.kd)
  c3 : w.cell? ⟨q, 3, none⟩ = some (.int .i64 m.ma)
  c4 : w.cell? ⟨q, 4, none⟩ = some (.int .i64 m.mb)
  c5 : w.cell? ⟨q, 5, none⟩ = some (.string m.key)

theorem mdAt_of {w : World} {q : Nat} {m : Md} {t : TypeId} (h : w.heap[q]? = some (.cells m.cells t)) : MdAt w q m := by
  constructor <;> simp [World.cell?, h, Md.cells]

def absI (n : Int) : Int := if n < 0 then -(n + 1) else n

theorem absI_bounds {n : Int} (h : F64 n) : 0 ≤ absI n ∧ absI n ≤ 9223372036854775807 := by
  unfold F64 at h
  unfold absI
  split <;> omega

theorem abs_any (n : Int) (h : F64 n) (w : World) : Calls Try.prog 44 #[.int .i64 n] w fun e w' => e = .returned (.int .i64 (absI n)) ∧ w = w' := by
  unfold F64 at h
  have hv : Hid (absI n = if n < 0 then -(n + 1) else n) := hid rfl
  by_cases h0 : n < 0
  · have hb : decide (n < 0) = true := by simpa using h0
    have H0 := hid h0
    go_enter Try.func44, Try.ntmps44
    go_wp2
    go_ret
    refine ⟨?_, rfl⟩
    rw [hv.out, if_pos (by have := H0.out; omega)]
    first | rfl | (congr 2; omega)
  · have hb : decide (n < 0) = false := by simpa using h0
    have H0 := hid h0
    go_enter Try.func44, Try.ntmps44
    go_wp2
    go_ret
    refine ⟨?_, rfl⟩
    rw [hv.out, if_neg (by have := H0.out; omega)]
    rfl

/-- The greatest time of those that are had. -/
def latI (V : List Dt) : List Mo → Int → Int
  | [], t => t
  | x :: r, t => latI V r (if hasv V x.o.id = true ∧ t < x.o.time then x.o.time else t)

theorem latI_append (V : List Dt) (l m : List Mo) (t : Int) : latI V (l ++ m) t = latI V m (latI V l t) := by
  induction l generalizing t with
  | nil => rfl
  | cons x r ih => exact ih _

theorem latI_ge (V : List Dt) (l : List Mo) (t : Int) : t ≤ latI V l t ∧ ∀ x ∈ l, hasv V x.o.id = true → x.o.time ≤ latI V l t := by
  induction l generalizing t with
  | nil => exact ⟨Int.le_refl _, fun x hx => by simp at hx⟩
  | cons x r ih =>
    have h := ih (if hasv V x.o.id = true ∧ t < x.o.time then x.o.time else t)
    show t ≤ latI V r _ ∧ ∀ y ∈ x :: r, hasv V y.o.id = true → y.o.time ≤ latI V r _
    refine ⟨Int.le_trans ?_ h.1, fun y hy hh => ?_⟩
    · split <;> omega
    · rcases List.mem_cons.1 hy with rfl | hy
      · refine Int.le_trans ?_ h.1
        split
        · exact Int.le_refl _
        · rename_i hn
          have : ¬ t < y.o.time := fun h' => hn ⟨hh, h'⟩
          omega
      · exact h.2 y hy hh

theorem latI_le (V : List Dt) (l : List Mo) (t : Int) {M : Int} (ht : t ≤ M) (hl : ∀ x ∈ l, x.o.time ≤ M) : latI V l t ≤ M := by
  induction l generalizing t with
  | nil => exact ht
  | cons x r ih =>
    refine ih _ ?_ (fun y hy => hl y (List.mem_cons_of_mem _ hy))
    split
    · exact hl x (by simp)
    · exact ht

set_option maxRecDepth 100000 in
set_option maxHeartbeats 4000000 in
theorem latest_any (a : Option Addr) (n c : Nat) (L : List Mo) (xa : Option Addr) (xn xc : Nat) (V : List Dt) (w : World) (hs : OS w a n c L) (hv : PS w xa xn xc V) (hn : n ≤ 1000) (hxn : xn ≤ 1000000) :
    Tells 66 #[.slice a n c, .slice xa xn xc] w (.int .i64 (latI V L 0)) := by
  have hlen := hs.len
  go_enter Try.func66, Try.ntmps66
  go_wp2
  go_loopw [6, 5] (fun i t wr => ∃ (k : Nat) (z : Int), k ≤ n ∧ i = .int .i64 k ∧ t = .int .i64 z ∧ Hid (z = latI V (L.take k) 0) ∧ Hid (Far w wr)) (fun i _ _ => n - (intOf i).toNat)
  case atStart => exact ⟨0, 0, by omega, rfl, rfl, hid rfl, hid (Far.refl _)⟩
  case round =>
    obtain ⟨k, z, hk, rfl, rfl, hz, hFr⟩ := hrel
    by_cases hlt : k < n
    · have hkl : k < L.length := by omega
      have hsr := hs.far hFr.out
      obtain ⟨g, o, rfl, hg, hcell⟩ := hsr.at (by omega)
      have hX := hid (hcell k hkl)
      have c0 := hX.out.c0
      have c1 := hX.out.c1
      have c2 := hX.out.c2
      have hst : Hid (latI V (L.take (k + 1)) 0 = if hasv V L[k].o.id = true ∧ z < L[k].o.time then L[k].o.time else z) := hid (by rw [List.take_succ_eq_append_getElem hkl, latI_append, ← hz.out]; rfl)
      generalize L[k] = x at *
      have hH := rhas_any xa xn xc V x.o.id wr (hv.far hFr.out) (by omega)
      generalize hasv V x.o.id = r at *
      clear hcell hsr
      cases r
      · go_wp2_with (first
          | (go_at_call 67; refine hH.mono ?_; rintro e w1 ⟨rfl, hF1⟩; have d2 := (hX.out.below hF1.below hg).c2))
        go_roundw
        case rel => exact ⟨k + 1, z, by omega, by go_num, rfl, hid (by rw [hst.out]; simp), hid (hFr.out.trans hF1)⟩
        case measure => simp [intOf]; omega
      · by_cases ht : z < x.o.time
        · have hb : decide (z < x.o.time) = true := by simpa using ht
          have HT := hid ht
          go_wp2_with (first
            | (go_at_call 67; refine hH.mono ?_; rintro e w1 ⟨rfl, hF1⟩; have d2 := (hX.out.below hF1.below hg).c2))
          go_roundw
          case rel => exact ⟨k + 1, x.o.time, by omega, by go_num, rfl, hid (by rw [hst.out, if_pos ⟨by first | rfl | trivial, by have := HT.out; omega⟩]), hid (hFr.out.trans hF1)⟩
          case measure => simp [intOf]; omega
        · have hb : decide (z < x.o.time) = false := by simpa using ht
          have HT := hid ht
          go_wp2_with (first
            | (go_at_call 67; refine hH.mono ?_; rintro e w1 ⟨rfl, hF1⟩; have d2 := (hX.out.below hF1.below hg).c2))
          go_roundw
          case rel => exact ⟨k + 1, z, by omega, by go_num, rfl, hid (by rw [hst.out, if_neg (fun h => by have h2 := h.2; have := HT.out; omega)]), hid (hFr.out.trans hF1)⟩
          case measure => simp [intOf]; omega
    · obtain rfl : k = n := by omega
      have hz' := hz.out
      rw [← hlen, List.take_length] at hz'
      have HZ := hid hz'
      clear hz' hz
      go_wp2
      go_ret
      exact ⟨by rw [← HZ.out]; rfl, hFr.out⟩
end
end Go.Proofs.Ytplcohjpchfkkaa
