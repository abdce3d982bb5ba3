/- What rank's closure tells is the kids' order. No function of the program. -/
import Derived.Test.YtplcohjpchfkkaaTrField
import Derived.Test.YtplcohjpchfkkaaTrCmp
namespace Go.Proofs.Ytplcohjpchfkkaa
section
set_option linter.unusedVariables false
set_option linter.unusedSimpArgs false
open Go.RowKit

/-- Below 0 or above 0, as a kid comes ahead of one with a key or behind it. -/
def rankI (S : List Sp) (kid b : Dt) (key : ByteArray) : Int := orI (cmpS ((lk S kid).getD pl0).2 key) (ordI kid b)

set_option maxRecDepth 100000 in
set_option maxHeartbeats 4000000 in
theorem rank1_any (t o bs bp : Nat) (mv : Value) (S : List Sp) (kid b : Dt) (key : ByteArray) (hd : Dw kid) (w : World) (hbs : w.cell? ⟨bs, 0, none⟩ = some (.pointer (some ⟨t, o, none⟩))) (hbp : w.cell? ⟨bp, 2, none⟩ = some (.string key)) (hc : w.cell? ⟨t, o, none⟩ = some mv) (h : PlV w mv S) :
    Calls Try.prog 93 #[dv kid, dv b, .pointer (some ⟨bs, 0, none⟩), .pointer (some ⟨bp, 0, none⟩)] w fun e w' => e = .returned (.int .i64 (rankI S kid b key)) ∧ Below w.heap.size w w' := by
  obtain ⟨k1, k2⟩ := kid
  obtain ⟨b1, b2⟩ := b
  have mixed := mixed
  have hmxo : Try.prog.follows .mixedOrders = true := by kernel_rfl
  obtain ⟨p1, p2, ky, hq⟩ : ∃ p1 p2 ky, (lk S (k1, k2)).getD pl0 = ((p1, p2), ky) := ⟨_, _, _, rfl⟩
  have hr : Hid (rankI S (k1, k2) (b1, b2) key = orI (cmpS ky key) (ordI (k1, k2) (b1, b2))) := hid (by unfold rankI; rw [hq])
  obtain ⟨W0, hW0⟩ : ∃ W0, W0 = (w.alloc (.cells #[.int .i64 k1, .int .i64 k2] 24)).alloc (.cells #[.int .i64 b1, .int .i64 b2] 24) := ⟨_, rfl⟩
  have hB0 : Below w.heap.size w W0 := by rw [hW0]; exact ((Below.refl _ w).alloc (Nat.le_refl _) _).alloc (by simp) _
  have hb1 : W0.heap[w.heap.size]? = some (.cells #[.int .i64 k1, .int .i64 k2] 24 (0, 0)) := by rw [hW0]; exact (Below.heap_alloc _ _ _ (by simp)).trans (World.alloc_heap_new w _)
  have hb2 : W0.heap[w.heap.size + 1]? = some (.cells #[.int .i64 b1, .int .i64 b2] 24 (0, 0)) := by
    rw [hW0]
    have := World.alloc_heap_new (w.alloc (.cells #[.int .i64 k1, .int .i64 k2] 24)) (.cells #[.int .i64 b1, .int .i64 b2] 24)
    rwa [World.size_alloc] at this
  have hl1 := (Array.getElem?_eq_some_iff.1 hb1).1
  have hl2 := (Array.getElem?_eq_some_iff.1 hb2).1
  have HS : Hid (∀ W, Below W0.heap.size W0 W → (W.cell? ⟨bs, 0, none⟩ = some (.pointer (some ⟨t, o, none⟩)) ∧ W.cell? ⟨t, o, none⟩ = some mv ∧ W.cell? ⟨w.heap.size, 0, none⟩ = some (.int .i64 k1) ∧ W.cell? ⟨w.heap.size, 1, none⟩ = some (.int .i64 k2) ∧ W.cell? ⟨w.heap.size + 1, 0, none⟩ = some (.int .i64 b1) ∧ W.cell? ⟨w.heap.size + 1, 1, none⟩ = some (.int .i64 b2) ∧ W.cell? ⟨bp, 2, none⟩ = some (.string key) ∧ (Instr.lookup 63 mv (.agg #[.int .i64 k1, .int .i64 k2]) false).run Try.prog W = .ok (.agg #[.int .i64 p1, .int .i64 p2, .string ky]) W)) := hid (fun W hb => by
    have g1 := (hb.block _ hl1).trans hb1
    have g2 := (hb.block _ hl2).trans hb2
    have hbw := hB0.trans (hb.mono hB0.size)
    refine ⟨(hbw.cell (p := ⟨bs, 0, none⟩) (cell_in hbs)).trans hbs, (hbw.cell (p := ⟨t, o, none⟩) (cell_in hc)).trans hc, by simp [World.cell?, g1], by simp [World.cell?, g1], by simp [World.cell?, g2], by simp [World.cell?, g2], (hbw.cell (p := ⟨bp, 2, none⟩) (cell_in hbp)).trans hbp, ?_⟩
    have := (h.below hbw).look hd
    rw [hq] at this
    exact this)
  have HB0 : Hid (Below W0.heap.size W0 W0.drew) := hid ((Far.refl W0).drewN 1).below
  have hS0 := HS.out _ HB0.out
  have rfk := run_key p1 p2 ky
  have HW := hid hW0
  clear hW0 hb1 hb2 hl1 hl2 hc h hq hbs hbp
  go_enter Try.func93, Try.ntmps93
  go_wp2_with fail
  rw [← HW.out]
  refine wp_region_held_drew (S := fun w' => w'.cell? ⟨bs, 0, none⟩ = some (.pointer (some ⟨t, o, none⟩)) ∧ w'.cell? ⟨t, o, none⟩ = some mv ∧ w'.cell? ⟨w.heap.size, 0, none⟩ = some (.int .i64 k1) ∧ w'.cell? ⟨w.heap.size, 1, none⟩ = some (.int .i64 k2) ∧ w'.cell? ⟨w.heap.size + 1, 0, none⟩ = some (.int .i64 b1) ∧ w'.cell? ⟨w.heap.size + 1, 1, none⟩ = some (.int .i64 b2) ∧ w'.cell? ⟨bp, 2, none⟩ = some (.string key) ∧ (Instr.lookup 63 mv (.agg #[.int .i64 k1, .int .i64 k2]) false).run Try.prog w' = .ok (.agg #[.int .i64 p1, .int .i64 p2, .string ky]) w') hmxo hS0 ?_
  intro _
  refine wpAnyH_take (i := 0) (v := .pointer (some ⟨t, o, none⟩)) rfl (by kernel_rfl) (by kernel_rfl) (by kernel_rfl) (fun _ _ _ h => h) (Or.inl ⟨by kernel_rfl, fun w hSw => ?_⟩) hS0 ?_
  · obtain ⟨e1, e2, e3, e4, e5, e6, e7, e8⟩ := hSw; go_simp
  simp only [Act.put, List.getElem_toArray, List.getElem_cons_succ, List.getElem_cons_zero, List.setIfInBounds_toArray, List.set_cons_zero, List.set_cons_succ]
  refine wpAnyH_take (i := 1) (v := .pointer (some ⟨t, o, none⟩)) rfl (by kernel_rfl) (by kernel_rfl) (by kernel_rfl) (fun _ _ _ h => h) (Or.inl ⟨by kernel_rfl, fun w hSw => ?_⟩) hS0 ?_
  · obtain ⟨e1, e2, e3, e4, e5, e6, e7, e8⟩ := hSw; go_simp
  simp only [Act.put, List.getElem_toArray, List.getElem_cons_succ, List.getElem_cons_zero, List.setIfInBounds_toArray, List.set_cons_zero, List.set_cons_succ]
  refine wpAnyH_take (i := 2) (v := .pointer (some ⟨t, o, none⟩)) rfl (by kernel_rfl) (by kernel_rfl) (by kernel_rfl) (fun _ _ _ h => h) (Or.inl ⟨by kernel_rfl, fun w hSw => ?_⟩) hS0 ?_
  · obtain ⟨e1, e2, e3, e4, e5, e6, e7, e8⟩ := hSw; go_simp
  simp only [Act.put, List.getElem_toArray, List.getElem_cons_succ, List.getElem_cons_zero, List.setIfInBounds_toArray, List.set_cons_zero, List.set_cons_succ]
  refine wpAnyH_take (i := 3) (v := mv) rfl (by kernel_rfl) (by kernel_rfl) (by kernel_rfl) (fun _ _ _ h => h) (Or.inl ⟨by kernel_rfl, fun w hSw => ?_⟩) hS0 ?_
  · obtain ⟨e1, e2, e3, e4, e5, e6, e7, e8⟩ := hSw; go_simp
  simp only [Act.put, List.getElem_toArray, List.getElem_cons_succ, List.getElem_cons_zero, List.setIfInBounds_toArray, List.set_cons_zero, List.set_cons_succ]
  refine wpAnyH_take (i := 4) (v := .agg #[.int .i64 k1, .int .i64 k2]) rfl (by kernel_rfl) (by kernel_rfl) (by kernel_rfl) (fun _ _ _ h => h) (Or.inl ⟨by kernel_rfl, fun w hSw => ?_⟩) hS0 ?_
  · obtain ⟨e1, e2, e3, e4, e5, e6, e7, e8⟩ := hSw; go_simp
  simp only [Act.put, List.getElem_toArray, List.getElem_cons_succ, List.getElem_cons_zero, List.setIfInBounds_toArray, List.set_cons_zero, List.set_cons_succ]
  refine wpAnyH_take (i := 5) (v := .agg #[.int .i64 p1, .int .i64 p2, .string ky]) rfl (by kernel_rfl) (by kernel_rfl) (by kernel_rfl) (fun _ _ _ h => h) (Or.inl ⟨by kernel_rfl, fun w hSw => ?_⟩) hS0 ?_
  · obtain ⟨e1, e2, e3, e4, e5, e6, e7, e8⟩ := hSw; go_simp
  simp only [Act.put, List.getElem_toArray, List.getElem_cons_succ, List.getElem_cons_zero, List.setIfInBounds_toArray, List.set_cons_zero, List.set_cons_succ]
  refine wpAnyH_take (i := 6) (v := .string ky) rfl (by kernel_rfl) (by kernel_rfl) (by kernel_rfl) (fun _ _ _ h => h) (Or.inl ⟨by kernel_rfl, fun w hSw => ?_⟩) hS0 ?_
  · obtain ⟨e1, e2, e3, e4, e5, e6, e7, e8⟩ := hSw; go_simp
  simp only [Act.put, List.getElem_toArray, List.getElem_cons_succ, List.getElem_cons_zero, List.setIfInBounds_toArray, List.set_cons_zero, List.set_cons_succ]
  refine wpAnyH_take (i := 7) (v := .pointer (some ⟨bp, 2, none⟩)) rfl (by kernel_rfl) (by kernel_rfl) (by kernel_rfl) (fun _ _ _ h => h) (Or.inl ⟨by kernel_rfl, fun w hSw => ?_⟩) hS0 ?_
  · obtain ⟨e1, e2, e3, e4, e5, e6, e7, e8⟩ := hSw; go_simp
  simp only [Act.put, List.getElem_toArray, List.getElem_cons_succ, List.getElem_cons_zero, List.setIfInBounds_toArray, List.set_cons_zero, List.set_cons_succ]
  refine wpAnyH_take (i := 8) (v := .string key) rfl (by kernel_rfl) (by kernel_rfl) (by kernel_rfl) (fun _ _ _ h => h) (Or.inl ⟨by kernel_rfl, fun w hSw => ?_⟩) hS0 ?_
  · obtain ⟨e1, e2, e3, e4, e5, e6, e7, e8⟩ := hSw; go_simp
  simp only [Act.put, List.getElem_toArray, List.getElem_cons_succ, List.getElem_cons_zero, List.setIfInBounds_toArray, List.set_cons_zero, List.set_cons_succ]
  refine wpAnyH_take (i := 10) (v := .agg #[.int .i64 k1, .int .i64 k2]) rfl (by kernel_rfl) (by kernel_rfl) (by kernel_rfl) (fun _ _ _ h => h) (Or.inl ⟨by kernel_rfl, fun w hSw => ?_⟩) hS0 ?_
  · obtain ⟨e1, e2, e3, e4, e5, e6, e7, e8⟩ := hSw; go_simp
  simp only [Act.put, List.getElem_toArray, List.getElem_cons_succ, List.getElem_cons_zero, List.setIfInBounds_toArray, List.set_cons_zero, List.set_cons_succ]
  refine wpAnyH_take (i := 11) (v := .agg #[.int .i64 b1, .int .i64 b2]) rfl (by kernel_rfl) (by kernel_rfl) (by kernel_rfl) (fun _ _ _ h => h) (Or.inl ⟨by kernel_rfl, fun w hSw => ?_⟩) hS0 ?_
  · obtain ⟨e1, e2, e3, e4, e5, e6, e7, e8⟩ := hSw; go_simp
  simp only [Act.put, List.getElem_toArray, List.getElem_cons_succ, List.getElem_cons_zero, List.setIfInBounds_toArray, List.set_cons_zero, List.set_cons_succ]
  refine wpAnyH_ready (rs := [9]) (by kernel_rfl) (by simp) ?_
  refine AllReadyH.cons rfl (fun K hK => ?_) AllReadyH.nil
  go_simp
  refine (scmp_any ky key _).mono ?_
  rintro e U1 ⟨rfl, rfl⟩

  refine hK.out _ _ hS0 (fun _ => ?_)
  clear hK K

  refine wpAnyH_ready (rs := [12]) (by kernel_rfl) (by simp) ?_
  refine AllReadyH.cons rfl (fun K hK => ?_) AllReadyH.nil
  go_simp
  refine (torder_any (k1, k2) (b1, b2) _).mono ?_
  rintro e U2 ⟨rfl, hb1⟩
  have HB1 : Hid (Below W0.heap.size W0 U2) := hid (HB0.out.trans (hb1.mono HB0.out.size))
  have hS1 := HS.out _ HB1.out
  refine hK.out _ _ hS1 (fun _ => ?_)
  clear hK K

  refine wpAnyH_ready (rs := [13]) (by kernel_rfl) (by simp) ?_
  refine AllReadyH.cons rfl (fun K hK => ?_) AllReadyH.nil
  go_simp
  have HB2 : Hid (Below W0.heap.size W0 (U2.alloc (.cells #[.int .i64 (cmpS ky key), .int .i64 (ordI (k1, k2) (b1, b2))] 3))) := hid (HB1.out.alloc HB1.out.size _)
  have hS2 := HS.out _ HB2.out
  refine hK.out _ _ hS2 (fun _ => ?_)
  clear hK K
  have hA := World.alloc_heap_new U2 (.cells #[.int .i64 (cmpS ky key), .int .i64 (ordI (k1, k2) (b1, b2))] 3)
  have hor := or_any U2.heap.size 2 (cmpS ky key) (ordI (k1, k2) (b1, b2)) (U2.alloc (.cells #[.int .i64 (cmpS ky key), .int .i64 (ordI (k1, k2) (b1, b2))] 3)) (by simp only [World.cell?, hA]; rfl) (by simp only [World.cell?, hA]; rfl)
  refine wpAnyH_ready (rs := [14]) (by kernel_rfl) (by simp) ?_
  refine AllReadyH.cons rfl (fun K hK => ?_) AllReadyH.nil
  go_simp
  refine (hor).mono ?_
  rintro e U3 ⟨rfl, rfl⟩

  refine hK.out _ _ hS2 (fun _ => ?_)
  clear hK K

  refine wpAnyH_take (i := 15) (v := .int .i64 (orI (cmpS ky key) (ordI (k1, k2) (b1, b2)))) rfl (by kernel_rfl) (by kernel_rfl) (by kernel_rfl) (fun _ _ _ h => h) (Or.inl ⟨by kernel_rfl, fun w hSw => ?_⟩) hS2 ?_
  · obtain ⟨e1, e2, e3, e4, e5, e6, e7, e8⟩ := hSw; go_simp
  simp only [Act.put, List.getElem_toArray, List.getElem_cons_succ, List.getElem_cons_zero, List.setIfInBounds_toArray, List.set_cons_zero, List.set_cons_succ]
  refine wpAnyH_done (by kernel_rfl) ?_ _
  go_wp2
  go_ret
  exact ⟨by rw [hr.out]; rfl, hB0.trans (HB2.out.mono hB0.size)⟩
end

section

theorem rank_lt {S : List Sp} (hn : (S.map Sp.b).Nodup) {x : Sp} (hx : x ∈ S) (s : Sp) : decide (rankI S x.b s.b s.k < 0) = kdl x s := by
  have e : ((lk S x.b).getD pl0).2 = x.k := by rw [lk_mem hn hx]; rfl
  unfold rankI
  rw [e]
  unfold orI cmpS ordI kdl
  cases h1 : bl (kb x.k) (kb s.k) with
  | true => simp
  | false =>
    cases h2 : bl (kb s.k) (kb x.k) with
    | true =>
      have hne : ¬ kb x.k = kb s.k := fun e' => by rw [e', bl_irrefl] at h2; cases h2
      simp [hne]
    | false =>
      have he : kb x.k = kb s.k := by
        by_cases hq : kb x.k = kb s.k
        · exact hq
        · rw [bl_total h1 hq] at h2; cases h2
      cases h3 : dl x.b s.b
      · cases h4 : dl s.b x.b <;> simp [he]
      · simp [he]

theorem rank_ne {S : List Sp} {x b : Dt} (h : x ≠ b) (key : ByteArray) : rankI S x b key ≠ 0 := by
  unfold rankI orI ordI
  split
  · cases h3 : dl x b
    · rw [dl_total h h3]; simp
    · simp
  · assumption
end
end Go.Proofs.Ytplcohjpchfkkaa
