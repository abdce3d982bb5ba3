/- Where a block comes among others under a parent. -/
import Derived.Test.YtnmdcdphpcpojaaGreatDoorTrCmp
namespace Go.Proofs.YtnmdcdphpcpojaaGreatDoor
section
set_option linter.unusedVariables false
set_option linter.unusedSimpArgs false
open Go.RowKit

/-- Below 0 or above 0, as a kid comes ahead of one with a key or behind it. -/
def rankI (S : List Sp) (kid b : Dt) (key : ByteArray) : Int := orI (cmpS ((lk S kid).getD pl0).2 key) (ordI kid b)

set_option maxRecDepth 100000 in
set_option maxHeartbeats 4000000 in
theorem rank1_any (t o bs bp : Nat) (mv : Value) (S : List Sp) (kid b : Dt) (key : ByteArray) (hd : Dw kid) (w : World) (hbs : w.cell? ⟨bs, 0, none⟩ = some (.pointer (some ⟨t, o, none⟩))) (hbp : w.cell? ⟨bp, 2, none⟩ = some (.string key)) (hc : w.cell? ⟨t, o, none⟩ = some mv) (h : PlV w mv S) :
    Calls Tryz.prog 180 #[dv kid, dv b, .pointer (some ⟨bs, 0, none⟩), .pointer (some ⟨bp, 0, none⟩)] w fun e w' => e = .returned (.int .i64 (rankI S kid b key)) ∧ Below w.heap.size w w' := by
  obtain ⟨k1, k2⟩ := kid
  obtain ⟨b1, b2⟩ := b
  have mixed := mixed
  have hmxo : Tryz.prog.follows .mixedOrders = true := by kernel_rfl
  obtain ⟨p1, p2, ky, hq⟩ : ∃ p1 p2 ky, (lk S (k1, k2)).getD pl0 = ((p1, p2), ky) := ⟨_, _, _, rfl⟩
  have hr : Hid (rankI S (k1, k2) (b1, b2) key = orI (cmpS ky key) (ordI (k1, k2) (b1, b2))) := hid (by unfold rankI; rw [hq])
  obtain ⟨W0, hW0⟩ : ∃ W0, W0 = (w.alloc (.cells #[.int .i64 k1, .int .i64 k2] 24)).alloc (.cells #[.int .i64 b1, .int .i64 b2] 24) := ⟨_, rfl⟩
  have hB0 : Below w.heap.size w W0 := by rw [hW0]; exact ((Below.refl _ w).alloc (Nat.le_refl _) _).alloc (by simp) _
  have hb1 : W0.heap[w.heap.size]? = some (.cells #[.int .i64 k1, .int .i64 k2] 24 (0, 0)) := by rw [hW0]; exact (Below.heap_alloc _ _ _ (by simp)).trans (World.alloc_heap_new w _)
  have hb2 : W0.heap[w.heap.size + 1]? = some (.cells #[.int .i64 b1, .int .i64 b2] 24 (0, 0)) := by
    rw [hW0]
    have := World.alloc_heap_new (w.alloc (.cells #[.int .i64 k1, .int .i64 k2] 24)) (.cells #[.int .i64 b1, .int .i64 b2] 24)
    rwa [World.size_alloc] at this
  have hl1 := (Array.getElem?_eq_some_iff.1 hb1).1
  have hl2 := (Array.getElem?_eq_some_iff.1 hb2).1
  have HS : Hid (∀ W, Below W0.heap.size W0 W → (W.cell? ⟨bs, 0, none⟩ = some (.pointer (some ⟨t, o, none⟩)) ∧ W.cell? ⟨t, o, none⟩ = some mv ∧ W.cell? ⟨w.heap.size, 0, none⟩ = some (.int .i64 k1) ∧ W.cell? ⟨w.heap.size, 1, none⟩ = some (.int .i64 k2) ∧ W.cell? ⟨w.heap.size + 1, 0, none⟩ = some (.int .i64 b1) ∧ W.cell? ⟨w.heap.size + 1, 1, none⟩ = some (.int .i64 b2) ∧ W.cell? ⟨bp, 2, none⟩ = some (.string key) ∧ (Instr.lookup 111 mv (.agg #[.int .i64 k1, .int .i64 k2]) false).run Tryz.prog W = .ok (.agg #[.int .i64 p1, .int .i64 p2, .string ky]) W)) := hid (fun W hb => by
    have g1 := (hb.block _ hl1).trans hb1
    have g2 := (hb.block _ hl2).trans hb2
    have hbw := hB0.trans (hb.mono hB0.size)
    refine ⟨(hbw.cell (p := ⟨bs, 0, none⟩) (cell_in hbs)).trans hbs, (hbw.cell (p := ⟨t, o, none⟩) (cell_in hc)).trans hc, by simp [World.cell?, g1], by simp [World.cell?, g1], by simp [World.cell?, g2], by simp [World.cell?, g2], (hbw.cell (p := ⟨bp, 2, none⟩) (cell_in hbp)).trans hbp, ?_⟩
    have := (h.below hbw).look hd
    rw [hq] at this
    exact this)
  have HB0 : Hid (Below W0.heap.size W0 W0.drew) := hid ((Far.refl W0).drewN 1).below
  have hS0 := HS.out _ HB0.out
  have rfk := run_key p1 p2 ky
  have HW := hid hW0
  clear hW0 hb1 hb2 hl1 hl2 hc h hq hbs hbp
  go_enter Tryz.func180, Tryz.ntmps180
  go_wp2_with fail
  rw [← HW.out]
  refine wp_region_held_drew (S := fun w' => w'.cell? ⟨bs, 0, none⟩ = some (.pointer (some ⟨t, o, none⟩)) ∧ w'.cell? ⟨t, o, none⟩ = some mv ∧ w'.cell? ⟨w.heap.size, 0, none⟩ = some (.int .i64 k1) ∧ w'.cell? ⟨w.heap.size, 1, none⟩ = some (.int .i64 k2) ∧ w'.cell? ⟨w.heap.size + 1, 0, none⟩ = some (.int .i64 b1) ∧ w'.cell? ⟨w.heap.size + 1, 1, none⟩ = some (.int .i64 b2) ∧ w'.cell? ⟨bp, 2, none⟩ = some (.string key) ∧ (Instr.lookup 111 mv (.agg #[.int .i64 k1, .int .i64 k2]) false).run Tryz.prog w' = .ok (.agg #[.int .i64 p1, .int .i64 p2, .string ky]) w') hmxo hS0 ?_
  intro _
  refine wpAnyH_take (i := 0) (v := .pointer (some ⟨t, o, none⟩)) rfl (by kernel_rfl) (by kernel_rfl) (by kernel_rfl) (fun _ _ _ h => h) (Or.inl ⟨by kernel_rfl, fun w hSw => ?_⟩) hS0 ?_
  · obtain ⟨e1, e2, e3, e4, e5, e6, e7, e8⟩ := hSw; go_simp
  simp only [Act.put, List.getElem_toArray, List.getElem_cons_succ, List.getElem_cons_zero, List.setIfInBounds_toArray, List.set_cons_zero, List.set_cons_succ]
  refine wpAnyH_take (i := 1) (v := .pointer (some ⟨t, o, none⟩)) rfl (by kernel_rfl) (by kernel_rfl) (by kernel_rfl) (fun _ _ _ h => h) (Or.inl ⟨by kernel_rfl, fun w hSw => ?_⟩) hS0 ?_
  · obtain ⟨e1, e2, e3, e4, e5, e6, e7, e8⟩ := hSw; go_simp
  simp only [Act.put, List.getElem_toArray, List.getElem_cons_succ, List.getElem_cons_zero, List.setIfInBounds_toArray, List.set_cons_zero, List.set_cons_succ]
  refine wpAnyH_take (i := 2) (v := .pointer (some ⟨t, o, none⟩)) rfl (by kernel_rfl) (by kernel_rfl) (by kernel_rfl) (fun _ _ _ h => h) (Or.inl ⟨by kernel_rfl, fun w hSw => ?_⟩) hS0 ?_
  · obtain ⟨e1, e2, e3, e4, e5, e6, e7, e8⟩ := hSw; go_simp
  simp only [Act.put, List.getElem_toArray, List.getElem_cons_succ, List.getElem_cons_zero, List.setIfInBounds_toArray, List.set_cons_zero, List.set_cons_succ]
  refine wpAnyH_take (i := 3) (v := mv) rfl (by kernel_rfl) (by kernel_rfl) (by kernel_rfl) (fun _ _ _ h => h) (Or.inl ⟨by kernel_rfl, fun w hSw => ?_⟩) hS0 ?_
  · obtain ⟨e1, e2, e3, e4, e5, e6, e7, e8⟩ := hSw; go_simp
  simp only [Act.put, List.getElem_toArray, List.getElem_cons_succ, List.getElem_cons_zero, List.setIfInBounds_toArray, List.set_cons_zero, List.set_cons_succ]
  refine wpAnyH_take (i := 4) (v := .agg #[.int .i64 k1, .int .i64 k2]) rfl (by kernel_rfl) (by kernel_rfl) (by kernel_rfl) (fun _ _ _ h => h) (Or.inl ⟨by kernel_rfl, fun w hSw => ?_⟩) hS0 ?_
  · obtain ⟨e1, e2, e3, e4, e5, e6, e7, e8⟩ := hSw; go_simp
  simp only [Act.put, List.getElem_toArray, List.getElem_cons_succ, List.getElem_cons_zero, List.setIfInBounds_toArray, List.set_cons_zero, List.set_cons_succ]
  refine wpAnyH_take (i := 5) (v := .agg #[.int .i64 p1, .int .i64 p2, .string ky]) rfl (by kernel_rfl) (by kernel_rfl) (by kernel_rfl) (fun _ _ _ h => h) (Or.inl ⟨by kernel_rfl, fun w hSw => ?_⟩) hS0 ?_
  · obtain ⟨e1, e2, e3, e4, e5, e6, e7, e8⟩ := hSw; go_simp
  simp only [Act.put, List.getElem_toArray, List.getElem_cons_succ, List.getElem_cons_zero, List.setIfInBounds_toArray, List.set_cons_zero, List.set_cons_succ]
  refine wpAnyH_take (i := 6) (v := .string ky) rfl (by kernel_rfl) (by kernel_rfl) (by kernel_rfl) (fun _ _ _ h => h) (Or.inl ⟨by kernel_rfl, fun w hSw => ?_⟩) hS0 ?_
  · obtain ⟨e1, e2, e3, e4, e5, e6, e7, e8⟩ := hSw; go_simp
  simp only [Act.put, List.getElem_toArray, List.getElem_cons_succ, List.getElem_cons_zero, List.setIfInBounds_toArray, List.set_cons_zero, List.set_cons_succ]
  refine wpAnyH_take (i := 7) (v := .pointer (some ⟨bp, 2, none⟩)) rfl (by kernel_rfl) (by kernel_rfl) (by kernel_rfl) (fun _ _ _ h => h) (Or.inl ⟨by kernel_rfl, fun w hSw => ?_⟩) hS0 ?_
  · obtain ⟨e1, e2, e3, e4, e5, e6, e7, e8⟩ := hSw; go_simp
  simp only [Act.put, List.getElem_toArray, List.getElem_cons_succ, List.getElem_cons_zero, List.setIfInBounds_toArray, List.set_cons_zero, List.set_cons_succ]
  refine wpAnyH_take (i := 8) (v := .string key) rfl (by kernel_rfl) (by kernel_rfl) (by kernel_rfl) (fun _ _ _ h => h) (Or.inl ⟨by kernel_rfl, fun w hSw => ?_⟩) hS0 ?_
  · obtain ⟨e1, e2, e3, e4, e5, e6, e7, e8⟩ := hSw; go_simp
  simp only [Act.put, List.getElem_toArray, List.getElem_cons_succ, List.getElem_cons_zero, List.setIfInBounds_toArray, List.set_cons_zero, List.set_cons_succ]
  refine wpAnyH_take (i := 10) (v := .agg #[.int .i64 k1, .int .i64 k2]) rfl (by kernel_rfl) (by kernel_rfl) (by kernel_rfl) (fun _ _ _ h => h) (Or.inl ⟨by kernel_rfl, fun w hSw => ?_⟩) hS0 ?_
  · obtain ⟨e1, e2, e3, e4, e5, e6, e7, e8⟩ := hSw; go_simp
  simp only [Act.put, List.getElem_toArray, List.getElem_cons_succ, List.getElem_cons_zero, List.setIfInBounds_toArray, List.set_cons_zero, List.set_cons_succ]
  refine wpAnyH_take (i := 11) (v := .agg #[.int .i64 b1, .int .i64 b2]) rfl (by kernel_rfl) (by kernel_rfl) (by kernel_rfl) (fun _ _ _ h => h) (Or.inl ⟨by kernel_rfl, fun w hSw => ?_⟩) hS0 ?_
  · obtain ⟨e1, e2, e3, e4, e5, e6, e7, e8⟩ := hSw; go_simp
  simp only [Act.put, List.getElem_toArray, List.getElem_cons_succ, List.getElem_cons_zero, List.setIfInBounds_toArray, List.set_cons_zero, List.set_cons_succ]
  refine wpAnyH_ready (rs := [9]) (by kernel_rfl) (by simp) ?_
  refine AllReadyH.cons rfl (fun K hK => ?_) AllReadyH.nil
  go_simp
  refine (scmp_any ky key _).mono ?_
  rintro e U1 ⟨rfl, rfl⟩

  refine hK.out _ _ hS0 (fun _ => ?_)
  clear hK K

  refine wpAnyH_ready (rs := [12]) (by kernel_rfl) (by simp) ?_
  refine AllReadyH.cons rfl (fun K hK => ?_) AllReadyH.nil
  go_simp
  refine (torder_any (k1, k2) (b1, b2) _).mono ?_
  rintro e U2 ⟨rfl, hb1⟩
  have HB1 : Hid (Below W0.heap.size W0 U2) := hid (HB0.out.trans (hb1.mono HB0.out.size))
  have hS1 := HS.out _ HB1.out
  refine hK.out _ _ hS1 (fun _ => ?_)
  clear hK K

  refine wpAnyH_ready (rs := [13]) (by kernel_rfl) (by simp) ?_
  refine AllReadyH.cons rfl (fun K hK => ?_) AllReadyH.nil
  go_simp
  have HB2 : Hid (Below W0.heap.size W0 (U2.alloc (.cells #[.int .i64 (cmpS ky key), .int .i64 (ordI (k1, k2) (b1, b2))] 3))) := hid (HB1.out.alloc HB1.out.size _)
  have hS2 := HS.out _ HB2.out
  refine hK.out _ _ hS2 (fun _ => ?_)
  clear hK K
  have hA := World.alloc_heap_new U2 (.cells #[.int .i64 (cmpS ky key), .int .i64 (ordI (k1, k2) (b1, b2))] 3)
  have hor := or_any U2.heap.size 2 (cmpS ky key) (ordI (k1, k2) (b1, b2)) (U2.alloc (.cells #[.int .i64 (cmpS ky key), .int .i64 (ordI (k1, k2) (b1, b2))] 3)) (by simp only [World.cell?, hA]; rfl) (by simp only [World.cell?, hA]; rfl)
  refine wpAnyH_ready (rs := [14]) (by kernel_rfl) (by simp) ?_
  refine AllReadyH.cons rfl (fun K hK => ?_) AllReadyH.nil
  go_simp
  refine (hor).mono ?_
  rintro e U3 ⟨rfl, rfl⟩

  refine hK.out _ _ hS2 (fun _ => ?_)
  clear hK K

  refine wpAnyH_take (i := 15) (v := .int .i64 (orI (cmpS ky key) (ordI (k1, k2) (b1, b2)))) rfl (by kernel_rfl) (by kernel_rfl) (by kernel_rfl) (fun _ _ _ h => h) (Or.inl ⟨by kernel_rfl, fun w hSw => ?_⟩) hS2 ?_
  · obtain ⟨e1, e2, e3, e4, e5, e6, e7, e8⟩ := hSw; go_simp
  simp only [Act.put, List.getElem_toArray, List.getElem_cons_succ, List.getElem_cons_zero, List.setIfInBounds_toArray, List.set_cons_zero, List.set_cons_succ]
  refine wpAnyH_done (by kernel_rfl) ?_ _
  go_wp2
  go_ret
  exact ⟨by rw [hr.out]; rfl, hB0.trans (HB2.out.mono hB0.size)⟩
end

section

theorem rank_lt {S : List Sp} (hn : (S.map Sp.b).Nodup) {x : Sp} (hx : x ∈ S) (s : Sp) : decide (rankI S x.b s.b s.k < 0) = kdl x s := by
  have e : ((lk S x.b).getD pl0).2 = x.k := by rw [lk_mem hn hx]; rfl
  unfold rankI
  rw [e]
  unfold orI cmpS ordI kdl
  cases h1 : bl (kb x.k) (kb s.k) with
  | true => simp
  | false =>
    cases h2 : bl (kb s.k) (kb x.k) with
    | true =>
      have hne : ¬ kb x.k = kb s.k := fun e' => by rw [e', bl_irrefl] at h2; cases h2
      simp [hne]
    | false =>
      have he : kb x.k = kb s.k := by
        by_cases hq : kb x.k = kb s.k
        · exact hq
        · rw [bl_total h1 hq] at h2; cases h2
      cases h3 : dl x.b s.b
      · cases h4 : dl s.b x.b <;> simp [he]
      · simp [he]
end

section
set_option linter.unusedVariables false
set_option linter.unusedSimpArgs false
open Go.RowKit

set_option maxRecDepth 100000 in
set_option maxHeartbeats 8000000 in
theorem trbs_any (a : Option Addr) (n c : Nat) (t o bs bp : Nat) (mv : Value) (S L : List Sp) (y : Sp) (w : World) (hps : PS w a n c (L.map Sp.b)) (hn : n ≤ 1000000) (hnd : (S.map Sp.b).Nodup) (hin : ∀ x ∈ L, x ∈ S) (hdw : ∀ x ∈ L, Dw x.b) (hsr : Srt kdl L) (hbs : w.cell? ⟨bs, 0, none⟩ = some (.pointer (some ⟨t, o, none⟩))) (hbp : w.cell? ⟨bp, 2, none⟩ = some (.string y.k)) (hc : w.cell? ⟨t, o, none⟩ = some mv) (h : PlV w mv S) :
    Calls Tryz.prog 179 #[.slice a n c, dv y.b, .func (.func 180) #[] #[.pointer (some ⟨bs, 0, none⟩), .pointer (some ⟨bp, 0, none⟩)]] w fun e w' => ∃ f, e = .returned (.tuple #[.int .i64 (rkL kdl L y : Nat), .bool f]) ∧ Below w.heap.size w w' := by
  have mixed := mixed
  have hmxo : Tryz.prog.follows .mixedOrders = true := by kernel_rfl
  obtain ⟨y1, hy1⟩ : ∃ y1, y1 = y.b.1 := ⟨_, rfl⟩
  obtain ⟨y2, hy2⟩ : ∃ y2, y2 = y.b.2 := ⟨_, rfl⟩
  have hye : y.b = (y1, y2) := by rw [hy1, hy2]
  rw [hye]
  have HYe := hid hye
  obtain ⟨W0, hW0⟩ : ∃ W0, W0 = w.alloc (.cells #[.int .i64 y1, .int .i64 y2] 24) := ⟨_, rfl⟩
  have hB0 : Below w.heap.size w W0 := by rw [hW0]; exact (Below.refl _ w).alloc (Nat.le_refl _) _
  have hb1 : W0.heap[w.heap.size]? = some (.cells #[.int .i64 y1, .int .i64 y2] 24 (0, 0)) := by rw [hW0]; exact World.alloc_heap_new w _
  have hl1 := (Array.getElem?_eq_some_iff.1 hb1).1
  have HY : Hid (∀ W, Below W0.heap.size W0 W → W.cell? ⟨w.heap.size, 0, none⟩ = some (.int .i64 y1) ∧ W.cell? ⟨w.heap.size, 1, none⟩ = some (.int .i64 y2)) := hid (fun W hb => by
    have g1 := (hb.block _ hl1).trans hb1
    exact ⟨by simp [World.cell?, g1], by simp [World.cell?, g1]⟩)
  have HBw : Hid (∀ W, Below W0.heap.size W0 W → Below w.heap.size w W) := hid (fun W hb => hB0.trans (hb.mono hB0.size))
  have HC := hid (And.intro hbs (And.intro hbp hc))
  have HP := hid h
  have HLn : Hid (L.length = n) := hid (by have := hps.len; rwa [List.length_map] at this)
  have hcap := hps.cap
  have hmx := hps.max
  unfold maxLen at hmx
  have HPSA := hid hps
  have HSR := hid hsr
  have HND := hid hnd
  have HIN := hid hin
  have HDW := hid hdw
  obtain ⟨KK, hK⟩ : ∃ KK, KK = rkL kdl L y := ⟨_, rfl⟩
  have hKn : KK ≤ n := by rw [hK]; have := rk_le kdl L y; have := HLn.out; omega
  rw [← hK]
  have HK := hid hK
  have HW := hid hW0
  clear hsr hnd hin hdw hps hbs hbp hc h hK hb1 hl1 hW0 hy1 hy2 hye
  go_enter Tryz.func179, Tryz.ntmps179
  go_wp2
  rw [← HW.out]
  go_loopw [9, 10] (fun i j wr => ∃ lo hi : Nat, i = .int .i64 lo ∧ j = .int .i64 hi ∧ lo ≤ KK ∧ KK ≤ hi ∧ hi ≤ n ∧ Hid (Below W0.heap.size W0 wr)) (fun i j _ => (intOf j).toNat - (intOf i).toNat)
  case atStart => exact ⟨0, n, rfl, rfl, by omega, by omega, by omega, hid (Below.refl _ _)⟩
  case round =>
    obtain ⟨lo, hi, rfl, rfl, hlK, hKh, hin, hW⟩ := hrel
    by_cases hlt : lo < hi
    · obtain ⟨g, of, rfl, hg, hcs⟩ := HPSA.out.at (by omega)
      have HPS := hid hcs
      obtain ⟨m, hm⟩ : ∃ m, m = (lo + hi) / 2 := ⟨_, rfl⟩
      have hme : ((lo : Int) + (hi : Int)) / 2 = (m : Int) := by omega
      have hml : lo ≤ m ∧ m < hi := by omega
      have HM := hid hm
      clear hm
      have hmd : m < L.length := by have := HLn.out; omega
      have hxd := HDW.out _ (List.getElem_mem hmd)
      have hxS := HIN.out _ (List.getElem_mem hmd)
      have hlk := List.getElem?_eq_getElem hmd
      have hcmp := rk_lt kdl_lin HSR.out y hlk
      rw [← HK.out] at hcmp
      have hT := rank_lt HND.out hxS y
      rw [hcmp] at hT
      have hcell := HPS.out m (by rw [List.length_map]; exact hmd)
      rw [List.getElem_map] at hcell
      generalize L[m] = x at hxd hxS hlk hcmp hT hcell
      obtain ⟨T, hTe⟩ : ∃ T, T = rankI S x.b y.b y.k := ⟨_, rfl⟩
      obtain ⟨x1, hx1⟩ : ∃ x1, x1 = x.b.1 := ⟨_, rfl⟩
      obtain ⟨x2, hx2⟩ : ∃ x2, x2 = x.b.2 := ⟨_, rfl⟩
      rw [← hx1, ← hx2] at hcell
      have hxe : x.b = (x1, x2) := by rw [hx1, hx2]
      rw [← hTe] at hT
      have HSx : Hid (∀ W, Below W0.heap.size W0 W → (W.cell? ⟨g, of + m * 2, none⟩ = some (.int .i64 x1) ∧ W.cell? ⟨g, of + m * 2 + 1, none⟩ = some (.int .i64 x2) ∧ W.cell? ⟨w.heap.size, 0, none⟩ = some (.int .i64 y1) ∧ W.cell? ⟨w.heap.size, 1, none⟩ = some (.int .i64 y2))) := hid (fun W hb => ⟨((HBw.out W hb).cell (p := ⟨g, of + m * 2, none⟩) (cell_in hcell.1)).trans hcell.1, ((HBw.out W hb).cell (p := ⟨g, of + m * 2 + 1, none⟩) (cell_in hcell.2)).trans hcell.2, HY.out W hb⟩)
      have HU0 : Hid (Below W0.heap.size W0 wr.drew) := hid (hW.out.trans (((Far.refl wr).drewN 1).below.mono hW.out.size))
      have hS0 := HSx.out _ HU0.out
      have hG : Calls Tryz.prog 180 #[.agg #[.int .i64 x1, .int .i64 x2], .agg #[.int .i64 y1, .int .i64 y2], .pointer (some ⟨bs, 0, none⟩), .pointer (some ⟨bp, 0, none⟩)] wr.drew fun e w' => e = .returned (.int .i64 T) ∧ Hid (Below W0.heap.size W0 w') := by
        have hbw := HBw.out _ HU0.out
        have h1 := rank1_any t o bs bp mv S x.b y.b y.k hxd wr.drew ((hbw.cell (p := ⟨bs, 0, none⟩) (cell_in HC.out.1)).trans HC.out.1) ((hbw.cell (p := ⟨bp, 2, none⟩) (cell_in HC.out.2.1)).trans HC.out.2.1) ((hbw.cell (p := ⟨t, o, none⟩) (cell_in HC.out.2.2)).trans HC.out.2.2) (HP.out.below hbw)
        rw [← hTe, hxe, HYe.out] at h1
        exact h1.mono (fun e w' ⟨k1, k2⟩ => ⟨k1, hid (HU0.out.trans (k2.mono HU0.out.size))⟩)
      clear hxd hxS hlk hcmp hcell hTe hx1 hx2 hxe
      have hm1 : (m : Int) < (n : Int) := by omega
      have hm0 : (0 : Int) ≤ (m : Int) := by omega
      clear hg hcs hmd
      by_cases hmK : m < KK
      · rw [decide_eq_true hmK] at hT
        go_wp2_with fail
        refine wp_region_held_drew (S := fun w' => w'.cell? ⟨g, of + m * 2, none⟩ = some (.int .i64 x1) ∧ w'.cell? ⟨g, of + m * 2 + 1, none⟩ = some (.int .i64 x2) ∧ w'.cell? ⟨w.heap.size, 0, none⟩ = some (.int .i64 y1) ∧ w'.cell? ⟨w.heap.size, 1, none⟩ = some (.int .i64 y2)) hmxo hS0 ?_
        intro _
        refine wpAnyH_take (i := 0) (v := .func (.func 180) #[] #[.pointer (some ⟨bs, 0, none⟩), .pointer (some ⟨bp, 0, none⟩)]) rfl (by kernel_rfl) (by kernel_rfl) (by kernel_rfl) (fun _ _ _ h => h) (Or.inl ⟨by kernel_rfl, fun w hSw => ?_⟩) hS0 ?_
        · obtain ⟨e1, e2, e3, e4⟩ := hSw; go_simp
        simp only [Act.put, List.getElem_toArray, List.getElem_cons_succ, List.getElem_cons_zero, List.setIfInBounds_toArray, List.set_cons_zero, List.set_cons_succ]
        refine wpAnyH_take (i := 1) (v := .slice (some ⟨g, of, none⟩) n c) rfl (by kernel_rfl) (by kernel_rfl) (by kernel_rfl) (fun _ _ _ h => h) (Or.inl ⟨by kernel_rfl, fun w hSw => ?_⟩) hS0 ?_
        · obtain ⟨e1, e2, e3, e4⟩ := hSw; go_simp
        simp only [Act.put, List.getElem_toArray, List.getElem_cons_succ, List.getElem_cons_zero, List.setIfInBounds_toArray, List.set_cons_zero, List.set_cons_succ]
        refine wpAnyH_take (i := 2) (v := .int .i64 (m : Int)) rfl (by kernel_rfl) (by kernel_rfl) (by kernel_rfl) (fun _ _ _ h => h) (Or.inl ⟨by kernel_rfl, fun w hSw => ?_⟩) hS0 ?_
        · obtain ⟨e1, e2, e3, e4⟩ := hSw; go_simp
        simp only [Act.put, List.getElem_toArray, List.getElem_cons_succ, List.getElem_cons_zero, List.setIfInBounds_toArray, List.set_cons_zero, List.set_cons_succ]
        refine wpAnyH_take (i := 3) (v := .pointer (some ⟨g, of + m * 2, none⟩)) rfl (by kernel_rfl) (by kernel_rfl) (by kernel_rfl) (fun _ _ _ h => h) (Or.inl ⟨by kernel_rfl, fun w hSw => ?_⟩) hS0 ?_
        · obtain ⟨e1, e2, e3, e4⟩ := hSw; go_simp
        simp only [Act.put, List.getElem_toArray, List.getElem_cons_succ, List.getElem_cons_zero, List.setIfInBounds_toArray, List.set_cons_zero, List.set_cons_succ]
        refine wpAnyH_take (i := 4) (v := .agg #[.int .i64 x1, .int .i64 x2]) rfl (by kernel_rfl) (by kernel_rfl) (by kernel_rfl) (fun _ _ _ h => h) (Or.inl ⟨by kernel_rfl, fun w hSw => ?_⟩) hS0 ?_
        · obtain ⟨e1, e2, e3, e4⟩ := hSw; go_simp
        simp only [Act.put, List.getElem_toArray, List.getElem_cons_succ, List.getElem_cons_zero, List.setIfInBounds_toArray, List.set_cons_zero, List.set_cons_succ]
        refine wpAnyH_take (i := 5) (v := .agg #[.int .i64 y1, .int .i64 y2]) rfl (by kernel_rfl) (by kernel_rfl) (by kernel_rfl) (fun _ _ _ h => h) (Or.inl ⟨by kernel_rfl, fun w hSw => ?_⟩) hS0 ?_
        · obtain ⟨e1, e2, e3, e4⟩ := hSw; go_simp
        simp only [Act.put, List.getElem_toArray, List.getElem_cons_succ, List.getElem_cons_zero, List.setIfInBounds_toArray, List.set_cons_zero, List.set_cons_succ]
        refine wpAnyH_ready (rs := [6]) (by kernel_rfl) (by simp) ?_
        refine AllReadyH.cons rfl (fun K hK => ?_) AllReadyH.nil
        go_simp
        refine hG.mono ?_
        rintro e U1 ⟨rfl, hU1⟩
        have hS1 := HSx.out _ hU1.out
        refine hK.out _ _ hS1 (fun _ => ?_)
        clear hK K
        refine wpAnyH_take (i := 7) (v := .bool (decide (T < 0))) rfl (by kernel_rfl) (by kernel_rfl) (by kernel_rfl) (fun _ _ _ h => h) (Or.inl ⟨by kernel_rfl, fun w hSw => ?_⟩) hS1 ?_
        · obtain ⟨e1, e2, e3, e4⟩ := hSw; go_simp
        simp only [Act.put, List.getElem_toArray, List.getElem_cons_succ, List.getElem_cons_zero, List.setIfInBounds_toArray, List.set_cons_zero, List.set_cons_succ]
        refine wpAnyH_done (by kernel_rfl) ?_ _
        clear hS0 hS1 hG
        rw [hT]
        go_wp2
        go_roundw
        case rel => exact ⟨m + 1, hi, by go_num, rfl, by omega, hKh, hin, hU1⟩
        case measure => simp [intOf]; omega
      · rw [decide_eq_false hmK] at hT
        go_wp2_with fail
        refine wp_region_held_drew (S := fun w' => w'.cell? ⟨g, of + m * 2, none⟩ = some (.int .i64 x1) ∧ w'.cell? ⟨g, of + m * 2 + 1, none⟩ = some (.int .i64 x2) ∧ w'.cell? ⟨w.heap.size, 0, none⟩ = some (.int .i64 y1) ∧ w'.cell? ⟨w.heap.size, 1, none⟩ = some (.int .i64 y2)) hmxo hS0 ?_
        intro _
        refine wpAnyH_take (i := 0) (v := .func (.func 180) #[] #[.pointer (some ⟨bs, 0, none⟩), .pointer (some ⟨bp, 0, none⟩)]) rfl (by kernel_rfl) (by kernel_rfl) (by kernel_rfl) (fun _ _ _ h => h) (Or.inl ⟨by kernel_rfl, fun w hSw => ?_⟩) hS0 ?_
        · obtain ⟨e1, e2, e3, e4⟩ := hSw; go_simp
        simp only [Act.put, List.getElem_toArray, List.getElem_cons_succ, List.getElem_cons_zero, List.setIfInBounds_toArray, List.set_cons_zero, List.set_cons_succ]
        refine wpAnyH_take (i := 1) (v := .slice (some ⟨g, of, none⟩) n c) rfl (by kernel_rfl) (by kernel_rfl) (by kernel_rfl) (fun _ _ _ h => h) (Or.inl ⟨by kernel_rfl, fun w hSw => ?_⟩) hS0 ?_
        · obtain ⟨e1, e2, e3, e4⟩ := hSw; go_simp
        simp only [Act.put, List.getElem_toArray, List.getElem_cons_succ, List.getElem_cons_zero, List.setIfInBounds_toArray, List.set_cons_zero, List.set_cons_succ]
        refine wpAnyH_take (i := 2) (v := .int .i64 (m : Int)) rfl (by kernel_rfl) (by kernel_rfl) (by kernel_rfl) (fun _ _ _ h => h) (Or.inl ⟨by kernel_rfl, fun w hSw => ?_⟩) hS0 ?_
        · obtain ⟨e1, e2, e3, e4⟩ := hSw; go_simp
        simp only [Act.put, List.getElem_toArray, List.getElem_cons_succ, List.getElem_cons_zero, List.setIfInBounds_toArray, List.set_cons_zero, List.set_cons_succ]
        refine wpAnyH_take (i := 3) (v := .pointer (some ⟨g, of + m * 2, none⟩)) rfl (by kernel_rfl) (by kernel_rfl) (by kernel_rfl) (fun _ _ _ h => h) (Or.inl ⟨by kernel_rfl, fun w hSw => ?_⟩) hS0 ?_
        · obtain ⟨e1, e2, e3, e4⟩ := hSw; go_simp
        simp only [Act.put, List.getElem_toArray, List.getElem_cons_succ, List.getElem_cons_zero, List.setIfInBounds_toArray, List.set_cons_zero, List.set_cons_succ]
        refine wpAnyH_take (i := 4) (v := .agg #[.int .i64 x1, .int .i64 x2]) rfl (by kernel_rfl) (by kernel_rfl) (by kernel_rfl) (fun _ _ _ h => h) (Or.inl ⟨by kernel_rfl, fun w hSw => ?_⟩) hS0 ?_
        · obtain ⟨e1, e2, e3, e4⟩ := hSw; go_simp
        simp only [Act.put, List.getElem_toArray, List.getElem_cons_succ, List.getElem_cons_zero, List.setIfInBounds_toArray, List.set_cons_zero, List.set_cons_succ]
        refine wpAnyH_take (i := 5) (v := .agg #[.int .i64 y1, .int .i64 y2]) rfl (by kernel_rfl) (by kernel_rfl) (by kernel_rfl) (fun _ _ _ h => h) (Or.inl ⟨by kernel_rfl, fun w hSw => ?_⟩) hS0 ?_
        · obtain ⟨e1, e2, e3, e4⟩ := hSw; go_simp
        simp only [Act.put, List.getElem_toArray, List.getElem_cons_succ, List.getElem_cons_zero, List.setIfInBounds_toArray, List.set_cons_zero, List.set_cons_succ]
        refine wpAnyH_ready (rs := [6]) (by kernel_rfl) (by simp) ?_
        refine AllReadyH.cons rfl (fun K hK => ?_) AllReadyH.nil
        go_simp
        refine hG.mono ?_
        rintro e U1 ⟨rfl, hU1⟩
        have hS1 := HSx.out _ hU1.out
        refine hK.out _ _ hS1 (fun _ => ?_)
        clear hK K
        refine wpAnyH_take (i := 7) (v := .bool (decide (T < 0))) rfl (by kernel_rfl) (by kernel_rfl) (by kernel_rfl) (fun _ _ _ h => h) (Or.inl ⟨by kernel_rfl, fun w hSw => ?_⟩) hS1 ?_
        · obtain ⟨e1, e2, e3, e4⟩ := hSw; go_simp
        simp only [Act.put, List.getElem_toArray, List.getElem_cons_succ, List.getElem_cons_zero, List.setIfInBounds_toArray, List.set_cons_zero, List.set_cons_succ]
        refine wpAnyH_done (by kernel_rfl) ?_ _
        clear hS0 hS1 hG
        rw [hT]
        go_wp2
        go_roundw
        case rel => exact ⟨lo, m, rfl, rfl, hlK, by omega, by omega, hU1⟩
        case measure => simp [intOf]; omega
    · obtain rfl : hi = KK := by omega
      obtain rfl : lo = hi := by omega
      by_cases hln : lo < n
      · obtain ⟨g, of, rfl, hg, hcs⟩ := HPSA.out.at (by omega)
        have HPS := hid hcs
        have hmd : lo < L.length := by have := HLn.out; omega
        have hxd := HDW.out _ (List.getElem_mem hmd)
        have hxS := HIN.out _ (List.getElem_mem hmd)
        have hlk := List.getElem?_eq_getElem hmd
        have hcmp := rk_lt kdl_lin HSR.out y hlk
        rw [← HK.out] at hcmp
        have hT := rank_lt HND.out hxS y
        rw [hcmp] at hT
        have hcell := HPS.out lo (by rw [List.length_map]; exact hmd)
        rw [List.getElem_map] at hcell
        generalize L[lo] = x at hxd hxS hlk hcmp hT hcell
        obtain ⟨T, hTe⟩ : ∃ T, T = rankI S x.b y.b y.k := ⟨_, rfl⟩
        obtain ⟨x1, hx1⟩ : ∃ x1, x1 = x.b.1 := ⟨_, rfl⟩
        obtain ⟨x2, hx2⟩ : ∃ x2, x2 = x.b.2 := ⟨_, rfl⟩
        rw [← hx1, ← hx2] at hcell
        have hxe : x.b = (x1, x2) := by rw [hx1, hx2]
        rw [← hTe] at hT
        have HSx : Hid (∀ W, Below W0.heap.size W0 W → (W.cell? ⟨g, of + lo * 2, none⟩ = some (.int .i64 x1) ∧ W.cell? ⟨g, of + lo * 2 + 1, none⟩ = some (.int .i64 x2) ∧ W.cell? ⟨w.heap.size, 0, none⟩ = some (.int .i64 y1) ∧ W.cell? ⟨w.heap.size, 1, none⟩ = some (.int .i64 y2))) := hid (fun W hb => ⟨((HBw.out W hb).cell (p := ⟨g, of + lo * 2, none⟩) (cell_in hcell.1)).trans hcell.1, ((HBw.out W hb).cell (p := ⟨g, of + lo * 2 + 1, none⟩) (cell_in hcell.2)).trans hcell.2, HY.out W hb⟩)
        have HU0 : Hid (Below W0.heap.size W0 wr.drew) := hid (hW.out.trans (((Far.refl wr).drewN 1).below.mono hW.out.size))
        have hS0 := HSx.out _ HU0.out
        have hG : Calls Tryz.prog 180 #[.agg #[.int .i64 x1, .int .i64 x2], .agg #[.int .i64 y1, .int .i64 y2], .pointer (some ⟨bs, 0, none⟩), .pointer (some ⟨bp, 0, none⟩)] wr.drew fun e w' => e = .returned (.int .i64 T) ∧ Hid (Below W0.heap.size W0 w') := by
          have hbw := HBw.out _ HU0.out
          have h1 := rank1_any t o bs bp mv S x.b y.b y.k hxd wr.drew ((hbw.cell (p := ⟨bs, 0, none⟩) (cell_in HC.out.1)).trans HC.out.1) ((hbw.cell (p := ⟨bp, 2, none⟩) (cell_in HC.out.2.1)).trans HC.out.2.1) ((hbw.cell (p := ⟨t, o, none⟩) (cell_in HC.out.2.2)).trans HC.out.2.2) (HP.out.below hbw)
          rw [← hTe, hxe, HYe.out] at h1
          exact h1.mono (fun e w' ⟨k1, k2⟩ => ⟨k1, hid (HU0.out.trans (k2.mono HU0.out.size))⟩)
        clear hxd hxS hlk hcmp hcell hTe hx1 hx2 hxe
        have hm1 : (lo : Int) < (n : Int) := by omega
        have hm0 : (0 : Int) ≤ (lo : Int) := by omega
        clear hg hcs hmd
        go_wp2_with fail
        refine wp_region_held_drew (S := fun w' => w'.cell? ⟨g, of + lo * 2, none⟩ = some (.int .i64 x1) ∧ w'.cell? ⟨g, of + lo * 2 + 1, none⟩ = some (.int .i64 x2) ∧ w'.cell? ⟨w.heap.size, 0, none⟩ = some (.int .i64 y1) ∧ w'.cell? ⟨w.heap.size, 1, none⟩ = some (.int .i64 y2)) hmxo hS0 ?_
        intro _
        refine wpAnyH_take (i := 0) (v := .int .i64 (lo : Int)) rfl (by kernel_rfl) (by kernel_rfl) (by kernel_rfl) (fun _ _ _ h => h) (Or.inl ⟨by kernel_rfl, fun w hSw => ?_⟩) hS0 ?_
        · obtain ⟨e1, e2, e3, e4⟩ := hSw; go_simp
        simp only [Act.put, List.getElem_toArray, List.getElem_cons_succ, List.getElem_cons_zero, List.setIfInBounds_toArray, List.set_cons_zero, List.set_cons_succ]
        refine wpAnyH_take (i := 1) (v := .int .i64 (lo : Int)) rfl (by kernel_rfl) (by kernel_rfl) (by kernel_rfl) (fun _ _ _ h => h) (Or.inl ⟨by kernel_rfl, fun w hSw => ?_⟩) hS0 ?_
        · obtain ⟨e1, e2, e3, e4⟩ := hSw; go_simp
        simp only [Act.put, List.getElem_toArray, List.getElem_cons_succ, List.getElem_cons_zero, List.setIfInBounds_toArray, List.set_cons_zero, List.set_cons_succ]
        refine wpAnyH_take (i := 2) (v := .int .i64 (n : Int)) rfl (by kernel_rfl) (by kernel_rfl) (by kernel_rfl) (fun _ _ _ h => h) (Or.inl ⟨by kernel_rfl, fun w hSw => ?_⟩) hS0 ?_
        · obtain ⟨e1, e2, e3, e4⟩ := hSw; go_simp
        simp only [Act.put, List.getElem_toArray, List.getElem_cons_succ, List.getElem_cons_zero, List.setIfInBounds_toArray, List.set_cons_zero, List.set_cons_succ]
        refine wpAnyH_take (i := 3) (v := .bool true) rfl (by kernel_rfl) (by kernel_rfl) (by kernel_rfl) (fun _ _ _ h => h) (Or.inl ⟨by kernel_rfl, fun w hSw => ?_⟩) hS0 ?_
        · obtain ⟨e1, e2, e3, e4⟩ := hSw; go_simp
        simp only [Act.put, List.getElem_toArray, List.getElem_cons_succ, List.getElem_cons_zero, List.setIfInBounds_toArray, List.set_cons_zero, List.set_cons_succ]
        refine wpAnyH_take (i := 4) (v := .bool true) rfl (by kernel_rfl) (by kernel_rfl) (by kernel_rfl) (fun _ _ _ h => h) (Or.inl ⟨by kernel_rfl, fun w hSw => ?_⟩) hS0 ?_
        · obtain ⟨e1, e2, e3, e4⟩ := hSw; go_simp
        simp only [Act.put, List.getElem_toArray, List.getElem_cons_succ, List.getElem_cons_zero, List.setIfInBounds_toArray, List.set_cons_zero, List.set_cons_succ]
        refine wpAnyH_take (i := 5) (v := .func (.func 180) #[] #[.pointer (some ⟨bs, 0, none⟩), .pointer (some ⟨bp, 0, none⟩)]) rfl (by kernel_rfl) (by kernel_rfl) (by kernel_rfl) (fun _ _ _ h => h) (Or.inl ⟨by kernel_rfl, fun w hSw => ?_⟩) hS0 ?_
        · obtain ⟨e1, e2, e3, e4⟩ := hSw; go_simp
        simp only [Act.put, List.getElem_toArray, List.getElem_cons_succ, List.getElem_cons_zero, List.setIfInBounds_toArray, List.set_cons_zero, List.set_cons_succ]
        refine wpAnyH_take (i := 6) (v := .slice (some ⟨g, of, none⟩) n c) rfl (by kernel_rfl) (by kernel_rfl) (by kernel_rfl) (fun _ _ _ h => h) (Or.inl ⟨by kernel_rfl, fun w hSw => ?_⟩) hS0 ?_
        · obtain ⟨e1, e2, e3, e4⟩ := hSw; go_simp
        simp only [Act.put, List.getElem_toArray, List.getElem_cons_succ, List.getElem_cons_zero, List.setIfInBounds_toArray, List.set_cons_zero, List.set_cons_succ]
        refine wpAnyH_take (i := 7) (v := .int .i64 (lo : Int)) rfl (by kernel_rfl) (by kernel_rfl) (by kernel_rfl) (fun _ _ _ h => h) (Or.inl ⟨by kernel_rfl, fun w hSw => ?_⟩) hS0 ?_
        · obtain ⟨e1, e2, e3, e4⟩ := hSw; go_simp
        simp only [Act.put, List.getElem_toArray, List.getElem_cons_succ, List.getElem_cons_zero, List.setIfInBounds_toArray, List.set_cons_zero, List.set_cons_succ]
        refine wpAnyH_take (i := 8) (v := .pointer (some ⟨g, of + lo * 2, none⟩)) rfl (by kernel_rfl) (by kernel_rfl) (by kernel_rfl) (fun _ _ _ h => h) (Or.inl ⟨by kernel_rfl, fun w hSw => ?_⟩) hS0 ?_
        · obtain ⟨e1, e2, e3, e4⟩ := hSw; go_simp
        simp only [Act.put, List.getElem_toArray, List.getElem_cons_succ, List.getElem_cons_zero, List.setIfInBounds_toArray, List.set_cons_zero, List.set_cons_succ]
        refine wpAnyH_take (i := 9) (v := .agg #[.int .i64 x1, .int .i64 x2]) rfl (by kernel_rfl) (by kernel_rfl) (by kernel_rfl) (fun _ _ _ h => h) (Or.inl ⟨by kernel_rfl, fun w hSw => ?_⟩) hS0 ?_
        · obtain ⟨e1, e2, e3, e4⟩ := hSw; go_simp
        simp only [Act.put, List.getElem_toArray, List.getElem_cons_succ, List.getElem_cons_zero, List.setIfInBounds_toArray, List.set_cons_zero, List.set_cons_succ]
        refine wpAnyH_take (i := 10) (v := .agg #[.int .i64 y1, .int .i64 y2]) rfl (by kernel_rfl) (by kernel_rfl) (by kernel_rfl) (fun _ _ _ h => h) (Or.inl ⟨by kernel_rfl, fun w hSw => ?_⟩) hS0 ?_
        · obtain ⟨e1, e2, e3, e4⟩ := hSw; go_simp
        simp only [Act.put, List.getElem_toArray, List.getElem_cons_succ, List.getElem_cons_zero, List.setIfInBounds_toArray, List.set_cons_zero, List.set_cons_succ]
        refine wpAnyH_ready (rs := [11]) (by kernel_rfl) (by simp) ?_
        refine AllReadyH.cons rfl (fun K hK => ?_) AllReadyH.nil
        go_simp
        refine hG.mono ?_
        rintro e U1 ⟨rfl, hU1⟩
        have hS1 := HSx.out _ hU1.out
        refine hK.out _ _ hS1 (fun _ => ?_)
        clear hK K
        refine wpAnyH_take (i := 12) (v := .bool (T == 0)) rfl (by kernel_rfl) (by kernel_rfl) (by kernel_rfl) (fun _ _ _ h => h) (Or.inl ⟨by kernel_rfl, fun w hSw => ?_⟩) hS1 ?_
        · obtain ⟨e1, e2, e3, e4⟩ := hSw; go_simp
        simp only [Act.put, List.getElem_toArray, List.getElem_cons_succ, List.getElem_cons_zero, List.setIfInBounds_toArray, List.set_cons_zero, List.set_cons_succ]
        refine wpAnyH_take (i := 13) (v := .bool (T == 0)) rfl (by kernel_rfl) (by kernel_rfl) (by kernel_rfl) (fun _ _ _ h => h) (Or.inl ⟨by kernel_rfl, fun w hSw => ?_⟩) hS1 ?_
        · obtain ⟨e1, e2, e3, e4⟩ := hSw; go_simp
        simp only [Act.put, List.getElem_toArray, List.getElem_cons_succ, List.getElem_cons_zero, List.setIfInBounds_toArray, List.set_cons_zero, List.set_cons_succ]
        refine wpAnyH_take (i := 14) (v := .int .i64 (lo : Int)) rfl (by kernel_rfl) (by kernel_rfl) (by kernel_rfl) (fun _ _ _ h => h) (Or.inl ⟨by kernel_rfl, fun w hSw => ?_⟩) hS1 ?_
        · obtain ⟨e1, e2, e3, e4⟩ := hSw; go_simp
        simp only [Act.put, List.getElem_toArray, List.getElem_cons_succ, List.getElem_cons_zero, List.setIfInBounds_toArray, List.set_cons_zero, List.set_cons_succ]
        refine wpAnyH_take (i := 15) (v := .bool (T == 0)) rfl (by kernel_rfl) (by kernel_rfl) (by kernel_rfl) (fun _ _ _ h => h) (Or.inl ⟨by kernel_rfl, fun w hSw => ?_⟩) hS1 ?_
        · obtain ⟨e1, e2, e3, e4⟩ := hSw; go_simp
        simp only [Act.put, List.getElem_toArray, List.getElem_cons_succ, List.getElem_cons_zero, List.setIfInBounds_toArray, List.set_cons_zero, List.set_cons_succ]
        refine wpAnyH_done (by kernel_rfl) ?_ _
        clear hS0 hS1 hG
        go_wp2
        go_ret2
        exact ⟨_, rfl, HBw.out _ hU1.out⟩
      · obtain rfl : lo = n := by omega
        have HD : Hid (∀ q, Below W0.heap.size W0 (wr.drewN q)) := hid (fun q => hW.out.trans (((Far.refl wr).drewN q).below.mono hW.out.size))
        go_wp2_with fail
        go_quiet (fail)
        have HDq := hid (HD.out nq)
        go_wp2
        go_ret2
        exact ⟨_, rfl, HBw.out _ HDq.out⟩
end
end Go.Proofs.YtnmdcdphpcpojaaGreatDoor
