/- A row of moves of one's own. No function of the program. -/
import Derived.Test.YtplcohjpchfkkaaTrRDoneM
import Derived.Deep.CutRange
import Derived.Deep.CutBlock
import Derived.BigQuiet
import Derived.Test.YtplcohjpchfkkaaTrAwk
import Derived.Test.YtplcohjpchfkkaaMRow
namespace Go.Proofs.Ytplcohjpchfkkaa
section
set_option linter.unusedVariables false
set_option linter.unusedSimpArgs false
open Go.RowKit

theorem tappend_stepH {P : Program} {ops : Array Oper} {o : Oper} {a : Act} {w : World} {K : Act → World → Prop} {Q : Exit → Act → World → Prop} (s x : Operand) (t : TypeId) (v u v' : Value) (w' : World)
    (hgd : o.guard = none) (hop : o.op = Op.call { callee := Callee.builtin Builtin.append, args := #[s, x], argTypes := #[t, t] }) (hs : a.eval s = v) (hx : a.eval x = u)
    (hrun : (Builtin.append_ #[t, t] o.type #[v, u]).run P w = .ok v' w') (hK : K (a.put o.dst v') w') :
    if Region.wanted o (yielded ops a.tmps) = true then Oper.wp P o a w K Q else K (a.put o.dst undef) w := by
  simp only [Region.wanted, hgd, if_true]
  unfold Oper.wp
  simp [execOp, hop, resolve, invoke, builtin, hs, hx, hrun, Result.andThen, Oper.upon]
  exact hK

theorem slice_formD {w : World} {base n size : Nat} {ty : TypeId} {v : Value} {xs : List Value} (h : w.ownsRow base ty size v n xs) : ∃ a c, v = .slice a n c := by
  rcases h.2 with ⟨e, h0⟩ | ⟨g, cap, cur, e, _⟩
  · exact ⟨none, 0, by rw [e, h0]⟩
  · exact ⟨_, _, e⟩

set_option maxRecDepth 100000 in
set_option maxHeartbeats 4000000 in
theorem trdone_any (la : Option Addr) (n c : Nat) (L : List Mv) (w : World) (h : MvS w la n c L) (hn : n ≤ 1000) :
    Calls Try.prog 29 #[.slice la n c] w fun e w' => ∃ sa ns sc ka nk kc, e = .returned (.agg #[.slice la n c, .slice sa ns sc, .slice ka nk kc]) ∧ SpR w' sa ns sc (run L) ∧ PS w' ka nk kc (tkL L) ∧ Below w.heap.size w w' ∧ (∀ ad, sa = some ad → w.heap.size ≤ ad.block) ∧ (∀ ad, ka = some ad → w.heap.size ≤ ad.block) := by
  have hmxo : Try.prog.follows .mixedOrders = true := by kernel_rfl
  have mixed := mixed
  obtain ⟨W0, hW0⟩ : ∃ W0, W0 = (w.alloc (.cells #[.slice none 0 0, .slice none 0 0, .slice none 0 0] 31)).alloc (.cells #[.slice la n c, .slice none 0 0, .slice none 0 0] 31) := ⟨_, rfl⟩
  have hD0 : DN w W0 (.slice la n c) (.slice none 0 0) (.slice none 0 0) 0 0 [] [] := by
    refine ⟨?_, ?_, World.ownsRow_nil _ _ _ _, World.ownsRow_nil _ _ _ _, (fun j hj => by cases hj), ?_⟩
    · rw [hW0]
      have := World.alloc_heap_new (w.alloc (.cells #[.slice none 0 0, .slice none 0 0, .slice none 0 0] 31)) (.cells #[.slice la n c, .slice none 0 0, .slice none 0 0] 31)
      rwa [World.size_alloc] at this
    · rw [hW0]; exact (Below.heap_alloc _ _ _ (by simp)).trans (World.alloc_heap_new w _)
    · rw [hW0]; exact ((Below.refl _ w).alloc (Nat.le_refl _) _).alloc (by simp) _
  have hcap := h.cap
  have hmax := h.max
  unfold maxLen at hmax
  have HL := hid h
  have HLn := hid h.len
  have HD0 := hid hD0
  clear h hD0
  go_enter Try.func29, Try.ntmps29
  go_wp2_with fail
  rw [← hW0]
  clear hW0
  go_loopw [4] (fun i wr => ∃ (k : Nat) (sa : Option Addr) (ns sc : Nat) (ka : Option Addr) (nk kc : Nat), k ≤ n ∧ ns ≤ k ∧ nk ≤ k ∧ i = .int .i64 k ∧ Hid (DN w wr (.slice la n c) (.slice sa ns sc) (.slice ka nk kc) ns nk (run (L.take k)) (tkL (L.take k)))) (fun i _ => n - (intOf i).toNat)
  case atStart => exact ⟨0, none, 0, 0, none, 0, 0, by omega, by omega, by omega, rfl, by simpa [run, tkL, dnP] using HD0⟩
  case round =>
    clear HD0
    obtain ⟨k, sa, ns, sc, ka, nk, kc, hk, hns, hnk, rfl, HD⟩ := hrel
    by_cases hkn : k < n
    · have hb1 : decide ((k : Int) < (n : Int)) = true := by simp [hkn]
      obtain ⟨m, hm⟩ : ∃ m, L[k]? = some m := ⟨_, List.getElem?_eq_getElem (by rw [HLn.out]; exact hkn)⟩
      obtain ⟨⟨i1, i2⟩, tm, ⟨b1, b2⟩, ⟨p1, p2⟩, ky⟩ := m
      obtain ⟨g, o, rfl, hg, hcl⟩ := HL.out.look hm
      have HCL : Hid (∀ V, Below w.heap.size w V → (V.cell? ⟨g, o + k * 8, none⟩ = some (.int .i64 i1) ∧ V.cell? ⟨g, o + k * 8 + 1, none⟩ = some (.int .i64 i2) ∧ V.cell? ⟨g, o + k * 8 + 2, none⟩ = some (.int .i64 tm) ∧ V.cell? ⟨g, o + k * 8 + 3, none⟩ = some (.int .i64 b1) ∧ V.cell? ⟨g, o + k * 8 + 4, none⟩ = some (.int .i64 b2) ∧ V.cell? ⟨g, o + k * 8 + 5, none⟩ = some (.int .i64 p1) ∧ V.cell? ⟨g, o + k * 8 + 6, none⟩ = some (.int .i64 p2) ∧ V.cell? ⟨g, o + k * 8 + 7, none⟩ = some (.string ky))) := hid (fun V hV => hcl V (hV.block g hg))
      have HMX : Hid (L.take (k + 1) = L.take k ++ [(⟨(i1, i2), tm, (b1, b2), (p1, p2), ky⟩ : Mv)]) := hid (by rw [List.take_succ_eq_append_getElem (by rw [HLn.out]; exact hkn), (List.getElem?_eq_some_iff.1 hm).2])
      have HRU : Hid (run (L.take (k + 1)) = step (run (L.take k)) (⟨(i1, i2), tm, (b1, b2), (p1, p2), ky⟩ : Mv)) := hid (run_succ hm)
      clear hm hcl hg
      obtain ⟨B, hB⟩ : ∃ B, B = takes (run (L.take k)) (⟨(i1, i2), tm, (b1, b2), (p1, p2), ky⟩ : Mv) := ⟨_, rfl⟩
      have hS5 : wr.drew.cell? ⟨w.heap.size + 1, 0, none⟩ = some (.slice (some ⟨g, o, none⟩) n c) ∧ wr.drew.cell? ⟨w.heap.size + 1, 1, none⟩ = some (.slice sa ns sc) ∧ wr.drew.cell? ⟨w.heap.size + 1, 2, none⟩ = some (.slice ka nk kc) ∧ wr.drew.cell? ⟨g, o + k * 8, none⟩ = some (.int .i64 i1) ∧ wr.drew.cell? ⟨g, o + k * 8 + 1, none⟩ = some (.int .i64 i2) ∧ wr.drew.cell? ⟨g, o + k * 8 + 2, none⟩ = some (.int .i64 tm) ∧ wr.drew.cell? ⟨g, o + k * 8 + 3, none⟩ = some (.int .i64 b1) ∧ wr.drew.cell? ⟨g, o + k * 8 + 4, none⟩ = some (.int .i64 b2) ∧ wr.drew.cell? ⟨g, o + k * 8 + 5, none⟩ = some (.int .i64 p1) ∧ wr.drew.cell? ⟨g, o + k * 8 + 6, none⟩ = some (.int .i64 p2) ∧ wr.drew.cell? ⟨g, o + k * 8 + 7, none⟩ = some (.string ky) := by
        obtain ⟨c0, c1, c2⟩ := HD.out.cells
        obtain ⟨y0, y1, y2, y3, y4, y5, y6, y7⟩ := HCL.out wr.drew HD.out.bel.drew
        exact ⟨c0, c1, c2, y0, y1, y2, y3, y4, y5, y6, y7⟩
      have HTk : Calls Try.prog 51 #[.agg #[.slice (some ⟨g, o, none⟩) n c, .slice sa ns sc, .slice ka nk kc], .agg #[.int .i64 i1, .int .i64 i2, .int .i64 tm, .int .i64 b1, .int .i64 b2, .int .i64 p1, .int .i64 p2, .string ky]] wr.drew fun e V => e = .returned (.bool B) ∧ (V.cell? ⟨w.heap.size + 1, 0, none⟩ = some (.slice (some ⟨g, o, none⟩) n c) ∧ V.cell? ⟨w.heap.size + 1, 1, none⟩ = some (.slice sa ns sc) ∧ V.cell? ⟨w.heap.size + 1, 2, none⟩ = some (.slice ka nk kc) ∧ V.cell? ⟨g, o + k * 8, none⟩ = some (.int .i64 i1) ∧ V.cell? ⟨g, o + k * 8 + 1, none⟩ = some (.int .i64 i2) ∧ V.cell? ⟨g, o + k * 8 + 2, none⟩ = some (.int .i64 tm) ∧ V.cell? ⟨g, o + k * 8 + 3, none⟩ = some (.int .i64 b1) ∧ V.cell? ⟨g, o + k * 8 + 4, none⟩ = some (.int .i64 b2) ∧ V.cell? ⟨g, o + k * 8 + 5, none⟩ = some (.int .i64 p1) ∧ V.cell? ⟨g, o + k * 8 + 6, none⟩ = some (.int .i64 p2) ∧ V.cell? ⟨g, o + k * 8 + 7, none⟩ = some (.string ky)) ∧ Hid (DN w V (.slice (some ⟨g, o, none⟩) n c) (.slice sa ns sc) (.slice ka nk kc) ns nk (run (L.take k)) (tkL (L.take k))) := by
        have hD1 : DN w wr.drew (.slice (some ⟨g, o, none⟩) n c) (.slice sa ns sc) (.slice ka nk kc) ns nk (run (L.take k)) (tkL (L.take k)) := HD.out.below (((Far.refl wr).drewN 1).below)
        obtain ⟨a', c', e', hsp⟩ := own_sps hD1.ss
        simp only [Value.slice.injEq] at e'
        obtain ⟨rfl, _, rfl⟩ := e'
        refine (trtakes_any _ _ _ _ _ _ _ _ _ (run (L.take k)) (⟨(i1, i2), tm, (b1, b2), (p1, p2), ky⟩ : Mv) wr.drew hsp (by omega)).mono (fun e V h => ?_)
        have hD2 := hD1.below h.2
        obtain ⟨c0, c1, c2⟩ := hD2.cells
        obtain ⟨y0, y1, y2, y3, y4, y5, y6, y7⟩ := HCL.out V hD2.bel
        exact ⟨by rw [h.1, hB], ⟨c0, c1, c2, y0, y1, y2, y3, y4, y5, y6, y7⟩, hid hD2⟩
      have HB := hid hB
      clear hB HD
      go_wp2_with fail
      refine wp_region_held_drew (S := fun w' => w'.cell? ⟨w.heap.size + 1, 0, none⟩ = some (.slice (some ⟨g, o, none⟩) n c) ∧ w'.cell? ⟨w.heap.size + 1, 1, none⟩ = some (.slice sa ns sc) ∧ w'.cell? ⟨w.heap.size + 1, 2, none⟩ = some (.slice ka nk kc) ∧ w'.cell? ⟨g, o + k * 8, none⟩ = some (.int .i64 i1) ∧ w'.cell? ⟨g, o + k * 8 + 1, none⟩ = some (.int .i64 i2) ∧ w'.cell? ⟨g, o + k * 8 + 2, none⟩ = some (.int .i64 tm) ∧ w'.cell? ⟨g, o + k * 8 + 3, none⟩ = some (.int .i64 b1) ∧ w'.cell? ⟨g, o + k * 8 + 4, none⟩ = some (.int .i64 b2) ∧ w'.cell? ⟨g, o + k * 8 + 5, none⟩ = some (.int .i64 p1) ∧ w'.cell? ⟨g, o + k * 8 + 6, none⟩ = some (.int .i64 p2) ∧ w'.cell? ⟨g, o + k * 8 + 7, none⟩ = some (.string ky)) hmxo hS5 ?_
      intro _
      refine wpAnyH_take (i := 0) (v := .agg #[.slice (some ⟨g, o, none⟩) n c, .slice sa ns sc, .slice ka nk kc]) rfl (by kernel_rfl) (by kernel_rfl) (by kernel_rfl) (fun _ _ _ h => h) (Or.inl ⟨by kernel_rfl, fun w hSw => ?_⟩) hS5 ?_
      · obtain ⟨e1, e2, e3, e4, e5, e6, e7, e8, e9, e10, e11⟩ := hSw; go_simp
      simp only [Act.put, List.getElem_toArray, List.getElem_cons_succ, List.getElem_cons_zero, List.setIfInBounds_toArray, List.set_cons_zero, List.set_cons_succ]
      refine wpAnyH_take (i := 1) (v := .slice (some ⟨g, o, none⟩) n c) rfl (by kernel_rfl) (by kernel_rfl) (by kernel_rfl) (fun _ _ _ h => h) (Or.inl ⟨by kernel_rfl, fun w hSw => ?_⟩) hS5 ?_
      · obtain ⟨e1, e2, e3, e4, e5, e6, e7, e8, e9, e10, e11⟩ := hSw; go_simp
      simp only [Act.put, List.getElem_toArray, List.getElem_cons_succ, List.getElem_cons_zero, List.setIfInBounds_toArray, List.set_cons_zero, List.set_cons_succ]
      refine wpAnyH_take (i := 2) (v := .int .i64 (k : Int)) rfl (by kernel_rfl) (by kernel_rfl) (by kernel_rfl) (fun _ _ _ h => h) (Or.inl ⟨by kernel_rfl, fun w hSw => ?_⟩) hS5 ?_
      · obtain ⟨e1, e2, e3, e4, e5, e6, e7, e8, e9, e10, e11⟩ := hSw; go_simp
      simp only [Act.put, List.getElem_toArray, List.getElem_cons_succ, List.getElem_cons_zero, List.setIfInBounds_toArray, List.set_cons_zero, List.set_cons_succ]
      refine wpAnyH_take (i := 3) (v := .pointer (some ⟨g, o + k * 8, none⟩)) rfl (by kernel_rfl) (by kernel_rfl) (by kernel_rfl) (fun _ _ _ h => h) (Or.inl ⟨by kernel_rfl, fun w hSw => ?_⟩) hS5 ?_
      · obtain ⟨e1, e2, e3, e4, e5, e6, e7, e8, e9, e10, e11⟩ := hSw; go_simp
      simp only [Act.put, List.getElem_toArray, List.getElem_cons_succ, List.getElem_cons_zero, List.setIfInBounds_toArray, List.set_cons_zero, List.set_cons_succ]
      refine wpAnyH_take (i := 4) (v := .agg #[.int .i64 i1, .int .i64 i2, .int .i64 tm, .int .i64 b1, .int .i64 b2, .int .i64 p1, .int .i64 p2, .string ky]) rfl (by kernel_rfl) (by kernel_rfl) (by kernel_rfl) (fun _ _ _ h => h) (Or.inl ⟨by kernel_rfl, fun w hSw => ?_⟩) hS5 ?_
      · obtain ⟨e1, e2, e3, e4, e5, e6, e7, e8, e9, e10, e11⟩ := hSw; go_simp
      simp only [Act.put, List.getElem_toArray, List.getElem_cons_succ, List.getElem_cons_zero, List.setIfInBounds_toArray, List.set_cons_zero, List.set_cons_succ]
      refine wpAnyH_ready (rs := [5]) (by kernel_rfl) (by simp) ?_
      refine AllReadyH.cons rfl (fun K hK => ?_) AllReadyH.nil
      go_simp
      refine (HTk).mono ?_
      rintro e V1 ⟨rfl, hS6, S1⟩
      refine hK.out _ _ hS6 (fun _ => ?_)
      clear hK K
      refine wpAnyH_take (i := 6) (v := .bool B) rfl (by kernel_rfl) (by kernel_rfl) (by kernel_rfl) (fun _ _ _ h => h) (Or.inl ⟨by kernel_rfl, fun w hSw => ?_⟩) hS6 ?_
      · obtain ⟨e1, e2, e3, e4, e5, e6, e7, e8, e9, e10, e11⟩ := hSw; go_simp
      simp only [Act.put, List.getElem_toArray, List.getElem_cons_succ, List.getElem_cons_zero, List.setIfInBounds_toArray, List.set_cons_zero, List.set_cons_succ]
      refine wpAnyH_done (by kernel_rfl) ?_ _
      clear HTk hS5 hS6
      cases hBB : B with
      | false =>
        subst hBB
        go_wp2
        go_roundw
        case rel => exact ⟨k + 1, sa, ns, sc, ka, nk, kc, by omega, by omega, by omega, by go_num, hid (by
          have e1 : run (L.take (k + 1)) = run (L.take k) := by rw [HRU.out]; unfold step; rw [if_neg (by rw [← HB.out]; simp)]
          have e2 : tkL (L.take (k + 1)) = tkL (L.take k) := by rw [HMX.out, tkL_snoc, if_neg (by rw [← HB.out]; simp)]
          rw [e1, e2]
          exact S1.out)⟩
        case measure => simp [intOf]; omega
      | true =>
        subst hBB
        have hD1 : DN w V1.drew (.slice (some ⟨g, o, none⟩) n c) (.slice sa ns sc) (.slice ka nk kc) ns nk (run (L.take k)) (tkL (L.take k)) := S1.out.below (((Far.refl V1).drewN 1).below)
        obtain ⟨W1, hW1⟩ : ∃ W1, W1 = V1.drew := ⟨_, rfl⟩
        rw [← hW1] at hD1
        obtain ⟨v6, W6, hrun, hbx6, hb6, hD7⟩ := hD1.took (i1, i2) (by omega) 29
        obtain ⟨_, _, d2⟩ := hD1.cells
        have d2' : (W1.alloc (.cells #[.int .i64 i1, .int .i64 i2] 24)).cell? ⟨w.heap.size + 1, 2, none⟩ = some (.slice ka nk kc) := (hD1.below ((Below.refl _ W1).alloc (Nat.le_refl _) _)).cells.2.2
        have d6 : W6.cell? ⟨w.heap.size + 1, 2, none⟩ = some (.slice ka nk kc) := by simp [World.cell?, hbx6]
        have f6 : W6.frozen? ⟨w.heap.size + 1, 2, none⟩ = false := by simp [World.frozen?, hbx6]
        have hM1 := HCL.out W1 hD1.bel
        have hM2 := HCL.out _ (hD1.below ((Below.refl _ W1).alloc (Nat.le_refl _) (.cells #[.int .i64 i1, .int .i64 i2] 24))).bel
        have hM6 := HCL.out W6 hb6
        have hM7 := HCL.out _ hD7.bel
        obtain ⟨ka7, kc7, rfl⟩ := slice_formD hD7.ks
        have H7 : Hid (DN w (W6.setCell ⟨w.heap.size + 1, 2, none⟩ (.slice ka7 (nk + 1) kc7)) (.slice (some ⟨g, o, none⟩) n c) (.slice sa ns sc) (.slice ka7 (nk + 1) kc7) ns (nk + 1) (run (L.take k)) (tkL (L.take k) ++ [(i1, i2)])) := hid hD7
        clear hD7 hD1 hbx6 hb6
        go_upto_region 7 with fail
        go_cut [] from 21 to 30 (fun wc => ∃ (v6 : Value) (W6 : World), wc = W6 ∧ Hid (DN w W6 (.slice (some ⟨g, o, none⟩) n c) (.slice sa ns sc) v6 ns (nk + 1) (run (L.take k)) (tkL (L.take k) ++ [(i1, i2)])))
        case first =>
          refine wp_region_held_drew (S := fun w' => w'.cell? ⟨g, o + k * 8, none⟩ = some (.int .i64 i1) ∧ w'.cell? ⟨g, o + k * 8 + 1, none⟩ = some (.int .i64 i2) ∧ w'.cell? ⟨g, o + k * 8 + 2, none⟩ = some (.int .i64 tm) ∧ w'.cell? ⟨g, o + k * 8 + 3, none⟩ = some (.int .i64 b1) ∧ w'.cell? ⟨g, o + k * 8 + 4, none⟩ = some (.int .i64 b2) ∧ w'.cell? ⟨g, o + k * 8 + 5, none⟩ = some (.int .i64 p1) ∧ w'.cell? ⟨g, o + k * 8 + 6, none⟩ = some (.int .i64 p2) ∧ w'.cell? ⟨g, o + k * 8 + 7, none⟩ = some (.string ky)) hmxo (by rw [← hW1]; exact hM1) ?_
          intro _
          rw [← hW1]
          clear hW1
          refine wpAnyH_take (i := 0) (v := .pointer (some ⟨w.heap.size + 1, 2, none⟩)) rfl (by kernel_rfl) (by kernel_rfl) (by kernel_rfl) (fun _ _ _ h => h) (Or.inl ⟨by kernel_rfl, fun w hSw => ?_⟩) hM1 ?_
          · obtain ⟨e1, e2, e3, e4, e5, e6, e7, e8⟩ := hSw; go_simp
          simp only [Act.put, List.getElem_toArray, List.getElem_cons_succ, List.getElem_cons_zero, List.setIfInBounds_toArray, List.set_cons_zero, List.set_cons_succ]
          refine wpAnyH_take (i := 2) (v := .slice (some ⟨g, o, none⟩) n c) rfl (by kernel_rfl) (by kernel_rfl) (by kernel_rfl) (fun _ _ _ h => h) (Or.inl ⟨by kernel_rfl, fun w hSw => ?_⟩) hM1 ?_
          · obtain ⟨e1, e2, e3, e4, e5, e6, e7, e8⟩ := hSw; go_simp
          simp only [Act.put, List.getElem_toArray, List.getElem_cons_succ, List.getElem_cons_zero, List.setIfInBounds_toArray, List.set_cons_zero, List.set_cons_succ]
          refine wpAnyH_take (i := 3) (v := .int .i64 (k : Int)) rfl (by kernel_rfl) (by kernel_rfl) (by kernel_rfl) (fun _ _ _ h => h) (Or.inl ⟨by kernel_rfl, fun w hSw => ?_⟩) hM1 ?_
          · obtain ⟨e1, e2, e3, e4, e5, e6, e7, e8⟩ := hSw; go_simp
          simp only [Act.put, List.getElem_toArray, List.getElem_cons_succ, List.getElem_cons_zero, List.setIfInBounds_toArray, List.set_cons_zero, List.set_cons_succ]
          refine wpAnyH_take (i := 4) (v := .pointer (some ⟨g, o + k * 8, none⟩)) rfl (by kernel_rfl) (by kernel_rfl) (by kernel_rfl) (fun _ _ _ h => h) (Or.inl ⟨by kernel_rfl, fun w hSw => ?_⟩) hM1 ?_
          · obtain ⟨e1, e2, e3, e4, e5, e6, e7, e8⟩ := hSw; go_simp
          simp only [Act.put, List.getElem_toArray, List.getElem_cons_succ, List.getElem_cons_zero, List.setIfInBounds_toArray, List.set_cons_zero, List.set_cons_succ]
          refine wpAnyH_take (i := 5) (v := .pointer (some ⟨g, o + k * 8, none⟩)) rfl (by kernel_rfl) (by kernel_rfl) (by kernel_rfl) (fun _ _ _ h => h) (Or.inl ⟨by kernel_rfl, fun w hSw => ?_⟩) hM1 ?_
          · obtain ⟨e1, e2, e3, e4, e5, e6, e7, e8⟩ := hSw; go_simp
          simp only [Act.put, List.getElem_toArray, List.getElem_cons_succ, List.getElem_cons_zero, List.setIfInBounds_toArray, List.set_cons_zero, List.set_cons_succ]
          refine wpAnyH_take (i := 6) (v := .agg #[.int .i64 i1, .int .i64 i2]) rfl (by kernel_rfl) (by kernel_rfl) (by kernel_rfl) (fun _ _ _ h => h) (Or.inl ⟨by kernel_rfl, fun w hSw => ?_⟩) hM1 ?_
          · obtain ⟨e1, e2, e3, e4, e5, e6, e7, e8⟩ := hSw; go_simp
          simp only [Act.put, List.getElem_toArray, List.getElem_cons_succ, List.getElem_cons_zero, List.setIfInBounds_toArray, List.set_cons_zero, List.set_cons_succ]
          refine wpAnyH_ready (rs := [1, 7]) (by kernel_rfl) (by simp) ?_
          refine AllReadyH.cons rfl (fun K hK => ?_) (AllReadyH.cons rfl (fun K hK => ?_) AllReadyH.nil)
          · go_simp
            refine hK.out _ _ hM1 (fun _ => ?_)
            clear hK K
            refine wpAnyH_ready (rs := [7]) (by kernel_rfl) (by simp) ?_
            refine AllReadyH.cons rfl (fun K hK => ?_) AllReadyH.nil
            go_simp
            refine hK.out _ _ hM2 (fun _ => ?_)
            clear hK K
            refine wpAnyH_ready (rs := [8]) (by kernel_rfl) (by simp) ?_
            refine AllReadyH.cons rfl (fun K hK => ?_) AllReadyH.nil
            refine tappend_stepH _ _ 29 (.slice ka nk kc) _ _ W6 rfl rfl rfl rfl hrun ?_
            refine hK.out _ _ hM6 (fun _ => ?_)
            clear hK K
            simp only [Act.put, List.setIfInBounds_toArray, List.set_cons_zero, List.set_cons_succ]
            refine wpAnyH_take (i := 9) (v := .pointer (some ⟨w.heap.size + 1, 2, none⟩)) rfl (by kernel_rfl) (by kernel_rfl) (by kernel_rfl) (fun _ _ _ h => h) (Or.inl ⟨by kernel_rfl, fun w hSw => ?_⟩) hM6 ?_
            · obtain ⟨e1, e2, e3, e4, e5, e6, e7, e8⟩ := hSw; go_simp
            simp only [Act.put, List.getElem_toArray, List.getElem_cons_succ, List.getElem_cons_zero, List.setIfInBounds_toArray, List.set_cons_zero, List.set_cons_succ]
            refine wpAnyH_ready (rs := [10]) (by kernel_rfl) (by simp) ?_
            refine AllReadyH.cons rfl (fun K hK => ?_) AllReadyH.nil
            go_simp
            refine hK.out _ _ hM7 (fun _ => ?_)
            clear hK K
            refine wpAnyH_done (by kernel_rfl) ?_ _
            go_wp2_with fail
            go_meet
            case rel => exact ⟨.slice ka7 (nk + 1) kc7, _, rfl, H7⟩
          · go_simp
            refine hK.out _ _ hM2 (fun _ => ?_)
            clear hK K
            refine wpAnyH_ready (rs := [1]) (by kernel_rfl) (by simp) ?_
            refine AllReadyH.cons rfl (fun K hK => ?_) AllReadyH.nil
            go_simp
            refine hK.out _ _ hM2 (fun _ => ?_)
            clear hK K
            refine wpAnyH_ready (rs := [8]) (by kernel_rfl) (by simp) ?_
            refine AllReadyH.cons rfl (fun K hK => ?_) AllReadyH.nil
            refine tappend_stepH _ _ 29 (.slice ka nk kc) _ _ W6 rfl rfl rfl rfl hrun ?_
            refine hK.out _ _ hM6 (fun _ => ?_)
            clear hK K
            simp only [Act.put, List.setIfInBounds_toArray, List.set_cons_zero, List.set_cons_succ]
            refine wpAnyH_take (i := 9) (v := .pointer (some ⟨w.heap.size + 1, 2, none⟩)) rfl (by kernel_rfl) (by kernel_rfl) (by kernel_rfl) (fun _ _ _ h => h) (Or.inl ⟨by kernel_rfl, fun w hSw => ?_⟩) hM6 ?_
            · obtain ⟨e1, e2, e3, e4, e5, e6, e7, e8⟩ := hSw; go_simp
            simp only [Act.put, List.getElem_toArray, List.getElem_cons_succ, List.getElem_cons_zero, List.setIfInBounds_toArray, List.set_cons_zero, List.set_cons_succ]
            refine wpAnyH_ready (rs := [10]) (by kernel_rfl) (by simp) ?_
            refine AllReadyH.cons rfl (fun K hK => ?_) AllReadyH.nil
            go_simp
            refine hK.out _ _ hM7 (fun _ => ?_)
            clear hK K
            refine wpAnyH_done (by kernel_rfl) ?_ _
            go_wp2_with fail
            go_meet
            case rel => exact ⟨.slice ka7 (nk + 1) kc7, _, rfl, H7⟩
        case rest =>
          clear hrun d2 d2' d6 f6 hM1 hM2 hM6 hM7 H7
          obtain ⟨v7, W7, rfl, H7⟩ := hcut
          obtain ⟨X7, hX7⟩ : ∃ X7, X7 = wc := ⟨_, rfl⟩
          rw [← hX7] at H7 ⊢
          clear hX7 hW1
          obtain ⟨ka7, kc7, rfl⟩ := slice_formD H7.out.ks
          have hD8 : DN w X7.drew (.slice (some ⟨g, o, none⟩) n c) (.slice sa ns sc) (.slice ka7 (nk + 1) kc7) ns (nk + 1) (run (L.take k)) (tkL (L.take k) ++ [(i1, i2)]) := H7.out.below (((Far.refl X7).drewN 1).below)
          obtain ⟨_, s8, _⟩ := hD8.cells
          have hM8 := HCL.out X7.drew hD8.bel
          have HPu : Calls Try.prog 52 #[.slice sa ns sc, .agg #[.int .i64 b1, .int .i64 b2, .int .i64 p1, .int .i64 p2, .string ky]] X7.drew fun e V => ∃ sa4 ns4 sc4, e = .returned (.slice sa4 ns4 sc4) ∧ (V.cell? ⟨g, o + k * 8, none⟩ = some (.int .i64 i1) ∧ V.cell? ⟨g, o + k * 8 + 1, none⟩ = some (.int .i64 i2) ∧ V.cell? ⟨g, o + k * 8 + 2, none⟩ = some (.int .i64 tm) ∧ V.cell? ⟨g, o + k * 8 + 3, none⟩ = some (.int .i64 b1) ∧ V.cell? ⟨g, o + k * 8 + 4, none⟩ = some (.int .i64 b2) ∧ V.cell? ⟨g, o + k * 8 + 5, none⟩ = some (.int .i64 p1) ∧ V.cell? ⟨g, o + k * 8 + 6, none⟩ = some (.int .i64 p2) ∧ V.cell? ⟨g, o + k * 8 + 7, none⟩ = some (.string ky)) ∧ V.cell? ⟨w.heap.size + 1, 1, none⟩ = some (.slice sa ns sc) ∧ V.frozen? ⟨w.heap.size + 1, 1, none⟩ = false ∧ ((V.setCell ⟨w.heap.size + 1, 1, none⟩ (.slice sa4 ns4 sc4)).cell? ⟨g, o + k * 8, none⟩ = some (.int .i64 i1) ∧ (V.setCell ⟨w.heap.size + 1, 1, none⟩ (.slice sa4 ns4 sc4)).cell? ⟨g, o + k * 8 + 1, none⟩ = some (.int .i64 i2) ∧ (V.setCell ⟨w.heap.size + 1, 1, none⟩ (.slice sa4 ns4 sc4)).cell? ⟨g, o + k * 8 + 2, none⟩ = some (.int .i64 tm) ∧ (V.setCell ⟨w.heap.size + 1, 1, none⟩ (.slice sa4 ns4 sc4)).cell? ⟨g, o + k * 8 + 3, none⟩ = some (.int .i64 b1) ∧ (V.setCell ⟨w.heap.size + 1, 1, none⟩ (.slice sa4 ns4 sc4)).cell? ⟨g, o + k * 8 + 4, none⟩ = some (.int .i64 b2) ∧ (V.setCell ⟨w.heap.size + 1, 1, none⟩ (.slice sa4 ns4 sc4)).cell? ⟨g, o + k * 8 + 5, none⟩ = some (.int .i64 p1) ∧ (V.setCell ⟨w.heap.size + 1, 1, none⟩ (.slice sa4 ns4 sc4)).cell? ⟨g, o + k * 8 + 6, none⟩ = some (.int .i64 p2) ∧ (V.setCell ⟨w.heap.size + 1, 1, none⟩ (.slice sa4 ns4 sc4)).cell? ⟨g, o + k * 8 + 7, none⟩ = some (.string ky)) ∧ Hid (ns4 ≤ k + 1 ∧ DN w (V.setCell ⟨w.heap.size + 1, 1, none⟩ (.slice sa4 ns4 sc4)) (.slice (some ⟨g, o, none⟩) n c) (.slice sa4 ns4 sc4) (.slice ka7 (nk + 1) kc7) ns4 (nk + 1) (run (L.take (k + 1))) (tkL (L.take (k + 1)))) := by
            obtain ⟨a', c', e', hsp⟩ := own_sps hD8.ss
            simp only [Value.slice.injEq] at e'
            obtain ⟨rfl, _, rfl⟩ := e'
            refine (trput_any _ _ _ (run (L.take k)) ((⟨(i1, i2), tm, (b1, b2), (p1, p2), ky⟩ : Mv)).sp X7.drew hsp (by omega)).mono (fun e V h => ?_)
            obtain ⟨v, e1, ho, hb⟩ := h
            have hru : run (L.take (k + 1)) = put (run (L.take k)) ((⟨(i1, i2), tm, (b1, b2), (p1, p2), ky⟩ : Mv)).sp := by rw [HRU.out]; unfold step; rw [if_pos (by rw [← HB.out])]
            have htk : tkL (L.take (k + 1)) = tkL (L.take k) ++ [(i1, i2)] := by rw [HMX.out, tkL_snoc, if_pos (by rw [← HB.out])]
            obtain ⟨sa4, sc4, rfl⟩ := spS_form ho
            have hl4 : (put (run (L.take k)) ((⟨(i1, i2), tm, (b1, b2), (p1, p2), ky⟩ : Mv)).sp).length ≤ k + 1 := by rw [← hru]; have := run_len (L.take (k + 1)); rw [List.length_take] at this; omega
            have hDV := hD8.below hb
            have hfin := hD8.puts hb ho
            rw [← hru, ← htk] at hfin
            rw [hru] at hfin
            refine ⟨sa4, _, sc4, e1, HCL.out V hDV.bel, hDV.cells.2.1, hDV.frozen 1, HCL.out _ hfin.bel, hid ⟨hl4, ?_⟩⟩
            rw [hru]
            exact hfin
          clear hD8 H7
          go_wp2_with fail
          refine wp_region_held_drew (S := fun w' => w'.cell? ⟨g, o + k * 8, none⟩ = some (.int .i64 i1) ∧ w'.cell? ⟨g, o + k * 8 + 1, none⟩ = some (.int .i64 i2) ∧ w'.cell? ⟨g, o + k * 8 + 2, none⟩ = some (.int .i64 tm) ∧ w'.cell? ⟨g, o + k * 8 + 3, none⟩ = some (.int .i64 b1) ∧ w'.cell? ⟨g, o + k * 8 + 4, none⟩ = some (.int .i64 b2) ∧ w'.cell? ⟨g, o + k * 8 + 5, none⟩ = some (.int .i64 p1) ∧ w'.cell? ⟨g, o + k * 8 + 6, none⟩ = some (.int .i64 p2) ∧ w'.cell? ⟨g, o + k * 8 + 7, none⟩ = some (.string ky)) hmxo hM8 ?_
          intro _
          refine wpAnyH_take (i := 0) (v := .pointer (some ⟨w.heap.size + 1, 1, none⟩)) rfl (by kernel_rfl) (by kernel_rfl) (by kernel_rfl) (fun _ _ _ h => h) (Or.inl ⟨by kernel_rfl, fun w hSw => ?_⟩) hM8 ?_
          · obtain ⟨e1, e2, e3, e4, e5, e6, e7, e8⟩ := hSw; go_simp
          simp only [Act.put, List.getElem_toArray, List.getElem_cons_succ, List.getElem_cons_zero, List.setIfInBounds_toArray, List.set_cons_zero, List.set_cons_succ]
          refine wpAnyH_take (i := 2) (v := .slice (some ⟨g, o, none⟩) n c) rfl (by kernel_rfl) (by kernel_rfl) (by kernel_rfl) (fun _ _ _ h => h) (Or.inl ⟨by kernel_rfl, fun w hSw => ?_⟩) hM8 ?_
          · obtain ⟨e1, e2, e3, e4, e5, e6, e7, e8⟩ := hSw; go_simp
          simp only [Act.put, List.getElem_toArray, List.getElem_cons_succ, List.getElem_cons_zero, List.setIfInBounds_toArray, List.set_cons_zero, List.set_cons_succ]
          refine wpAnyH_take (i := 3) (v := .int .i64 (k : Int)) rfl (by kernel_rfl) (by kernel_rfl) (by kernel_rfl) (fun _ _ _ h => h) (Or.inl ⟨by kernel_rfl, fun w hSw => ?_⟩) hM8 ?_
          · obtain ⟨e1, e2, e3, e4, e5, e6, e7, e8⟩ := hSw; go_simp
          simp only [Act.put, List.getElem_toArray, List.getElem_cons_succ, List.getElem_cons_zero, List.setIfInBounds_toArray, List.set_cons_zero, List.set_cons_succ]
          refine wpAnyH_take (i := 4) (v := .pointer (some ⟨g, o + k * 8, none⟩)) rfl (by kernel_rfl) (by kernel_rfl) (by kernel_rfl) (fun _ _ _ h => h) (Or.inl ⟨by kernel_rfl, fun w hSw => ?_⟩) hM8 ?_
          · obtain ⟨e1, e2, e3, e4, e5, e6, e7, e8⟩ := hSw; go_simp
          simp only [Act.put, List.getElem_toArray, List.getElem_cons_succ, List.getElem_cons_zero, List.setIfInBounds_toArray, List.set_cons_zero, List.set_cons_succ]
          refine wpAnyH_take (i := 5) (v := .pointer (some ⟨g, o + k * 8 + 3, none⟩)) rfl (by kernel_rfl) (by kernel_rfl) (by kernel_rfl) (fun _ _ _ h => h) (Or.inl ⟨by kernel_rfl, fun w hSw => ?_⟩) hM8 ?_
          · obtain ⟨e1, e2, e3, e4, e5, e6, e7, e8⟩ := hSw; go_simp
          simp only [Act.put, List.getElem_toArray, List.getElem_cons_succ, List.getElem_cons_zero, List.setIfInBounds_toArray, List.set_cons_zero, List.set_cons_succ]
          refine wpAnyH_take (i := 6) (v := .agg #[.int .i64 b1, .int .i64 b2]) rfl (by kernel_rfl) (by kernel_rfl) (by kernel_rfl) (fun _ _ _ h => h) (Or.inl ⟨by kernel_rfl, fun w hSw => ?_⟩) hM8 ?_
          · obtain ⟨e1, e2, e3, e4, e5, e6, e7, e8⟩ := hSw; go_simp
          simp only [Act.put, List.getElem_toArray, List.getElem_cons_succ, List.getElem_cons_zero, List.setIfInBounds_toArray, List.set_cons_zero, List.set_cons_succ]
          refine wpAnyH_take (i := 7) (v := .slice (some ⟨g, o, none⟩) n c) rfl (by kernel_rfl) (by kernel_rfl) (by kernel_rfl) (fun _ _ _ h => h) (Or.inl ⟨by kernel_rfl, fun w hSw => ?_⟩) hM8 ?_
          · obtain ⟨e1, e2, e3, e4, e5, e6, e7, e8⟩ := hSw; go_simp
          simp only [Act.put, List.getElem_toArray, List.getElem_cons_succ, List.getElem_cons_zero, List.setIfInBounds_toArray, List.set_cons_zero, List.set_cons_succ]
          refine wpAnyH_take (i := 8) (v := .int .i64 (k : Int)) rfl (by kernel_rfl) (by kernel_rfl) (by kernel_rfl) (fun _ _ _ h => h) (Or.inl ⟨by kernel_rfl, fun w hSw => ?_⟩) hM8 ?_
          · obtain ⟨e1, e2, e3, e4, e5, e6, e7, e8⟩ := hSw; go_simp
          simp only [Act.put, List.getElem_toArray, List.getElem_cons_succ, List.getElem_cons_zero, List.setIfInBounds_toArray, List.set_cons_zero, List.set_cons_succ]
          refine wpAnyH_take (i := 9) (v := .pointer (some ⟨g, o + k * 8, none⟩)) rfl (by kernel_rfl) (by kernel_rfl) (by kernel_rfl) (fun _ _ _ h => h) (Or.inl ⟨by kernel_rfl, fun w hSw => ?_⟩) hM8 ?_
          · obtain ⟨e1, e2, e3, e4, e5, e6, e7, e8⟩ := hSw; go_simp
          simp only [Act.put, List.getElem_toArray, List.getElem_cons_succ, List.getElem_cons_zero, List.setIfInBounds_toArray, List.set_cons_zero, List.set_cons_succ]
          refine wpAnyH_take (i := 10) (v := .pointer (some ⟨g, o + k * 8 + 5, none⟩)) rfl (by kernel_rfl) (by kernel_rfl) (by kernel_rfl) (fun _ _ _ h => h) (Or.inl ⟨by kernel_rfl, fun w hSw => ?_⟩) hM8 ?_
          · obtain ⟨e1, e2, e3, e4, e5, e6, e7, e8⟩ := hSw; go_simp
          simp only [Act.put, List.getElem_toArray, List.getElem_cons_succ, List.getElem_cons_zero, List.setIfInBounds_toArray, List.set_cons_zero, List.set_cons_succ]
          refine wpAnyH_take (i := 11) (v := .agg #[.int .i64 p1, .int .i64 p2]) rfl (by kernel_rfl) (by kernel_rfl) (by kernel_rfl) (fun _ _ _ h => h) (Or.inl ⟨by kernel_rfl, fun w hSw => ?_⟩) hM8 ?_
          · obtain ⟨e1, e2, e3, e4, e5, e6, e7, e8⟩ := hSw; go_simp
          simp only [Act.put, List.getElem_toArray, List.getElem_cons_succ, List.getElem_cons_zero, List.setIfInBounds_toArray, List.set_cons_zero, List.set_cons_succ]
          refine wpAnyH_take (i := 12) (v := .slice (some ⟨g, o, none⟩) n c) rfl (by kernel_rfl) (by kernel_rfl) (by kernel_rfl) (fun _ _ _ h => h) (Or.inl ⟨by kernel_rfl, fun w hSw => ?_⟩) hM8 ?_
          · obtain ⟨e1, e2, e3, e4, e5, e6, e7, e8⟩ := hSw; go_simp
          simp only [Act.put, List.getElem_toArray, List.getElem_cons_succ, List.getElem_cons_zero, List.setIfInBounds_toArray, List.set_cons_zero, List.set_cons_succ]
          refine wpAnyH_take (i := 13) (v := .int .i64 (k : Int)) rfl (by kernel_rfl) (by kernel_rfl) (by kernel_rfl) (fun _ _ _ h => h) (Or.inl ⟨by kernel_rfl, fun w hSw => ?_⟩) hM8 ?_
          · obtain ⟨e1, e2, e3, e4, e5, e6, e7, e8⟩ := hSw; go_simp
          simp only [Act.put, List.getElem_toArray, List.getElem_cons_succ, List.getElem_cons_zero, List.setIfInBounds_toArray, List.set_cons_zero, List.set_cons_succ]
          refine wpAnyH_take (i := 14) (v := .pointer (some ⟨g, o + k * 8, none⟩)) rfl (by kernel_rfl) (by kernel_rfl) (by kernel_rfl) (fun _ _ _ h => h) (Or.inl ⟨by kernel_rfl, fun w hSw => ?_⟩) hM8 ?_
          · obtain ⟨e1, e2, e3, e4, e5, e6, e7, e8⟩ := hSw; go_simp
          simp only [Act.put, List.getElem_toArray, List.getElem_cons_succ, List.getElem_cons_zero, List.setIfInBounds_toArray, List.set_cons_zero, List.set_cons_succ]
          refine wpAnyH_take (i := 15) (v := .pointer (some ⟨g, o + k * 8 + 7, none⟩)) rfl (by kernel_rfl) (by kernel_rfl) (by kernel_rfl) (fun _ _ _ h => h) (Or.inl ⟨by kernel_rfl, fun w hSw => ?_⟩) hM8 ?_
          · obtain ⟨e1, e2, e3, e4, e5, e6, e7, e8⟩ := hSw; go_simp
          simp only [Act.put, List.getElem_toArray, List.getElem_cons_succ, List.getElem_cons_zero, List.setIfInBounds_toArray, List.set_cons_zero, List.set_cons_succ]
          refine wpAnyH_take (i := 16) (v := .string ky) rfl (by kernel_rfl) (by kernel_rfl) (by kernel_rfl) (fun _ _ _ h => h) (Or.inl ⟨by kernel_rfl, fun w hSw => ?_⟩) hM8 ?_
          · obtain ⟨e1, e2, e3, e4, e5, e6, e7, e8⟩ := hSw; go_simp
          simp only [Act.put, List.getElem_toArray, List.getElem_cons_succ, List.getElem_cons_zero, List.setIfInBounds_toArray, List.set_cons_zero, List.set_cons_succ]
          refine wpAnyH_take (i := 17) (v := .agg #[.int .i64 b1, .int .i64 b2, .int .i64 p1, .int .i64 p2, .string ky]) rfl (by kernel_rfl) (by kernel_rfl) (by kernel_rfl) (fun _ _ _ h => h) (Or.inl ⟨by kernel_rfl, fun w hSw => ?_⟩) hM8 ?_
          · obtain ⟨e1, e2, e3, e4, e5, e6, e7, e8⟩ := hSw; go_simp
          simp only [Act.put, List.getElem_toArray, List.getElem_cons_succ, List.getElem_cons_zero, List.setIfInBounds_toArray, List.set_cons_zero, List.set_cons_succ]
          refine wpAnyH_ready (rs := [1]) (by kernel_rfl) (by simp) ?_
          refine AllReadyH.cons rfl (fun K hK => ?_) AllReadyH.nil
          go_simp
          refine hK.out _ _ hM8 (fun _ => ?_)
          clear hK K
          refine wpAnyH_ready (rs := [18]) (by kernel_rfl) (by simp) ?_
          refine AllReadyH.cons rfl (fun K hK => ?_) AllReadyH.nil
          go_simp
          refine (HPu).mono ?_
          rintro e V4 ⟨sa4, ns4, sc4, rfl, hM9, x1, fz, hM10, H10⟩
          refine hK.out _ _ hM9 (fun _ => ?_)
          clear hK K
          refine wpAnyH_take (i := 19) (v := .pointer (some ⟨w.heap.size + 1, 1, none⟩)) rfl (by kernel_rfl) (by kernel_rfl) (by kernel_rfl) (fun _ _ _ h => h) (Or.inl ⟨by kernel_rfl, fun w hSw => ?_⟩) hM9 ?_
          · obtain ⟨e1, e2, e3, e4, e5, e6, e7, e8⟩ := hSw; go_simp
          simp only [Act.put, List.getElem_toArray, List.getElem_cons_succ, List.getElem_cons_zero, List.setIfInBounds_toArray, List.set_cons_zero, List.set_cons_succ]
          refine wpAnyH_ready (rs := [20]) (by kernel_rfl) (by simp) ?_
          refine AllReadyH.cons rfl (fun K hK => ?_) AllReadyH.nil
          go_simp
          refine hK.out _ _ hM10 (fun _ => ?_)
          clear hK K
          refine wpAnyH_done (by kernel_rfl) ?_ _
          clear HPu hM8 s8 hM9 x1 fz hM10
          go_wp2
          go_roundw
          case rel => exact ⟨k + 1, sa4, ns4, sc4, ka7, nk + 1, kc7, by omega, H10.out.1, by omega, by go_num, hid H10.out.2⟩
          case measure => simp [intOf]; omega
    · obtain rfl : n = k := by omega
      have hb1 : decide ((n : Int) < (n : Int)) = false := by simp
      have hLn : L.take n = L := List.take_of_length_le (by rw [HLn.out]; exact Nat.le_refl _)
      rw [hLn] at HD
      obtain ⟨c0, c1, c2⟩ := HD.out.cells
      have hres := HD.out.res
      have r0 : wr.cell? ⟨w.heap.size, 0, none⟩ = some (.slice none 0 0) := by simp [World.cell?, hres]
      have r1 : wr.cell? ⟨w.heap.size, 1, none⟩ = some (.slice none 0 0) := by simp [World.cell?, hres]
      have r2 : wr.cell? ⟨w.heap.size, 2, none⟩ = some (.slice none 0 0) := by simp [World.cell?, hres]
      have z0 : wr.frozen? ⟨w.heap.size, 0, none⟩ = false := by simp [World.frozen?, hres]
      have z1 : wr.frozen? ⟨w.heap.size, 1, none⟩ = false := by simp [World.frozen?, hres]
      have z2 : wr.frozen? ⟨w.heap.size, 2, none⟩ = false := by simp [World.frozen?, hres]
      obtain ⟨ZZ, hZZ⟩ : ∃ ZZ, ZZ = ((wr.setCell ⟨w.heap.size, 0, none⟩ (.slice la n c)).setCell ⟨w.heap.size, 1, none⟩ (.slice sa ns sc)).setCell ⟨w.heap.size, 2, none⟩ (.slice ka nk kc) := ⟨_, rfl⟩
      have hkp : ∀ j, j ≠ w.heap.size → ZZ.heap[j]? = wr.heap[j]? := fun j hj => by
        rw [hZZ]
        exact (Below.heap_setCell _ _ _ j (by simpa using hj)).trans ((Below.heap_setCell _ _ _ j (by simpa using hj)).trans (Below.heap_setCell _ _ _ j (by simpa using hj)))
      have hzz : ZZ.heap[w.heap.size]? = some (.cells #[.slice la n c, .slice sa ns sc, .slice ka nk kc] 31 (0, 0)) := by
        rw [hZZ]
        have := set_blk (j := 2) (set_blk (j := 1) (set_blk (j := 0) hres (.slice la n c)) (.slice sa ns sc)) (.slice ka nk kc)
        simpa using this
      have q0 : ZZ.cell? ⟨w.heap.size, 0, none⟩ = some (.slice la n c) := by simp [World.cell?, hzz]
      have q1 : ZZ.cell? ⟨w.heap.size, 1, none⟩ = some (.slice sa ns sc) := by simp [World.cell?, hzz]
      have q2 : ZZ.cell? ⟨w.heap.size, 2, none⟩ = some (.slice ka nk kc) := by simp [World.cell?, hzz]
      have hsz : wr.heap.size ≤ ZZ.heap.size := by
        rw [hZZ]
        exact Nat.le_trans (grownBy_setCell wr w.heap.size 0 (.slice la n c)).size (Nat.le_trans (grownBy_setCell _ w.heap.size 1 (.slice sa ns sc)).size (grownBy_setCell _ w.heap.size 2 (.slice ka nk kc)).size)
      have hZs : Sm wr ZZ := by rw [hZZ]; exact ⟨rfl, rfl, rfl⟩
      have HF : Hid (∃ sa' ns' sc' ka' nk' kc', Ending.returned (.agg #[.slice la n c, .slice sa ns sc, .slice ka nk kc]) = .returned (.agg #[.slice la n c, .slice sa' ns' sc', .slice ka' nk' kc']) ∧ SpR ZZ sa' ns' sc' (run L) ∧ PS ZZ ka' nk' kc' (tkL L) ∧ Below w.heap.size w ZZ ∧ (∀ ad, sa' = some ad → w.heap.size ≤ ad.block) ∧ (∀ ad, ka' = some ad → w.heap.size ≤ ad.block)) := hid (by
        have hD := HD.out
        have o1 := own_kept2 (w' := ZZ) hD.ss (fun j hj => hkp j (by have := (hD.ss.lt j hj).1; omega))
        have o2 := own_kept2 (w' := ZZ) hD.ks (fun j hj => hkp j (by have := (hD.ks.lt j hj).1; omega))
        obtain ⟨a', c', e', hsp⟩ := own_sps o1
        simp only [Value.slice.injEq] at e'
        obtain ⟨rfl, _, rfl⟩ := e'
        have hnk' : nk = (tkL L).length := by have := o2.1; rw [flat_length] at this; omega
        obtain ⟨a2, c2', e2, hps⟩ := owned_ps (by rw [hnk'] at o2; exact o2) rfl
        simp only [Value.slice.injEq] at e2
        obtain ⟨rfl, _, rfl⟩ := e2
        have hB := hD.bel
        refine ⟨_, _, _, _, _, _, rfl, hsp, by rw [hnk']; exact hps, ⟨hZs.1.trans hB.os, hZs.2.1.trans hB.tape, hZs.2.2.trans hB.output, Nat.le_trans hB.size hsz, fun j hj => (hkp j (by omega)).trans (hB.block j hj)⟩, fun ad e => ?_, fun ad e => ?_⟩
        · have := (hD.ss.lt ad.block (by rw [e]; rfl)).1
          omega
        · have := (hD.ks.lt ad.block (by rw [e]; rfl)).1
          omega)
      clear HD hres hkp hzz hsz hZs
      go_wp2_with fail
      rw [← hZZ]
      clear hZZ
      refine bodyPost_ret (v := .agg #[.slice la n c, .slice sa ns sc, .slice ka nk kc]) (by simp [results, Try.results29, go_sem, q0, q1, q2]) rfl ?_
      exact HF.out
end

section
set_option linter.unusedVariables false
set_option linter.unusedSimpArgs false
open Go.RowKit

theorem Try.infoM : (Try.prog.info? 33).map (fun i => (i.zero, i.size, i.bytes)) = some (some (.agg #[.int .i64 0, .int .i64 0, .int .i64 0, .int .i64 0, .int .i64 0, .int .i64 0, .int .i64 0, .string ⟨#[]⟩]), 8, 72) := by kernel_rfl

/-- The cells of a row of characters. -/
def flM (T : List Mv) : List Value := T.flatMap (fun c => c.cells)

theorem mc_len (c : Mv) : c.cells.length = 8 := rfl

theorem flM_length (T : List Mv) : (flM T).length = T.length * 8 := by
  unfold flM
  induction T with
  | nil => rfl
  | cons c r ih => rw [List.flatMap_cons, List.length_append, ih, mc_len, List.length_cons]; omega

theorem flM_append (T U : List Mv) : flM (T ++ U) = flM T ++ flM U := by unfold flM; rw [List.flatMap_append]

theorem flM_get : ∀ (T : List Mv) (i : Nat) (hi : i < T.length) (j : Nat), j < 8 → (flM T)[i * 8 + j]? = (T[i]).cells[j]?
  | [], i, hi, _, _ => by simp at hi
  | c :: r, 0, _, j, hj => by
    unfold flM
    rw [List.flatMap_cons, Nat.zero_mul, Nat.zero_add, List.getElem?_append_left (by rw [mc_len]; exact hj)]
    rfl
  | c :: r, i + 1, hi, j, hj => by
    have ih := flM_get r i (by simpa using hi) j hj
    unfold flM at ih ⊢
    rw [List.flatMap_cons, List.getElem?_append_right (by rw [mc_len]; omega), mc_len, show (i + 1) * 8 + j - 8 = i * 8 + j by omega, ih]
    rfl

theorem flM_one (T : List Mv) : ∀ u ∈ flM T, u.oneCell' = true := by
  intro u hu
  unfold flM at hu
  obtain ⟨c, _, hc⟩ := List.mem_flatMap.1 hu
  simp [Mv.cells] at hc
  rcases hc with rfl | rfl | rfl | rfl | rfl | rfl | rfl | rfl <;> rfl

theorem own_mvs {w : World} {base n : Nat} {v : Value} {T : List Mv} (h : w.ownsRow base 33 8 v n (flM T)) : ∃ a c, v = .slice a n c ∧ MvS w a n c T := by
  have hl : T.length = n := by have := h.1; rw [flM_length] at this; omega
  rcases h.2 with ⟨rfl, h0⟩ | ⟨g, cap, cur, rfl, hB, hg, hn, hc, hcs, ht⟩
  · subst h0
    exact ⟨none, 0, rfl, hl, Nat.le_refl _, Nat.zero_le _, fun _ => ⟨rfl, rfl⟩, fun hp => absurd hp (by omega)⟩
  · refine ⟨_, _, rfl, hl, hn, hc, (fun e => by cases e), (fun hp => ⟨g, 0, rfl, (Array.getElem?_eq_some_iff.1 hg).1, fun i hi j u hj => ?_⟩)⟩
    have hj8 : j < 8 := by have := (List.getElem?_eq_some_iff.1 hj).1; rwa [mc_len] at this
    have := h.cells (g := g) rfl (i * 8 + j) u (by rw [flM_get T i hi j hj8]; exact hj)
    have e : (⟨g, 0, none⟩ : Addr).add (i * 8 + j) = ⟨g, 0 + i * 8 + j, none⟩ := by
      unfold Addr.add
      split
      · rename_i h0
        simp only [Addr.mk.injEq, true_and, and_true]
        omega
      · simp only [Addr.mk.injEq, true_and, and_true]
        omega
    rw [e] at this
    exact this

theorem MvS.allcells {w : World} {a : Option Addr} {n c : Nat} {T : List Mv} (h : MvS w a n c T) {g o : Nat} (ha : a = some ⟨g, o, none⟩) (hp : 0 < n) : ∀ j u, (flM T)[j]? = some u → w.cell? ((⟨g, o, none⟩ : Addr).add j) = some u := by
  intro j u hj
  obtain ⟨g', o', e, hg, hx⟩ := h.at_ hp
  rw [ha] at e
  cases e
  have hjl := (List.getElem?_eq_some_iff.1 hj).1
  rw [flM_length] at hjl
  have hd := Nat.div_add_mod j 8
  have hm := Nat.mod_lt j (show 0 < 8 by omega)
  have hi : j / 8 < T.length := by omega
  have e1 : j = j / 8 * 8 + j % 8 := by omega
  have e2 := flM_get T (j / 8) hi (j % 8) hm
  rw [← e1, hj] at e2
  have e3 := hx (j / 8) hi (j % 8) u e2.symm
  have e : (⟨g, o, none⟩ : Addr).add j = ⟨g, o + j / 8 * 8 + j % 8, none⟩ := by
    unfold Addr.add
    split
    · rename_i h0
      simp only [Addr.mk.injEq, true_and, and_true]
      omega
    · simp only [Addr.mk.injEq, true_and, and_true]
      omega
  rw [e]
  exact e3

/-- append of a row of moves to a row of one's own. -/
theorem wpList_append_mvs {w : World} {ops : Array Oper} {rest : List Oper} {o : Oper} {a : Act} {Q : Exit → Act → World → Prop} (hgd : o.guard = none) (s x : Operand) (t : TypeId) (ht : Try.prog.underlying t = some (.slice 33))
    (ho : o.op = .call { callee := .builtin .append, args := #[s, x], argTypes := #[t, t] }) (base : Nat) (v : Value) (n : Nat) (U : List Mv) (hs : a.eval s = v) (hown : w.ownsRow base 33 8 v n (flM U))
    (ao : Option Addr) (m c : Nat) (T : List Mv) (hx : a.eval x = .slice ao m c) (hT : MvS w ao m c T) (hb : n + m ≤ 2000000) (hbase : base ≤ w.heap.size)
    (h : ∀ v' w', w'.ownsRow base 33 8 v' (n + m) (flM (U ++ T)) → w.grownBy w' v.ownBlock → wpList Try.prog ops Q rest (a.put o.dst v') w') : wpList Try.prog ops Q (o :: rest) a w := by
  obtain ⟨i0, hi, hz0, hz1, hz2⟩ := info_parts Try.infoM
  have hl := hT.len
  rcases Nat.eq_zero_or_pos m with hm | hm
  · subst hm
    have e : T = [] := List.eq_nil_of_length_eq_zero hl
    subst e
    cases ao with
    | none =>
      obtain ⟨_, rfl⟩ := hT.nil rfl
      refine wpList_append_own_none hgd s x t ho base 33 i0 8 ht hi v n _ hs hown hx ?_
      exact h v w (by rw [List.append_nil]; exact hown) (World.grownBy.refl _ _)
    | some ad =>
      exact wpList_append_own w hgd s x t ho base 33 i0 _ 8 72 ht hi hz0 hz1 hz2 rfl (by decide) v n (flM U) hs hown ad 0 c [] hx (by simp) (fun j u hj => by simp at hj) (by simp) (by unfold maxLen; omega) (by omega) hbase
        (fun v' w' h1 h2 _ => h v' w' (by simpa using h1) h2)
  · obtain ⟨g, o', e, hg, hc⟩ := hT.at_ hm
    subst e
    exact wpList_append_own w hgd s x t ho base 33 i0 _ 8 72 ht hi hz0 hz1 hz2 rfl (by decide) v n (flM U) hs hown ⟨g, o', none⟩ m c (flM T) hx (by rw [flM_length, hl]) (hT.allcells rfl hm) (flM_one T) (by unfold maxLen; omega) (by omega) hbase
      (fun v' w' h1 h2 _ => h v' w' (by rw [flM_append]; exact h1) h2)
end
end Go.Proofs.Ytplcohjpchfkkaa
