/- TreeMoves: its walk. -/
import Derived.Test.YtddfbcknehfpaaaTrMovesM
import Derived.Test.YtddfbcknehfpaaaTrSame
import Derived.Test.YtddfbcknehfpaaaEIn
import Derived.Deep.CutRange
import Derived.Deep.CutBlock
import Derived.BigQuiet
set_option linter.unusedVariables false
set_option linter.unusedSimpArgs false
namespace Go.Proofs.Ytddfbcknehfpaaa
open Go.RowKit

set_option maxRecDepth 100000 in
set_option maxHeartbeats 8000000 in
theorem moves_walk (a : Option Addr) (n c : Nat) (L : List Mv) (x1 x2 : Int) (key : ByteArray) (w : World) (hL : MvS w a n c L) (hf : ∀ m ∈ L, m.Fits) (hx1 : T64 x1) (hx2 : T64 x2) :
    Calls Try.prog 8 #[.slice a n c, .int .i64 x1, .int .i64 x2, .string key] w fun e w' => e = .returned (.bool true) ∧ Below w.heap.size w w' := by
  have hmxo : Try.prog.follows .mixedOrders = true := by kernel_rfl
  have mixed := mixed
  have haw := tawake_any w
  have hnew : ∀ w1, Below w.heap.size w w1 → _ := fun w1 h => tnew_any (w := w) (w1 := w1) h
  have hnc := hL.cap
  have hcx := hL.max
  unfold maxLen at hcx
  have HLlen := hid hL.len
  unfold T64 at hx1 hx2
  obtain ⟨hx1a, hx1b⟩ := hx1
  obtain ⟨hx2a, hx2b⟩ := hx2
  go_enter Try.func8, Try.ntmps8
  go_wp2_with (first
    | (go_at_call 9; refine haw.mono ?_; rintro e w1 ⟨rfl, h1⟩)
    | (go_at_call 10; refine (hnew _ h1).mono ?_; rintro e w2 ⟨t, rfl, H2⟩))
  clear haw hnew
  go_loopw [11] (fun i wr => ∃ k : Nat, k ≤ n ∧ k ≤ 40 ∧ i = .int .i64 k ∧ Hid (TP wr t (tr (L.take k)) (fun j => j < w.heap.size) ∧ Below w.heap.size w wr) ∧ Hid (∀ m ∈ L.take k, m.time ≤ 1000000)) (fun i _ => n - (intOf i).toNat)
  case atStart => exact ⟨0, by omega, by omega, rfl, by simpa using H2, hid (by simp)⟩
  case round =>
    clear H2 h1
    obtain ⟨k, hk, hk40, rfl, HS, HTm⟩ := hrel
    by_cases hlt : k < n ∧ k < 40
    · obtain ⟨hk1, hk2⟩ := hlt
      have hb1 : decide ((k : Int) < (n : Int)) = true := by simp [hk1]
      have hb2 : decide ((k : Int) < 40) = true := by simp; omega
      obtain ⟨m, hm⟩ : ∃ m, L[k]? = some m := ⟨_, List.getElem?_eq_getElem (by rw [hL.len]; exact hk1)⟩
      have hmf : m.Fits := hf m (List.mem_of_getElem? hm)
      have hmx : L.take k ++ [m] = L.take (k + 1) := by rw [List.take_succ_eq_append_getElem (by rw [hL.len]; exact hk1), (List.getElem?_eq_some_iff.1 hm).2]
      have hMv := tmove_any (m := m) (W := wr.drew) (w := w) (t := t) (L := L.take k) ⟨HS.out.1.drew, HS.out.2.drew⟩ hmf (by rw [List.length_take]; omega)
      rw [hmx] at hMv
      obtain ⟨E, hE⟩ : ∃ E, E = mvE (tr (L.take k)) m := ⟨_, rfl⟩
      rw [← hE] at hMv
      obtain ⟨⟨i1, i2⟩, tm, ⟨b1, b2⟩, ⟨p1, p2⟩, ky⟩ := m
      obtain ⟨g, o, rfl, hg, hcl⟩ := hL.look hm
      have hS1 : wr.drew.cell? ⟨g, o + k * 8, none⟩ = some (.int .i64 i1) ∧ wr.drew.cell? ⟨g, o + k * 8 + 1, none⟩ = some (.int .i64 i2) ∧ wr.drew.cell? ⟨g, o + k * 8 + 2, none⟩ = some (.int .i64 tm) ∧ wr.drew.cell? ⟨g, o + k * 8 + 3, none⟩ = some (.int .i64 b1) ∧ wr.drew.cell? ⟨g, o + k * 8 + 4, none⟩ = some (.int .i64 b2) ∧ wr.drew.cell? ⟨g, o + k * 8 + 5, none⟩ = some (.int .i64 p1) ∧ wr.drew.cell? ⟨g, o + k * 8 + 6, none⟩ = some (.int .i64 p2) ∧ wr.drew.cell? ⟨g, o + k * 8 + 7, none⟩ = some (.string ky) := hcl wr.drew (HS.out.2.block g hg)
      have hS1w : wr.cell? ⟨g, o + k * 8, none⟩ = some (.int .i64 i1) ∧ wr.cell? ⟨g, o + k * 8 + 1, none⟩ = some (.int .i64 i2) ∧ wr.cell? ⟨g, o + k * 8 + 2, none⟩ = some (.int .i64 tm) ∧ wr.cell? ⟨g, o + k * 8 + 3, none⟩ = some (.int .i64 b1) ∧ wr.cell? ⟨g, o + k * 8 + 4, none⟩ = some (.int .i64 b2) ∧ wr.cell? ⟨g, o + k * 8 + 5, none⟩ = some (.int .i64 p1) ∧ wr.cell? ⟨g, o + k * 8 + 6, none⟩ = some (.int .i64 p2) ∧ wr.cell? ⟨g, o + k * 8 + 7, none⟩ = some (.string ky) := hcl wr (HS.out.2.block g hg)
      have HMX := hid hmx
      have HMv := hMv.mono (R' := fun e W' => e = .returned (.int .i64 E) ∧ (W'.cell? ⟨g, o + k * 8, none⟩ = some (.int .i64 i1) ∧ W'.cell? ⟨g, o + k * 8 + 1, none⟩ = some (.int .i64 i2) ∧ W'.cell? ⟨g, o + k * 8 + 2, none⟩ = some (.int .i64 tm) ∧ W'.cell? ⟨g, o + k * 8 + 3, none⟩ = some (.int .i64 b1) ∧ W'.cell? ⟨g, o + k * 8 + 4, none⟩ = some (.int .i64 b2) ∧ W'.cell? ⟨g, o + k * 8 + 5, none⟩ = some (.int .i64 p1) ∧ W'.cell? ⟨g, o + k * 8 + 6, none⟩ = some (.int .i64 p2) ∧ W'.cell? ⟨g, o + k * 8 + 7, none⟩ = some (.string ky)) ∧ Hid (TP W' t (tr (L.take (k + 1))) (fun j => j < w.heap.size) ∧ Below w.heap.size w W')) (fun e W' h => ⟨h.1, hcl W' (h.2.out.2.block g hg), h.2⟩)
      have hcap := hL.cap
      have HE := hid hE
      clear hMv hcl hE hmx hm
      obtain ⟨f0, f1, f2, f3, f4, f5, f6, f7⟩ := hS1w
      by_cases htm : 1000000 < tm
      · have hb3 : decide ((1000000 : Int) < tm) = true := by simp [htm]
        clear HMv hS1
        go_wp2_with fail
        go_ret
        exact ⟨rfl, HS.out.2⟩
      · have hb3 : decide ((1000000 : Int) < tm) = false := by simpa using htm
        have HTI : Hid (∀ m ∈ L.take (k + 1), m.time ≤ 1000000) := hid (by
          rw [← HMX.out]
          intro m hm
          rcases List.mem_append.1 hm with hm | hm
          · exact HTm.out m hm
          · rw [List.mem_singleton] at hm
            subst hm
            show tm ≤ 1000000
            omega)
        go_wp2_with fail
        refine wp_region_held_drew (S := fun w' => w'.cell? ⟨g, o + k * 8, none⟩ = some (.int .i64 i1) ∧ w'.cell? ⟨g, o + k * 8 + 1, none⟩ = some (.int .i64 i2) ∧ w'.cell? ⟨g, o + k * 8 + 2, none⟩ = some (.int .i64 tm) ∧ w'.cell? ⟨g, o + k * 8 + 3, none⟩ = some (.int .i64 b1) ∧ w'.cell? ⟨g, o + k * 8 + 4, none⟩ = some (.int .i64 b2) ∧ w'.cell? ⟨g, o + k * 8 + 5, none⟩ = some (.int .i64 p1) ∧ w'.cell? ⟨g, o + k * 8 + 6, none⟩ = some (.int .i64 p2) ∧ w'.cell? ⟨g, o + k * 8 + 7, none⟩ = some (.string ky)) hmxo hS1 ?_
        intro _
        refine wpAnyH_take (i := 0) (v := .pointer (some ⟨t, 0, none⟩)) rfl (by kernel_rfl) (by kernel_rfl) (by kernel_rfl) (fun _ _ _ h => h) (Or.inl ⟨by kernel_rfl, fun w hSw => ?_⟩) hS1 ?_
        · obtain ⟨e1, e2, e3, e4, e5, e6, e7, e8⟩ := hSw; go_simp
        simp only [Act.put, List.getElem_toArray, List.getElem_cons_succ, List.getElem_cons_zero, List.setIfInBounds_toArray, List.set_cons_zero, List.set_cons_succ]
        refine wpAnyH_take (i := 1) (v := .slice (some ⟨g, o, none⟩) n c) rfl (by kernel_rfl) (by kernel_rfl) (by kernel_rfl) (fun _ _ _ h => h) (Or.inl ⟨by kernel_rfl, fun w hSw => ?_⟩) hS1 ?_
        · obtain ⟨e1, e2, e3, e4, e5, e6, e7, e8⟩ := hSw; go_simp
        simp only [Act.put, List.getElem_toArray, List.getElem_cons_succ, List.getElem_cons_zero, List.setIfInBounds_toArray, List.set_cons_zero, List.set_cons_succ]
        refine wpAnyH_take (i := 2) (v := .int .i64 (k : Int)) rfl (by kernel_rfl) (by kernel_rfl) (by kernel_rfl) (fun _ _ _ h => h) (Or.inl ⟨by kernel_rfl, fun w hSw => ?_⟩) hS1 ?_
        · obtain ⟨e1, e2, e3, e4, e5, e6, e7, e8⟩ := hSw; go_simp
        simp only [Act.put, List.getElem_toArray, List.getElem_cons_succ, List.getElem_cons_zero, List.setIfInBounds_toArray, List.set_cons_zero, List.set_cons_succ]
        refine wpAnyH_take (i := 3) (v := .pointer (some ⟨g, o + k * 8, none⟩)) rfl (by kernel_rfl) (by kernel_rfl) (by kernel_rfl) (fun _ _ _ h => h) (Or.inl ⟨by kernel_rfl, fun w hSw => ?_⟩) hS1 ?_
        · obtain ⟨e1, e2, e3, e4, e5, e6, e7, e8⟩ := hSw; go_simp
        simp only [Act.put, List.getElem_toArray, List.getElem_cons_succ, List.getElem_cons_zero, List.setIfInBounds_toArray, List.set_cons_zero, List.set_cons_succ]
        refine wpAnyH_take (i := 4) (v := .pointer (some ⟨g, o + k * 8, none⟩)) rfl (by kernel_rfl) (by kernel_rfl) (by kernel_rfl) (fun _ _ _ h => h) (Or.inl ⟨by kernel_rfl, fun w hSw => ?_⟩) hS1 ?_
        · obtain ⟨e1, e2, e3, e4, e5, e6, e7, e8⟩ := hSw; go_simp
        simp only [Act.put, List.getElem_toArray, List.getElem_cons_succ, List.getElem_cons_zero, List.setIfInBounds_toArray, List.set_cons_zero, List.set_cons_succ]
        refine wpAnyH_take (i := 5) (v := .agg #[.int .i64 i1, .int .i64 i2]) rfl (by kernel_rfl) (by kernel_rfl) (by kernel_rfl) (fun _ _ _ h => h) (Or.inl ⟨by kernel_rfl, fun w hSw => ?_⟩) hS1 ?_
        · obtain ⟨e1, e2, e3, e4, e5, e6, e7, e8⟩ := hSw; go_simp
        simp only [Act.put, List.getElem_toArray, List.getElem_cons_succ, List.getElem_cons_zero, List.setIfInBounds_toArray, List.set_cons_zero, List.set_cons_succ]
        refine wpAnyH_take (i := 6) (v := .slice (some ⟨g, o, none⟩) n c) rfl (by kernel_rfl) (by kernel_rfl) (by kernel_rfl) (fun _ _ _ h => h) (Or.inl ⟨by kernel_rfl, fun w hSw => ?_⟩) hS1 ?_
        · obtain ⟨e1, e2, e3, e4, e5, e6, e7, e8⟩ := hSw; go_simp
        simp only [Act.put, List.getElem_toArray, List.getElem_cons_succ, List.getElem_cons_zero, List.setIfInBounds_toArray, List.set_cons_zero, List.set_cons_succ]
        refine wpAnyH_take (i := 7) (v := .int .i64 (k : Int)) rfl (by kernel_rfl) (by kernel_rfl) (by kernel_rfl) (fun _ _ _ h => h) (Or.inl ⟨by kernel_rfl, fun w hSw => ?_⟩) hS1 ?_
        · obtain ⟨e1, e2, e3, e4, e5, e6, e7, e8⟩ := hSw; go_simp
        simp only [Act.put, List.getElem_toArray, List.getElem_cons_succ, List.getElem_cons_zero, List.setIfInBounds_toArray, List.set_cons_zero, List.set_cons_succ]
        refine wpAnyH_take (i := 8) (v := .pointer (some ⟨g, o + k * 8, none⟩)) rfl (by kernel_rfl) (by kernel_rfl) (by kernel_rfl) (fun _ _ _ h => h) (Or.inl ⟨by kernel_rfl, fun w hSw => ?_⟩) hS1 ?_
        · obtain ⟨e1, e2, e3, e4, e5, e6, e7, e8⟩ := hSw; go_simp
        simp only [Act.put, List.getElem_toArray, List.getElem_cons_succ, List.getElem_cons_zero, List.setIfInBounds_toArray, List.set_cons_zero, List.set_cons_succ]
        refine wpAnyH_take (i := 9) (v := .pointer (some ⟨g, o + k * 8 + 2, none⟩)) rfl (by kernel_rfl) (by kernel_rfl) (by kernel_rfl) (fun _ _ _ h => h) (Or.inl ⟨by kernel_rfl, fun w hSw => ?_⟩) hS1 ?_
        · obtain ⟨e1, e2, e3, e4, e5, e6, e7, e8⟩ := hSw; go_simp
        simp only [Act.put, List.getElem_toArray, List.getElem_cons_succ, List.getElem_cons_zero, List.setIfInBounds_toArray, List.set_cons_zero, List.set_cons_succ]
        refine wpAnyH_take (i := 10) (v := .int .i64 tm) rfl (by kernel_rfl) (by kernel_rfl) (by kernel_rfl) (fun _ _ _ h => h) (Or.inl ⟨by kernel_rfl, fun w hSw => ?_⟩) hS1 ?_
        · obtain ⟨e1, e2, e3, e4, e5, e6, e7, e8⟩ := hSw; go_simp
        simp only [Act.put, List.getElem_toArray, List.getElem_cons_succ, List.getElem_cons_zero, List.setIfInBounds_toArray, List.set_cons_zero, List.set_cons_succ]
        refine wpAnyH_take (i := 11) (v := .slice (some ⟨g, o, none⟩) n c) rfl (by kernel_rfl) (by kernel_rfl) (by kernel_rfl) (fun _ _ _ h => h) (Or.inl ⟨by kernel_rfl, fun w hSw => ?_⟩) hS1 ?_
        · obtain ⟨e1, e2, e3, e4, e5, e6, e7, e8⟩ := hSw; go_simp
        simp only [Act.put, List.getElem_toArray, List.getElem_cons_succ, List.getElem_cons_zero, List.setIfInBounds_toArray, List.set_cons_zero, List.set_cons_succ]
        refine wpAnyH_take (i := 12) (v := .int .i64 (k : Int)) rfl (by kernel_rfl) (by kernel_rfl) (by kernel_rfl) (fun _ _ _ h => h) (Or.inl ⟨by kernel_rfl, fun w hSw => ?_⟩) hS1 ?_
        · obtain ⟨e1, e2, e3, e4, e5, e6, e7, e8⟩ := hSw; go_simp
        simp only [Act.put, List.getElem_toArray, List.getElem_cons_succ, List.getElem_cons_zero, List.setIfInBounds_toArray, List.set_cons_zero, List.set_cons_succ]
        refine wpAnyH_take (i := 13) (v := .pointer (some ⟨g, o + k * 8, none⟩)) rfl (by kernel_rfl) (by kernel_rfl) (by kernel_rfl) (fun _ _ _ h => h) (Or.inl ⟨by kernel_rfl, fun w hSw => ?_⟩) hS1 ?_
        · obtain ⟨e1, e2, e3, e4, e5, e6, e7, e8⟩ := hSw; go_simp
        simp only [Act.put, List.getElem_toArray, List.getElem_cons_succ, List.getElem_cons_zero, List.setIfInBounds_toArray, List.set_cons_zero, List.set_cons_succ]
        refine wpAnyH_take (i := 14) (v := .pointer (some ⟨g, o + k * 8 + 3, none⟩)) rfl (by kernel_rfl) (by kernel_rfl) (by kernel_rfl) (fun _ _ _ h => h) (Or.inl ⟨by kernel_rfl, fun w hSw => ?_⟩) hS1 ?_
        · obtain ⟨e1, e2, e3, e4, e5, e6, e7, e8⟩ := hSw; go_simp
        simp only [Act.put, List.getElem_toArray, List.getElem_cons_succ, List.getElem_cons_zero, List.setIfInBounds_toArray, List.set_cons_zero, List.set_cons_succ]
        refine wpAnyH_take (i := 15) (v := .agg #[.int .i64 b1, .int .i64 b2]) rfl (by kernel_rfl) (by kernel_rfl) (by kernel_rfl) (fun _ _ _ h => h) (Or.inl ⟨by kernel_rfl, fun w hSw => ?_⟩) hS1 ?_
        · obtain ⟨e1, e2, e3, e4, e5, e6, e7, e8⟩ := hSw; go_simp
        simp only [Act.put, List.getElem_toArray, List.getElem_cons_succ, List.getElem_cons_zero, List.setIfInBounds_toArray, List.set_cons_zero, List.set_cons_succ]
        refine wpAnyH_take (i := 16) (v := .slice (some ⟨g, o, none⟩) n c) rfl (by kernel_rfl) (by kernel_rfl) (by kernel_rfl) (fun _ _ _ h => h) (Or.inl ⟨by kernel_rfl, fun w hSw => ?_⟩) hS1 ?_
        · obtain ⟨e1, e2, e3, e4, e5, e6, e7, e8⟩ := hSw; go_simp
        simp only [Act.put, List.getElem_toArray, List.getElem_cons_succ, List.getElem_cons_zero, List.setIfInBounds_toArray, List.set_cons_zero, List.set_cons_succ]
        refine wpAnyH_take (i := 17) (v := .int .i64 (k : Int)) rfl (by kernel_rfl) (by kernel_rfl) (by kernel_rfl) (fun _ _ _ h => h) (Or.inl ⟨by kernel_rfl, fun w hSw => ?_⟩) hS1 ?_
        · obtain ⟨e1, e2, e3, e4, e5, e6, e7, e8⟩ := hSw; go_simp
        simp only [Act.put, List.getElem_toArray, List.getElem_cons_succ, List.getElem_cons_zero, List.setIfInBounds_toArray, List.set_cons_zero, List.set_cons_succ]
        refine wpAnyH_take (i := 18) (v := .pointer (some ⟨g, o + k * 8, none⟩)) rfl (by kernel_rfl) (by kernel_rfl) (by kernel_rfl) (fun _ _ _ h => h) (Or.inl ⟨by kernel_rfl, fun w hSw => ?_⟩) hS1 ?_
        · obtain ⟨e1, e2, e3, e4, e5, e6, e7, e8⟩ := hSw; go_simp
        simp only [Act.put, List.getElem_toArray, List.getElem_cons_succ, List.getElem_cons_zero, List.setIfInBounds_toArray, List.set_cons_zero, List.set_cons_succ]
        refine wpAnyH_take (i := 19) (v := .pointer (some ⟨g, o + k * 8 + 5, none⟩)) rfl (by kernel_rfl) (by kernel_rfl) (by kernel_rfl) (fun _ _ _ h => h) (Or.inl ⟨by kernel_rfl, fun w hSw => ?_⟩) hS1 ?_
        · obtain ⟨e1, e2, e3, e4, e5, e6, e7, e8⟩ := hSw; go_simp
        simp only [Act.put, List.getElem_toArray, List.getElem_cons_succ, List.getElem_cons_zero, List.setIfInBounds_toArray, List.set_cons_zero, List.set_cons_succ]
        refine wpAnyH_take (i := 20) (v := .agg #[.int .i64 p1, .int .i64 p2]) rfl (by kernel_rfl) (by kernel_rfl) (by kernel_rfl) (fun _ _ _ h => h) (Or.inl ⟨by kernel_rfl, fun w hSw => ?_⟩) hS1 ?_
        · obtain ⟨e1, e2, e3, e4, e5, e6, e7, e8⟩ := hSw; go_simp
        simp only [Act.put, List.getElem_toArray, List.getElem_cons_succ, List.getElem_cons_zero, List.setIfInBounds_toArray, List.set_cons_zero, List.set_cons_succ]
        refine wpAnyH_take (i := 21) (v := .slice (some ⟨g, o, none⟩) n c) rfl (by kernel_rfl) (by kernel_rfl) (by kernel_rfl) (fun _ _ _ h => h) (Or.inl ⟨by kernel_rfl, fun w hSw => ?_⟩) hS1 ?_
        · obtain ⟨e1, e2, e3, e4, e5, e6, e7, e8⟩ := hSw; go_simp
        simp only [Act.put, List.getElem_toArray, List.getElem_cons_succ, List.getElem_cons_zero, List.setIfInBounds_toArray, List.set_cons_zero, List.set_cons_succ]
        refine wpAnyH_take (i := 22) (v := .int .i64 (k : Int)) rfl (by kernel_rfl) (by kernel_rfl) (by kernel_rfl) (fun _ _ _ h => h) (Or.inl ⟨by kernel_rfl, fun w hSw => ?_⟩) hS1 ?_
        · obtain ⟨e1, e2, e3, e4, e5, e6, e7, e8⟩ := hSw; go_simp
        simp only [Act.put, List.getElem_toArray, List.getElem_cons_succ, List.getElem_cons_zero, List.setIfInBounds_toArray, List.set_cons_zero, List.set_cons_succ]
        refine wpAnyH_take (i := 23) (v := .pointer (some ⟨g, o + k * 8, none⟩)) rfl (by kernel_rfl) (by kernel_rfl) (by kernel_rfl) (fun _ _ _ h => h) (Or.inl ⟨by kernel_rfl, fun w hSw => ?_⟩) hS1 ?_
        · obtain ⟨e1, e2, e3, e4, e5, e6, e7, e8⟩ := hSw; go_simp
        simp only [Act.put, List.getElem_toArray, List.getElem_cons_succ, List.getElem_cons_zero, List.setIfInBounds_toArray, List.set_cons_zero, List.set_cons_succ]
        refine wpAnyH_take (i := 24) (v := .pointer (some ⟨g, o + k * 8 + 7, none⟩)) rfl (by kernel_rfl) (by kernel_rfl) (by kernel_rfl) (fun _ _ _ h => h) (Or.inl ⟨by kernel_rfl, fun w hSw => ?_⟩) hS1 ?_
        · obtain ⟨e1, e2, e3, e4, e5, e6, e7, e8⟩ := hSw; go_simp
        simp only [Act.put, List.getElem_toArray, List.getElem_cons_succ, List.getElem_cons_zero, List.setIfInBounds_toArray, List.set_cons_zero, List.set_cons_succ]
        refine wpAnyH_take (i := 25) (v := .string ky) rfl (by kernel_rfl) (by kernel_rfl) (by kernel_rfl) (fun _ _ _ h => h) (Or.inl ⟨by kernel_rfl, fun w hSw => ?_⟩) hS1 ?_
        · obtain ⟨e1, e2, e3, e4, e5, e6, e7, e8⟩ := hSw; go_simp
        simp only [Act.put, List.getElem_toArray, List.getElem_cons_succ, List.getElem_cons_zero, List.setIfInBounds_toArray, List.set_cons_zero, List.set_cons_succ]
        refine wpAnyH_ready (rs := [26]) (by kernel_rfl) (by simp) ?_
        refine AllReadyH.cons rfl (fun K hK => ?_) AllReadyH.nil
        go_simp
        refine HMv.mono ?_
        rintro e W2 ⟨rfl, S2, H3⟩
        refine hK.out _ _ S2 (fun _ => ?_)
        clear hK K
        refine wpAnyH_done (by kernel_rfl) ?_ _
        clear HMv hS1 S2
        go_wp2
        go_roundw
        case rel => exact ⟨k + 1, by omega, by omega, by go_num, H3, HTI⟩
        case measure => simp [intOf]; omega
    · obtain ⟨l, hl⟩ : ∃ l, l = tr (L.take k) := ⟨_, rfl⟩
      rw [← hl] at HS
      have hll : l.length ≤ 40 := by rw [hl]; have := tr_len (L.take k); rw [List.length_take] at this; omega
      have HLt : Hid (∀ x ∈ l, x.time ≤ 1000000) := hid (by rw [hl]; exact fun x hx => HTm.out x (tr_sub hx))
      have HBl := (blocks_tp HS.out.1).mono (R' := fun e W' => ∃ ab nb cb, e = .returned (.slice ab nb cb) ∧ Hid (PS W' ab nb cb (blks l) ∧ TP W' t l (fun j => j < w.heap.size ∨ ∃ ad, ab = some ad ∧ ad.block = j) ∧ Below w.heap.size w W' ∧ nb ≤ 60)) (fun e W' h => by
        obtain ⟨a', c', h1, h2, h3, h4⟩ := h
        exact ⟨a', _, c', h1, hid ⟨h2, h3, HS.out.2.trans h4.bel, by have := blks_len l; omega⟩⟩)
      clear HS HTm hl hL hf HLlen
      go_upto_region 6 with fail
      go_cut [35] from 28 to 35 (fun s wc => s = .bool false ∧ wr = wc)
      case first =>
        by_cases hk1 : k < n
        · have hb1 : decide ((k : Int) < (n : Int)) = true := by simp [hk1]
          have h60 : 40 ≤ k := by omega
          have hb2 : decide ((k : Int) < 40) = false := by simp; omega
          go_wp2_with fail
          go_meet
          case rel => exact ⟨rfl, rfl⟩
        · have hkn : n ≤ k := by omega
          have hb1 : decide ((k : Int) < (n : Int)) = false := by simp; omega
          go_wp2_with fail
          go_meet
          case rel => exact ⟨rfl, rfl⟩
      case rest =>
        obtain ⟨rfl, rfl⟩ := hcut
        go_upto_if 75 with (go_at_call 14; refine HBl.mono ?_; rintro e W2 ⟨ab, nb, cb, rfl, H2⟩)
        clear HBl
        obtain ⟨hps2, hT2, hB2, hnb⟩ := H2.out
        clear H2
        have HB2 := hid hB2
        have HPS2 := hid hps2
        have HT2 := hid hT2
        have hcb := hps2.cap
        clear hps2 hT2 hB2
        by_cases hz : nb = 0
        · subst hz
          go_wp2_with fail
          go_ret
          exact ⟨rfl, HB2.out⟩
        have hnz : ¬ ((nb : Int) = 0) := by omega
        have hb9 : ((nb : Int) == 0) = false := by simpa using hz
        go_upto_if 77 with fail
        go_cut [1] from 71 to 85 (fun s wc => ∃ Y : Int, s = .int .i64 Y ∧ 0 ≤ Y ∧ Y ≤ 9223372036854775807 ∧ W2 = wc)
        case first =>
          by_cases hx : x1 < 0
          · have hb3 : decide (x1 < 0) = true := by simp [hx]
            go_wp2_with fail
            go_meet
            case rel => exact ⟨_, rfl, by first | omega | (rw [IntKind.wrap_i64]; omega), by first | omega | (rw [IntKind.wrap_i64]; omega), rfl⟩
          · have hb3 : decide (x1 < 0) = false := by simpa using hx
            go_wp2_with fail
            go_meet
            case rel => exact ⟨_, rfl, by omega, by omega, rfl⟩
        case rest =>
          obtain ⟨Y1, rfl, hY1, hY1', rfl⟩ := hcut
          go_upto_if 82 with fail
          go_cut [2] from 71 to 85 (fun s wc => ∃ Y : Int, s = .int .i64 Y ∧ 0 ≤ Y ∧ Y ≤ 9223372036854775807 ∧ W2 = wc)
          case first =>
            by_cases hx : x2 < 0
            · have hb3 : decide (x2 < 0) = true := by simp [hx]
              go_wp2_with fail
              go_meet
              case rel => exact ⟨_, rfl, by first | omega | (rw [IntKind.wrap_i64]; omega), by first | omega | (rw [IntKind.wrap_i64]; omega), rfl⟩
            · have hb3 : decide (x2 < 0) = false := by simpa using hx
              go_wp2_with fail
              go_meet
              case rel => exact ⟨_, rfl, by omega, by omega, rfl⟩
          case rest =>
            obtain ⟨Y2, rfl, hY2, hY2', rfl⟩ := hcut
            obtain ⟨J1, hJ1, hJ1'⟩ : ∃ J : Nat, Y1.tmod (nb : Int) = (J : Int) ∧ J < nb := by
              have h1 := Int.tmod_nonneg (nb : Int) hY1
              have h2 := Int.tmod_lt_of_pos Y1 (b := (nb : Int)) (by omega)
              exact ⟨(Y1.tmod (nb : Int)).toNat, by omega, by omega⟩
            obtain ⟨J2, hJ2, hJ2'⟩ : ∃ J : Nat, Y2.tmod ((nb : Int) + 1) = (J : Int) ∧ J < nb + 1 := by
              have h1 := Int.tmod_nonneg ((nb : Int) + 1) hY2
              have h2 := Int.tmod_lt_of_pos Y2 (b := (nb : Int) + 1) (by omega)
              exact ⟨(Y2.tmod ((nb : Int) + 1)).toNat, by omega, by omega⟩
            obtain ⟨⟨b1, b2⟩, hb⟩ : ∃ d, (blks l)[J1]? = some d := ⟨_, List.getElem?_eq_getElem (by rw [HPS2.out.len]; exact hJ1')⟩
            have hbm : (b1, b2) ∈ blks l := List.mem_of_getElem? hb
            have HLog := hid HT2.out.log
            have hbw := blks_dw HLog.out.2.1 _ hbm
            obtain ⟨gb, ob, rfl, hgb, _, hlk2⟩ := HPS2.out.look hb
            obtain ⟨kb0, kb1⟩ := hlk2 W2 rfl
            have HPSV : Hid (∀ V : World, V.heap[gb]? = W2.heap[gb]? → PS V (some ⟨gb, ob, none⟩) nb cb (blks l)) := hid (fun V hV => HPS2.out.same (fun ad e => by cases e; exact hV))
            have HTr : Calls Try.prog 21 #[] (W2.alloc (.cells #[.int .i64 b1, .int .i64 b2] 24)) fun e W3 => e = .returned (.agg #[.int .i64 0, .int .i64 (-2)]) ∧ Hid (Below (W2.alloc (.cells #[.int .i64 b1, .int .i64 b2] 24)).heap.size (W2.alloc (.cells #[.int .i64 b1, .int .i64 b2] 24)) W3) := (trash_any _).mono (fun e W3 h => ⟨h.1, hid h.2.below⟩)
            have hgbs : gb < W2.heap.size := hgb
            have HBM := hid hbm
            have HBW := hid hbw
            clear hlk2 hbm hbw hb
            go_upto_if 101 with (go_at_call 21; refine HTr.mono ?_; rintro e W3 ⟨rfl, H3⟩)
            clear HTr kb0 kb1
            have h3z : W2.heap.size + 1 ≤ W3.heap.size := by have := H3.out.size; simpa using this
            have HK3 : Hid (∀ j, j < W2.heap.size + 1 → W3.heap[j]? = (W2.alloc (.cells #[.int .i64 b1, .int .i64 b2] 24)).heap[j]?) := hid (fun j hj => H3.out.block j (by simpa using hj))
            have H3B : Hid (Below W2.heap.size W2 W3) := hid (((Below.refl _ W2).alloc (Nat.le_refl _) _).trans (H3.out.mono (by simp)))
            clear H3
            go_cut [] from 71 to 109 (fun wc => ∃ p1 p2 : Int, wc = W3.alloc (.cells #[.int .i64 p1, .int .i64 p2] 24) ∧ Hid (((p1, p2) = ((0, -2) : Dt) ∨ (p1, p2) ∈ blks l) ∧ Dw (p1, p2)))
            case first =>
              by_cases hj : J2 < nb
              · have hb3 : decide ((J2 : Int) < (nb : Int)) = true := by simp [hj]
                obtain ⟨⟨p1, p2⟩, hp⟩ : ∃ d, (blks l)[J2]? = some d := ⟨_, List.getElem?_eq_getElem (by rw [HPS2.out.len]; exact hj)⟩
                have hpm : (p1, p2) ∈ blks l := List.mem_of_getElem? hp
                obtain ⟨g', o', e', _, _, hlk3⟩ := HPS2.out.look hp
                cases e'
                have hk4 : (W3.alloc (.cells #[.int .i64 0, .int .i64 (-2)] 24)).heap[gb]? = W2.heap[gb]? := (Below.heap_alloc W3 _ gb (by omega)).trans (H3B.out.block gb hgbs)
                obtain ⟨kp0, kp1⟩ := hlk3 _ hk4
                have HPM : Hid (((p1, p2) = ((0, -2) : Dt) ∨ (p1, p2) ∈ blks l) ∧ Dw (p1, p2)) := hid ⟨Or.inr hpm, blks_dw HLog.out.2.1 _ hpm⟩
                clear hk4 hlk3 hpm hp
                go_wp2_with fail
                go_meet
                case rel => exact ⟨p1, p2, rfl, HPM⟩
              · have hb3 : decide ((J2 : Int) < (nb : Int)) = false := by simp; omega
                have hj' : J2 = nb := by omega
                go_wp2_with fail
                go_meet
                case rel => exact ⟨0, -2, rfl, hid ⟨Or.inl rfl, ⟨rfl, rfl⟩⟩⟩
            case rest =>
              obtain ⟨p1, p2, hwc, HPP⟩ := hcut
              obtain ⟨V0, hV0⟩ : ∃ V0, V0 = wc := ⟨_, rfl⟩
              rw [← hV0]
              rw [← hV0] at hwc
              clear hV0
              clear hJ1 hJ2 hJ1' hJ2' hY1 hY1' hY2 hY2'
              obtain ⟨Q0, hQ0⟩ : ∃ Q0 : Nat → Prop, Q0 = (fun j => (j < w.heap.size ∨ ∃ ad, (some ⟨gb, ob, none⟩ : Option Addr) = some ad ∧ ad.block = j) ∨ j = W2.heap.size ∨ j = W3.heap.size) := ⟨_, rfl⟩
              have hV0z : V0.heap.size = W3.heap.size + 1 := by rw [hwc]; simp
              have k13 : V0.heap[W2.heap.size]? = some (.cells #[.int .i64 b1, .int .i64 b2] 24 (0, 0)) := by
                rw [hwc]
                exact (Below.heap_alloc W3 _ _ (by omega)).trans ((HK3.out _ (by omega)).trans (World.alloc_heap_new W2 _))
              have k14 : V0.heap[W3.heap.size]? = some (.cells #[.int .i64 p1, .int .i64 p2] 24 (0, 0)) := by rw [hwc]; exact World.alloc_heap_new W3 _
              have kW2 : ∀ j, j < W2.heap.size → V0.heap[j]? = W2.heap[j]? := fun j hj => by
                rw [hwc]
                exact (Below.heap_alloc W3 _ _ (by omega)).trans (H3B.out.block j hj)
              have hsm0 : Sm W2 V0 := (Sm.b H3B.out).trans (by rw [hwc]; exact ⟨rfl, rfl, rfl⟩)
              have HT0 : Hid (TP V0 t l Q0) := hid (HT2.out.turn (by omega) (fun j hj _ => kW2 j hj) (fun j hj => by
                rw [hQ0] at hj
                rcases hj with hj | rfl | rfl
                · exact Or.inl hj
                · exact Or.inr ⟨Nat.le_refl _, by omega⟩
                · exact Or.inr ⟨by omega, by omega⟩))
              have HBE : Hid (∀ V, KP Q0 V0 V → Below w.heap.size w V) := hid (fun V hV => by
                have h1 : Below w.heap.size W2 V := ⟨(hsm0.trans hV.sm).1, (hsm0.trans hV.sm).2.1, (hsm0.trans hV.sm).2.2, by have := hV.size; omega, fun j hj => (hV.keep j (by rw [hQ0]; exact Or.inl (Or.inl hj))).trans (kW2 j (Nat.lt_of_lt_of_le hj HB2.out.size))⟩
                exact HB2.out.trans h1)
              have HC : Hid (∀ V, (TP V t l Q0 ∧ KP Q0 V0 V) → (V.cell? ⟨W2.heap.size, 0, none⟩ = some (.int .i64 b1) ∧ V.cell? ⟨W2.heap.size, 1, none⟩ = some (.int .i64 b2) ∧ V.cell? ⟨W3.heap.size, 0, none⟩ = some (.int .i64 p1) ∧ V.cell? ⟨W3.heap.size, 1, none⟩ = some (.int .i64 p2))) := hid (fun V hV => by
                have e0 := (hV.2.keep W2.heap.size (by rw [hQ0]; exact Or.inr (Or.inl rfl))).trans k13
                have e1 := (hV.2.keep W3.heap.size (by rw [hQ0]; exact Or.inr (Or.inr rfl))).trans k14
                exact ⟨by simp [World.cell?, e0], by simp [World.cell?, e0], by simp [World.cell?, e1], by simp [World.cell?, e1]⟩)
              have HPB : Hid (∀ V, KP Q0 V0 V → PS V (some ⟨gb, ob, none⟩) nb cb (blks l)) := hid (fun V hV => HPSV.out V ((hV.keep gb (by rw [hQ0]; exact Or.inl (Or.inr ⟨_, rfl, rfl⟩))).trans (kW2 gb hgbs)))
              have HZ : Hid (∀ V, KP Q0 V0 V → W2.heap.size < V.heap.size ∧ W3.heap.size < V.heap.size) := hid (fun V hV => by have := hV.size; omega)
              have HPa : Hid (∀ V, (TP V t l Q0 ∧ KP Q0 V0 V) → Calls Try.prog 20 #[.pointer (some ⟨t, 0, none⟩), .agg #[.int .i64 p1, .int .i64 p2]] V fun e V' => ∃ ap np cp, e = .returned (.slice ap np cp) ∧ Hid ((TP V' t l Q0 ∧ KP Q0 V0 V') ∧ PS V' ap np cp (pth (run l) (p1, p2)) ∧ np ≤ 1000)) := hid (fun V h => (path_tp (p1, p2) h.1 HPP.out.2).mono (fun e V' g => by
                obtain ⟨a', c', g1, g2, g3, g4⟩ := g
                refine ⟨a', _, c', g1, hid ⟨⟨g3.mono (fun j hj => Or.inl hj), h.2.trans g4⟩, g2, ?_⟩⟩
                obtain ⟨r, hr⟩ := HLog.out.1.run_tk
                have := hr.pth_len (p1, p2)
                have := run_len l
                omega))
              obtain ⟨MI, hMI⟩ : ∃ MI, MI = decide ((b1, b2) ∈ pth (run l) (p1, p2)) := ⟨_, rfl⟩
              have HIn : Hid (∀ V ap np cp, ((TP V t l Q0 ∧ KP Q0 V0 V) ∧ PS V ap np cp (pth (run l) (p1, p2)) ∧ np ≤ 1000) → Calls Try.prog 22 #[.slice ap np cp, .agg #[.int .i64 b1, .int .i64 b2]] V fun e V' => e = .returned (.bool MI) ∧ Hid (TP V' t l Q0 ∧ KP Q0 V0 V')) := hid (fun V ap np cp h => (in_any _ _ _ _ (b1, b2) V h.2.1 (by have := h.2.2; omega)).mono (fun e V' g => ⟨by rw [g.1, hMI], hid ⟨h.1.1.below g.2.below, h.1.2.trans (KP.below g.2.below h.1.1.lt)⟩⟩))
              obtain ⟨⟨⟨q1, q2⟩, qk⟩, hq⟩ := Option.isSome_iff_exists.1 (blks_mem.1 HBM.out)
              have HQL := hid hq
              have HPar1 : Hid (∀ V, (TP V t l Q0 ∧ KP Q0 V0 V) → Calls Try.prog 16 #[.pointer (some ⟨t, 0, none⟩), .agg #[.int .i64 b1, .int .i64 b2]] V fun e V' => e = .returned (.tuple #[.agg #[.int .i64 q1, .int .i64 q2], .string qk, .bool true]) ∧ Hid (TP V' t l Q0 ∧ KP Q0 V0 V')) := hid (fun V h => by
                have := parent_tp (b1, b2) h.1 HBW.out
                rw [hq] at this
                exact this.mono (fun e V' g => ⟨g.1, hid ⟨g.2.1, h.2.trans g.2.2⟩⟩))
              obtain ⟨MB, hMB⟩ : ∃ MB, MB = mayB l (b1, b2) (p1, p2) := ⟨_, rfl⟩
              obtain ⟨l', hl'⟩ : ∃ l', l' = mvL l ⟨(99, 99), 1000001, (b1, b2), (p1, p2), key⟩ := ⟨_, rfl⟩
              obtain ⟨E, hE⟩ : ∃ E, E = mvE l ⟨(99, 99), 1000001, (b1, b2), (p1, p2), key⟩ := ⟨_, rfl⟩
              obtain ⟨r1, r2, rk, hrr⟩ : ∃ r1 r2 rk, (if MB = true then (((p1, p2), key) : Pl) else ((q1, q2), qk)) = ((r1, r2), rk) := ⟨_, _, _, rfl⟩
              have HEE : Hid (E = 32 ∨ (E = 0 ∧ tookB l' (99, 99) = MB ∧ lk (run l') (b1, b2) = some ((r1, r2), rk) ∧ blks l' = blks l)) := hid (by
                rcases mvE_cases l ⟨(99, 99), 1000001, (b1, b2), (p1, p2), key⟩ with ⟨_, h⟩ | ⟨h, _⟩ | ⟨h, _, _, h3⟩
                · exact absurd ⟨show mayT (99, 99) = true by decide +kernel, blk_may HLog.out.1 HBM.out⟩ h
                · exact Or.inl (by rw [hE, h])
                · obtain ⟨f1, f2, f3, f4⟩ := last_facts (key := key) HLog.out.1 HLt.out HBM.out HPP.out.1 hq h3
                  rw [← hl'] at f2 f3 f4
                  rw [← hMB] at f2 f3
                  rw [hrr] at f3
                  exact Or.inr ⟨by rw [hE, h], f2, f3, f4⟩)
              have HMvL : Hid (∀ V P, TP V t l P → Calls Try.prog 12 #[.pointer (some ⟨t, 0, none⟩), .agg #[.int .i64 99, .int .i64 99], .int .i64 1000001, .agg #[.int .i64 b1, .int .i64 b2], .agg #[.int .i64 p1, .int .i64 p2], .string key] V fun e V' => e = .returned (.int .i64 E) ∧ TP V' t l' P ∧ KP P V V') := hid (fun V P h => by
                have := move_tp ⟨(99, 99), 1000001, (b1, b2), (p1, p2), key⟩ h ⟨⟨rfl, rfl⟩, HBW.out, HPP.out.2⟩ (by omega)
                rw [← hE, ← hl'] at this
                exact this)
              have HRR := hid hrr
              have HQ13 : Hid (Q0 W2.heap.size) := hid (by rw [hQ0]; exact Or.inr (Or.inl rfl))
              have HQ14 : Hid (Q0 W3.heap.size) := hid (by rw [hQ0]; exact Or.inr (Or.inr rfl))
              have HK13 := hid k13
              have HK14 := hid k14
              have HMB := hid hMB
              have HMI := hid hMI
              have S22d : TP V0.drew t l Q0 ∧ KP Q0 V0 V0.drew := ⟨HT0.out.drew, (KP.refl _ _).drew⟩
              have hS22 := HC.out _ S22d
              clear hwc hV0z k13 k14 kW2 hsm0 hQ0 hq hMB hMI hl' hE hrr hgb hgbs h3z HK3 H3B HLt
              go_upto_region 22 with fail
              go_cut [15] from 71 to 120 (fun s wc => s = .bool MB ∧ Hid (TP wc t l Q0 ∧ KP Q0 V0 wc))
              case first =>
                by_cases hpe : p1 = b1
                · by_cases hpe2 : p2 = b2
                  · obtain ⟨rfl, rfl⟩ : b1 = p1 ∧ b2 = p2 := ⟨hpe.symm, hpe2.symm⟩
                    have hmb : MB = false := by rw [HMB.out]; unfold mayB; simp
                    subst hmb
                    clear hpe hpe2
                    refine wp_region_held_drew (S := fun w' => w'.cell? ⟨W2.heap.size, 0, none⟩ = some (.int .i64 b1) ∧ w'.cell? ⟨W2.heap.size, 1, none⟩ = some (.int .i64 b2) ∧ w'.cell? ⟨W3.heap.size, 0, none⟩ = some (.int .i64 b1) ∧ w'.cell? ⟨W3.heap.size, 1, none⟩ = some (.int .i64 b2)) hmxo hS22 ?_
                    intro _
                    refine wpAnyH_take (i := 0) (v := .agg #[.int .i64 b1, .int .i64 b2]) rfl (by kernel_rfl) (by kernel_rfl) (by kernel_rfl) (fun _ _ _ h => h) (Or.inl ⟨by kernel_rfl, fun w hSw => ?_⟩) hS22 ?_
                    · obtain ⟨e1, e2, e3, e4⟩ := hSw; go_simp
                    simp only [Act.put, List.getElem_toArray, List.getElem_cons_succ, List.getElem_cons_zero, List.setIfInBounds_toArray, List.set_cons_zero, List.set_cons_succ]
                    refine wpAnyH_take (i := 1) (v := .agg #[.int .i64 b1, .int .i64 b2]) rfl (by kernel_rfl) (by kernel_rfl) (by kernel_rfl) (fun _ _ _ h => h) (Or.inl ⟨by kernel_rfl, fun w hSw => ?_⟩) hS22 ?_
                    · obtain ⟨e1, e2, e3, e4⟩ := hSw; go_simp
                    simp only [Act.put, List.getElem_toArray, List.getElem_cons_succ, List.getElem_cons_zero, List.setIfInBounds_toArray, List.set_cons_zero, List.set_cons_succ]
                    refine wpAnyH_take (i := 2) (v := .bool false) rfl (by kernel_rfl) (by kernel_rfl) (by kernel_rfl) (fun _ _ _ h => h) (Or.inl ⟨by kernel_rfl, fun w hSw => ?_⟩) hS22 ?_
                    · obtain ⟨e1, e2, e3, e4⟩ := hSw; go_simp
                    simp only [Act.put, List.getElem_toArray, List.getElem_cons_succ, List.getElem_cons_zero, List.setIfInBounds_toArray, List.set_cons_zero, List.set_cons_succ]
                    refine wpAnyH_take (i := 3) (v := .bool false) rfl (by kernel_rfl) (by kernel_rfl) (by kernel_rfl) (fun _ _ _ h => h) (Or.inl ⟨by kernel_rfl, fun w hSw => ?_⟩) hS22 ?_
                    · obtain ⟨e1, e2, e3, e4⟩ := hSw; go_simp
                    simp only [Act.put, List.getElem_toArray, List.getElem_cons_succ, List.getElem_cons_zero, List.setIfInBounds_toArray, List.set_cons_zero, List.set_cons_succ]
                    refine wpAnyH_take (i := 4) (v := undef) rfl (by kernel_rfl) (by kernel_rfl) (by kernel_rfl) (fun _ _ _ h => h) (Or.inr ⟨by kernel_rfl, rfl⟩) hS22 ?_
                    simp only [Act.put, List.getElem_toArray, List.getElem_cons_succ, List.getElem_cons_zero, List.setIfInBounds_toArray, List.set_cons_zero, List.set_cons_succ]
                    refine wpAnyH_take (i := 5) (v := undef) rfl (by kernel_rfl) (by kernel_rfl) (by kernel_rfl) (fun _ _ _ h => h) (Or.inr ⟨by kernel_rfl, rfl⟩) hS22 ?_
                    simp only [Act.put, List.getElem_toArray, List.getElem_cons_succ, List.getElem_cons_zero, List.setIfInBounds_toArray, List.set_cons_zero, List.set_cons_succ]
                    refine wpAnyH_take (i := 6) (v := undef) rfl (by kernel_rfl) (by kernel_rfl) (by kernel_rfl) (fun _ _ _ h => h) (Or.inr ⟨by kernel_rfl, rfl⟩) hS22 ?_
                    simp only [Act.put, List.getElem_toArray, List.getElem_cons_succ, List.getElem_cons_zero, List.setIfInBounds_toArray, List.set_cons_zero, List.set_cons_succ]
                    refine wpAnyH_take (i := 7) (v := undef) rfl (by kernel_rfl) (by kernel_rfl) (by kernel_rfl) (fun _ _ _ h => h) (Or.inr ⟨by kernel_rfl, rfl⟩) hS22 ?_
                    simp only [Act.put, List.getElem_toArray, List.getElem_cons_succ, List.getElem_cons_zero, List.setIfInBounds_toArray, List.set_cons_zero, List.set_cons_succ]
                    refine wpAnyH_take (i := 8) (v := undef) rfl (by kernel_rfl) (by kernel_rfl) (by kernel_rfl) (fun _ _ _ h => h) (Or.inr ⟨by kernel_rfl, rfl⟩) hS22 ?_
                    simp only [Act.put, List.getElem_toArray, List.getElem_cons_succ, List.getElem_cons_zero, List.setIfInBounds_toArray, List.set_cons_zero, List.set_cons_succ]
                    refine wpAnyH_take (i := 9) (v := undef) rfl (by kernel_rfl) (by kernel_rfl) (by kernel_rfl) (fun _ _ _ h => h) (Or.inr ⟨by kernel_rfl, rfl⟩) hS22 ?_
                    simp only [Act.put, List.getElem_toArray, List.getElem_cons_succ, List.getElem_cons_zero, List.setIfInBounds_toArray, List.set_cons_zero, List.set_cons_succ]
                    refine wpAnyH_take (i := 10) (v := .bool false) rfl (by kernel_rfl) (by kernel_rfl) (by kernel_rfl) (fun _ _ _ h => h) (Or.inl ⟨by kernel_rfl, fun w hSw => ?_⟩) hS22 ?_
                    · obtain ⟨e1, e2, e3, e4⟩ := hSw; go_simp
                    simp only [Act.put, List.getElem_toArray, List.getElem_cons_succ, List.getElem_cons_zero, List.setIfInBounds_toArray, List.set_cons_zero, List.set_cons_succ]
                    refine wpAnyH_take (i := 11) (v := .bool false) rfl (by kernel_rfl) (by kernel_rfl) (by kernel_rfl) (fun _ _ _ h => h) (Or.inl ⟨by kernel_rfl, fun w hSw => ?_⟩) hS22 ?_
                    · obtain ⟨e1, e2, e3, e4⟩ := hSw; go_simp
                    simp only [Act.put, List.getElem_toArray, List.getElem_cons_succ, List.getElem_cons_zero, List.setIfInBounds_toArray, List.set_cons_zero, List.set_cons_succ]
                    refine wpAnyH_done (by kernel_rfl) ?_ _
                    go_wp2_with fail
                    go_meet
                    case rel => exact ⟨rfl, hid S22d⟩
                  · have hmb : MB = !MI := by rw [HMB.out, HMI.out]; unfold mayB; simp [hpe2]
                    have HM2 := hid hmb
                    have hpb : (p2 == b2) = false := by simpa using hpe2
                    have hpa : (p1 == b1) = true := by simpa using hpe
                    clear hmb hpe
                    refine wp_region_held_drew (S := fun w' => w'.cell? ⟨W2.heap.size, 0, none⟩ = some (.int .i64 b1) ∧ w'.cell? ⟨W2.heap.size, 1, none⟩ = some (.int .i64 b2) ∧ w'.cell? ⟨W3.heap.size, 0, none⟩ = some (.int .i64 p1) ∧ w'.cell? ⟨W3.heap.size, 1, none⟩ = some (.int .i64 p2)) hmxo hS22 ?_
                    intro _
                    refine wpAnyH_take (i := 0) (v := .agg #[.int .i64 p1, .int .i64 p2]) rfl (by kernel_rfl) (by kernel_rfl) (by kernel_rfl) (fun _ _ _ h => h) (Or.inl ⟨by kernel_rfl, fun w hSw => ?_⟩) hS22 ?_
                    · obtain ⟨e1, e2, e3, e4⟩ := hSw; go_simp
                    simp only [Act.put, List.getElem_toArray, List.getElem_cons_succ, List.getElem_cons_zero, List.setIfInBounds_toArray, List.set_cons_zero, List.set_cons_succ]
                    refine wpAnyH_take (i := 1) (v := .agg #[.int .i64 b1, .int .i64 b2]) rfl (by kernel_rfl) (by kernel_rfl) (by kernel_rfl) (fun _ _ _ h => h) (Or.inl ⟨by kernel_rfl, fun w hSw => ?_⟩) hS22 ?_
                    · obtain ⟨e1, e2, e3, e4⟩ := hSw; go_simp
                    simp only [Act.put, List.getElem_toArray, List.getElem_cons_succ, List.getElem_cons_zero, List.setIfInBounds_toArray, List.set_cons_zero, List.set_cons_succ]
                    refine wpAnyH_take (i := 2) (v := .bool true) rfl (by kernel_rfl) (by kernel_rfl) (by kernel_rfl) (fun _ _ _ h => h) (Or.inl ⟨by kernel_rfl, fun w hSw => ?_⟩) hS22 ?_
                    · obtain ⟨e1, e2, e3, e4⟩ := hSw; go_simp
                    simp only [Act.put, List.getElem_toArray, List.getElem_cons_succ, List.getElem_cons_zero, List.setIfInBounds_toArray, List.set_cons_zero, List.set_cons_succ]
                    refine wpAnyH_take (i := 3) (v := .bool true) rfl (by kernel_rfl) (by kernel_rfl) (by kernel_rfl) (fun _ _ _ h => h) (Or.inl ⟨by kernel_rfl, fun w hSw => ?_⟩) hS22 ?_
                    · obtain ⟨e1, e2, e3, e4⟩ := hSw; go_simp
                    simp only [Act.put, List.getElem_toArray, List.getElem_cons_succ, List.getElem_cons_zero, List.setIfInBounds_toArray, List.set_cons_zero, List.set_cons_succ]
                    refine wpAnyH_take (i := 4) (v := .pointer (some ⟨t, 0, none⟩)) rfl (by kernel_rfl) (by kernel_rfl) (by kernel_rfl) (fun _ _ _ h => h) (Or.inl ⟨by kernel_rfl, fun w hSw => ?_⟩) hS22 ?_
                    · obtain ⟨e1, e2, e3, e4⟩ := hSw; go_simp
                    simp only [Act.put, List.getElem_toArray, List.getElem_cons_succ, List.getElem_cons_zero, List.setIfInBounds_toArray, List.set_cons_zero, List.set_cons_succ]
                    refine wpAnyH_take (i := 5) (v := .agg #[.int .i64 p1, .int .i64 p2]) rfl (by kernel_rfl) (by kernel_rfl) (by kernel_rfl) (fun _ _ _ h => h) (Or.inl ⟨by kernel_rfl, fun w hSw => ?_⟩) hS22 ?_
                    · obtain ⟨e1, e2, e3, e4⟩ := hSw; go_simp
                    simp only [Act.put, List.getElem_toArray, List.getElem_cons_succ, List.getElem_cons_zero, List.setIfInBounds_toArray, List.set_cons_zero, List.set_cons_succ]
                    refine wpAnyH_take (i := 7) (v := .agg #[.int .i64 b1, .int .i64 b2]) rfl (by kernel_rfl) (by kernel_rfl) (by kernel_rfl) (fun _ _ _ h => h) (Or.inl ⟨by kernel_rfl, fun w hSw => ?_⟩) hS22 ?_
                    · obtain ⟨e1, e2, e3, e4⟩ := hSw; go_simp
                    simp only [Act.put, List.getElem_toArray, List.getElem_cons_succ, List.getElem_cons_zero, List.setIfInBounds_toArray, List.set_cons_zero, List.set_cons_succ]
                    refine wpAnyH_ready (rs := [6]) (by kernel_rfl) (by simp) ?_
                    refine AllReadyH.cons rfl (fun K hK => ?_) AllReadyH.nil
                    go_simp
                    refine (HPa.out _ S22d).mono ?_
                    rintro e U1 ⟨ap, np, cp, rfl, S1⟩
                    have hU1 := HC.out _ S1.out.1
                    refine hK.out _ _ hU1 (fun _ => ?_)
                    clear hK K
                    refine wpAnyH_ready (rs := [8]) (by kernel_rfl) (by simp) ?_
                    refine AllReadyH.cons rfl (fun K hK => ?_) AllReadyH.nil
                    go_simp
                    refine (HIn.out _ _ _ _ S1.out).mono ?_
                    rintro e U2 ⟨rfl, S2⟩
                    have hU2 := HC.out _ S2.out
                    refine hK.out _ _ hU2 (fun _ => ?_)
                    clear hK K
                    refine wpAnyH_take (i := 9) (v := .bool (!MI)) rfl (by kernel_rfl) (by kernel_rfl) (by kernel_rfl) (fun _ _ _ h => h) (Or.inl ⟨by kernel_rfl, fun w hSw => ?_⟩) hU2 ?_
                    · obtain ⟨e1, e2, e3, e4⟩ := hSw; go_simp
                    simp only [Act.put, List.getElem_toArray, List.getElem_cons_succ, List.getElem_cons_zero, List.setIfInBounds_toArray, List.set_cons_zero, List.set_cons_succ]
                    refine wpAnyH_take (i := 10) (v := .bool (!MI)) rfl (by kernel_rfl) (by kernel_rfl) (by kernel_rfl) (fun _ _ _ h => h) (Or.inl ⟨by kernel_rfl, fun w hSw => ?_⟩) hU2 ?_
                    · obtain ⟨e1, e2, e3, e4⟩ := hSw; go_simp
                    simp only [Act.put, List.getElem_toArray, List.getElem_cons_succ, List.getElem_cons_zero, List.setIfInBounds_toArray, List.set_cons_zero, List.set_cons_succ]
                    refine wpAnyH_take (i := 11) (v := .bool (!MI)) rfl (by kernel_rfl) (by kernel_rfl) (by kernel_rfl) (fun _ _ _ h => h) (Or.inl ⟨by kernel_rfl, fun w hSw => ?_⟩) hU2 ?_
                    · obtain ⟨e1, e2, e3, e4⟩ := hSw; go_simp
                    simp only [Act.put, List.getElem_toArray, List.getElem_cons_succ, List.getElem_cons_zero, List.setIfInBounds_toArray, List.set_cons_zero, List.set_cons_succ]
                    refine wpAnyH_done (by kernel_rfl) ?_ _
                    go_wp2_with fail
                    go_meet
                    case rel => exact ⟨by rw [HM2.out], S2⟩
                · have hmb : MB = !MI := by rw [HMB.out, HMI.out]; unfold mayB; simp [hpe]
                  have HM2 := hid hmb
                  have hpb : (p1 == b1) = false := by simpa using hpe
                  clear hmb
                  refine wp_region_held_drew (S := fun w' => w'.cell? ⟨W2.heap.size, 0, none⟩ = some (.int .i64 b1) ∧ w'.cell? ⟨W2.heap.size, 1, none⟩ = some (.int .i64 b2) ∧ w'.cell? ⟨W3.heap.size, 0, none⟩ = some (.int .i64 p1) ∧ w'.cell? ⟨W3.heap.size, 1, none⟩ = some (.int .i64 p2)) hmxo hS22 ?_
                  intro _
                  refine wpAnyH_take (i := 0) (v := .agg #[.int .i64 p1, .int .i64 p2]) rfl (by kernel_rfl) (by kernel_rfl) (by kernel_rfl) (fun _ _ _ h => h) (Or.inl ⟨by kernel_rfl, fun w hSw => ?_⟩) hS22 ?_
                  · obtain ⟨e1, e2, e3, e4⟩ := hSw; go_simp
                  simp only [Act.put, List.getElem_toArray, List.getElem_cons_succ, List.getElem_cons_zero, List.setIfInBounds_toArray, List.set_cons_zero, List.set_cons_succ]
                  refine wpAnyH_take (i := 1) (v := .agg #[.int .i64 b1, .int .i64 b2]) rfl (by kernel_rfl) (by kernel_rfl) (by kernel_rfl) (fun _ _ _ h => h) (Or.inl ⟨by kernel_rfl, fun w hSw => ?_⟩) hS22 ?_
                  · obtain ⟨e1, e2, e3, e4⟩ := hSw; go_simp
                  simp only [Act.put, List.getElem_toArray, List.getElem_cons_succ, List.getElem_cons_zero, List.setIfInBounds_toArray, List.set_cons_zero, List.set_cons_succ]
                  refine wpAnyH_take (i := 2) (v := .bool true) rfl (by kernel_rfl) (by kernel_rfl) (by kernel_rfl) (fun _ _ _ h => h) (Or.inl ⟨by kernel_rfl, fun w hSw => ?_⟩) hS22 ?_
                  · obtain ⟨e1, e2, e3, e4⟩ := hSw; go_simp
                  simp only [Act.put, List.getElem_toArray, List.getElem_cons_succ, List.getElem_cons_zero, List.setIfInBounds_toArray, List.set_cons_zero, List.set_cons_succ]
                  refine wpAnyH_take (i := 3) (v := .bool true) rfl (by kernel_rfl) (by kernel_rfl) (by kernel_rfl) (fun _ _ _ h => h) (Or.inl ⟨by kernel_rfl, fun w hSw => ?_⟩) hS22 ?_
                  · obtain ⟨e1, e2, e3, e4⟩ := hSw; go_simp
                  simp only [Act.put, List.getElem_toArray, List.getElem_cons_succ, List.getElem_cons_zero, List.setIfInBounds_toArray, List.set_cons_zero, List.set_cons_succ]
                  refine wpAnyH_take (i := 4) (v := .pointer (some ⟨t, 0, none⟩)) rfl (by kernel_rfl) (by kernel_rfl) (by kernel_rfl) (fun _ _ _ h => h) (Or.inl ⟨by kernel_rfl, fun w hSw => ?_⟩) hS22 ?_
                  · obtain ⟨e1, e2, e3, e4⟩ := hSw; go_simp
                  simp only [Act.put, List.getElem_toArray, List.getElem_cons_succ, List.getElem_cons_zero, List.setIfInBounds_toArray, List.set_cons_zero, List.set_cons_succ]
                  refine wpAnyH_take (i := 5) (v := .agg #[.int .i64 p1, .int .i64 p2]) rfl (by kernel_rfl) (by kernel_rfl) (by kernel_rfl) (fun _ _ _ h => h) (Or.inl ⟨by kernel_rfl, fun w hSw => ?_⟩) hS22 ?_
                  · obtain ⟨e1, e2, e3, e4⟩ := hSw; go_simp
                  simp only [Act.put, List.getElem_toArray, List.getElem_cons_succ, List.getElem_cons_zero, List.setIfInBounds_toArray, List.set_cons_zero, List.set_cons_succ]
                  refine wpAnyH_take (i := 7) (v := .agg #[.int .i64 b1, .int .i64 b2]) rfl (by kernel_rfl) (by kernel_rfl) (by kernel_rfl) (fun _ _ _ h => h) (Or.inl ⟨by kernel_rfl, fun w hSw => ?_⟩) hS22 ?_
                  · obtain ⟨e1, e2, e3, e4⟩ := hSw; go_simp
                  simp only [Act.put, List.getElem_toArray, List.getElem_cons_succ, List.getElem_cons_zero, List.setIfInBounds_toArray, List.set_cons_zero, List.set_cons_succ]
                  refine wpAnyH_ready (rs := [6]) (by kernel_rfl) (by simp) ?_
                  refine AllReadyH.cons rfl (fun K hK => ?_) AllReadyH.nil
                  go_simp
                  refine (HPa.out _ S22d).mono ?_
                  rintro e U1 ⟨ap, np, cp, rfl, S1⟩
                  have hU1 := HC.out _ S1.out.1
                  refine hK.out _ _ hU1 (fun _ => ?_)
                  clear hK K
                  refine wpAnyH_ready (rs := [8]) (by kernel_rfl) (by simp) ?_
                  refine AllReadyH.cons rfl (fun K hK => ?_) AllReadyH.nil
                  go_simp
                  refine (HIn.out _ _ _ _ S1.out).mono ?_
                  rintro e U2 ⟨rfl, S2⟩
                  have hU2 := HC.out _ S2.out
                  refine hK.out _ _ hU2 (fun _ => ?_)
                  clear hK K
                  refine wpAnyH_take (i := 9) (v := .bool (!MI)) rfl (by kernel_rfl) (by kernel_rfl) (by kernel_rfl) (fun _ _ _ h => h) (Or.inl ⟨by kernel_rfl, fun w hSw => ?_⟩) hU2 ?_
                  · obtain ⟨e1, e2, e3, e4⟩ := hSw; go_simp
                  simp only [Act.put, List.getElem_toArray, List.getElem_cons_succ, List.getElem_cons_zero, List.setIfInBounds_toArray, List.set_cons_zero, List.set_cons_succ]
                  refine wpAnyH_take (i := 10) (v := .bool (!MI)) rfl (by kernel_rfl) (by kernel_rfl) (by kernel_rfl) (fun _ _ _ h => h) (Or.inl ⟨by kernel_rfl, fun w hSw => ?_⟩) hU2 ?_
                  · obtain ⟨e1, e2, e3, e4⟩ := hSw; go_simp
                  simp only [Act.put, List.getElem_toArray, List.getElem_cons_succ, List.getElem_cons_zero, List.setIfInBounds_toArray, List.set_cons_zero, List.set_cons_succ]
                  refine wpAnyH_take (i := 11) (v := .bool (!MI)) rfl (by kernel_rfl) (by kernel_rfl) (by kernel_rfl) (fun _ _ _ h => h) (Or.inl ⟨by kernel_rfl, fun w hSw => ?_⟩) hU2 ?_
                  · obtain ⟨e1, e2, e3, e4⟩ := hSw; go_simp
                  simp only [Act.put, List.getElem_toArray, List.getElem_cons_succ, List.getElem_cons_zero, List.setIfInBounds_toArray, List.set_cons_zero, List.set_cons_succ]
                  refine wpAnyH_done (by kernel_rfl) ?_ _
                  go_wp2_with fail
                  go_meet
                  case rel => exact ⟨by rw [HM2.out], S2⟩
              case rest =>
                obtain ⟨rfl, S1⟩ := hcut
                clear hS22 S22d HPa HIn
                obtain ⟨f0, f1, f2, f3⟩ := HC.out _ S1.out
                have HV3 : Hid (∀ V2, (TP V2 t l Q0 ∧ KP Q0 V0 V2) → (TP ((V2.alloc (.cells #[.int .i64 q1, .int .i64 q2] 24)).alloc (.cells #[.int .i64 99, .int .i64 99] 24)) t l (fun j => Q0 j ∨ j = V2.heap.size ∨ j = V2.heap.size + 1) ∧ KP Q0 V0 ((V2.alloc (.cells #[.int .i64 q1, .int .i64 q2] 24)).alloc (.cells #[.int .i64 99, .int .i64 99] 24)))) := hid (fun V2 h => by
                  have hb : Below V2.heap.size V2 ((V2.alloc (.cells #[.int .i64 q1, .int .i64 q2] 24)).alloc (.cells #[.int .i64 99, .int .i64 99] 24)) := ((Below.refl _ V2).alloc (Nat.le_refl _) _).alloc (by simp) _
                  refine ⟨h.1.turn hb.size (fun j hj _ => hb.block j hj) (fun j hj => ?_), h.2.trans (KP.below hb h.1.lt)⟩
                  rcases hj with hj | rfl | rfl
                  · exact Or.inl hj
                  · exact Or.inr ⟨Nat.le_refl _, by simp; omega⟩
                  · exact Or.inr ⟨by omega, by simp⟩)
                have HC4 : Hid (∀ V2 V, (TP V2 t l Q0 ∧ KP Q0 V0 V2) → KP (fun j => Q0 j ∨ j = V2.heap.size ∨ j = V2.heap.size + 1) ((V2.alloc (.cells #[.int .i64 q1, .int .i64 q2] 24)).alloc (.cells #[.int .i64 99, .int .i64 99] 24)) V → KP Q0 V0 V → TP V t l' Q0 ∨ True → ((V.cell? ⟨W2.heap.size, 0, none⟩ = some (.int .i64 b1) ∧ V.cell? ⟨W2.heap.size, 1, none⟩ = some (.int .i64 b2) ∧ V.cell? ⟨W3.heap.size, 0, none⟩ = some (.int .i64 p1) ∧ V.cell? ⟨W3.heap.size, 1, none⟩ = some (.int .i64 p2)) ∧ V.cell? ⟨V2.heap.size, 0, none⟩ = some (.int .i64 q1) ∧ V.cell? ⟨V2.heap.size, 1, none⟩ = some (.int .i64 q2) ∧ V.cell? ⟨V2.heap.size + 1, 0, none⟩ = some (.int .i64 99) ∧ V.cell? ⟨V2.heap.size + 1, 1, none⟩ = some (.int .i64 99) ∧ W2.heap.size < V.heap.size ∧ W3.heap.size < V.heap.size ∧ V2.heap.size < V.heap.size ∧ V2.heap.size + 1 < V.heap.size)) := hid (fun V2 V h2 h3 h0 _ => by
                  have y16 : ((V2.alloc (.cells #[.int .i64 q1, .int .i64 q2] 24)).alloc (.cells #[.int .i64 99, .int .i64 99] 24)).heap[V2.heap.size]? = some (.cells #[.int .i64 q1, .int .i64 q2] 24 (0, 0)) := (Below.heap_alloc _ _ _ (by simp)).trans (World.alloc_heap_new V2 _)
                  have y19 : ((V2.alloc (.cells #[.int .i64 q1, .int .i64 q2] 24)).alloc (.cells #[.int .i64 99, .int .i64 99] 24)).heap[V2.heap.size + 1]? = some (.cells #[.int .i64 99, .int .i64 99] 24 (0, 0)) := by
                    have := World.alloc_heap_new (V2.alloc (.cells #[.int .i64 q1, .int .i64 q2] 24)) (.cells #[.int .i64 99, .int .i64 99] 24)
                    rw [World.size_alloc] at this
                    exact this
                  have e0 := (h3.keep V2.heap.size (Or.inr (Or.inl rfl))).trans y16
                  have e1 := (h3.keep (V2.heap.size + 1) (Or.inr (Or.inr rfl))).trans y19
                  obtain ⟨z1, z2⟩ := HZ.out _ h0
                  have l0 := (Array.getElem?_eq_some_iff.1 e0).1
                  have l1 := (Array.getElem?_eq_some_iff.1 e1).1
                  have c0 : V.cell? ⟨W2.heap.size, 0, none⟩ = some (.int .i64 b1) ∧ V.cell? ⟨W2.heap.size, 1, none⟩ = some (.int .i64 b2) ∧ V.cell? ⟨W3.heap.size, 0, none⟩ = some (.int .i64 p1) ∧ V.cell? ⟨W3.heap.size, 1, none⟩ = some (.int .i64 p2) := by
                    obtain ⟨y0, y1, y2, y3⟩ := HC.out _ h2
                    have k0 := (h0.keep W2.heap.size HQ13.out).trans HK13.out
                    have k1 := (h0.keep W3.heap.size HQ14.out).trans HK14.out
                    exact ⟨by simp [World.cell?, k0], by simp [World.cell?, k0], by simp [World.cell?, k1], by simp [World.cell?, k1]⟩
                  exact ⟨c0, by simp [World.cell?, e0], by simp [World.cell?, e0], by simp [World.cell?, e1], by simp [World.cell?, e1], z1, z2, l0, l1⟩)
                have HMv : Hid (∀ V2, (TP V2 t l Q0 ∧ KP Q0 V0 V2) → Calls Try.prog 12 #[.pointer (some ⟨t, 0, none⟩), .agg #[.int .i64 99, .int .i64 99], .int .i64 1000001, .agg #[.int .i64 b1, .int .i64 b2], .agg #[.int .i64 p1, .int .i64 p2], .string key] ((V2.alloc (.cells #[.int .i64 q1, .int .i64 q2] 24)).alloc (.cells #[.int .i64 99, .int .i64 99] 24)) fun e V => e = .returned (.int .i64 E) ∧ Hid (TP V t l' (fun j => Q0 j ∨ j = V2.heap.size ∨ j = V2.heap.size + 1) ∧ KP (fun j => Q0 j ∨ j = V2.heap.size ∨ j = V2.heap.size + 1) ((V2.alloc (.cells #[.int .i64 q1, .int .i64 q2] 24)).alloc (.cells #[.int .i64 99, .int .i64 99] 24)) V ∧ KP Q0 V0 V)) := hid (fun V2 h => (HMvL.out _ _ (HV3.out V2 h).1).mono (fun e V g => ⟨g.1, hid ⟨g.2.1, g.2.2, (HV3.out V2 h).2.trans (g.2.2.mono (fun j hj => Or.inl hj))⟩⟩))
                go_upto_if 136 with (first
                  | (go_at_call 12; refine (HMv.out _ S2.out).mono ?_; rintro e V4 ⟨rfl, S4⟩)
                  | (go_at_call 16; refine (HPar1.out _ S1.out).mono ?_; rintro e V2 ⟨rfl, S2⟩; obtain ⟨g0, g1, g2, g3⟩ := HC.out _ S2.out; obtain ⟨z13, z14⟩ := HZ.out _ S2.out.2))
                clear g0 g1 g2 g3 f0 f1 f2 f3 z13 z14 HMv HPar1
                by_cases hE32 : E = 32
                · subst hE32
                  clear HC4
                  go_wp2_with fail
                  go_ret
                  exact ⟨rfl, HBE.out _ S4.out.2.2⟩
                · have hbE : (E == 32) = false := by simpa using hE32
                  obtain ⟨hE0, hto, hlk, hbk⟩ := HEE.out.resolve_left hE32
                  subst hE0
                  have HPar2 : Calls Try.prog 16 #[.pointer (some ⟨t, 0, none⟩), .agg #[.int .i64 b1, .int .i64 b2]] V4 fun e V => e = .returned (.tuple #[.agg #[.int .i64 r1, .int .i64 r2], .string rk, .bool true]) ∧ Hid (TP V t l' (fun j => Q0 j ∨ j = V2.heap.size ∨ j = V2.heap.size + 1) ∧ KP (fun j => Q0 j ∨ j = V2.heap.size ∨ j = V2.heap.size + 1) ((V2.alloc (.cells #[.int .i64 q1, .int .i64 q2] 24)).alloc (.cells #[.int .i64 99, .int .i64 99] 24)) V ∧ KP Q0 V0 V) := by
                    have := parent_tp (b1, b2) S4.out.1 HBW.out
                    rw [hlk] at this
                    exact this.mono (fun e V g => ⟨g.1, hid ⟨g.2.1, S4.out.2.1.trans g.2.2, S4.out.2.2.trans (g.2.2.mono (fun j hj => Or.inl hj))⟩⟩)
                  have HTo : Hid (∀ V5, (TP V5 t l' (fun j => Q0 j ∨ j = V2.heap.size ∨ j = V2.heap.size + 1) ∧ KP (fun j => Q0 j ∨ j = V2.heap.size ∨ j = V2.heap.size + 1) ((V2.alloc (.cells #[.int .i64 q1, .int .i64 q2] 24)).alloc (.cells #[.int .i64 99, .int .i64 99] 24)) V5 ∧ KP Q0 V0 V5) → Calls Try.prog 18 #[.pointer (some ⟨t, 0, none⟩), .agg #[.int .i64 99, .int .i64 99]] (V5.alloc (.cells #[.int .i64 r1, .int .i64 r2] 24)) fun e V => e = .returned (.bool MB) ∧ ((V.cell? ⟨W2.heap.size, 0, none⟩ = some (.int .i64 b1) ∧ V.cell? ⟨W2.heap.size, 1, none⟩ = some (.int .i64 b2) ∧ V.cell? ⟨W3.heap.size, 0, none⟩ = some (.int .i64 p1) ∧ V.cell? ⟨W3.heap.size, 1, none⟩ = some (.int .i64 p2)) ∧ V.cell? ⟨V2.heap.size, 0, none⟩ = some (.int .i64 q1) ∧ V.cell? ⟨V2.heap.size, 1, none⟩ = some (.int .i64 q2) ∧ V.cell? ⟨V2.heap.size + 1, 0, none⟩ = some (.int .i64 99) ∧ V.cell? ⟨V2.heap.size + 1, 1, none⟩ = some (.int .i64 99) ∧ W2.heap.size < V.heap.size ∧ W3.heap.size < V.heap.size ∧ V2.heap.size < V.heap.size ∧ V2.heap.size + 1 < V.heap.size) ∧ V.cell? ⟨V5.heap.size, 0, none⟩ = some (.int .i64 r1) ∧ V.cell? ⟨V5.heap.size, 1, none⟩ = some (.int .i64 r2) ∧ Hid (TP V t l' Q0 ∧ KP Q0 V0 V)) := hid (fun V5 h => by
                    have hal := h.1.alloc (.cells #[.int .i64 r1, .int .i64 r2] 24)
                    have hbl : Below V5.heap.size V5 (V5.alloc (.cells #[.int .i64 r1, .int .i64 r2] 24)) := (Below.refl _ V5).alloc (Nat.le_refl _) _
                    have := took_tp (99, 99) hal ⟨rfl, rfl⟩
                    rw [hto] at this
                    refine this.mono (fun e V g => ?_)
                    have k1 : KP (fun j => Q0 j ∨ j = V2.heap.size ∨ j = V2.heap.size + 1) ((V2.alloc (.cells #[.int .i64 q1, .int .i64 q2] 24)).alloc (.cells #[.int .i64 99, .int .i64 99] 24)) V := h.2.1.trans ((KP.below hbl h.1.lt).trans (g.2.2.mono (fun j hj => Or.inl hj)))
                    have k0 : KP Q0 V0 V := h.2.2.trans ((KP.below hbl (fun j hj => h.1.lt j (Or.inl hj))).trans (g.2.2.mono (fun j hj => Or.inl (Or.inl hj))))
                    have x5 : V.heap[V5.heap.size]? = some (.cells #[.int .i64 r1, .int .i64 r2] 24 (0, 0)) := (g.2.2.keep _ (Or.inr rfl)).trans (World.alloc_heap_new V5 _)
                    exact ⟨g.1, HC4.out V2 V S2.out k1 k0 (Or.inr trivial), by simp [World.cell?, x5], by simp [World.cell?, x5], hid ⟨g.2.1.mono (fun j hj => Or.inl (Or.inl hj)), k0⟩⟩)
                  have HBl2 : Hid (∀ V, (TP V t l' Q0 ∧ KP Q0 V0 V) → Calls Try.prog 14 #[.pointer (some ⟨t, 0, none⟩)] V fun e V' => ∃ a8 c8, e = .returned (.slice a8 nb c8) ∧ Hid (PS V' a8 nb c8 (blks l) ∧ KP Q0 V0 V')) := hid (fun V h => (blocks_tp h.1).mono (fun e V' g => by
                    obtain ⟨a', c', g1, g2, g3, g4⟩ := g
                    rw [hbk, HPS2.out.len] at g1 g2
                    exact ⟨a', c', g1, hid ⟨g2, h.2.trans g4⟩⟩))
                  have HSa : Hid (∀ V a8 c8, (PS V a8 nb c8 (blks l) ∧ KP Q0 V0 V) → Calls Try.prog 15 #[.slice a8 nb c8, .slice (some ⟨gb, ob, none⟩) nb cb] V fun e V' => e = .returned (.bool true) ∧ Hid (Below w.heap.size w V')) := hid (fun V a8 c8 h => (fsame_any h.1 (by omega) (HPB.out V h.2) (by omega)).mono (fun e V' g => ⟨by rw [g.1, decide_eq_true (rfl : blks l = blks l)], hid ((HBE.out _ h.2).trans (g.2.mono (HBE.out _ h.2).size))⟩))
                  obtain ⟨⟨c0, c1, c2, c3⟩, c4, c5, c6, c7, n0, n1, n2, n3⟩ := HC4.out V2 V4 S2.out S4.out.2.1 S4.out.2.2 (Or.inr trivial)
                  clear hlk hto hbk
                  have armP : True := trivial
                  cases hMB : MB with
                  | true =>
                    subst hMB
                    obtain ⟨⟨rfl, rfl⟩, rfl⟩ : (p1 = r1 ∧ p2 = r2) ∧ key = rk := by have := HRR.out; simpa using this
                    go_wp2_with (first
                      | (go_at_call 15; refine (HSa.out _ _ _ S8.out).mono ?_; rintro e V9 ⟨rfl, S9⟩)
                      | (go_at_call 14; refine (HBl2.out _ S7.out).mono ?_; rintro e V8 ⟨a8, c8, rfl, S8⟩)
                      | (go_at_call 18; refine (HTo.out _ S5.out).mono ?_; rintro e V7 ⟨rfl, ⟨⟨d0, d1, d2, d3⟩, d4, d5, d6, d7, m0, m1, m2, m3⟩, d8, d9, S7⟩)
                      | (go_at_call 16; refine HPar2.mono ?_; rintro e V5 ⟨rfl, S5⟩; obtain ⟨⟨h0, h1, h2, h3⟩, h4, h5, h6, h7, o0, o1, o2, o3⟩ := HC4.out V2 V5 S2.out S5.out.2.1 S5.out.2.2 (Or.inr trivial)))
                    go_ret
                    exact ⟨rfl, S9.out⟩
                  | false =>
                    subst hMB
                    obtain ⟨⟨rfl, rfl⟩, rfl⟩ : (q1 = r1 ∧ q2 = r2) ∧ qk = rk := by have := HRR.out; simpa using this
                    go_wp2_with (first
                      | (go_at_call 15; refine (HSa.out _ _ _ S8.out).mono ?_; rintro e V9 ⟨rfl, S9⟩)
                      | (go_at_call 14; refine (HBl2.out _ S7.out).mono ?_; rintro e V8 ⟨a8, c8, rfl, S8⟩)
                      | (go_at_call 18; refine (HTo.out _ S5.out).mono ?_; rintro e V7 ⟨rfl, ⟨⟨d0, d1, d2, d3⟩, d4, d5, d6, d7, m0, m1, m2, m3⟩, d8, d9, S7⟩)
                      | (go_at_call 16; refine HPar2.mono ?_; rintro e V5 ⟨rfl, S5⟩; obtain ⟨⟨h0, h1, h2, h3⟩, h4, h5, h6, h7, o0, o1, o2, o3⟩ := HC4.out V2 V5 S2.out S5.out.2.1 S5.out.2.2 (Or.inr trivial)))
                    go_ret
                    exact ⟨rfl, S9.out⟩
end Go.Proofs.Ytddfbcknehfpaaa
