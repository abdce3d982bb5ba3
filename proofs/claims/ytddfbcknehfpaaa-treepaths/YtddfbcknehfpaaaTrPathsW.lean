/- TreePaths: its walk. -/
import Derived.Test.YtddfbcknehfpaaaTrSame
import Derived.Test.YtddfbcknehfpaaaEIn
import Derived.Test.YtddfbcknehfpaaaEIn
import Derived.Deep.CutRange
import Derived.BigQuiet
set_option linter.unusedVariables false
set_option linter.unusedSimpArgs false
namespace Go.Proofs.Ytddfbcknehfpaaa
open Go.RowKit

set_option maxRecDepth 100000 in
set_option maxHeartbeats 8000000 in
theorem paths_walk (a : Option Addr) (n c : Nat) (L : List Mv) (w : World) (hL : MvS w a n c L) (hf : ∀ m ∈ L, m.Fits) :
    Calls Try.prog 5 #[.slice a n c] w fun e w' => e = .returned (.bool true) ∧ Below w.heap.size w w' := by
  have hmxo : Try.prog.follows .mixedOrders = true := by kernel_rfl
  have mixed := mixed
  have haw := tawake_any w
  have hnew : ∀ w1, Below w.heap.size w w1 → _ := fun w1 h => tnew_any (w := w) (w1 := w1) h
  have hnc := hL.cap
  have hcx := hL.max
  unfold maxLen at hcx
  have HLlen := hid hL.len
  go_enter Try.func5, Try.ntmps5
  go_wp2_with (first
    | (go_at_call 9; refine haw.mono ?_; rintro e w1 ⟨rfl, h1⟩)
    | (go_at_call 10; refine (hnew _ h1).mono ?_; rintro e w2 ⟨t, rfl, H2⟩))
  clear haw hnew
  go_loopw [5] (fun i wr => ∃ k : Nat, k ≤ n ∧ k ≤ 60 ∧ i = .int .i64 k ∧ Hid (TP wr t (tr (L.take k)) (fun j => j < w.heap.size) ∧ Below w.heap.size w wr)) (fun i _ => n - (intOf i).toNat)
  case atStart => exact ⟨0, by omega, by omega, rfl, by simpa using H2⟩
  case round =>
    clear H2 h1
    obtain ⟨k, hk, hk60, rfl, HS⟩ := hrel
    by_cases hlt : k < n ∧ k < 60
    · obtain ⟨hk1, hk2⟩ := hlt
      have hb1 : decide ((k : Int) < (n : Int)) = true := by simp [hk1]
      have hb2 : decide ((k : Int) < 60) = true := by simp; omega
      obtain ⟨m, hm⟩ : ∃ m, L[k]? = some m := ⟨_, List.getElem?_eq_getElem (by rw [hL.len]; exact hk1)⟩
      have hmf : m.Fits := hf m (List.mem_of_getElem? hm)
      have hmx : L.take k ++ [m] = L.take (k + 1) := by rw [List.take_succ_eq_append_getElem (by rw [hL.len]; exact hk1), (List.getElem?_eq_some_iff.1 hm).2]
      have hMv := tmove_any (m := m) (W := wr.drew) (w := w) (t := t) (L := L.take k) ⟨HS.out.1.drew, HS.out.2.drew⟩ hmf (by rw [List.length_take]; omega)
      rw [hmx] at hMv
      obtain ⟨E, hE⟩ : ∃ E, E = mvE (tr (L.take k)) m := ⟨_, rfl⟩
      rw [← hE] at hMv
      obtain ⟨⟨i1, i2⟩, tm, ⟨b1, b2⟩, ⟨p1, p2⟩, ky⟩ := m
      obtain ⟨g, o, rfl, hg, hcl⟩ := hL.look hm
      have hS1 : wr.drew.cell? ⟨g, o + k * 8, none⟩ = some (.int .i64 i1) ∧ wr.drew.cell? ⟨g, o + k * 8 + 1, none⟩ = some (.int .i64 i2) ∧ wr.drew.cell? ⟨g, o + k * 8 + 2, none⟩ = some (.int .i64 tm) ∧ wr.drew.cell? ⟨g, o + k * 8 + 3, none⟩ = some (.int .i64 b1) ∧ wr.drew.cell? ⟨g, o + k * 8 + 4, none⟩ = some (.int .i64 b2) ∧ wr.drew.cell? ⟨g, o + k * 8 + 5, none⟩ = some (.int .i64 p1) ∧ wr.drew.cell? ⟨g, o + k * 8 + 6, none⟩ = some (.int .i64 p2) ∧ wr.drew.cell? ⟨g, o + k * 8 + 7, none⟩ = some (.string ky) := hcl wr.drew (HS.out.2.block g hg)
      have HMv := hMv.mono (R' := fun e W' => e = .returned (.int .i64 E) ∧ (W'.cell? ⟨g, o + k * 8, none⟩ = some (.int .i64 i1) ∧ W'.cell? ⟨g, o + k * 8 + 1, none⟩ = some (.int .i64 i2) ∧ W'.cell? ⟨g, o + k * 8 + 2, none⟩ = some (.int .i64 tm) ∧ W'.cell? ⟨g, o + k * 8 + 3, none⟩ = some (.int .i64 b1) ∧ W'.cell? ⟨g, o + k * 8 + 4, none⟩ = some (.int .i64 b2) ∧ W'.cell? ⟨g, o + k * 8 + 5, none⟩ = some (.int .i64 p1) ∧ W'.cell? ⟨g, o + k * 8 + 6, none⟩ = some (.int .i64 p2) ∧ W'.cell? ⟨g, o + k * 8 + 7, none⟩ = some (.string ky)) ∧ Hid (TP W' t (tr (L.take (k + 1))) (fun j => j < w.heap.size) ∧ Below w.heap.size w W')) (fun e W' h => ⟨h.1, hcl W' (h.2.out.2.block g hg), h.2⟩)
      have hcap := hL.cap
      have HE := hid hE
      clear hMv hcl hE hmx hm
      go_wp2_with fail
      refine wp_region_held_drew (S := fun w' => w'.cell? ⟨g, o + k * 8, none⟩ = some (.int .i64 i1) ∧ w'.cell? ⟨g, o + k * 8 + 1, none⟩ = some (.int .i64 i2) ∧ w'.cell? ⟨g, o + k * 8 + 2, none⟩ = some (.int .i64 tm) ∧ w'.cell? ⟨g, o + k * 8 + 3, none⟩ = some (.int .i64 b1) ∧ w'.cell? ⟨g, o + k * 8 + 4, none⟩ = some (.int .i64 b2) ∧ w'.cell? ⟨g, o + k * 8 + 5, none⟩ = some (.int .i64 p1) ∧ w'.cell? ⟨g, o + k * 8 + 6, none⟩ = some (.int .i64 p2) ∧ w'.cell? ⟨g, o + k * 8 + 7, none⟩ = some (.string ky)) hmxo hS1 ?_
      intro _
      refine wpAnyH_take (i := 0) (v := .pointer (some ⟨t, 0, none⟩)) rfl (by kernel_rfl) (by kernel_rfl) (by kernel_rfl) (fun _ _ _ h => h) (Or.inl ⟨by kernel_rfl, fun w hSw => ?_⟩) hS1 ?_
      · obtain ⟨e1, e2, e3, e4, e5, e6, e7, e8⟩ := hSw; go_simp
      simp only [Act.put, List.getElem_toArray, List.getElem_cons_succ, List.getElem_cons_zero, List.setIfInBounds_toArray, List.set_cons_zero, List.set_cons_succ]
      refine wpAnyH_take (i := 1) (v := .slice (some ⟨g, o, none⟩) n c) rfl (by kernel_rfl) (by kernel_rfl) (by kernel_rfl) (fun _ _ _ h => h) (Or.inl ⟨by kernel_rfl, fun w hSw => ?_⟩) hS1 ?_
      · obtain ⟨e1, e2, e3, e4, e5, e6, e7, e8⟩ := hSw; go_simp
      simp only [Act.put, List.getElem_toArray, List.getElem_cons_succ, List.getElem_cons_zero, List.setIfInBounds_toArray, List.set_cons_zero, List.set_cons_succ]
      refine wpAnyH_take (i := 2) (v := .int .i64 (k : Int)) rfl (by kernel_rfl) (by kernel_rfl) (by kernel_rfl) (fun _ _ _ h => h) (Or.inl ⟨by kernel_rfl, fun w hSw => ?_⟩) hS1 ?_
      · obtain ⟨e1, e2, e3, e4, e5, e6, e7, e8⟩ := hSw; go_simp
      simp only [Act.put, List.getElem_toArray, List.getElem_cons_succ, List.getElem_cons_zero, List.setIfInBounds_toArray, List.set_cons_zero, List.set_cons_succ]
      refine wpAnyH_take (i := 3) (v := .pointer (some ⟨g, o + k * 8, none⟩)) rfl (by kernel_rfl) (by kernel_rfl) (by kernel_rfl) (fun _ _ _ h => h) (Or.inl ⟨by kernel_rfl, fun w hSw => ?_⟩) hS1 ?_
      · obtain ⟨e1, e2, e3, e4, e5, e6, e7, e8⟩ := hSw; go_simp
      simp only [Act.put, List.getElem_toArray, List.getElem_cons_succ, List.getElem_cons_zero, List.setIfInBounds_toArray, List.set_cons_zero, List.set_cons_succ]
      refine wpAnyH_take (i := 4) (v := .pointer (some ⟨g, o + k * 8, none⟩)) rfl (by kernel_rfl) (by kernel_rfl) (by kernel_rfl) (fun _ _ _ h => h) (Or.inl ⟨by kernel_rfl, fun w hSw => ?_⟩) hS1 ?_
      · obtain ⟨e1, e2, e3, e4, e5, e6, e7, e8⟩ := hSw; go_simp
      simp only [Act.put, List.getElem_toArray, List.getElem_cons_succ, List.getElem_cons_zero, List.setIfInBounds_toArray, List.set_cons_zero, List.set_cons_succ]
      refine wpAnyH_take (i := 5) (v := .agg #[.int .i64 i1, .int .i64 i2]) rfl (by kernel_rfl) (by kernel_rfl) (by kernel_rfl) (fun _ _ _ h => h) (Or.inl ⟨by kernel_rfl, fun w hSw => ?_⟩) hS1 ?_
      · obtain ⟨e1, e2, e3, e4, e5, e6, e7, e8⟩ := hSw; go_simp
      simp only [Act.put, List.getElem_toArray, List.getElem_cons_succ, List.getElem_cons_zero, List.setIfInBounds_toArray, List.set_cons_zero, List.set_cons_succ]
      refine wpAnyH_take (i := 6) (v := .slice (some ⟨g, o, none⟩) n c) rfl (by kernel_rfl) (by kernel_rfl) (by kernel_rfl) (fun _ _ _ h => h) (Or.inl ⟨by kernel_rfl, fun w hSw => ?_⟩) hS1 ?_
      · obtain ⟨e1, e2, e3, e4, e5, e6, e7, e8⟩ := hSw; go_simp
      simp only [Act.put, List.getElem_toArray, List.getElem_cons_succ, List.getElem_cons_zero, List.setIfInBounds_toArray, List.set_cons_zero, List.set_cons_succ]
      refine wpAnyH_take (i := 7) (v := .int .i64 (k : Int)) rfl (by kernel_rfl) (by kernel_rfl) (by kernel_rfl) (fun _ _ _ h => h) (Or.inl ⟨by kernel_rfl, fun w hSw => ?_⟩) hS1 ?_
      · obtain ⟨e1, e2, e3, e4, e5, e6, e7, e8⟩ := hSw; go_simp
      simp only [Act.put, List.getElem_toArray, List.getElem_cons_succ, List.getElem_cons_zero, List.setIfInBounds_toArray, List.set_cons_zero, List.set_cons_succ]
      refine wpAnyH_take (i := 8) (v := .pointer (some ⟨g, o + k * 8, none⟩)) rfl (by kernel_rfl) (by kernel_rfl) (by kernel_rfl) (fun _ _ _ h => h) (Or.inl ⟨by kernel_rfl, fun w hSw => ?_⟩) hS1 ?_
      · obtain ⟨e1, e2, e3, e4, e5, e6, e7, e8⟩ := hSw; go_simp
      simp only [Act.put, List.getElem_toArray, List.getElem_cons_succ, List.getElem_cons_zero, List.setIfInBounds_toArray, List.set_cons_zero, List.set_cons_succ]
      refine wpAnyH_take (i := 9) (v := .pointer (some ⟨g, o + k * 8 + 2, none⟩)) rfl (by kernel_rfl) (by kernel_rfl) (by kernel_rfl) (fun _ _ _ h => h) (Or.inl ⟨by kernel_rfl, fun w hSw => ?_⟩) hS1 ?_
      · obtain ⟨e1, e2, e3, e4, e5, e6, e7, e8⟩ := hSw; go_simp
      simp only [Act.put, List.getElem_toArray, List.getElem_cons_succ, List.getElem_cons_zero, List.setIfInBounds_toArray, List.set_cons_zero, List.set_cons_succ]
      refine wpAnyH_take (i := 10) (v := .int .i64 tm) rfl (by kernel_rfl) (by kernel_rfl) (by kernel_rfl) (fun _ _ _ h => h) (Or.inl ⟨by kernel_rfl, fun w hSw => ?_⟩) hS1 ?_
      · obtain ⟨e1, e2, e3, e4, e5, e6, e7, e8⟩ := hSw; go_simp
      simp only [Act.put, List.getElem_toArray, List.getElem_cons_succ, List.getElem_cons_zero, List.setIfInBounds_toArray, List.set_cons_zero, List.set_cons_succ]
      refine wpAnyH_take (i := 11) (v := .slice (some ⟨g, o, none⟩) n c) rfl (by kernel_rfl) (by kernel_rfl) (by kernel_rfl) (fun _ _ _ h => h) (Or.inl ⟨by kernel_rfl, fun w hSw => ?_⟩) hS1 ?_
      · obtain ⟨e1, e2, e3, e4, e5, e6, e7, e8⟩ := hSw; go_simp
      simp only [Act.put, List.getElem_toArray, List.getElem_cons_succ, List.getElem_cons_zero, List.setIfInBounds_toArray, List.set_cons_zero, List.set_cons_succ]
      refine wpAnyH_take (i := 12) (v := .int .i64 (k : Int)) rfl (by kernel_rfl) (by kernel_rfl) (by kernel_rfl) (fun _ _ _ h => h) (Or.inl ⟨by kernel_rfl, fun w hSw => ?_⟩) hS1 ?_
      · obtain ⟨e1, e2, e3, e4, e5, e6, e7, e8⟩ := hSw; go_simp
      simp only [Act.put, List.getElem_toArray, List.getElem_cons_succ, List.getElem_cons_zero, List.setIfInBounds_toArray, List.set_cons_zero, List.set_cons_succ]
      refine wpAnyH_take (i := 13) (v := .pointer (some ⟨g, o + k * 8, none⟩)) rfl (by kernel_rfl) (by kernel_rfl) (by kernel_rfl) (fun _ _ _ h => h) (Or.inl ⟨by kernel_rfl, fun w hSw => ?_⟩) hS1 ?_
      · obtain ⟨e1, e2, e3, e4, e5, e6, e7, e8⟩ := hSw; go_simp
      simp only [Act.put, List.getElem_toArray, List.getElem_cons_succ, List.getElem_cons_zero, List.setIfInBounds_toArray, List.set_cons_zero, List.set_cons_succ]
      refine wpAnyH_take (i := 14) (v := .pointer (some ⟨g, o + k * 8 + 3, none⟩)) rfl (by kernel_rfl) (by kernel_rfl) (by kernel_rfl) (fun _ _ _ h => h) (Or.inl ⟨by kernel_rfl, fun w hSw => ?_⟩) hS1 ?_
      · obtain ⟨e1, e2, e3, e4, e5, e6, e7, e8⟩ := hSw; go_simp
      simp only [Act.put, List.getElem_toArray, List.getElem_cons_succ, List.getElem_cons_zero, List.setIfInBounds_toArray, List.set_cons_zero, List.set_cons_succ]
      refine wpAnyH_take (i := 15) (v := .agg #[.int .i64 b1, .int .i64 b2]) rfl (by kernel_rfl) (by kernel_rfl) (by kernel_rfl) (fun _ _ _ h => h) (Or.inl ⟨by kernel_rfl, fun w hSw => ?_⟩) hS1 ?_
      · obtain ⟨e1, e2, e3, e4, e5, e6, e7, e8⟩ := hSw; go_simp
      simp only [Act.put, List.getElem_toArray, List.getElem_cons_succ, List.getElem_cons_zero, List.setIfInBounds_toArray, List.set_cons_zero, List.set_cons_succ]
      refine wpAnyH_take (i := 16) (v := .slice (some ⟨g, o, none⟩) n c) rfl (by kernel_rfl) (by kernel_rfl) (by kernel_rfl) (fun _ _ _ h => h) (Or.inl ⟨by kernel_rfl, fun w hSw => ?_⟩) hS1 ?_
      · obtain ⟨e1, e2, e3, e4, e5, e6, e7, e8⟩ := hSw; go_simp
      simp only [Act.put, List.getElem_toArray, List.getElem_cons_succ, List.getElem_cons_zero, List.setIfInBounds_toArray, List.set_cons_zero, List.set_cons_succ]
      refine wpAnyH_take (i := 17) (v := .int .i64 (k : Int)) rfl (by kernel_rfl) (by kernel_rfl) (by kernel_rfl) (fun _ _ _ h => h) (Or.inl ⟨by kernel_rfl, fun w hSw => ?_⟩) hS1 ?_
      · obtain ⟨e1, e2, e3, e4, e5, e6, e7, e8⟩ := hSw; go_simp
      simp only [Act.put, List.getElem_toArray, List.getElem_cons_succ, List.getElem_cons_zero, List.setIfInBounds_toArray, List.set_cons_zero, List.set_cons_succ]
      refine wpAnyH_take (i := 18) (v := .pointer (some ⟨g, o + k * 8, none⟩)) rfl (by kernel_rfl) (by kernel_rfl) (by kernel_rfl) (fun _ _ _ h => h) (Or.inl ⟨by kernel_rfl, fun w hSw => ?_⟩) hS1 ?_
      · obtain ⟨e1, e2, e3, e4, e5, e6, e7, e8⟩ := hSw; go_simp
      simp only [Act.put, List.getElem_toArray, List.getElem_cons_succ, List.getElem_cons_zero, List.setIfInBounds_toArray, List.set_cons_zero, List.set_cons_succ]
      refine wpAnyH_take (i := 19) (v := .pointer (some ⟨g, o + k * 8 + 5, none⟩)) rfl (by kernel_rfl) (by kernel_rfl) (by kernel_rfl) (fun _ _ _ h => h) (Or.inl ⟨by kernel_rfl, fun w hSw => ?_⟩) hS1 ?_
      · obtain ⟨e1, e2, e3, e4, e5, e6, e7, e8⟩ := hSw; go_simp
      simp only [Act.put, List.getElem_toArray, List.getElem_cons_succ, List.getElem_cons_zero, List.setIfInBounds_toArray, List.set_cons_zero, List.set_cons_succ]
      refine wpAnyH_take (i := 20) (v := .agg #[.int .i64 p1, .int .i64 p2]) rfl (by kernel_rfl) (by kernel_rfl) (by kernel_rfl) (fun _ _ _ h => h) (Or.inl ⟨by kernel_rfl, fun w hSw => ?_⟩) hS1 ?_
      · obtain ⟨e1, e2, e3, e4, e5, e6, e7, e8⟩ := hSw; go_simp
      simp only [Act.put, List.getElem_toArray, List.getElem_cons_succ, List.getElem_cons_zero, List.setIfInBounds_toArray, List.set_cons_zero, List.set_cons_succ]
      refine wpAnyH_take (i := 21) (v := .slice (some ⟨g, o, none⟩) n c) rfl (by kernel_rfl) (by kernel_rfl) (by kernel_rfl) (fun _ _ _ h => h) (Or.inl ⟨by kernel_rfl, fun w hSw => ?_⟩) hS1 ?_
      · obtain ⟨e1, e2, e3, e4, e5, e6, e7, e8⟩ := hSw; go_simp
      simp only [Act.put, List.getElem_toArray, List.getElem_cons_succ, List.getElem_cons_zero, List.setIfInBounds_toArray, List.set_cons_zero, List.set_cons_succ]
      refine wpAnyH_take (i := 22) (v := .int .i64 (k : Int)) rfl (by kernel_rfl) (by kernel_rfl) (by kernel_rfl) (fun _ _ _ h => h) (Or.inl ⟨by kernel_rfl, fun w hSw => ?_⟩) hS1 ?_
      · obtain ⟨e1, e2, e3, e4, e5, e6, e7, e8⟩ := hSw; go_simp
      simp only [Act.put, List.getElem_toArray, List.getElem_cons_succ, List.getElem_cons_zero, List.setIfInBounds_toArray, List.set_cons_zero, List.set_cons_succ]
      refine wpAnyH_take (i := 23) (v := .pointer (some ⟨g, o + k * 8, none⟩)) rfl (by kernel_rfl) (by kernel_rfl) (by kernel_rfl) (fun _ _ _ h => h) (Or.inl ⟨by kernel_rfl, fun w hSw => ?_⟩) hS1 ?_
      · obtain ⟨e1, e2, e3, e4, e5, e6, e7, e8⟩ := hSw; go_simp
      simp only [Act.put, List.getElem_toArray, List.getElem_cons_succ, List.getElem_cons_zero, List.setIfInBounds_toArray, List.set_cons_zero, List.set_cons_succ]
      refine wpAnyH_take (i := 24) (v := .pointer (some ⟨g, o + k * 8 + 7, none⟩)) rfl (by kernel_rfl) (by kernel_rfl) (by kernel_rfl) (fun _ _ _ h => h) (Or.inl ⟨by kernel_rfl, fun w hSw => ?_⟩) hS1 ?_
      · obtain ⟨e1, e2, e3, e4, e5, e6, e7, e8⟩ := hSw; go_simp
      simp only [Act.put, List.getElem_toArray, List.getElem_cons_succ, List.getElem_cons_zero, List.setIfInBounds_toArray, List.set_cons_zero, List.set_cons_succ]
      refine wpAnyH_take (i := 25) (v := .string ky) rfl (by kernel_rfl) (by kernel_rfl) (by kernel_rfl) (fun _ _ _ h => h) (Or.inl ⟨by kernel_rfl, fun w hSw => ?_⟩) hS1 ?_
      · obtain ⟨e1, e2, e3, e4, e5, e6, e7, e8⟩ := hSw; go_simp
      simp only [Act.put, List.getElem_toArray, List.getElem_cons_succ, List.getElem_cons_zero, List.setIfInBounds_toArray, List.set_cons_zero, List.set_cons_succ]
      refine wpAnyH_ready (rs := [26]) (by kernel_rfl) (by simp) ?_
      refine AllReadyH.cons rfl (fun K hK => ?_) AllReadyH.nil
      go_simp
      refine HMv.mono ?_
      rintro e W2 ⟨rfl, S2, H3⟩
      refine hK.out _ _ S2 (fun _ => ?_)
      clear hK K
      refine wpAnyH_done (by kernel_rfl) ?_ _
      clear HMv hS1 S2
      go_wp2
      go_roundw
      case rel => exact ⟨k + 1, by omega, by omega, by go_num, H3⟩
      case measure => simp [intOf]; omega
    · obtain ⟨l, hl⟩ : ∃ l, l = tr (L.take k) := ⟨_, rfl⟩
      rw [← hl] at HS
      have hll : l.length ≤ 60 := by rw [hl]; have := tr_len (L.take k); rw [List.length_take] at this; omega
      have HBl := (blocks_tp HS.out.1).mono (R' := fun e W' => ∃ ab nb cb, e = .returned (.slice ab nb cb) ∧ Hid (PS W' ab nb cb (blks l) ∧ TP W' t l (fun j => j < w.heap.size ∨ ∃ ad, ab = some ad ∧ ad.block = j) ∧ Below w.heap.size w W' ∧ nb ≤ 60)) (fun e W' h => by
        obtain ⟨a', c', h1, h2, h3, h4⟩ := h
        exact ⟨a', _, c', h1, hid ⟨h2, h3, HS.out.2.trans h4.bel, by have := blks_len l; omega⟩⟩)
      clear HS hl hL hf HLlen
      by_cases hk1 : k < n
      · have hb1 : decide ((k : Int) < (n : Int)) = true := by simp [hk1]
        have h60 : 60 ≤ k := by omega
        have hb2 : decide ((k : Int) < 60) = false := by simp; omega
        clear hlt
        go_wp2_with (go_at_call 14; refine HBl.mono ?_; rintro e W2 ⟨ab, nb, cb, rfl, H2⟩)
        clear HBl
        obtain ⟨hps2, hT2, hB2, hnb⟩ := H2.out
        clear H2
        obtain ⟨P2, hP2⟩ : ∃ P2 : Nat → Prop, P2 = (fun j => j < w.heap.size ∨ ∃ ad, ab = some ad ∧ ad.block = j) := ⟨_, rfl⟩
        rw [← hP2] at hT2
        have HLog := hid hT2.log
        have HB2 := hid hB2
        have HPS2 := hid hps2
        have HP2 := hid hP2
        have HT2 := hid hT2
        clear hps2 hT2 hB2 hP2
        go_loopw [7] (fun i wr => ∃ k : Nat, k ≤ nb ∧ i = .int .i64 k ∧ Hid (TP wr t l P2 ∧ KP P2 W2 wr)) (fun i _ => nb - (intOf i).toNat)
        case atStart => exact ⟨0, by omega, rfl, hid ⟨HT2.out, KP.refl _ _⟩⟩
        case round =>
          obtain ⟨k, hk, rfl, HS⟩ := hrel
          by_cases hlt : k < nb
          · have hb1 : decide ((k : Int) < (nb : Int)) = true := by simp [hlt]
            obtain ⟨⟨d1, d2⟩, hd⟩ : ∃ d, (blks l)[k]? = some d := ⟨_, List.getElem?_eq_getElem (by rw [HPS2.out.len]; exact hlt)⟩
            have hdm : (d1, d2) ∈ blks l := List.mem_of_getElem? hd
            have hdw := blks_dw HLog.out.2.1 _ hdm
            obtain ⟨⟨⟨q1, q2⟩, qk⟩, mp, ⟨z1, z2⟩, hq, hpl, hz, hze, hp0, hnin, hri, htm⟩ := blk_facts HLog.out.1 hdm
            have hqw := lk_dw HLog.out.2.1 hq
            have hcb := HPS2.out.cap
            obtain ⟨gb, ob, rfl, hgb, _, hlk2⟩ := HPS2.out.look hd
            obtain ⟨kb0, kb1⟩ := hlk2 wr (HS.out.2.keep gb (by rw [HP2.out]; exact Or.inr ⟨_, rfl, rfl⟩))
            have hmp : mp ≤ 1000 := by
              obtain ⟨r, hr⟩ := HLog.out.1.run_tk
              have := hr.pth_len (d1, d2)
              have := run_len l
              have := HLog.out.2.2
              omega
            have HPa := (path_tp (d1, d2) HS.out.1 hdw).mono (R' := fun e W' => ∃ ap cp, e = .returned (.slice ap (mp + 1) cp) ∧ Hid (PS W' ap (mp + 1) cp (pth (run l) (d1, d2)) ∧ TP W' t l (fun j => P2 j ∨ ∃ ad, ap = some ad ∧ ad.block = j) ∧ KP P2 W2 W')) (fun e W' h => by
              obtain ⟨a', c', h1, h2, h3, h4⟩ := h
              rw [hpl] at h1 h2
              exact ⟨a', c', h1, hid ⟨h2, h3, HS.out.2.trans h4⟩⟩)
            have hmz : ¬ ((mp : Int) + 1 = 0) := by omega
            have hmw : IntKind.i64.wrap (mp : Int) = (mp : Int) := by rw [IntKind.wrap_i64]; omega
            have hmb : ¬ ((mp : Int) + 1 ≤ (mp : Int)) := by omega
            have HZ := hid hz
            have HZE := hid hze
            have HP0 := hid hp0
            have HNI := hid hnin
            have HRI := hid hri
            have HTM := hid htm
            have HQ := hid hq
            have HQW := hid hqw
            have HDW := hid hdw
            have HLK := hid hlk2
            have HGB := hid hgb
            have HPL := hid hpl
            have HDM := hid hd
            clear hz hze hp0 hnin hri htm hq hqw hdw hd hdm hlk2 HS hpl hgb
            go_wp2_with (go_at_call 20; refine HPa.mono ?_; rintro e W3 ⟨ap, cp, rfl, H3⟩)
            clear HPa kb0 kb1
            obtain ⟨hps3, hT3, hK3⟩ := H3.out
            obtain ⟨gp, op, rfl, hgp, _, hlk3⟩ := hps3.look HZ.out
            have hcp := hps3.cap
            obtain ⟨P3, hP3⟩ : ∃ P3 : Nat → Prop, P3 = (fun j => P2 j ∨ ∃ ad, (some ⟨gp, op, none⟩ : Option Addr) = some ad ∧ ad.block = j) := ⟨_, rfl⟩
            rw [← hP3] at hT3
            have h23 : ∀ j, P2 j → P3 j := fun j hj => by rw [hP3]; exact Or.inl hj
            have hg3 : P3 gp := by rw [hP3]; exact Or.inr ⟨_, rfl, rfl⟩
            have hb3 : P3 gb := h23 gb (by rw [HP2.out]; exact Or.inr ⟨_, rfl, rfl⟩)
            have HC : Hid (∀ V, (TP V t l P3 ∧ KP P3 W3 V) → (V.cell? ⟨gp, op + mp * 2, none⟩ = some (.int .i64 z1) ∧ V.cell? ⟨gp, op + mp * 2 + 1, none⟩ = some (.int .i64 z2) ∧ V.cell? ⟨gb, ob + k * 2, none⟩ = some (.int .i64 d1) ∧ V.cell? ⟨gb, ob + k * 2 + 1, none⟩ = some (.int .i64 d2))) := hid (fun V hV => by
              obtain ⟨x0, x1⟩ := hlk3 V (hV.2.keep gp hg3)
              obtain ⟨x2, x3⟩ := HLK.out V ((hV.2.keep gb hb3).trans (hK3.keep gb (by rw [HP2.out]; exact Or.inr ⟨_, rfl, rfl⟩)))
              exact ⟨x0, x1, x2, x3⟩)
            have HBel : Hid (∀ V V', (TP V t l P3 ∧ KP P3 W3 V) → Below V.heap.size V V' → (TP V' t l P3 ∧ KP P3 W3 V')) := hid (fun V V' h hb => ⟨h.1.below hb, h.2.trans (KP.below hb h.1.lt)⟩)
            have HPS : Hid (∀ V, (TP V t l P3 ∧ KP P3 W3 V) → PS V (some ⟨gp, op, none⟩) (mp + 1) cp (pth (run l) (d1, d2))) := hid (fun V hV => hps3.same (fun ad e => by cases e; exact hV.2.keep gp hg3))
            have HRo : Hid (∀ V, (TP V t l P3 ∧ KP P3 W3 V) → Calls Try.prog 19 #[] V fun e V' => e = .returned (.agg #[.int .i64 0, .int .i64 (-1)]) ∧ Hid (TP V' t l P3 ∧ KP P3 W3 V')) := hid (fun V h => (root_any V).mono (fun e V' g => ⟨g.1, hid (HBel.out V V' h g.2.below)⟩))
            have HTr : Hid (∀ V, (TP V t l P3 ∧ KP P3 W3 V) → Calls Try.prog 21 #[] V fun e V' => e = .returned (.agg #[.int .i64 0, .int .i64 (-2)]) ∧ Hid (TP V' t l P3 ∧ KP P3 W3 V')) := hid (fun V h => (trash_any V).mono (fun e V' g => ⟨g.1, hid (HBel.out V V' h g.2.below)⟩))
            have HIn : Hid (∀ V, (TP V t l P3 ∧ KP P3 W3 V) → Calls Try.prog 22 #[.slice (some ⟨gp, op, none⟩) (mp + 1) cp, .agg #[.int .i64 d1, .int .i64 d2]] V fun e V' => e = .returned (.bool false) ∧ Hid (TP V' t l P3 ∧ KP P3 W3 V')) := hid (fun V h => (in_any _ _ _ _ (d1, d2) V (HPS.out V h) (by omega)).mono (fun e V' g => ⟨by rw [g.1, decide_eq_false HNI.out], hid (HBel.out V V' h g.2.below)⟩))
            have HRi : Hid (∀ V, (TP V t l P3 ∧ KP P3 W3 V) → Calls Try.prog 23 #[.slice (some ⟨gp, op, none⟩) (mp + 1) cp] V fun e V' => ∃ ar cr, e = .returned (.slice ar (mp + 1) cr) ∧ Hid (TP V' t l P3 ∧ KP P3 W3 V')) := hid (fun V h => (rrising_any _ _ _ _ V (HPS.out V h) (by omega)).mono (fun e V' g => by
              obtain ⟨a', c', g1, _, g3⟩ := g
              rw [HRI.out] at g1
              exact ⟨a', c', g1, hid (HBel.out V V' h g3)⟩))
            have S15d : TP W3.drew t l P3 ∧ KP P3 W3 W3.drew := ⟨hT3.drew, (KP.refl _ _).drew⟩
            have hS15 := HC.out _ S15d
            have HPar : Hid (∀ V, (TP V t l P3 ∧ KP P3 W3 V) → Calls Try.prog 16 #[.pointer (some ⟨t, 0, none⟩), .agg #[.int .i64 d1, .int .i64 d2]] V fun e V' => e = .returned (.tuple #[.agg #[.int .i64 q1, .int .i64 q2], .string qk, .bool true]) ∧ Hid (TP V' t l P3 ∧ KP P3 W3 V')) := hid (fun V h => by
              have := parent_tp (d1, d2) h.1 HDW.out
              rw [HQ.out] at this
              exact this.mono (fun e V' g => ⟨g.1, hid ⟨g.2.1, h.2.trans g.2.2⟩⟩))
            have HKi : Hid (∀ V, (TP V t l P3 ∧ KP P3 W3 V) → Calls Try.prog 17 #[.pointer (some ⟨t, 0, none⟩), .agg #[.int .i64 q1, .int .i64 q2]] (V.alloc (.cells #[.int .i64 q1, .int .i64 q2] 24)) fun e V' => ∃ ak ck nk, e = .returned (.slice ak nk ck) ∧ (∀ m, (V'.drewN m).cell? ⟨V.heap.size, 0, none⟩ = some (.int .i64 q1)) ∧ (∀ m, (V'.drewN m).cell? ⟨V.heap.size, 1, none⟩ = some (.int .i64 q2)) ∧ Hid (nk = (kidB (run l) (q1, q2)).length ∧ nk ≤ 1000 ∧ PS V' ak nk ck (kidB (run l) (q1, q2)) ∧ TP V' t l P3 ∧ KP P3 W3 V')) := hid (fun V h => by
              have hal := h.1.alloc (.cells #[.int .i64 q1, .int .i64 q2] 24)
              refine (kids_tp (q1, q2) hal HQW.out).mono (fun e V' g => ?_)
              obtain ⟨a', c', g1, g2, g3, g4⟩ := g
              have hx : V'.heap[V.heap.size]? = some (.cells #[.int .i64 q1, .int .i64 q2] 24 (0, 0)) := (g4.keep _ (Or.inr rfl)).trans (World.alloc_heap_new V _)
              have hx2 : ∀ m, (V'.drewN m).heap[V.heap.size]? = some (.cells #[.int .i64 q1, .int .i64 q2] 24 (0, 0)) := fun m => hx
              refine ⟨a', c', _, g1, fun m => by simp only [World.cell?, hx2 m]; rfl, fun m => by simp only [World.cell?, hx2 m]; rfl, hid ⟨rfl, ?_, g2, g3.mono (fun j hj => Or.inl (Or.inl hj)), h.2.trans ((KP.below ((Below.refl _ V).alloc (Nat.le_refl _) _) h.1.lt).trans (g4.mono (fun j hj => Or.inl hj)))⟩⟩
              obtain ⟨r, hr⟩ := HLog.out.1.run_tk
              unfold kidB
              rw [List.length_map]
              have := kidS_len hr.nd (q1, q2)
              have := run_len l
              have := HLog.out.2.2
              omega)
            have HK2 : Hid (∀ V, KP P3 W3 V → KP P2 W2 V) := hid (fun V h => hK3.trans (h.mono h23))
            have HT3m : Hid (∀ V, TP V t l P3 → TP V t l P2) := hid (fun V h => h.mono h23)
            obtain ⟨e0, he0⟩ : ∃ e0, e0 = (pth (run l) (d1, d2)) := ⟨_, rfl⟩
            have HL0 : Hid (∀ V, (TP V t l P3 ∧ KP P3 W3 V) → V.cell? ⟨gp, op, none⟩ = some (.int .i64 q1) ∧ V.cell? ⟨gp, op + 1, none⟩ = some (.int .i64 q2)) := hid (fun V h => by
              obtain ⟨g', o', e', _, _, x⟩ := hps3.look HP0.out
              cases e'
              have := x V (h.2.keep gp hg3)
              simpa using this)
            have HG3 := hid hg3
            clear hps3 hT3 hK3 hlk3 hP3 h23 hg3 hb3 H3 he0 e0
            go_cut [107] from 73 to 107 (fun s wc => s = .bool false ∧ Hid (TP wc t l P3 ∧ KP P3 W3 wc))
            case first =>
              rcases HZE.out with hzz | hzz
              · obtain ⟨rfl, rfl⟩ : z1 = 0 ∧ z2 = -1 := by simpa using hzz
                clear hzz
                refine wp_region_held_drew (S := fun w' => w'.cell? ⟨gp, op + mp * 2, none⟩ = some (.int .i64 0) ∧ w'.cell? ⟨gp, op + mp * 2 + 1, none⟩ = some (.int .i64 (-1)) ∧ w'.cell? ⟨gb, ob + k * 2, none⟩ = some (.int .i64 d1) ∧ w'.cell? ⟨gb, ob + k * 2 + 1, none⟩ = some (.int .i64 d2)) hmxo hS15 ?_
                intro _
                refine wpAnyH_take (i := 0) (v := .int .i64 ((mp : Int) + 1)) rfl (by kernel_rfl) (by kernel_rfl) (by kernel_rfl) (fun _ _ _ h => h) (Or.inl ⟨by kernel_rfl, fun w hSw => ?_⟩) hS15 ?_
                · obtain ⟨e1, e2, e3, e4⟩ := hSw; go_simp
                simp only [Act.put, List.getElem_toArray, List.getElem_cons_succ, List.getElem_cons_zero, List.setIfInBounds_toArray, List.set_cons_zero, List.set_cons_succ]
                refine wpAnyH_take (i := 1) (v := .bool false) rfl (by kernel_rfl) (by kernel_rfl) (by kernel_rfl) (fun _ _ _ h => h) (Or.inl ⟨by kernel_rfl, fun w hSw => ?_⟩) hS15 ?_
                · obtain ⟨e1, e2, e3, e4⟩ := hSw; go_simp
                simp only [Act.put, List.getElem_toArray, List.getElem_cons_succ, List.getElem_cons_zero, List.setIfInBounds_toArray, List.set_cons_zero, List.set_cons_succ]
                refine wpAnyH_take (i := 2) (v := .bool false) rfl (by kernel_rfl) (by kernel_rfl) (by kernel_rfl) (fun _ _ _ h => h) (Or.inl ⟨by kernel_rfl, fun w hSw => ?_⟩) hS15 ?_
                · obtain ⟨e1, e2, e3, e4⟩ := hSw; go_simp
                simp only [Act.put, List.getElem_toArray, List.getElem_cons_succ, List.getElem_cons_zero, List.setIfInBounds_toArray, List.set_cons_zero, List.set_cons_succ]
                refine wpAnyH_take (i := 3) (v := .slice (some ⟨gp, op, none⟩) (mp + 1) cp) rfl (by kernel_rfl) (by kernel_rfl) (by kernel_rfl) (fun _ _ _ h => h) (Or.inl ⟨by kernel_rfl, fun w hSw => ?_⟩) hS15 ?_
                · obtain ⟨e1, e2, e3, e4⟩ := hSw; go_simp
                simp only [Act.put, List.getElem_toArray, List.getElem_cons_succ, List.getElem_cons_zero, List.setIfInBounds_toArray, List.set_cons_zero, List.set_cons_succ]
                refine wpAnyH_take (i := 4) (v := .int .i64 ((mp : Int) + 1)) rfl (by kernel_rfl) (by kernel_rfl) (by kernel_rfl) (fun _ _ _ h => h) (Or.inl ⟨by kernel_rfl, fun w hSw => ?_⟩) hS15 ?_
                · obtain ⟨e1, e2, e3, e4⟩ := hSw; go_simp
                simp only [Act.put, List.getElem_toArray, List.getElem_cons_succ, List.getElem_cons_zero, List.setIfInBounds_toArray, List.set_cons_zero, List.set_cons_succ]
                refine wpAnyH_take (i := 5) (v := .int .i64 (mp : Int)) rfl (by kernel_rfl) (by kernel_rfl) (by kernel_rfl) (fun _ _ _ h => h) (Or.inl ⟨by kernel_rfl, fun w hSw => ?_⟩) hS15 ?_
                · obtain ⟨e1, e2, e3, e4⟩ := hSw; go_simp
                simp only [Act.put, List.getElem_toArray, List.getElem_cons_succ, List.getElem_cons_zero, List.setIfInBounds_toArray, List.set_cons_zero, List.set_cons_succ]
                refine wpAnyH_take (i := 6) (v := .pointer (some ⟨gp, op + mp * 2, none⟩)) rfl (by kernel_rfl) (by kernel_rfl) (by kernel_rfl) (fun _ _ _ h => h) (Or.inl ⟨by kernel_rfl, fun w hSw => ?_⟩) hS15 ?_
                · obtain ⟨e1, e2, e3, e4⟩ := hSw; go_simp
                simp only [Act.put, List.getElem_toArray, List.getElem_cons_succ, List.getElem_cons_zero, List.setIfInBounds_toArray, List.set_cons_zero, List.set_cons_succ]
                refine wpAnyH_take (i := 7) (v := .agg #[.int .i64 0, .int .i64 (-1)]) rfl (by kernel_rfl) (by kernel_rfl) (by kernel_rfl) (fun _ _ _ h => h) (Or.inl ⟨by kernel_rfl, fun w hSw => ?_⟩) hS15 ?_
                · obtain ⟨e1, e2, e3, e4⟩ := hSw; go_simp
                simp only [Act.put, List.getElem_toArray, List.getElem_cons_succ, List.getElem_cons_zero, List.setIfInBounds_toArray, List.set_cons_zero, List.set_cons_succ]
                refine wpAnyH_ready (rs := [8]) (by kernel_rfl) (by simp) ?_
                refine AllReadyH.cons rfl (fun K hK => ?_) AllReadyH.nil
                go_simp
                refine (HRo.out _ S15d).mono ?_
                rintro e W4 ⟨rfl, S4⟩
                have hS4 := HC.out _ S4.out
                refine hK.out _ _ hS4 (fun _ => ?_)
                clear hK K
                refine wpAnyH_take (i := 9) (v := .bool false) rfl (by kernel_rfl) (by kernel_rfl) (by kernel_rfl) (fun _ _ _ h => h) (Or.inl ⟨by kernel_rfl, fun w hSw => ?_⟩) hS4 ?_
                · obtain ⟨e1, e2, e3, e4⟩ := hSw; go_simp
                simp only [Act.put, List.getElem_toArray, List.getElem_cons_succ, List.getElem_cons_zero, List.setIfInBounds_toArray, List.set_cons_zero, List.set_cons_succ]
                refine wpAnyH_take (i := 10) (v := .bool false) rfl (by kernel_rfl) (by kernel_rfl) (by kernel_rfl) (fun _ _ _ h => h) (Or.inl ⟨by kernel_rfl, fun w hSw => ?_⟩) hS4 ?_
                · obtain ⟨e1, e2, e3, e4⟩ := hSw; go_simp
                simp only [Act.put, List.getElem_toArray, List.getElem_cons_succ, List.getElem_cons_zero, List.setIfInBounds_toArray, List.set_cons_zero, List.set_cons_succ]
                refine wpAnyH_take (i := 11) (v := undef) rfl (by kernel_rfl) (by kernel_rfl) (by kernel_rfl) (fun _ _ _ h => h) (Or.inr ⟨by kernel_rfl, rfl⟩) hS4 ?_
                simp only [Act.put, List.getElem_toArray, List.getElem_cons_succ, List.getElem_cons_zero, List.setIfInBounds_toArray, List.set_cons_zero, List.set_cons_succ]
                refine wpAnyH_take (i := 12) (v := undef) rfl (by kernel_rfl) (by kernel_rfl) (by kernel_rfl) (fun _ _ _ h => h) (Or.inr ⟨by kernel_rfl, rfl⟩) hS4 ?_
                simp only [Act.put, List.getElem_toArray, List.getElem_cons_succ, List.getElem_cons_zero, List.setIfInBounds_toArray, List.set_cons_zero, List.set_cons_succ]
                refine wpAnyH_take (i := 13) (v := undef) rfl (by kernel_rfl) (by kernel_rfl) (by kernel_rfl) (fun _ _ _ h => h) (Or.inr ⟨by kernel_rfl, rfl⟩) hS4 ?_
                simp only [Act.put, List.getElem_toArray, List.getElem_cons_succ, List.getElem_cons_zero, List.setIfInBounds_toArray, List.set_cons_zero, List.set_cons_succ]
                refine wpAnyH_take (i := 14) (v := undef) rfl (by kernel_rfl) (by kernel_rfl) (by kernel_rfl) (fun _ _ _ h => h) (Or.inr ⟨by kernel_rfl, rfl⟩) hS4 ?_
                simp only [Act.put, List.getElem_toArray, List.getElem_cons_succ, List.getElem_cons_zero, List.setIfInBounds_toArray, List.set_cons_zero, List.set_cons_succ]
                refine wpAnyH_take (i := 15) (v := undef) rfl (by kernel_rfl) (by kernel_rfl) (by kernel_rfl) (fun _ _ _ h => h) (Or.inr ⟨by kernel_rfl, rfl⟩) hS4 ?_
                simp only [Act.put, List.getElem_toArray, List.getElem_cons_succ, List.getElem_cons_zero, List.setIfInBounds_toArray, List.set_cons_zero, List.set_cons_succ]
                refine wpAnyH_take (i := 16) (v := undef) rfl (by kernel_rfl) (by kernel_rfl) (by kernel_rfl) (fun _ _ _ h => h) (Or.inr ⟨by kernel_rfl, rfl⟩) hS4 ?_
                simp only [Act.put, List.getElem_toArray, List.getElem_cons_succ, List.getElem_cons_zero, List.setIfInBounds_toArray, List.set_cons_zero, List.set_cons_succ]
                refine wpAnyH_take (i := 17) (v := undef) rfl (by kernel_rfl) (by kernel_rfl) (by kernel_rfl) (fun _ _ _ h => h) (Or.inr ⟨by kernel_rfl, rfl⟩) hS4 ?_
                simp only [Act.put, List.getElem_toArray, List.getElem_cons_succ, List.getElem_cons_zero, List.setIfInBounds_toArray, List.set_cons_zero, List.set_cons_succ]
                refine wpAnyH_take (i := 18) (v := .bool false) rfl (by kernel_rfl) (by kernel_rfl) (by kernel_rfl) (fun _ _ _ h => h) (Or.inl ⟨by kernel_rfl, fun w hSw => ?_⟩) hS4 ?_
                · obtain ⟨e1, e2, e3, e4⟩ := hSw; go_simp
                simp only [Act.put, List.getElem_toArray, List.getElem_cons_succ, List.getElem_cons_zero, List.setIfInBounds_toArray, List.set_cons_zero, List.set_cons_succ]
                refine wpAnyH_take (i := 19) (v := .bool false) rfl (by kernel_rfl) (by kernel_rfl) (by kernel_rfl) (fun _ _ _ h => h) (Or.inl ⟨by kernel_rfl, fun w hSw => ?_⟩) hS4 ?_
                · obtain ⟨e1, e2, e3, e4⟩ := hSw; go_simp
                simp only [Act.put, List.getElem_toArray, List.getElem_cons_succ, List.getElem_cons_zero, List.setIfInBounds_toArray, List.set_cons_zero, List.set_cons_succ]
                refine wpAnyH_take (i := 20) (v := .bool false) rfl (by kernel_rfl) (by kernel_rfl) (by kernel_rfl) (fun _ _ _ h => h) (Or.inl ⟨by kernel_rfl, fun w hSw => ?_⟩) hS4 ?_
                · obtain ⟨e1, e2, e3, e4⟩ := hSw; go_simp
                simp only [Act.put, List.getElem_toArray, List.getElem_cons_succ, List.getElem_cons_zero, List.setIfInBounds_toArray, List.set_cons_zero, List.set_cons_succ]
                refine wpAnyH_take (i := 21) (v := .slice (some ⟨gp, op, none⟩) (mp + 1) cp) rfl (by kernel_rfl) (by kernel_rfl) (by kernel_rfl) (fun _ _ _ h => h) (Or.inl ⟨by kernel_rfl, fun w hSw => ?_⟩) hS4 ?_
                · obtain ⟨e1, e2, e3, e4⟩ := hSw; go_simp
                simp only [Act.put, List.getElem_toArray, List.getElem_cons_succ, List.getElem_cons_zero, List.setIfInBounds_toArray, List.set_cons_zero, List.set_cons_succ]
                refine wpAnyH_take (i := 22) (v := .slice (some ⟨gb, ob, none⟩) nb cb) rfl (by kernel_rfl) (by kernel_rfl) (by kernel_rfl) (fun _ _ _ h => h) (Or.inl ⟨by kernel_rfl, fun w hSw => ?_⟩) hS4 ?_
                · obtain ⟨e1, e2, e3, e4⟩ := hSw; go_simp
                simp only [Act.put, List.getElem_toArray, List.getElem_cons_succ, List.getElem_cons_zero, List.setIfInBounds_toArray, List.set_cons_zero, List.set_cons_succ]
                refine wpAnyH_take (i := 23) (v := .int .i64 (k : Int)) rfl (by kernel_rfl) (by kernel_rfl) (by kernel_rfl) (fun _ _ _ h => h) (Or.inl ⟨by kernel_rfl, fun w hSw => ?_⟩) hS4 ?_
                · obtain ⟨e1, e2, e3, e4⟩ := hSw; go_simp
                simp only [Act.put, List.getElem_toArray, List.getElem_cons_succ, List.getElem_cons_zero, List.setIfInBounds_toArray, List.set_cons_zero, List.set_cons_succ]
                refine wpAnyH_take (i := 24) (v := .pointer (some ⟨gb, ob + k * 2, none⟩)) rfl (by kernel_rfl) (by kernel_rfl) (by kernel_rfl) (fun _ _ _ h => h) (Or.inl ⟨by kernel_rfl, fun w hSw => ?_⟩) hS4 ?_
                · obtain ⟨e1, e2, e3, e4⟩ := hSw; go_simp
                simp only [Act.put, List.getElem_toArray, List.getElem_cons_succ, List.getElem_cons_zero, List.setIfInBounds_toArray, List.set_cons_zero, List.set_cons_succ]
                refine wpAnyH_take (i := 25) (v := .agg #[.int .i64 d1, .int .i64 d2]) rfl (by kernel_rfl) (by kernel_rfl) (by kernel_rfl) (fun _ _ _ h => h) (Or.inl ⟨by kernel_rfl, fun w hSw => ?_⟩) hS4 ?_
                · obtain ⟨e1, e2, e3, e4⟩ := hSw; go_simp
                simp only [Act.put, List.getElem_toArray, List.getElem_cons_succ, List.getElem_cons_zero, List.setIfInBounds_toArray, List.set_cons_zero, List.set_cons_succ]
                refine wpAnyH_ready (rs := [26]) (by kernel_rfl) (by simp) ?_
                refine AllReadyH.cons rfl (fun K hK => ?_) AllReadyH.nil
                go_simp
                refine (HIn.out _ S4.out).mono ?_
                rintro e W6 ⟨rfl, S6⟩
                have hS6 := HC.out _ S6.out
                refine hK.out _ _ hS6 (fun _ => ?_)
                clear hK K
                refine wpAnyH_take (i := 27) (v := .bool false) rfl (by kernel_rfl) (by kernel_rfl) (by kernel_rfl) (fun _ _ _ h => h) (Or.inl ⟨by kernel_rfl, fun w hSw => ?_⟩) hS6 ?_
                · obtain ⟨e1, e2, e3, e4⟩ := hSw; go_simp
                simp only [Act.put, List.getElem_toArray, List.getElem_cons_succ, List.getElem_cons_zero, List.setIfInBounds_toArray, List.set_cons_zero, List.set_cons_succ]
                refine wpAnyH_take (i := 28) (v := .bool false) rfl (by kernel_rfl) (by kernel_rfl) (by kernel_rfl) (fun _ _ _ h => h) (Or.inl ⟨by kernel_rfl, fun w hSw => ?_⟩) hS6 ?_
                · obtain ⟨e1, e2, e3, e4⟩ := hSw; go_simp
                simp only [Act.put, List.getElem_toArray, List.getElem_cons_succ, List.getElem_cons_zero, List.setIfInBounds_toArray, List.set_cons_zero, List.set_cons_succ]
                refine wpAnyH_take (i := 29) (v := .slice (some ⟨gp, op, none⟩) (mp + 1) cp) rfl (by kernel_rfl) (by kernel_rfl) (by kernel_rfl) (fun _ _ _ h => h) (Or.inl ⟨by kernel_rfl, fun w hSw => ?_⟩) hS6 ?_
                · obtain ⟨e1, e2, e3, e4⟩ := hSw; go_simp
                simp only [Act.put, List.getElem_toArray, List.getElem_cons_succ, List.getElem_cons_zero, List.setIfInBounds_toArray, List.set_cons_zero, List.set_cons_succ]
                refine wpAnyH_take (i := 32) (v := .int .i64 ((mp : Int) + 1)) rfl (by kernel_rfl) (by kernel_rfl) (by kernel_rfl) (fun _ _ _ h => h) (Or.inl ⟨by kernel_rfl, fun w hSw => ?_⟩) hS6 ?_
                · obtain ⟨e1, e2, e3, e4⟩ := hSw; go_simp
                simp only [Act.put, List.getElem_toArray, List.getElem_cons_succ, List.getElem_cons_zero, List.setIfInBounds_toArray, List.set_cons_zero, List.set_cons_succ]
                refine wpAnyH_ready (rs := [30]) (by kernel_rfl) (by simp) ?_
                refine AllReadyH.cons rfl (fun K hK => ?_) AllReadyH.nil
                go_simp
                refine (HRi.out _ S6.out).mono ?_
                rintro e W7 ⟨ar, cr, rfl, S7⟩
                have hS7 := HC.out _ S7.out
                refine hK.out _ _ hS7 (fun _ => ?_)
                clear hK K
                refine wpAnyH_take (i := 31) (v := .int .i64 ((mp : Int) + 1)) rfl (by kernel_rfl) (by kernel_rfl) (by kernel_rfl) (fun _ _ _ h => h) (Or.inl ⟨by kernel_rfl, fun w hSw => ?_⟩) hS7 ?_
                · obtain ⟨e1, e2, e3, e4⟩ := hSw; go_simp
                simp only [Act.put, List.getElem_toArray, List.getElem_cons_succ, List.getElem_cons_zero, List.setIfInBounds_toArray, List.set_cons_zero, List.set_cons_succ]
                refine wpAnyH_take (i := 33) (v := .bool false) rfl (by kernel_rfl) (by kernel_rfl) (by kernel_rfl) (fun _ _ _ h => h) (Or.inl ⟨by kernel_rfl, fun w hSw => ?_⟩) hS7 ?_
                · obtain ⟨e1, e2, e3, e4⟩ := hSw; go_simp
                simp only [Act.put, List.getElem_toArray, List.getElem_cons_succ, List.getElem_cons_zero, List.setIfInBounds_toArray, List.set_cons_zero, List.set_cons_succ]
                refine wpAnyH_take (i := 34) (v := .bool false) rfl (by kernel_rfl) (by kernel_rfl) (by kernel_rfl) (fun _ _ _ h => h) (Or.inl ⟨by kernel_rfl, fun w hSw => ?_⟩) hS7 ?_
                · obtain ⟨e1, e2, e3, e4⟩ := hSw; go_simp
                simp only [Act.put, List.getElem_toArray, List.getElem_cons_succ, List.getElem_cons_zero, List.setIfInBounds_toArray, List.set_cons_zero, List.set_cons_succ]
                refine wpAnyH_done (by kernel_rfl) ?_ _
                go_wp2_with fail
                go_meet
                case rel => exact ⟨rfl, S7⟩
              · obtain ⟨rfl, rfl⟩ : z1 = 0 ∧ z2 = -2 := by simpa using hzz
                clear hzz
                refine wp_region_held_drew (S := fun w' => w'.cell? ⟨gp, op + mp * 2, none⟩ = some (.int .i64 0) ∧ w'.cell? ⟨gp, op + mp * 2 + 1, none⟩ = some (.int .i64 (-2)) ∧ w'.cell? ⟨gb, ob + k * 2, none⟩ = some (.int .i64 d1) ∧ w'.cell? ⟨gb, ob + k * 2 + 1, none⟩ = some (.int .i64 d2)) hmxo hS15 ?_
                intro _
                refine wpAnyH_take (i := 0) (v := .int .i64 ((mp : Int) + 1)) rfl (by kernel_rfl) (by kernel_rfl) (by kernel_rfl) (fun _ _ _ h => h) (Or.inl ⟨by kernel_rfl, fun w hSw => ?_⟩) hS15 ?_
                · obtain ⟨e1, e2, e3, e4⟩ := hSw; go_simp
                simp only [Act.put, List.getElem_toArray, List.getElem_cons_succ, List.getElem_cons_zero, List.setIfInBounds_toArray, List.set_cons_zero, List.set_cons_succ]
                refine wpAnyH_take (i := 1) (v := .bool false) rfl (by kernel_rfl) (by kernel_rfl) (by kernel_rfl) (fun _ _ _ h => h) (Or.inl ⟨by kernel_rfl, fun w hSw => ?_⟩) hS15 ?_
                · obtain ⟨e1, e2, e3, e4⟩ := hSw; go_simp
                simp only [Act.put, List.getElem_toArray, List.getElem_cons_succ, List.getElem_cons_zero, List.setIfInBounds_toArray, List.set_cons_zero, List.set_cons_succ]
                refine wpAnyH_take (i := 2) (v := .bool false) rfl (by kernel_rfl) (by kernel_rfl) (by kernel_rfl) (fun _ _ _ h => h) (Or.inl ⟨by kernel_rfl, fun w hSw => ?_⟩) hS15 ?_
                · obtain ⟨e1, e2, e3, e4⟩ := hSw; go_simp
                simp only [Act.put, List.getElem_toArray, List.getElem_cons_succ, List.getElem_cons_zero, List.setIfInBounds_toArray, List.set_cons_zero, List.set_cons_succ]
                refine wpAnyH_take (i := 3) (v := .slice (some ⟨gp, op, none⟩) (mp + 1) cp) rfl (by kernel_rfl) (by kernel_rfl) (by kernel_rfl) (fun _ _ _ h => h) (Or.inl ⟨by kernel_rfl, fun w hSw => ?_⟩) hS15 ?_
                · obtain ⟨e1, e2, e3, e4⟩ := hSw; go_simp
                simp only [Act.put, List.getElem_toArray, List.getElem_cons_succ, List.getElem_cons_zero, List.setIfInBounds_toArray, List.set_cons_zero, List.set_cons_succ]
                refine wpAnyH_take (i := 4) (v := .int .i64 ((mp : Int) + 1)) rfl (by kernel_rfl) (by kernel_rfl) (by kernel_rfl) (fun _ _ _ h => h) (Or.inl ⟨by kernel_rfl, fun w hSw => ?_⟩) hS15 ?_
                · obtain ⟨e1, e2, e3, e4⟩ := hSw; go_simp
                simp only [Act.put, List.getElem_toArray, List.getElem_cons_succ, List.getElem_cons_zero, List.setIfInBounds_toArray, List.set_cons_zero, List.set_cons_succ]
                refine wpAnyH_take (i := 5) (v := .int .i64 (mp : Int)) rfl (by kernel_rfl) (by kernel_rfl) (by kernel_rfl) (fun _ _ _ h => h) (Or.inl ⟨by kernel_rfl, fun w hSw => ?_⟩) hS15 ?_
                · obtain ⟨e1, e2, e3, e4⟩ := hSw; go_simp
                simp only [Act.put, List.getElem_toArray, List.getElem_cons_succ, List.getElem_cons_zero, List.setIfInBounds_toArray, List.set_cons_zero, List.set_cons_succ]
                refine wpAnyH_take (i := 6) (v := .pointer (some ⟨gp, op + mp * 2, none⟩)) rfl (by kernel_rfl) (by kernel_rfl) (by kernel_rfl) (fun _ _ _ h => h) (Or.inl ⟨by kernel_rfl, fun w hSw => ?_⟩) hS15 ?_
                · obtain ⟨e1, e2, e3, e4⟩ := hSw; go_simp
                simp only [Act.put, List.getElem_toArray, List.getElem_cons_succ, List.getElem_cons_zero, List.setIfInBounds_toArray, List.set_cons_zero, List.set_cons_succ]
                refine wpAnyH_take (i := 7) (v := .agg #[.int .i64 0, .int .i64 (-2)]) rfl (by kernel_rfl) (by kernel_rfl) (by kernel_rfl) (fun _ _ _ h => h) (Or.inl ⟨by kernel_rfl, fun w hSw => ?_⟩) hS15 ?_
                · obtain ⟨e1, e2, e3, e4⟩ := hSw; go_simp
                simp only [Act.put, List.getElem_toArray, List.getElem_cons_succ, List.getElem_cons_zero, List.setIfInBounds_toArray, List.set_cons_zero, List.set_cons_succ]
                refine wpAnyH_ready (rs := [8]) (by kernel_rfl) (by simp) ?_
                refine AllReadyH.cons rfl (fun K hK => ?_) AllReadyH.nil
                go_simp
                refine (HRo.out _ S15d).mono ?_
                rintro e W4 ⟨rfl, S4⟩
                have hS4 := HC.out _ S4.out
                refine hK.out _ _ hS4 (fun _ => ?_)
                clear hK K
                refine wpAnyH_take (i := 9) (v := .bool true) rfl (by kernel_rfl) (by kernel_rfl) (by kernel_rfl) (fun _ _ _ h => h) (Or.inl ⟨by kernel_rfl, fun w hSw => ?_⟩) hS4 ?_
                · obtain ⟨e1, e2, e3, e4⟩ := hSw; go_simp
                simp only [Act.put, List.getElem_toArray, List.getElem_cons_succ, List.getElem_cons_zero, List.setIfInBounds_toArray, List.set_cons_zero, List.set_cons_succ]
                refine wpAnyH_take (i := 10) (v := .bool true) rfl (by kernel_rfl) (by kernel_rfl) (by kernel_rfl) (fun _ _ _ h => h) (Or.inl ⟨by kernel_rfl, fun w hSw => ?_⟩) hS4 ?_
                · obtain ⟨e1, e2, e3, e4⟩ := hSw; go_simp
                simp only [Act.put, List.getElem_toArray, List.getElem_cons_succ, List.getElem_cons_zero, List.setIfInBounds_toArray, List.set_cons_zero, List.set_cons_succ]
                refine wpAnyH_take (i := 11) (v := .slice (some ⟨gp, op, none⟩) (mp + 1) cp) rfl (by kernel_rfl) (by kernel_rfl) (by kernel_rfl) (fun _ _ _ h => h) (Or.inl ⟨by kernel_rfl, fun w hSw => ?_⟩) hS4 ?_
                · obtain ⟨e1, e2, e3, e4⟩ := hSw; go_simp
                simp only [Act.put, List.getElem_toArray, List.getElem_cons_succ, List.getElem_cons_zero, List.setIfInBounds_toArray, List.set_cons_zero, List.set_cons_succ]
                refine wpAnyH_take (i := 12) (v := .int .i64 ((mp : Int) + 1)) rfl (by kernel_rfl) (by kernel_rfl) (by kernel_rfl) (fun _ _ _ h => h) (Or.inl ⟨by kernel_rfl, fun w hSw => ?_⟩) hS4 ?_
                · obtain ⟨e1, e2, e3, e4⟩ := hSw; go_simp
                simp only [Act.put, List.getElem_toArray, List.getElem_cons_succ, List.getElem_cons_zero, List.setIfInBounds_toArray, List.set_cons_zero, List.set_cons_succ]
                refine wpAnyH_take (i := 13) (v := .int .i64 (mp : Int)) rfl (by kernel_rfl) (by kernel_rfl) (by kernel_rfl) (fun _ _ _ h => h) (Or.inl ⟨by kernel_rfl, fun w hSw => ?_⟩) hS4 ?_
                · obtain ⟨e1, e2, e3, e4⟩ := hSw; go_simp
                simp only [Act.put, List.getElem_toArray, List.getElem_cons_succ, List.getElem_cons_zero, List.setIfInBounds_toArray, List.set_cons_zero, List.set_cons_succ]
                refine wpAnyH_take (i := 14) (v := .pointer (some ⟨gp, op + mp * 2, none⟩)) rfl (by kernel_rfl) (by kernel_rfl) (by kernel_rfl) (fun _ _ _ h => h) (Or.inl ⟨by kernel_rfl, fun w hSw => ?_⟩) hS4 ?_
                · obtain ⟨e1, e2, e3, e4⟩ := hSw; go_simp
                simp only [Act.put, List.getElem_toArray, List.getElem_cons_succ, List.getElem_cons_zero, List.setIfInBounds_toArray, List.set_cons_zero, List.set_cons_succ]
                refine wpAnyH_take (i := 15) (v := .agg #[.int .i64 0, .int .i64 (-2)]) rfl (by kernel_rfl) (by kernel_rfl) (by kernel_rfl) (fun _ _ _ h => h) (Or.inl ⟨by kernel_rfl, fun w hSw => ?_⟩) hS4 ?_
                · obtain ⟨e1, e2, e3, e4⟩ := hSw; go_simp
                simp only [Act.put, List.getElem_toArray, List.getElem_cons_succ, List.getElem_cons_zero, List.setIfInBounds_toArray, List.set_cons_zero, List.set_cons_succ]
                refine wpAnyH_ready (rs := [16]) (by kernel_rfl) (by simp) ?_
                refine AllReadyH.cons rfl (fun K hK => ?_) AllReadyH.nil
                go_simp
                refine (HTr.out _ S4.out).mono ?_
                rintro e W5 ⟨rfl, S5⟩
                have hS5 := HC.out _ S5.out
                refine hK.out _ _ hS5 (fun _ => ?_)
                clear hK K
                refine wpAnyH_take (i := 17) (v := .bool false) rfl (by kernel_rfl) (by kernel_rfl) (by kernel_rfl) (fun _ _ _ h => h) (Or.inl ⟨by kernel_rfl, fun w hSw => ?_⟩) hS5 ?_
                · obtain ⟨e1, e2, e3, e4⟩ := hSw; go_simp
                simp only [Act.put, List.getElem_toArray, List.getElem_cons_succ, List.getElem_cons_zero, List.setIfInBounds_toArray, List.set_cons_zero, List.set_cons_succ]
                refine wpAnyH_take (i := 18) (v := .bool false) rfl (by kernel_rfl) (by kernel_rfl) (by kernel_rfl) (fun _ _ _ h => h) (Or.inl ⟨by kernel_rfl, fun w hSw => ?_⟩) hS5 ?_
                · obtain ⟨e1, e2, e3, e4⟩ := hSw; go_simp
                simp only [Act.put, List.getElem_toArray, List.getElem_cons_succ, List.getElem_cons_zero, List.setIfInBounds_toArray, List.set_cons_zero, List.set_cons_succ]
                refine wpAnyH_take (i := 19) (v := .bool false) rfl (by kernel_rfl) (by kernel_rfl) (by kernel_rfl) (fun _ _ _ h => h) (Or.inl ⟨by kernel_rfl, fun w hSw => ?_⟩) hS5 ?_
                · obtain ⟨e1, e2, e3, e4⟩ := hSw; go_simp
                simp only [Act.put, List.getElem_toArray, List.getElem_cons_succ, List.getElem_cons_zero, List.setIfInBounds_toArray, List.set_cons_zero, List.set_cons_succ]
                refine wpAnyH_take (i := 20) (v := .bool false) rfl (by kernel_rfl) (by kernel_rfl) (by kernel_rfl) (fun _ _ _ h => h) (Or.inl ⟨by kernel_rfl, fun w hSw => ?_⟩) hS5 ?_
                · obtain ⟨e1, e2, e3, e4⟩ := hSw; go_simp
                simp only [Act.put, List.getElem_toArray, List.getElem_cons_succ, List.getElem_cons_zero, List.setIfInBounds_toArray, List.set_cons_zero, List.set_cons_succ]
                refine wpAnyH_take (i := 21) (v := .slice (some ⟨gp, op, none⟩) (mp + 1) cp) rfl (by kernel_rfl) (by kernel_rfl) (by kernel_rfl) (fun _ _ _ h => h) (Or.inl ⟨by kernel_rfl, fun w hSw => ?_⟩) hS5 ?_
                · obtain ⟨e1, e2, e3, e4⟩ := hSw; go_simp
                simp only [Act.put, List.getElem_toArray, List.getElem_cons_succ, List.getElem_cons_zero, List.setIfInBounds_toArray, List.set_cons_zero, List.set_cons_succ]
                refine wpAnyH_take (i := 22) (v := .slice (some ⟨gb, ob, none⟩) nb cb) rfl (by kernel_rfl) (by kernel_rfl) (by kernel_rfl) (fun _ _ _ h => h) (Or.inl ⟨by kernel_rfl, fun w hSw => ?_⟩) hS5 ?_
                · obtain ⟨e1, e2, e3, e4⟩ := hSw; go_simp
                simp only [Act.put, List.getElem_toArray, List.getElem_cons_succ, List.getElem_cons_zero, List.setIfInBounds_toArray, List.set_cons_zero, List.set_cons_succ]
                refine wpAnyH_take (i := 23) (v := .int .i64 (k : Int)) rfl (by kernel_rfl) (by kernel_rfl) (by kernel_rfl) (fun _ _ _ h => h) (Or.inl ⟨by kernel_rfl, fun w hSw => ?_⟩) hS5 ?_
                · obtain ⟨e1, e2, e3, e4⟩ := hSw; go_simp
                simp only [Act.put, List.getElem_toArray, List.getElem_cons_succ, List.getElem_cons_zero, List.setIfInBounds_toArray, List.set_cons_zero, List.set_cons_succ]
                refine wpAnyH_take (i := 24) (v := .pointer (some ⟨gb, ob + k * 2, none⟩)) rfl (by kernel_rfl) (by kernel_rfl) (by kernel_rfl) (fun _ _ _ h => h) (Or.inl ⟨by kernel_rfl, fun w hSw => ?_⟩) hS5 ?_
                · obtain ⟨e1, e2, e3, e4⟩ := hSw; go_simp
                simp only [Act.put, List.getElem_toArray, List.getElem_cons_succ, List.getElem_cons_zero, List.setIfInBounds_toArray, List.set_cons_zero, List.set_cons_succ]
                refine wpAnyH_take (i := 25) (v := .agg #[.int .i64 d1, .int .i64 d2]) rfl (by kernel_rfl) (by kernel_rfl) (by kernel_rfl) (fun _ _ _ h => h) (Or.inl ⟨by kernel_rfl, fun w hSw => ?_⟩) hS5 ?_
                · obtain ⟨e1, e2, e3, e4⟩ := hSw; go_simp
                simp only [Act.put, List.getElem_toArray, List.getElem_cons_succ, List.getElem_cons_zero, List.setIfInBounds_toArray, List.set_cons_zero, List.set_cons_succ]
                refine wpAnyH_ready (rs := [26]) (by kernel_rfl) (by simp) ?_
                refine AllReadyH.cons rfl (fun K hK => ?_) AllReadyH.nil
                go_simp
                refine (HIn.out _ S5.out).mono ?_
                rintro e W6 ⟨rfl, S6⟩
                have hS6 := HC.out _ S6.out
                refine hK.out _ _ hS6 (fun _ => ?_)
                clear hK K
                refine wpAnyH_take (i := 27) (v := .bool false) rfl (by kernel_rfl) (by kernel_rfl) (by kernel_rfl) (fun _ _ _ h => h) (Or.inl ⟨by kernel_rfl, fun w hSw => ?_⟩) hS6 ?_
                · obtain ⟨e1, e2, e3, e4⟩ := hSw; go_simp
                simp only [Act.put, List.getElem_toArray, List.getElem_cons_succ, List.getElem_cons_zero, List.setIfInBounds_toArray, List.set_cons_zero, List.set_cons_succ]
                refine wpAnyH_take (i := 28) (v := .bool false) rfl (by kernel_rfl) (by kernel_rfl) (by kernel_rfl) (fun _ _ _ h => h) (Or.inl ⟨by kernel_rfl, fun w hSw => ?_⟩) hS6 ?_
                · obtain ⟨e1, e2, e3, e4⟩ := hSw; go_simp
                simp only [Act.put, List.getElem_toArray, List.getElem_cons_succ, List.getElem_cons_zero, List.setIfInBounds_toArray, List.set_cons_zero, List.set_cons_succ]
                refine wpAnyH_take (i := 29) (v := .slice (some ⟨gp, op, none⟩) (mp + 1) cp) rfl (by kernel_rfl) (by kernel_rfl) (by kernel_rfl) (fun _ _ _ h => h) (Or.inl ⟨by kernel_rfl, fun w hSw => ?_⟩) hS6 ?_
                · obtain ⟨e1, e2, e3, e4⟩ := hSw; go_simp
                simp only [Act.put, List.getElem_toArray, List.getElem_cons_succ, List.getElem_cons_zero, List.setIfInBounds_toArray, List.set_cons_zero, List.set_cons_succ]
                refine wpAnyH_take (i := 32) (v := .int .i64 ((mp : Int) + 1)) rfl (by kernel_rfl) (by kernel_rfl) (by kernel_rfl) (fun _ _ _ h => h) (Or.inl ⟨by kernel_rfl, fun w hSw => ?_⟩) hS6 ?_
                · obtain ⟨e1, e2, e3, e4⟩ := hSw; go_simp
                simp only [Act.put, List.getElem_toArray, List.getElem_cons_succ, List.getElem_cons_zero, List.setIfInBounds_toArray, List.set_cons_zero, List.set_cons_succ]
                refine wpAnyH_ready (rs := [30]) (by kernel_rfl) (by simp) ?_
                refine AllReadyH.cons rfl (fun K hK => ?_) AllReadyH.nil
                go_simp
                refine (HRi.out _ S6.out).mono ?_
                rintro e W7 ⟨ar, cr, rfl, S7⟩
                have hS7 := HC.out _ S7.out
                refine hK.out _ _ hS7 (fun _ => ?_)
                clear hK K
                refine wpAnyH_take (i := 31) (v := .int .i64 ((mp : Int) + 1)) rfl (by kernel_rfl) (by kernel_rfl) (by kernel_rfl) (fun _ _ _ h => h) (Or.inl ⟨by kernel_rfl, fun w hSw => ?_⟩) hS7 ?_
                · obtain ⟨e1, e2, e3, e4⟩ := hSw; go_simp
                simp only [Act.put, List.getElem_toArray, List.getElem_cons_succ, List.getElem_cons_zero, List.setIfInBounds_toArray, List.set_cons_zero, List.set_cons_succ]
                refine wpAnyH_take (i := 33) (v := .bool false) rfl (by kernel_rfl) (by kernel_rfl) (by kernel_rfl) (fun _ _ _ h => h) (Or.inl ⟨by kernel_rfl, fun w hSw => ?_⟩) hS7 ?_
                · obtain ⟨e1, e2, e3, e4⟩ := hSw; go_simp
                simp only [Act.put, List.getElem_toArray, List.getElem_cons_succ, List.getElem_cons_zero, List.setIfInBounds_toArray, List.set_cons_zero, List.set_cons_succ]
                refine wpAnyH_take (i := 34) (v := .bool false) rfl (by kernel_rfl) (by kernel_rfl) (by kernel_rfl) (fun _ _ _ h => h) (Or.inl ⟨by kernel_rfl, fun w hSw => ?_⟩) hS7 ?_
                · obtain ⟨e1, e2, e3, e4⟩ := hSw; go_simp
                simp only [Act.put, List.getElem_toArray, List.getElem_cons_succ, List.getElem_cons_zero, List.setIfInBounds_toArray, List.set_cons_zero, List.set_cons_succ]
                refine wpAnyH_done (by kernel_rfl) ?_ _
                go_wp2_with fail
                go_meet
                case rel => exact ⟨rfl, S7⟩
            case rest =>
              obtain ⟨rfl, H7⟩ := hcut
              clear hS15 S15d HRo HTr HIn HRi
              have hcc := HC.out _ H7.out
              obtain ⟨y0, y1, y2, y3⟩ := hcc
              go_wp2_with (first
                | (go_at_call 17; refine (HKi.out _ H8.out).mono ?_; rintro e W9 ⟨ak, ck, nk, rfl, u0, u1, H9⟩)
                | (go_at_call 16; refine (HPar.out _ H7.out).mono ?_; rintro e W8 ⟨rfl, H8⟩))
              obtain ⟨hnk, hnk2, hpk, hT9, hK9⟩ := H9.out
              have HNK := hid hnk
              have HPK := hid hpk
              have H9' : Hid (TP W9 t l P3 ∧ KP P3 W3 W9) := hid ⟨hT9, hK9⟩
              have HB9 : ∀ m, (W9.drewN m).cell? ⟨gb, ob + k * 2, none⟩ = some (.int .i64 d1) := fun m => (HC.out _ ⟨hT9, hK9⟩).2.2.1
              have HB9' : ∀ m, (W9.drewN m).cell? ⟨gb, ob + k * 2 + 1, none⟩ = some (.int .i64 d2) := fun m => (HC.out _ ⟨hT9, hK9⟩).2.2.2
              have hck := hpk.cap
              clear H7 H8 H9 HKi HPar hnk hpk hT9 hK9 y0 y1 y2 y3
              go_loopw [14, 15] (fun ti i wr => ∃ j : Nat, j ≤ nk ∧ i = .int .i64 j ∧ ti = .int .i64 ((tms (d1, d2) ((kidB (run l) (q1, q2)).take j) : Nat) : Int) ∧ ∃ q, wr = W9.drewN q) (fun _ i _ => nk - (intOf i).toNat)
              case atStart => exact ⟨0, by omega, rfl, by simp [tms], 0, rfl⟩
              case round =>
                obtain ⟨j, hj, rfl, rfl, hw0⟩ := hrel
                have HW0 := hid hw0
                clear hw0
                by_cases hjl : j < nk
                · have hb4 : decide ((j : Int) < (nk : Int)) = true := by simp [hjl]
                  obtain ⟨⟨x1, x2⟩, hx⟩ : ∃ x, (kidB (run l) (q1, q2))[j]? = some x := ⟨_, List.getElem?_eq_getElem (by rw [HPK.out.len]; exact hjl)⟩
                  have hts : (kidB (run l) (q1, q2)).take (j + 1) = (kidB (run l) (q1, q2)).take j ++ [(x1, x2)] := by
                    rw [List.take_succ_eq_append_getElem (by rw [HPK.out.len]; exact hjl), (List.getElem?_eq_some_iff.1 hx).2]
                  obtain ⟨gk, ok, rfl, _, _, hlk⟩ := HPK.out.look hx
                  have hwr : ∀ m, ∃ q, wr.drewN m = W9.drewN q := fun m => by obtain ⟨q, hq⟩ := HW0.out; rw [hq]; exact drew_more ⟨q, rfl⟩ m
                  have C0 : ∀ m, (wr.drewN m).cell? ⟨gk, ok + j * 2, none⟩ = some (.int .i64 x1) := fun m => by obtain ⟨q, hq⟩ := hwr m; rw [hq]; exact (hlk (W9.drewN q) rfl).1
                  have C1 : ∀ m, (wr.drewN m).cell? ⟨gk, ok + j * 2 + 1, none⟩ = some (.int .i64 x2) := fun m => by obtain ⟨q, hq⟩ := hwr m; rw [hq]; exact (hlk (W9.drewN q) rfl).2
                  have C2 : ∀ m, (wr.drewN m).cell? ⟨gb, ob + k * 2, none⟩ = some (.int .i64 d1) := fun m => by obtain ⟨q, hq⟩ := hwr m; rw [hq]; exact HB9 q
                  have C3 : ∀ m, (wr.drewN m).cell? ⟨gb, ob + k * 2 + 1, none⟩ = some (.int .i64 d2) := fun m => by obtain ⟨q, hq⟩ := hwr m; rw [hq]; exact HB9' q
                  have HTS := hid hts
                  have htl : tms (d1, d2) ((kidB (run l) (q1, q2)).take j) ≤ 1000 := by
                    unfold tms
                    refine Nat.le_trans (List.length_filter_le _ _) ?_
                    rw [List.length_take]
                    omega
                  have HSN : Hid (tms (d1, d2) ((kidB (run l) (q1, q2)).take (j + 1)) = tms (d1, d2) ((kidB (run l) (q1, q2)).take j) + (if (x1, x2) = (d1, d2) then 1 else 0)) := hid (by rw [HTS.out, tms_snoc])
                  obtain ⟨T, hT⟩ : ∃ T, T = tms (d1, d2) ((kidB (run l) (q1, q2)).take j) := ⟨_, rfl⟩
                  rw [← hT] at htl HSN ⊢
                  have HTT := hid hT
                  clear hts hlk hx hwr hT HB9 HB9' u0 u1
                  by_cases e1 : x1 = d1
                  · subst e1
                    by_cases e2 : x2 = d2
                    · subst e2
                      go_wp2_with fail
                      go_quiet (fail)
                      go_wp2
                      go_roundw
                      case rel => exact ⟨j + 1, by omega, by go_num, by rw [HSN.out]; simp, drew_more HW0.out _⟩
                      case measure => simp [intOf]; omega
                    · go_wp2_with fail
                      go_quiet (fail)
                      go_wp2
                      go_roundw
                      case rel => exact ⟨j + 1, by omega, by go_num, by rw [HSN.out]; simp [e2], drew_more HW0.out _⟩
                      case measure => simp [intOf]; omega
                  · go_wp2_with fail
                    go_quiet (fail)
                    go_wp2
                    go_roundw
                    case rel => exact ⟨j + 1, by omega, by go_num, by rw [HSN.out]; simp [e1], drew_more HW0.out _⟩
                    case measure => simp [intOf]; omega
                · obtain rfl : j = nk := by omega
                  have htt : tms (d1, d2) ((kidB (run l) (q1, q2)).take j) = 1 := by
                    rw [List.take_of_length_le (by rw [HPK.out.len]; exact Nat.le_refl _)]
                    exact HTM.out
                  rw [htt]
                  have hwr : ∀ m, ∃ q, wr.drewN m = W9.drewN q := fun m => by obtain ⟨q, hq⟩ := HW0.out; rw [hq]; exact drew_more ⟨q, rfl⟩ m
                  obtain ⟨v0, v1⟩ := HL0.out _ H9'.out
                  have C0 : ∀ m, (wr.drewN m).cell? ⟨gp, op, none⟩ = some (.int .i64 q1) := fun m => by obtain ⟨q, hq⟩ := hwr m; rw [hq]; exact v0
                  have C1 : ∀ m, (wr.drewN m).cell? ⟨gp, op + 1, none⟩ = some (.int .i64 q2) := fun m => by obtain ⟨q, hq⟩ := hwr m; rw [hq]; exact v1
                  have C2 : ∀ m, (wr.drewN m).cell? ⟨W8.heap.size, 0, none⟩ = some (.int .i64 q1) := fun m => by obtain ⟨q, hq⟩ := hwr m; rw [hq]; exact u0 q
                  have C3 : ∀ m, (wr.drewN m).cell? ⟨W8.heap.size, 1, none⟩ = some (.int .i64 q2) := fun m => by obtain ⟨q, hq⟩ := hwr m; rw [hq]; exact u1 q
                  have HFin : Hid (∀ m, TP (wr.drewN m) t l P2 ∧ KP P2 W2 (wr.drewN m)) := hid (fun m => by
                    obtain ⟨q, hq⟩ := hwr m
                    rw [hq]
                    have hb : Below W9.heap.size W9 (W9.drewN q) := (Far.refl W9).drewN q |>.below
                    exact ⟨HT3m.out _ (H9'.out.1.below hb), HK2.out _ (H9'.out.2.trans (KP.below hb H9'.out.1.lt))⟩)
                  clear htt hwr v0 v1 HB9 HB9' u0 u1
                  go_wp2_with fail
                  go_quiet (fail)
                  go_wp2
                  go_roundw
                  case rel => exact ⟨k + 1, by omega, by go_num, hid (HFin.out _)⟩
                  case measure => simp [intOf]; omega
          · obtain rfl : k = nb := by omega
            go_wp2
            go_ret
            have hq2 := HS.out.2.mono (Q := fun j => j < w.heap.size) (fun j hj => by rw [HP2.out]; exact Or.inl hj)
            exact ⟨rfl, HB2.out.trans hq2.bel⟩
      · have hkn : n ≤ k := by omega
        have hb1 : decide ((k : Int) < (n : Int)) = false := by simp; omega
        clear hlt
        go_wp2_with (go_at_call 14; refine HBl.mono ?_; rintro e W2 ⟨ab, nb, cb, rfl, H2⟩)
        clear HBl
        obtain ⟨hps2, hT2, hB2, hnb⟩ := H2.out
        clear H2
        obtain ⟨P2, hP2⟩ : ∃ P2 : Nat → Prop, P2 = (fun j => j < w.heap.size ∨ ∃ ad, ab = some ad ∧ ad.block = j) := ⟨_, rfl⟩
        rw [← hP2] at hT2
        have HLog := hid hT2.log
        have HB2 := hid hB2
        have HPS2 := hid hps2
        have HP2 := hid hP2
        have HT2 := hid hT2
        clear hps2 hT2 hB2 hP2
        go_loopw [7] (fun i wr => ∃ k : Nat, k ≤ nb ∧ i = .int .i64 k ∧ Hid (TP wr t l P2 ∧ KP P2 W2 wr)) (fun i _ => nb - (intOf i).toNat)
        case atStart => exact ⟨0, by omega, rfl, hid ⟨HT2.out, KP.refl _ _⟩⟩
        case round =>
          obtain ⟨k, hk, rfl, HS⟩ := hrel
          by_cases hlt : k < nb
          · have hb1 : decide ((k : Int) < (nb : Int)) = true := by simp [hlt]
            obtain ⟨⟨d1, d2⟩, hd⟩ : ∃ d, (blks l)[k]? = some d := ⟨_, List.getElem?_eq_getElem (by rw [HPS2.out.len]; exact hlt)⟩
            have hdm : (d1, d2) ∈ blks l := List.mem_of_getElem? hd
            have hdw := blks_dw HLog.out.2.1 _ hdm
            obtain ⟨⟨⟨q1, q2⟩, qk⟩, mp, ⟨z1, z2⟩, hq, hpl, hz, hze, hp0, hnin, hri, htm⟩ := blk_facts HLog.out.1 hdm
            have hqw := lk_dw HLog.out.2.1 hq
            have hcb := HPS2.out.cap
            obtain ⟨gb, ob, rfl, hgb, _, hlk2⟩ := HPS2.out.look hd
            obtain ⟨kb0, kb1⟩ := hlk2 wr (HS.out.2.keep gb (by rw [HP2.out]; exact Or.inr ⟨_, rfl, rfl⟩))
            have hmp : mp ≤ 1000 := by
              obtain ⟨r, hr⟩ := HLog.out.1.run_tk
              have := hr.pth_len (d1, d2)
              have := run_len l
              have := HLog.out.2.2
              omega
            have HPa := (path_tp (d1, d2) HS.out.1 hdw).mono (R' := fun e W' => ∃ ap cp, e = .returned (.slice ap (mp + 1) cp) ∧ Hid (PS W' ap (mp + 1) cp (pth (run l) (d1, d2)) ∧ TP W' t l (fun j => P2 j ∨ ∃ ad, ap = some ad ∧ ad.block = j) ∧ KP P2 W2 W')) (fun e W' h => by
              obtain ⟨a', c', h1, h2, h3, h4⟩ := h
              rw [hpl] at h1 h2
              exact ⟨a', c', h1, hid ⟨h2, h3, HS.out.2.trans h4⟩⟩)
            have hmz : ¬ ((mp : Int) + 1 = 0) := by omega
            have hmw : IntKind.i64.wrap (mp : Int) = (mp : Int) := by rw [IntKind.wrap_i64]; omega
            have hmb : ¬ ((mp : Int) + 1 ≤ (mp : Int)) := by omega
            have HZ := hid hz
            have HZE := hid hze
            have HP0 := hid hp0
            have HNI := hid hnin
            have HRI := hid hri
            have HTM := hid htm
            have HQ := hid hq
            have HQW := hid hqw
            have HDW := hid hdw
            have HLK := hid hlk2
            have HGB := hid hgb
            have HPL := hid hpl
            have HDM := hid hd
            clear hz hze hp0 hnin hri htm hq hqw hdw hd hdm hlk2 HS hpl hgb
            go_wp2_with (go_at_call 20; refine HPa.mono ?_; rintro e W3 ⟨ap, cp, rfl, H3⟩)
            clear HPa kb0 kb1
            obtain ⟨hps3, hT3, hK3⟩ := H3.out
            obtain ⟨gp, op, rfl, hgp, _, hlk3⟩ := hps3.look HZ.out
            have hcp := hps3.cap
            obtain ⟨P3, hP3⟩ : ∃ P3 : Nat → Prop, P3 = (fun j => P2 j ∨ ∃ ad, (some ⟨gp, op, none⟩ : Option Addr) = some ad ∧ ad.block = j) := ⟨_, rfl⟩
            rw [← hP3] at hT3
            have h23 : ∀ j, P2 j → P3 j := fun j hj => by rw [hP3]; exact Or.inl hj
            have hg3 : P3 gp := by rw [hP3]; exact Or.inr ⟨_, rfl, rfl⟩
            have hb3 : P3 gb := h23 gb (by rw [HP2.out]; exact Or.inr ⟨_, rfl, rfl⟩)
            have HC : Hid (∀ V, (TP V t l P3 ∧ KP P3 W3 V) → (V.cell? ⟨gp, op + mp * 2, none⟩ = some (.int .i64 z1) ∧ V.cell? ⟨gp, op + mp * 2 + 1, none⟩ = some (.int .i64 z2) ∧ V.cell? ⟨gb, ob + k * 2, none⟩ = some (.int .i64 d1) ∧ V.cell? ⟨gb, ob + k * 2 + 1, none⟩ = some (.int .i64 d2))) := hid (fun V hV => by
              obtain ⟨x0, x1⟩ := hlk3 V (hV.2.keep gp hg3)
              obtain ⟨x2, x3⟩ := HLK.out V ((hV.2.keep gb hb3).trans (hK3.keep gb (by rw [HP2.out]; exact Or.inr ⟨_, rfl, rfl⟩)))
              exact ⟨x0, x1, x2, x3⟩)
            have HBel : Hid (∀ V V', (TP V t l P3 ∧ KP P3 W3 V) → Below V.heap.size V V' → (TP V' t l P3 ∧ KP P3 W3 V')) := hid (fun V V' h hb => ⟨h.1.below hb, h.2.trans (KP.below hb h.1.lt)⟩)
            have HPS : Hid (∀ V, (TP V t l P3 ∧ KP P3 W3 V) → PS V (some ⟨gp, op, none⟩) (mp + 1) cp (pth (run l) (d1, d2))) := hid (fun V hV => hps3.same (fun ad e => by cases e; exact hV.2.keep gp hg3))
            have HRo : Hid (∀ V, (TP V t l P3 ∧ KP P3 W3 V) → Calls Try.prog 19 #[] V fun e V' => e = .returned (.agg #[.int .i64 0, .int .i64 (-1)]) ∧ Hid (TP V' t l P3 ∧ KP P3 W3 V')) := hid (fun V h => (root_any V).mono (fun e V' g => ⟨g.1, hid (HBel.out V V' h g.2.below)⟩))
            have HTr : Hid (∀ V, (TP V t l P3 ∧ KP P3 W3 V) → Calls Try.prog 21 #[] V fun e V' => e = .returned (.agg #[.int .i64 0, .int .i64 (-2)]) ∧ Hid (TP V' t l P3 ∧ KP P3 W3 V')) := hid (fun V h => (trash_any V).mono (fun e V' g => ⟨g.1, hid (HBel.out V V' h g.2.below)⟩))
            have HIn : Hid (∀ V, (TP V t l P3 ∧ KP P3 W3 V) → Calls Try.prog 22 #[.slice (some ⟨gp, op, none⟩) (mp + 1) cp, .agg #[.int .i64 d1, .int .i64 d2]] V fun e V' => e = .returned (.bool false) ∧ Hid (TP V' t l P3 ∧ KP P3 W3 V')) := hid (fun V h => (in_any _ _ _ _ (d1, d2) V (HPS.out V h) (by omega)).mono (fun e V' g => ⟨by rw [g.1, decide_eq_false HNI.out], hid (HBel.out V V' h g.2.below)⟩))
            have HRi : Hid (∀ V, (TP V t l P3 ∧ KP P3 W3 V) → Calls Try.prog 23 #[.slice (some ⟨gp, op, none⟩) (mp + 1) cp] V fun e V' => ∃ ar cr, e = .returned (.slice ar (mp + 1) cr) ∧ Hid (TP V' t l P3 ∧ KP P3 W3 V')) := hid (fun V h => (rrising_any _ _ _ _ V (HPS.out V h) (by omega)).mono (fun e V' g => by
              obtain ⟨a', c', g1, _, g3⟩ := g
              rw [HRI.out] at g1
              exact ⟨a', c', g1, hid (HBel.out V V' h g3)⟩))
            have S15d : TP W3.drew t l P3 ∧ KP P3 W3 W3.drew := ⟨hT3.drew, (KP.refl _ _).drew⟩
            have hS15 := HC.out _ S15d
            have HPar : Hid (∀ V, (TP V t l P3 ∧ KP P3 W3 V) → Calls Try.prog 16 #[.pointer (some ⟨t, 0, none⟩), .agg #[.int .i64 d1, .int .i64 d2]] V fun e V' => e = .returned (.tuple #[.agg #[.int .i64 q1, .int .i64 q2], .string qk, .bool true]) ∧ Hid (TP V' t l P3 ∧ KP P3 W3 V')) := hid (fun V h => by
              have := parent_tp (d1, d2) h.1 HDW.out
              rw [HQ.out] at this
              exact this.mono (fun e V' g => ⟨g.1, hid ⟨g.2.1, h.2.trans g.2.2⟩⟩))
            have HKi : Hid (∀ V, (TP V t l P3 ∧ KP P3 W3 V) → Calls Try.prog 17 #[.pointer (some ⟨t, 0, none⟩), .agg #[.int .i64 q1, .int .i64 q2]] (V.alloc (.cells #[.int .i64 q1, .int .i64 q2] 24)) fun e V' => ∃ ak ck nk, e = .returned (.slice ak nk ck) ∧ (∀ m, (V'.drewN m).cell? ⟨V.heap.size, 0, none⟩ = some (.int .i64 q1)) ∧ (∀ m, (V'.drewN m).cell? ⟨V.heap.size, 1, none⟩ = some (.int .i64 q2)) ∧ Hid (nk = (kidB (run l) (q1, q2)).length ∧ nk ≤ 1000 ∧ PS V' ak nk ck (kidB (run l) (q1, q2)) ∧ TP V' t l P3 ∧ KP P3 W3 V')) := hid (fun V h => by
              have hal := h.1.alloc (.cells #[.int .i64 q1, .int .i64 q2] 24)
              refine (kids_tp (q1, q2) hal HQW.out).mono (fun e V' g => ?_)
              obtain ⟨a', c', g1, g2, g3, g4⟩ := g
              have hx : V'.heap[V.heap.size]? = some (.cells #[.int .i64 q1, .int .i64 q2] 24 (0, 0)) := (g4.keep _ (Or.inr rfl)).trans (World.alloc_heap_new V _)
              have hx2 : ∀ m, (V'.drewN m).heap[V.heap.size]? = some (.cells #[.int .i64 q1, .int .i64 q2] 24 (0, 0)) := fun m => hx
              refine ⟨a', c', _, g1, fun m => by simp only [World.cell?, hx2 m]; rfl, fun m => by simp only [World.cell?, hx2 m]; rfl, hid ⟨rfl, ?_, g2, g3.mono (fun j hj => Or.inl (Or.inl hj)), h.2.trans ((KP.below ((Below.refl _ V).alloc (Nat.le_refl _) _) h.1.lt).trans (g4.mono (fun j hj => Or.inl hj)))⟩⟩
              obtain ⟨r, hr⟩ := HLog.out.1.run_tk
              unfold kidB
              rw [List.length_map]
              have := kidS_len hr.nd (q1, q2)
              have := run_len l
              have := HLog.out.2.2
              omega)
            have HK2 : Hid (∀ V, KP P3 W3 V → KP P2 W2 V) := hid (fun V h => hK3.trans (h.mono h23))
            have HT3m : Hid (∀ V, TP V t l P3 → TP V t l P2) := hid (fun V h => h.mono h23)
            obtain ⟨e0, he0⟩ : ∃ e0, e0 = (pth (run l) (d1, d2)) := ⟨_, rfl⟩
            have HL0 : Hid (∀ V, (TP V t l P3 ∧ KP P3 W3 V) → V.cell? ⟨gp, op, none⟩ = some (.int .i64 q1) ∧ V.cell? ⟨gp, op + 1, none⟩ = some (.int .i64 q2)) := hid (fun V h => by
              obtain ⟨g', o', e', _, _, x⟩ := hps3.look HP0.out
              cases e'
              have := x V (h.2.keep gp hg3)
              simpa using this)
            have HG3 := hid hg3
            clear hps3 hT3 hK3 hlk3 hP3 h23 hg3 hb3 H3 he0 e0
            go_cut [107] from 73 to 107 (fun s wc => s = .bool false ∧ Hid (TP wc t l P3 ∧ KP P3 W3 wc))
            case first =>
              rcases HZE.out with hzz | hzz
              · obtain ⟨rfl, rfl⟩ : z1 = 0 ∧ z2 = -1 := by simpa using hzz
                clear hzz
                refine wp_region_held_drew (S := fun w' => w'.cell? ⟨gp, op + mp * 2, none⟩ = some (.int .i64 0) ∧ w'.cell? ⟨gp, op + mp * 2 + 1, none⟩ = some (.int .i64 (-1)) ∧ w'.cell? ⟨gb, ob + k * 2, none⟩ = some (.int .i64 d1) ∧ w'.cell? ⟨gb, ob + k * 2 + 1, none⟩ = some (.int .i64 d2)) hmxo hS15 ?_
                intro _
                refine wpAnyH_take (i := 0) (v := .int .i64 ((mp : Int) + 1)) rfl (by kernel_rfl) (by kernel_rfl) (by kernel_rfl) (fun _ _ _ h => h) (Or.inl ⟨by kernel_rfl, fun w hSw => ?_⟩) hS15 ?_
                · obtain ⟨e1, e2, e3, e4⟩ := hSw; go_simp
                simp only [Act.put, List.getElem_toArray, List.getElem_cons_succ, List.getElem_cons_zero, List.setIfInBounds_toArray, List.set_cons_zero, List.set_cons_succ]
                refine wpAnyH_take (i := 1) (v := .bool false) rfl (by kernel_rfl) (by kernel_rfl) (by kernel_rfl) (fun _ _ _ h => h) (Or.inl ⟨by kernel_rfl, fun w hSw => ?_⟩) hS15 ?_
                · obtain ⟨e1, e2, e3, e4⟩ := hSw; go_simp
                simp only [Act.put, List.getElem_toArray, List.getElem_cons_succ, List.getElem_cons_zero, List.setIfInBounds_toArray, List.set_cons_zero, List.set_cons_succ]
                refine wpAnyH_take (i := 2) (v := .bool false) rfl (by kernel_rfl) (by kernel_rfl) (by kernel_rfl) (fun _ _ _ h => h) (Or.inl ⟨by kernel_rfl, fun w hSw => ?_⟩) hS15 ?_
                · obtain ⟨e1, e2, e3, e4⟩ := hSw; go_simp
                simp only [Act.put, List.getElem_toArray, List.getElem_cons_succ, List.getElem_cons_zero, List.setIfInBounds_toArray, List.set_cons_zero, List.set_cons_succ]
                refine wpAnyH_take (i := 3) (v := .slice (some ⟨gp, op, none⟩) (mp + 1) cp) rfl (by kernel_rfl) (by kernel_rfl) (by kernel_rfl) (fun _ _ _ h => h) (Or.inl ⟨by kernel_rfl, fun w hSw => ?_⟩) hS15 ?_
                · obtain ⟨e1, e2, e3, e4⟩ := hSw; go_simp
                simp only [Act.put, List.getElem_toArray, List.getElem_cons_succ, List.getElem_cons_zero, List.setIfInBounds_toArray, List.set_cons_zero, List.set_cons_succ]
                refine wpAnyH_take (i := 4) (v := .int .i64 ((mp : Int) + 1)) rfl (by kernel_rfl) (by kernel_rfl) (by kernel_rfl) (fun _ _ _ h => h) (Or.inl ⟨by kernel_rfl, fun w hSw => ?_⟩) hS15 ?_
                · obtain ⟨e1, e2, e3, e4⟩ := hSw; go_simp
                simp only [Act.put, List.getElem_toArray, List.getElem_cons_succ, List.getElem_cons_zero, List.setIfInBounds_toArray, List.set_cons_zero, List.set_cons_succ]
                refine wpAnyH_take (i := 5) (v := .int .i64 (mp : Int)) rfl (by kernel_rfl) (by kernel_rfl) (by kernel_rfl) (fun _ _ _ h => h) (Or.inl ⟨by kernel_rfl, fun w hSw => ?_⟩) hS15 ?_
                · obtain ⟨e1, e2, e3, e4⟩ := hSw; go_simp
                simp only [Act.put, List.getElem_toArray, List.getElem_cons_succ, List.getElem_cons_zero, List.setIfInBounds_toArray, List.set_cons_zero, List.set_cons_succ]
                refine wpAnyH_take (i := 6) (v := .pointer (some ⟨gp, op + mp * 2, none⟩)) rfl (by kernel_rfl) (by kernel_rfl) (by kernel_rfl) (fun _ _ _ h => h) (Or.inl ⟨by kernel_rfl, fun w hSw => ?_⟩) hS15 ?_
                · obtain ⟨e1, e2, e3, e4⟩ := hSw; go_simp
                simp only [Act.put, List.getElem_toArray, List.getElem_cons_succ, List.getElem_cons_zero, List.setIfInBounds_toArray, List.set_cons_zero, List.set_cons_succ]
                refine wpAnyH_take (i := 7) (v := .agg #[.int .i64 0, .int .i64 (-1)]) rfl (by kernel_rfl) (by kernel_rfl) (by kernel_rfl) (fun _ _ _ h => h) (Or.inl ⟨by kernel_rfl, fun w hSw => ?_⟩) hS15 ?_
                · obtain ⟨e1, e2, e3, e4⟩ := hSw; go_simp
                simp only [Act.put, List.getElem_toArray, List.getElem_cons_succ, List.getElem_cons_zero, List.setIfInBounds_toArray, List.set_cons_zero, List.set_cons_succ]
                refine wpAnyH_ready (rs := [8]) (by kernel_rfl) (by simp) ?_
                refine AllReadyH.cons rfl (fun K hK => ?_) AllReadyH.nil
                go_simp
                refine (HRo.out _ S15d).mono ?_
                rintro e W4 ⟨rfl, S4⟩
                have hS4 := HC.out _ S4.out
                refine hK.out _ _ hS4 (fun _ => ?_)
                clear hK K
                refine wpAnyH_take (i := 9) (v := .bool false) rfl (by kernel_rfl) (by kernel_rfl) (by kernel_rfl) (fun _ _ _ h => h) (Or.inl ⟨by kernel_rfl, fun w hSw => ?_⟩) hS4 ?_
                · obtain ⟨e1, e2, e3, e4⟩ := hSw; go_simp
                simp only [Act.put, List.getElem_toArray, List.getElem_cons_succ, List.getElem_cons_zero, List.setIfInBounds_toArray, List.set_cons_zero, List.set_cons_succ]
                refine wpAnyH_take (i := 10) (v := .bool false) rfl (by kernel_rfl) (by kernel_rfl) (by kernel_rfl) (fun _ _ _ h => h) (Or.inl ⟨by kernel_rfl, fun w hSw => ?_⟩) hS4 ?_
                · obtain ⟨e1, e2, e3, e4⟩ := hSw; go_simp
                simp only [Act.put, List.getElem_toArray, List.getElem_cons_succ, List.getElem_cons_zero, List.setIfInBounds_toArray, List.set_cons_zero, List.set_cons_succ]
                refine wpAnyH_take (i := 11) (v := undef) rfl (by kernel_rfl) (by kernel_rfl) (by kernel_rfl) (fun _ _ _ h => h) (Or.inr ⟨by kernel_rfl, rfl⟩) hS4 ?_
                simp only [Act.put, List.getElem_toArray, List.getElem_cons_succ, List.getElem_cons_zero, List.setIfInBounds_toArray, List.set_cons_zero, List.set_cons_succ]
                refine wpAnyH_take (i := 12) (v := undef) rfl (by kernel_rfl) (by kernel_rfl) (by kernel_rfl) (fun _ _ _ h => h) (Or.inr ⟨by kernel_rfl, rfl⟩) hS4 ?_
                simp only [Act.put, List.getElem_toArray, List.getElem_cons_succ, List.getElem_cons_zero, List.setIfInBounds_toArray, List.set_cons_zero, List.set_cons_succ]
                refine wpAnyH_take (i := 13) (v := undef) rfl (by kernel_rfl) (by kernel_rfl) (by kernel_rfl) (fun _ _ _ h => h) (Or.inr ⟨by kernel_rfl, rfl⟩) hS4 ?_
                simp only [Act.put, List.getElem_toArray, List.getElem_cons_succ, List.getElem_cons_zero, List.setIfInBounds_toArray, List.set_cons_zero, List.set_cons_succ]
                refine wpAnyH_take (i := 14) (v := undef) rfl (by kernel_rfl) (by kernel_rfl) (by kernel_rfl) (fun _ _ _ h => h) (Or.inr ⟨by kernel_rfl, rfl⟩) hS4 ?_
                simp only [Act.put, List.getElem_toArray, List.getElem_cons_succ, List.getElem_cons_zero, List.setIfInBounds_toArray, List.set_cons_zero, List.set_cons_succ]
                refine wpAnyH_take (i := 15) (v := undef) rfl (by kernel_rfl) (by kernel_rfl) (by kernel_rfl) (fun _ _ _ h => h) (Or.inr ⟨by kernel_rfl, rfl⟩) hS4 ?_
                simp only [Act.put, List.getElem_toArray, List.getElem_cons_succ, List.getElem_cons_zero, List.setIfInBounds_toArray, List.set_cons_zero, List.set_cons_succ]
                refine wpAnyH_take (i := 16) (v := undef) rfl (by kernel_rfl) (by kernel_rfl) (by kernel_rfl) (fun _ _ _ h => h) (Or.inr ⟨by kernel_rfl, rfl⟩) hS4 ?_
                simp only [Act.put, List.getElem_toArray, List.getElem_cons_succ, List.getElem_cons_zero, List.setIfInBounds_toArray, List.set_cons_zero, List.set_cons_succ]
                refine wpAnyH_take (i := 17) (v := undef) rfl (by kernel_rfl) (by kernel_rfl) (by kernel_rfl) (fun _ _ _ h => h) (Or.inr ⟨by kernel_rfl, rfl⟩) hS4 ?_
                simp only [Act.put, List.getElem_toArray, List.getElem_cons_succ, List.getElem_cons_zero, List.setIfInBounds_toArray, List.set_cons_zero, List.set_cons_succ]
                refine wpAnyH_take (i := 18) (v := .bool false) rfl (by kernel_rfl) (by kernel_rfl) (by kernel_rfl) (fun _ _ _ h => h) (Or.inl ⟨by kernel_rfl, fun w hSw => ?_⟩) hS4 ?_
                · obtain ⟨e1, e2, e3, e4⟩ := hSw; go_simp
                simp only [Act.put, List.getElem_toArray, List.getElem_cons_succ, List.getElem_cons_zero, List.setIfInBounds_toArray, List.set_cons_zero, List.set_cons_succ]
                refine wpAnyH_take (i := 19) (v := .bool false) rfl (by kernel_rfl) (by kernel_rfl) (by kernel_rfl) (fun _ _ _ h => h) (Or.inl ⟨by kernel_rfl, fun w hSw => ?_⟩) hS4 ?_
                · obtain ⟨e1, e2, e3, e4⟩ := hSw; go_simp
                simp only [Act.put, List.getElem_toArray, List.getElem_cons_succ, List.getElem_cons_zero, List.setIfInBounds_toArray, List.set_cons_zero, List.set_cons_succ]
                refine wpAnyH_take (i := 20) (v := .bool false) rfl (by kernel_rfl) (by kernel_rfl) (by kernel_rfl) (fun _ _ _ h => h) (Or.inl ⟨by kernel_rfl, fun w hSw => ?_⟩) hS4 ?_
                · obtain ⟨e1, e2, e3, e4⟩ := hSw; go_simp
                simp only [Act.put, List.getElem_toArray, List.getElem_cons_succ, List.getElem_cons_zero, List.setIfInBounds_toArray, List.set_cons_zero, List.set_cons_succ]
                refine wpAnyH_take (i := 21) (v := .slice (some ⟨gp, op, none⟩) (mp + 1) cp) rfl (by kernel_rfl) (by kernel_rfl) (by kernel_rfl) (fun _ _ _ h => h) (Or.inl ⟨by kernel_rfl, fun w hSw => ?_⟩) hS4 ?_
                · obtain ⟨e1, e2, e3, e4⟩ := hSw; go_simp
                simp only [Act.put, List.getElem_toArray, List.getElem_cons_succ, List.getElem_cons_zero, List.setIfInBounds_toArray, List.set_cons_zero, List.set_cons_succ]
                refine wpAnyH_take (i := 22) (v := .slice (some ⟨gb, ob, none⟩) nb cb) rfl (by kernel_rfl) (by kernel_rfl) (by kernel_rfl) (fun _ _ _ h => h) (Or.inl ⟨by kernel_rfl, fun w hSw => ?_⟩) hS4 ?_
                · obtain ⟨e1, e2, e3, e4⟩ := hSw; go_simp
                simp only [Act.put, List.getElem_toArray, List.getElem_cons_succ, List.getElem_cons_zero, List.setIfInBounds_toArray, List.set_cons_zero, List.set_cons_succ]
                refine wpAnyH_take (i := 23) (v := .int .i64 (k : Int)) rfl (by kernel_rfl) (by kernel_rfl) (by kernel_rfl) (fun _ _ _ h => h) (Or.inl ⟨by kernel_rfl, fun w hSw => ?_⟩) hS4 ?_
                · obtain ⟨e1, e2, e3, e4⟩ := hSw; go_simp
                simp only [Act.put, List.getElem_toArray, List.getElem_cons_succ, List.getElem_cons_zero, List.setIfInBounds_toArray, List.set_cons_zero, List.set_cons_succ]
                refine wpAnyH_take (i := 24) (v := .pointer (some ⟨gb, ob + k * 2, none⟩)) rfl (by kernel_rfl) (by kernel_rfl) (by kernel_rfl) (fun _ _ _ h => h) (Or.inl ⟨by kernel_rfl, fun w hSw => ?_⟩) hS4 ?_
                · obtain ⟨e1, e2, e3, e4⟩ := hSw; go_simp
                simp only [Act.put, List.getElem_toArray, List.getElem_cons_succ, List.getElem_cons_zero, List.setIfInBounds_toArray, List.set_cons_zero, List.set_cons_succ]
                refine wpAnyH_take (i := 25) (v := .agg #[.int .i64 d1, .int .i64 d2]) rfl (by kernel_rfl) (by kernel_rfl) (by kernel_rfl) (fun _ _ _ h => h) (Or.inl ⟨by kernel_rfl, fun w hSw => ?_⟩) hS4 ?_
                · obtain ⟨e1, e2, e3, e4⟩ := hSw; go_simp
                simp only [Act.put, List.getElem_toArray, List.getElem_cons_succ, List.getElem_cons_zero, List.setIfInBounds_toArray, List.set_cons_zero, List.set_cons_succ]
                refine wpAnyH_ready (rs := [26]) (by kernel_rfl) (by simp) ?_
                refine AllReadyH.cons rfl (fun K hK => ?_) AllReadyH.nil
                go_simp
                refine (HIn.out _ S4.out).mono ?_
                rintro e W6 ⟨rfl, S6⟩
                have hS6 := HC.out _ S6.out
                refine hK.out _ _ hS6 (fun _ => ?_)
                clear hK K
                refine wpAnyH_take (i := 27) (v := .bool false) rfl (by kernel_rfl) (by kernel_rfl) (by kernel_rfl) (fun _ _ _ h => h) (Or.inl ⟨by kernel_rfl, fun w hSw => ?_⟩) hS6 ?_
                · obtain ⟨e1, e2, e3, e4⟩ := hSw; go_simp
                simp only [Act.put, List.getElem_toArray, List.getElem_cons_succ, List.getElem_cons_zero, List.setIfInBounds_toArray, List.set_cons_zero, List.set_cons_succ]
                refine wpAnyH_take (i := 28) (v := .bool false) rfl (by kernel_rfl) (by kernel_rfl) (by kernel_rfl) (fun _ _ _ h => h) (Or.inl ⟨by kernel_rfl, fun w hSw => ?_⟩) hS6 ?_
                · obtain ⟨e1, e2, e3, e4⟩ := hSw; go_simp
                simp only [Act.put, List.getElem_toArray, List.getElem_cons_succ, List.getElem_cons_zero, List.setIfInBounds_toArray, List.set_cons_zero, List.set_cons_succ]
                refine wpAnyH_take (i := 29) (v := .slice (some ⟨gp, op, none⟩) (mp + 1) cp) rfl (by kernel_rfl) (by kernel_rfl) (by kernel_rfl) (fun _ _ _ h => h) (Or.inl ⟨by kernel_rfl, fun w hSw => ?_⟩) hS6 ?_
                · obtain ⟨e1, e2, e3, e4⟩ := hSw; go_simp
                simp only [Act.put, List.getElem_toArray, List.getElem_cons_succ, List.getElem_cons_zero, List.setIfInBounds_toArray, List.set_cons_zero, List.set_cons_succ]
                refine wpAnyH_take (i := 32) (v := .int .i64 ((mp : Int) + 1)) rfl (by kernel_rfl) (by kernel_rfl) (by kernel_rfl) (fun _ _ _ h => h) (Or.inl ⟨by kernel_rfl, fun w hSw => ?_⟩) hS6 ?_
                · obtain ⟨e1, e2, e3, e4⟩ := hSw; go_simp
                simp only [Act.put, List.getElem_toArray, List.getElem_cons_succ, List.getElem_cons_zero, List.setIfInBounds_toArray, List.set_cons_zero, List.set_cons_succ]
                refine wpAnyH_ready (rs := [30]) (by kernel_rfl) (by simp) ?_
                refine AllReadyH.cons rfl (fun K hK => ?_) AllReadyH.nil
                go_simp
                refine (HRi.out _ S6.out).mono ?_
                rintro e W7 ⟨ar, cr, rfl, S7⟩
                have hS7 := HC.out _ S7.out
                refine hK.out _ _ hS7 (fun _ => ?_)
                clear hK K
                refine wpAnyH_take (i := 31) (v := .int .i64 ((mp : Int) + 1)) rfl (by kernel_rfl) (by kernel_rfl) (by kernel_rfl) (fun _ _ _ h => h) (Or.inl ⟨by kernel_rfl, fun w hSw => ?_⟩) hS7 ?_
                · obtain ⟨e1, e2, e3, e4⟩ := hSw; go_simp
                simp only [Act.put, List.getElem_toArray, List.getElem_cons_succ, List.getElem_cons_zero, List.setIfInBounds_toArray, List.set_cons_zero, List.set_cons_succ]
                refine wpAnyH_take (i := 33) (v := .bool false) rfl (by kernel_rfl) (by kernel_rfl) (by kernel_rfl) (fun _ _ _ h => h) (Or.inl ⟨by kernel_rfl, fun w hSw => ?_⟩) hS7 ?_
                · obtain ⟨e1, e2, e3, e4⟩ := hSw; go_simp
                simp only [Act.put, List.getElem_toArray, List.getElem_cons_succ, List.getElem_cons_zero, List.setIfInBounds_toArray, List.set_cons_zero, List.set_cons_succ]
                refine wpAnyH_take (i := 34) (v := .bool false) rfl (by kernel_rfl) (by kernel_rfl) (by kernel_rfl) (fun _ _ _ h => h) (Or.inl ⟨by kernel_rfl, fun w hSw => ?_⟩) hS7 ?_
                · obtain ⟨e1, e2, e3, e4⟩ := hSw; go_simp
                simp only [Act.put, List.getElem_toArray, List.getElem_cons_succ, List.getElem_cons_zero, List.setIfInBounds_toArray, List.set_cons_zero, List.set_cons_succ]
                refine wpAnyH_done (by kernel_rfl) ?_ _
                go_wp2_with fail
                go_meet
                case rel => exact ⟨rfl, S7⟩
              · obtain ⟨rfl, rfl⟩ : z1 = 0 ∧ z2 = -2 := by simpa using hzz
                clear hzz
                refine wp_region_held_drew (S := fun w' => w'.cell? ⟨gp, op + mp * 2, none⟩ = some (.int .i64 0) ∧ w'.cell? ⟨gp, op + mp * 2 + 1, none⟩ = some (.int .i64 (-2)) ∧ w'.cell? ⟨gb, ob + k * 2, none⟩ = some (.int .i64 d1) ∧ w'.cell? ⟨gb, ob + k * 2 + 1, none⟩ = some (.int .i64 d2)) hmxo hS15 ?_
                intro _
                refine wpAnyH_take (i := 0) (v := .int .i64 ((mp : Int) + 1)) rfl (by kernel_rfl) (by kernel_rfl) (by kernel_rfl) (fun _ _ _ h => h) (Or.inl ⟨by kernel_rfl, fun w hSw => ?_⟩) hS15 ?_
                · obtain ⟨e1, e2, e3, e4⟩ := hSw; go_simp
                simp only [Act.put, List.getElem_toArray, List.getElem_cons_succ, List.getElem_cons_zero, List.setIfInBounds_toArray, List.set_cons_zero, List.set_cons_succ]
                refine wpAnyH_take (i := 1) (v := .bool false) rfl (by kernel_rfl) (by kernel_rfl) (by kernel_rfl) (fun _ _ _ h => h) (Or.inl ⟨by kernel_rfl, fun w hSw => ?_⟩) hS15 ?_
                · obtain ⟨e1, e2, e3, e4⟩ := hSw; go_simp
                simp only [Act.put, List.getElem_toArray, List.getElem_cons_succ, List.getElem_cons_zero, List.setIfInBounds_toArray, List.set_cons_zero, List.set_cons_succ]
                refine wpAnyH_take (i := 2) (v := .bool false) rfl (by kernel_rfl) (by kernel_rfl) (by kernel_rfl) (fun _ _ _ h => h) (Or.inl ⟨by kernel_rfl, fun w hSw => ?_⟩) hS15 ?_
                · obtain ⟨e1, e2, e3, e4⟩ := hSw; go_simp
                simp only [Act.put, List.getElem_toArray, List.getElem_cons_succ, List.getElem_cons_zero, List.setIfInBounds_toArray, List.set_cons_zero, List.set_cons_succ]
                refine wpAnyH_take (i := 3) (v := .slice (some ⟨gp, op, none⟩) (mp + 1) cp) rfl (by kernel_rfl) (by kernel_rfl) (by kernel_rfl) (fun _ _ _ h => h) (Or.inl ⟨by kernel_rfl, fun w hSw => ?_⟩) hS15 ?_
                · obtain ⟨e1, e2, e3, e4⟩ := hSw; go_simp
                simp only [Act.put, List.getElem_toArray, List.getElem_cons_succ, List.getElem_cons_zero, List.setIfInBounds_toArray, List.set_cons_zero, List.set_cons_succ]
                refine wpAnyH_take (i := 4) (v := .int .i64 ((mp : Int) + 1)) rfl (by kernel_rfl) (by kernel_rfl) (by kernel_rfl) (fun _ _ _ h => h) (Or.inl ⟨by kernel_rfl, fun w hSw => ?_⟩) hS15 ?_
                · obtain ⟨e1, e2, e3, e4⟩ := hSw; go_simp
                simp only [Act.put, List.getElem_toArray, List.getElem_cons_succ, List.getElem_cons_zero, List.setIfInBounds_toArray, List.set_cons_zero, List.set_cons_succ]
                refine wpAnyH_take (i := 5) (v := .int .i64 (mp : Int)) rfl (by kernel_rfl) (by kernel_rfl) (by kernel_rfl) (fun _ _ _ h => h) (Or.inl ⟨by kernel_rfl, fun w hSw => ?_⟩) hS15 ?_
                · obtain ⟨e1, e2, e3, e4⟩ := hSw; go_simp
                simp only [Act.put, List.getElem_toArray, List.getElem_cons_succ, List.getElem_cons_zero, List.setIfInBounds_toArray, List.set_cons_zero, List.set_cons_succ]
                refine wpAnyH_take (i := 6) (v := .pointer (some ⟨gp, op + mp * 2, none⟩)) rfl (by kernel_rfl) (by kernel_rfl) (by kernel_rfl) (fun _ _ _ h => h) (Or.inl ⟨by kernel_rfl, fun w hSw => ?_⟩) hS15 ?_
                · obtain ⟨e1, e2, e3, e4⟩ := hSw; go_simp
                simp only [Act.put, List.getElem_toArray, List.getElem_cons_succ, List.getElem_cons_zero, List.setIfInBounds_toArray, List.set_cons_zero, List.set_cons_succ]
                refine wpAnyH_take (i := 7) (v := .agg #[.int .i64 0, .int .i64 (-2)]) rfl (by kernel_rfl) (by kernel_rfl) (by kernel_rfl) (fun _ _ _ h => h) (Or.inl ⟨by kernel_rfl, fun w hSw => ?_⟩) hS15 ?_
                · obtain ⟨e1, e2, e3, e4⟩ := hSw; go_simp
                simp only [Act.put, List.getElem_toArray, List.getElem_cons_succ, List.getElem_cons_zero, List.setIfInBounds_toArray, List.set_cons_zero, List.set_cons_succ]
                refine wpAnyH_ready (rs := [8]) (by kernel_rfl) (by simp) ?_
                refine AllReadyH.cons rfl (fun K hK => ?_) AllReadyH.nil
                go_simp
                refine (HRo.out _ S15d).mono ?_
                rintro e W4 ⟨rfl, S4⟩
                have hS4 := HC.out _ S4.out
                refine hK.out _ _ hS4 (fun _ => ?_)
                clear hK K
                refine wpAnyH_take (i := 9) (v := .bool true) rfl (by kernel_rfl) (by kernel_rfl) (by kernel_rfl) (fun _ _ _ h => h) (Or.inl ⟨by kernel_rfl, fun w hSw => ?_⟩) hS4 ?_
                · obtain ⟨e1, e2, e3, e4⟩ := hSw; go_simp
                simp only [Act.put, List.getElem_toArray, List.getElem_cons_succ, List.getElem_cons_zero, List.setIfInBounds_toArray, List.set_cons_zero, List.set_cons_succ]
                refine wpAnyH_take (i := 10) (v := .bool true) rfl (by kernel_rfl) (by kernel_rfl) (by kernel_rfl) (fun _ _ _ h => h) (Or.inl ⟨by kernel_rfl, fun w hSw => ?_⟩) hS4 ?_
                · obtain ⟨e1, e2, e3, e4⟩ := hSw; go_simp
                simp only [Act.put, List.getElem_toArray, List.getElem_cons_succ, List.getElem_cons_zero, List.setIfInBounds_toArray, List.set_cons_zero, List.set_cons_succ]
                refine wpAnyH_take (i := 11) (v := .slice (some ⟨gp, op, none⟩) (mp + 1) cp) rfl (by kernel_rfl) (by kernel_rfl) (by kernel_rfl) (fun _ _ _ h => h) (Or.inl ⟨by kernel_rfl, fun w hSw => ?_⟩) hS4 ?_
                · obtain ⟨e1, e2, e3, e4⟩ := hSw; go_simp
                simp only [Act.put, List.getElem_toArray, List.getElem_cons_succ, List.getElem_cons_zero, List.setIfInBounds_toArray, List.set_cons_zero, List.set_cons_succ]
                refine wpAnyH_take (i := 12) (v := .int .i64 ((mp : Int) + 1)) rfl (by kernel_rfl) (by kernel_rfl) (by kernel_rfl) (fun _ _ _ h => h) (Or.inl ⟨by kernel_rfl, fun w hSw => ?_⟩) hS4 ?_
                · obtain ⟨e1, e2, e3, e4⟩ := hSw; go_simp
                simp only [Act.put, List.getElem_toArray, List.getElem_cons_succ, List.getElem_cons_zero, List.setIfInBounds_toArray, List.set_cons_zero, List.set_cons_succ]
                refine wpAnyH_take (i := 13) (v := .int .i64 (mp : Int)) rfl (by kernel_rfl) (by kernel_rfl) (by kernel_rfl) (fun _ _ _ h => h) (Or.inl ⟨by kernel_rfl, fun w hSw => ?_⟩) hS4 ?_
                · obtain ⟨e1, e2, e3, e4⟩ := hSw; go_simp
                simp only [Act.put, List.getElem_toArray, List.getElem_cons_succ, List.getElem_cons_zero, List.setIfInBounds_toArray, List.set_cons_zero, List.set_cons_succ]
                refine wpAnyH_take (i := 14) (v := .pointer (some ⟨gp, op + mp * 2, none⟩)) rfl (by kernel_rfl) (by kernel_rfl) (by kernel_rfl) (fun _ _ _ h => h) (Or.inl ⟨by kernel_rfl, fun w hSw => ?_⟩) hS4 ?_
                · obtain ⟨e1, e2, e3, e4⟩ := hSw; go_simp
                simp only [Act.put, List.getElem_toArray, List.getElem_cons_succ, List.getElem_cons_zero, List.setIfInBounds_toArray, List.set_cons_zero, List.set_cons_succ]
                refine wpAnyH_take (i := 15) (v := .agg #[.int .i64 0, .int .i64 (-2)]) rfl (by kernel_rfl) (by kernel_rfl) (by kernel_rfl) (fun _ _ _ h => h) (Or.inl ⟨by kernel_rfl, fun w hSw => ?_⟩) hS4 ?_
                · obtain ⟨e1, e2, e3, e4⟩ := hSw; go_simp
                simp only [Act.put, List.getElem_toArray, List.getElem_cons_succ, List.getElem_cons_zero, List.setIfInBounds_toArray, List.set_cons_zero, List.set_cons_succ]
                refine wpAnyH_ready (rs := [16]) (by kernel_rfl) (by simp) ?_
                refine AllReadyH.cons rfl (fun K hK => ?_) AllReadyH.nil
                go_simp
                refine (HTr.out _ S4.out).mono ?_
                rintro e W5 ⟨rfl, S5⟩
                have hS5 := HC.out _ S5.out
                refine hK.out _ _ hS5 (fun _ => ?_)
                clear hK K
                refine wpAnyH_take (i := 17) (v := .bool false) rfl (by kernel_rfl) (by kernel_rfl) (by kernel_rfl) (fun _ _ _ h => h) (Or.inl ⟨by kernel_rfl, fun w hSw => ?_⟩) hS5 ?_
                · obtain ⟨e1, e2, e3, e4⟩ := hSw; go_simp
                simp only [Act.put, List.getElem_toArray, List.getElem_cons_succ, List.getElem_cons_zero, List.setIfInBounds_toArray, List.set_cons_zero, List.set_cons_succ]
                refine wpAnyH_take (i := 18) (v := .bool false) rfl (by kernel_rfl) (by kernel_rfl) (by kernel_rfl) (fun _ _ _ h => h) (Or.inl ⟨by kernel_rfl, fun w hSw => ?_⟩) hS5 ?_
                · obtain ⟨e1, e2, e3, e4⟩ := hSw; go_simp
                simp only [Act.put, List.getElem_toArray, List.getElem_cons_succ, List.getElem_cons_zero, List.setIfInBounds_toArray, List.set_cons_zero, List.set_cons_succ]
                refine wpAnyH_take (i := 19) (v := .bool false) rfl (by kernel_rfl) (by kernel_rfl) (by kernel_rfl) (fun _ _ _ h => h) (Or.inl ⟨by kernel_rfl, fun w hSw => ?_⟩) hS5 ?_
                · obtain ⟨e1, e2, e3, e4⟩ := hSw; go_simp
                simp only [Act.put, List.getElem_toArray, List.getElem_cons_succ, List.getElem_cons_zero, List.setIfInBounds_toArray, List.set_cons_zero, List.set_cons_succ]
                refine wpAnyH_take (i := 20) (v := .bool false) rfl (by kernel_rfl) (by kernel_rfl) (by kernel_rfl) (fun _ _ _ h => h) (Or.inl ⟨by kernel_rfl, fun w hSw => ?_⟩) hS5 ?_
                · obtain ⟨e1, e2, e3, e4⟩ := hSw; go_simp
                simp only [Act.put, List.getElem_toArray, List.getElem_cons_succ, List.getElem_cons_zero, List.setIfInBounds_toArray, List.set_cons_zero, List.set_cons_succ]
                refine wpAnyH_take (i := 21) (v := .slice (some ⟨gp, op, none⟩) (mp + 1) cp) rfl (by kernel_rfl) (by kernel_rfl) (by kernel_rfl) (fun _ _ _ h => h) (Or.inl ⟨by kernel_rfl, fun w hSw => ?_⟩) hS5 ?_
                · obtain ⟨e1, e2, e3, e4⟩ := hSw; go_simp
                simp only [Act.put, List.getElem_toArray, List.getElem_cons_succ, List.getElem_cons_zero, List.setIfInBounds_toArray, List.set_cons_zero, List.set_cons_succ]
                refine wpAnyH_take (i := 22) (v := .slice (some ⟨gb, ob, none⟩) nb cb) rfl (by kernel_rfl) (by kernel_rfl) (by kernel_rfl) (fun _ _ _ h => h) (Or.inl ⟨by kernel_rfl, fun w hSw => ?_⟩) hS5 ?_
                · obtain ⟨e1, e2, e3, e4⟩ := hSw; go_simp
                simp only [Act.put, List.getElem_toArray, List.getElem_cons_succ, List.getElem_cons_zero, List.setIfInBounds_toArray, List.set_cons_zero, List.set_cons_succ]
                refine wpAnyH_take (i := 23) (v := .int .i64 (k : Int)) rfl (by kernel_rfl) (by kernel_rfl) (by kernel_rfl) (fun _ _ _ h => h) (Or.inl ⟨by kernel_rfl, fun w hSw => ?_⟩) hS5 ?_
                · obtain ⟨e1, e2, e3, e4⟩ := hSw; go_simp
                simp only [Act.put, List.getElem_toArray, List.getElem_cons_succ, List.getElem_cons_zero, List.setIfInBounds_toArray, List.set_cons_zero, List.set_cons_succ]
                refine wpAnyH_take (i := 24) (v := .pointer (some ⟨gb, ob + k * 2, none⟩)) rfl (by kernel_rfl) (by kernel_rfl) (by kernel_rfl) (fun _ _ _ h => h) (Or.inl ⟨by kernel_rfl, fun w hSw => ?_⟩) hS5 ?_
                · obtain ⟨e1, e2, e3, e4⟩ := hSw; go_simp
                simp only [Act.put, List.getElem_toArray, List.getElem_cons_succ, List.getElem_cons_zero, List.setIfInBounds_toArray, List.set_cons_zero, List.set_cons_succ]
                refine wpAnyH_take (i := 25) (v := .agg #[.int .i64 d1, .int .i64 d2]) rfl (by kernel_rfl) (by kernel_rfl) (by kernel_rfl) (fun _ _ _ h => h) (Or.inl ⟨by kernel_rfl, fun w hSw => ?_⟩) hS5 ?_
                · obtain ⟨e1, e2, e3, e4⟩ := hSw; go_simp
                simp only [Act.put, List.getElem_toArray, List.getElem_cons_succ, List.getElem_cons_zero, List.setIfInBounds_toArray, List.set_cons_zero, List.set_cons_succ]
                refine wpAnyH_ready (rs := [26]) (by kernel_rfl) (by simp) ?_
                refine AllReadyH.cons rfl (fun K hK => ?_) AllReadyH.nil
                go_simp
                refine (HIn.out _ S5.out).mono ?_
                rintro e W6 ⟨rfl, S6⟩
                have hS6 := HC.out _ S6.out
                refine hK.out _ _ hS6 (fun _ => ?_)
                clear hK K
                refine wpAnyH_take (i := 27) (v := .bool false) rfl (by kernel_rfl) (by kernel_rfl) (by kernel_rfl) (fun _ _ _ h => h) (Or.inl ⟨by kernel_rfl, fun w hSw => ?_⟩) hS6 ?_
                · obtain ⟨e1, e2, e3, e4⟩ := hSw; go_simp
                simp only [Act.put, List.getElem_toArray, List.getElem_cons_succ, List.getElem_cons_zero, List.setIfInBounds_toArray, List.set_cons_zero, List.set_cons_succ]
                refine wpAnyH_take (i := 28) (v := .bool false) rfl (by kernel_rfl) (by kernel_rfl) (by kernel_rfl) (fun _ _ _ h => h) (Or.inl ⟨by kernel_rfl, fun w hSw => ?_⟩) hS6 ?_
                · obtain ⟨e1, e2, e3, e4⟩ := hSw; go_simp
                simp only [Act.put, List.getElem_toArray, List.getElem_cons_succ, List.getElem_cons_zero, List.setIfInBounds_toArray, List.set_cons_zero, List.set_cons_succ]
                refine wpAnyH_take (i := 29) (v := .slice (some ⟨gp, op, none⟩) (mp + 1) cp) rfl (by kernel_rfl) (by kernel_rfl) (by kernel_rfl) (fun _ _ _ h => h) (Or.inl ⟨by kernel_rfl, fun w hSw => ?_⟩) hS6 ?_
                · obtain ⟨e1, e2, e3, e4⟩ := hSw; go_simp
                simp only [Act.put, List.getElem_toArray, List.getElem_cons_succ, List.getElem_cons_zero, List.setIfInBounds_toArray, List.set_cons_zero, List.set_cons_succ]
                refine wpAnyH_take (i := 32) (v := .int .i64 ((mp : Int) + 1)) rfl (by kernel_rfl) (by kernel_rfl) (by kernel_rfl) (fun _ _ _ h => h) (Or.inl ⟨by kernel_rfl, fun w hSw => ?_⟩) hS6 ?_
                · obtain ⟨e1, e2, e3, e4⟩ := hSw; go_simp
                simp only [Act.put, List.getElem_toArray, List.getElem_cons_succ, List.getElem_cons_zero, List.setIfInBounds_toArray, List.set_cons_zero, List.set_cons_succ]
                refine wpAnyH_ready (rs := [30]) (by kernel_rfl) (by simp) ?_
                refine AllReadyH.cons rfl (fun K hK => ?_) AllReadyH.nil
                go_simp
                refine (HRi.out _ S6.out).mono ?_
                rintro e W7 ⟨ar, cr, rfl, S7⟩
                have hS7 := HC.out _ S7.out
                refine hK.out _ _ hS7 (fun _ => ?_)
                clear hK K
                refine wpAnyH_take (i := 31) (v := .int .i64 ((mp : Int) + 1)) rfl (by kernel_rfl) (by kernel_rfl) (by kernel_rfl) (fun _ _ _ h => h) (Or.inl ⟨by kernel_rfl, fun w hSw => ?_⟩) hS7 ?_
                · obtain ⟨e1, e2, e3, e4⟩ := hSw; go_simp
                simp only [Act.put, List.getElem_toArray, List.getElem_cons_succ, List.getElem_cons_zero, List.setIfInBounds_toArray, List.set_cons_zero, List.set_cons_succ]
                refine wpAnyH_take (i := 33) (v := .bool false) rfl (by kernel_rfl) (by kernel_rfl) (by kernel_rfl) (fun _ _ _ h => h) (Or.inl ⟨by kernel_rfl, fun w hSw => ?_⟩) hS7 ?_
                · obtain ⟨e1, e2, e3, e4⟩ := hSw; go_simp
                simp only [Act.put, List.getElem_toArray, List.getElem_cons_succ, List.getElem_cons_zero, List.setIfInBounds_toArray, List.set_cons_zero, List.set_cons_succ]
                refine wpAnyH_take (i := 34) (v := .bool false) rfl (by kernel_rfl) (by kernel_rfl) (by kernel_rfl) (fun _ _ _ h => h) (Or.inl ⟨by kernel_rfl, fun w hSw => ?_⟩) hS7 ?_
                · obtain ⟨e1, e2, e3, e4⟩ := hSw; go_simp
                simp only [Act.put, List.getElem_toArray, List.getElem_cons_succ, List.getElem_cons_zero, List.setIfInBounds_toArray, List.set_cons_zero, List.set_cons_succ]
                refine wpAnyH_done (by kernel_rfl) ?_ _
                go_wp2_with fail
                go_meet
                case rel => exact ⟨rfl, S7⟩
            case rest =>
              obtain ⟨rfl, H7⟩ := hcut
              clear hS15 S15d HRo HTr HIn HRi
              have hcc := HC.out _ H7.out
              obtain ⟨y0, y1, y2, y3⟩ := hcc
              go_wp2_with (first
                | (go_at_call 17; refine (HKi.out _ H8.out).mono ?_; rintro e W9 ⟨ak, ck, nk, rfl, u0, u1, H9⟩)
                | (go_at_call 16; refine (HPar.out _ H7.out).mono ?_; rintro e W8 ⟨rfl, H8⟩))
              obtain ⟨hnk, hnk2, hpk, hT9, hK9⟩ := H9.out
              have HNK := hid hnk
              have HPK := hid hpk
              have H9' : Hid (TP W9 t l P3 ∧ KP P3 W3 W9) := hid ⟨hT9, hK9⟩
              have HB9 : ∀ m, (W9.drewN m).cell? ⟨gb, ob + k * 2, none⟩ = some (.int .i64 d1) := fun m => (HC.out _ ⟨hT9, hK9⟩).2.2.1
              have HB9' : ∀ m, (W9.drewN m).cell? ⟨gb, ob + k * 2 + 1, none⟩ = some (.int .i64 d2) := fun m => (HC.out _ ⟨hT9, hK9⟩).2.2.2
              have hck := hpk.cap
              clear H7 H8 H9 HKi HPar hnk hpk hT9 hK9 y0 y1 y2 y3
              go_loopw [14, 15] (fun ti i wr => ∃ j : Nat, j ≤ nk ∧ i = .int .i64 j ∧ ti = .int .i64 ((tms (d1, d2) ((kidB (run l) (q1, q2)).take j) : Nat) : Int) ∧ ∃ q, wr = W9.drewN q) (fun _ i _ => nk - (intOf i).toNat)
              case atStart => exact ⟨0, by omega, rfl, by simp [tms], 0, rfl⟩
              case round =>
                obtain ⟨j, hj, rfl, rfl, hw0⟩ := hrel
                have HW0 := hid hw0
                clear hw0
                by_cases hjl : j < nk
                · have hb4 : decide ((j : Int) < (nk : Int)) = true := by simp [hjl]
                  obtain ⟨⟨x1, x2⟩, hx⟩ : ∃ x, (kidB (run l) (q1, q2))[j]? = some x := ⟨_, List.getElem?_eq_getElem (by rw [HPK.out.len]; exact hjl)⟩
                  have hts : (kidB (run l) (q1, q2)).take (j + 1) = (kidB (run l) (q1, q2)).take j ++ [(x1, x2)] := by
                    rw [List.take_succ_eq_append_getElem (by rw [HPK.out.len]; exact hjl), (List.getElem?_eq_some_iff.1 hx).2]
                  obtain ⟨gk, ok, rfl, _, _, hlk⟩ := HPK.out.look hx
                  have hwr : ∀ m, ∃ q, wr.drewN m = W9.drewN q := fun m => by obtain ⟨q, hq⟩ := HW0.out; rw [hq]; exact drew_more ⟨q, rfl⟩ m
                  have C0 : ∀ m, (wr.drewN m).cell? ⟨gk, ok + j * 2, none⟩ = some (.int .i64 x1) := fun m => by obtain ⟨q, hq⟩ := hwr m; rw [hq]; exact (hlk (W9.drewN q) rfl).1
                  have C1 : ∀ m, (wr.drewN m).cell? ⟨gk, ok + j * 2 + 1, none⟩ = some (.int .i64 x2) := fun m => by obtain ⟨q, hq⟩ := hwr m; rw [hq]; exact (hlk (W9.drewN q) rfl).2
                  have C2 : ∀ m, (wr.drewN m).cell? ⟨gb, ob + k * 2, none⟩ = some (.int .i64 d1) := fun m => by obtain ⟨q, hq⟩ := hwr m; rw [hq]; exact HB9 q
                  have C3 : ∀ m, (wr.drewN m).cell? ⟨gb, ob + k * 2 + 1, none⟩ = some (.int .i64 d2) := fun m => by obtain ⟨q, hq⟩ := hwr m; rw [hq]; exact HB9' q
                  have HTS := hid hts
                  have htl : tms (d1, d2) ((kidB (run l) (q1, q2)).take j) ≤ 1000 := by
                    unfold tms
                    refine Nat.le_trans (List.length_filter_le _ _) ?_
                    rw [List.length_take]
                    omega
                  have HSN : Hid (tms (d1, d2) ((kidB (run l) (q1, q2)).take (j + 1)) = tms (d1, d2) ((kidB (run l) (q1, q2)).take j) + (if (x1, x2) = (d1, d2) then 1 else 0)) := hid (by rw [HTS.out, tms_snoc])
                  obtain ⟨T, hT⟩ : ∃ T, T = tms (d1, d2) ((kidB (run l) (q1, q2)).take j) := ⟨_, rfl⟩
                  rw [← hT] at htl HSN ⊢
                  have HTT := hid hT
                  clear hts hlk hx hwr hT HB9 HB9' u0 u1
                  by_cases e1 : x1 = d1
                  · subst e1
                    by_cases e2 : x2 = d2
                    · subst e2
                      go_wp2_with fail
                      go_quiet (fail)
                      go_wp2
                      go_roundw
                      case rel => exact ⟨j + 1, by omega, by go_num, by rw [HSN.out]; simp, drew_more HW0.out _⟩
                      case measure => simp [intOf]; omega
                    · go_wp2_with fail
                      go_quiet (fail)
                      go_wp2
                      go_roundw
                      case rel => exact ⟨j + 1, by omega, by go_num, by rw [HSN.out]; simp [e2], drew_more HW0.out _⟩
                      case measure => simp [intOf]; omega
                  · go_wp2_with fail
                    go_quiet (fail)
                    go_wp2
                    go_roundw
                    case rel => exact ⟨j + 1, by omega, by go_num, by rw [HSN.out]; simp [e1], drew_more HW0.out _⟩
                    case measure => simp [intOf]; omega
                · obtain rfl : j = nk := by omega
                  have htt : tms (d1, d2) ((kidB (run l) (q1, q2)).take j) = 1 := by
                    rw [List.take_of_length_le (by rw [HPK.out.len]; exact Nat.le_refl _)]
                    exact HTM.out
                  rw [htt]
                  have hwr : ∀ m, ∃ q, wr.drewN m = W9.drewN q := fun m => by obtain ⟨q, hq⟩ := HW0.out; rw [hq]; exact drew_more ⟨q, rfl⟩ m
                  obtain ⟨v0, v1⟩ := HL0.out _ H9'.out
                  have C0 : ∀ m, (wr.drewN m).cell? ⟨gp, op, none⟩ = some (.int .i64 q1) := fun m => by obtain ⟨q, hq⟩ := hwr m; rw [hq]; exact v0
                  have C1 : ∀ m, (wr.drewN m).cell? ⟨gp, op + 1, none⟩ = some (.int .i64 q2) := fun m => by obtain ⟨q, hq⟩ := hwr m; rw [hq]; exact v1
                  have C2 : ∀ m, (wr.drewN m).cell? ⟨W8.heap.size, 0, none⟩ = some (.int .i64 q1) := fun m => by obtain ⟨q, hq⟩ := hwr m; rw [hq]; exact u0 q
                  have C3 : ∀ m, (wr.drewN m).cell? ⟨W8.heap.size, 1, none⟩ = some (.int .i64 q2) := fun m => by obtain ⟨q, hq⟩ := hwr m; rw [hq]; exact u1 q
                  have HFin : Hid (∀ m, TP (wr.drewN m) t l P2 ∧ KP P2 W2 (wr.drewN m)) := hid (fun m => by
                    obtain ⟨q, hq⟩ := hwr m
                    rw [hq]
                    have hb : Below W9.heap.size W9 (W9.drewN q) := (Far.refl W9).drewN q |>.below
                    exact ⟨HT3m.out _ (H9'.out.1.below hb), HK2.out _ (H9'.out.2.trans (KP.below hb H9'.out.1.lt))⟩)
                  clear htt hwr v0 v1 HB9 HB9' u0 u1
                  go_wp2_with fail
                  go_quiet (fail)
                  go_wp2
                  go_roundw
                  case rel => exact ⟨k + 1, by omega, by go_num, hid (HFin.out _)⟩
                  case measure => simp [intOf]; omega
          · obtain rfl : k = nb := by omega
            go_wp2
            go_ret
            have hq2 := HS.out.2.mono (Q := fun j => j < w.heap.size) (fun j hj => by rw [HP2.out]; exact Or.inl hj)
            exact ⟨rfl, HB2.out.trans hq2.bel⟩
end Go.Proofs.Ytddfbcknehfpaaa
