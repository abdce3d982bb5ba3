/- TreeLast: its walk. -/
import Derived.Test.YtddfbcknehfpaaaTrLastM
import Derived.Test.YtddfbcknehfpaaaTrMRow
import Derived.Maps.AppendAt
import Derived.Deep.CutRange
import Derived.Deep.CutBlock
import Derived.BigQuiet
set_option linter.unusedVariables false
set_option linter.unusedSimpArgs false
namespace Go.Proofs.Ytddfbcknehfpaaa
open Go.RowKit

theorem owns_kept {w w' : World} {b n size : Nat} {ty : TypeId} {v : Value} {xs : List Value} (h : w.ownsRow b ty size v n xs) (hk : ∀ j, v.ownBlock = some j → w'.heap[j]? = w.heap[j]?) : w'.ownsRow b ty size v n xs := by
  refine ⟨h.1, ?_⟩
  rcases h.2 with h' | ⟨g, cap, cur, e, hb, hg, hn, hc, hs, ht⟩
  · exact Or.inl h'
  · exact Or.inr ⟨g, cap, cur, e, hb, (hk g (by rw [e]; rfl)).trans hg, hn, hc, hs, ht⟩

theorem cell_mv (w : World) (i1 i2 tm b1 b2 p1 p2 : Int) (ky : ByteArray) : ∀ j u, ((⟨(i1, i2), tm, (b1, b2), (p1, p2), ky⟩ : Mv)).cells[j]? = some u → (w.alloc (.cells #[.int .i64 i1, .int .i64 i2, .int .i64 tm, .int .i64 b1, .int .i64 b2, .int .i64 p1, .int .i64 p2, .string ky] 33)).cell? ((⟨w.heap.size, 0, none⟩ : Addr).add j) = some u := fun j u hu => by
  rw [tadd_none]
  simp only [World.cell?]
  rw [show (w.alloc (.cells #[.int .i64 i1, .int .i64 i2, .int .i64 tm, .int .i64 b1, .int .i64 b2, .int .i64 p1, .int .i64 p2, .string ky] 33)).heap[w.heap.size]? = some (.cells #[.int .i64 i1, .int .i64 i2, .int .i64 tm, .int .i64 b1, .int .i64 b2, .int .i64 p1, .int .i64 p2, .string ky] 33 (0, 0)) from World.alloc_heap_new w _]
  simpa [Mv.cells] using hu

/-- One more move, whether it is taken or not. -/
theorem tr_next {L : List Mv} {k : Nat} {m : Mv} {M : List Mv} (hm : L[k]? = some m) (hp : M.Perm (tr (L.take k))) : (mvE (tr (L.take k)) m = 0 → (M ++ [m]).Perm (tr (L.take (k + 1)))) ∧ (mvE (tr (L.take k)) m ≠ 0 → M.Perm (tr (L.take (k + 1)))) := by
  have hk := (List.getElem?_eq_some_iff.1 hm).1
  have e : L.take (k + 1) = L.take k ++ [m] := by rw [List.take_succ_eq_append_getElem hk, (List.getElem?_eq_some_iff.1 hm).2]
  rw [e, tr_snoc]
  unfold mvL
  refine ⟨fun h => ?_, fun h => ?_⟩
  · rw [if_pos h]
    exact (List.perm_append_comm.trans (List.Perm.cons m hp)).trans (ins_perm mvl _ m).symm
  · rw [if_neg h]
    exact hp

set_option maxRecDepth 100000 in
set_option maxHeartbeats 8000000 in
theorem last_walk (a : Option Addr) (n c : Nat) (L : List Mv) (w : World) (hL : MvS w a n c L) (hf : ∀ m ∈ L, m.Fits) :
    Calls Try.prog 6 #[.slice a n c] w fun e w' => e = .returned (.bool true) ∧ Below w.heap.size w w' := by
  have hmxo : Try.prog.follows .mixedOrders = true := by kernel_rfl
  have mixed := mixed
  have haw := tawake_any w
  have hnew : ∀ w1, Below w.heap.size w w1 → _ := fun w1 h => tnew_any (w := w) (w1 := w1) h
  have hnc := hL.cap
  have hcx := hL.max
  unfold maxLen at hcx
  have HLlen := hid hL.len
  go_enter Try.func6, Try.ntmps6
  go_wp2_with (first
    | (go_at_call 9; refine haw.mono ?_; rintro e w1 ⟨rfl, h1⟩)
    | (go_at_call 10; refine (hnew _ h1).mono ?_; rintro e w2 ⟨t, rfl, H2⟩))
  clear haw hnew
  go_loopw [5, 6] (fun v i wr => ∃ (k : Nat) (M : List Mv) (v5 : Value), v5 = v ∧ k ≤ n ∧ k ≤ 60 ∧ M.length ≤ k ∧ i = .int .i64 k ∧ Hid (wr.ownsRow w.heap.size 33 8 v5 M.length (flM M) ∧ M.Perm (tr (L.take k)) ∧ TP wr t (tr (L.take k)) (fun j => j < w.heap.size ∨ v5.ownBlock = some j) ∧ Below w.heap.size w wr ∧ (∀ m ∈ M, m.Fits))) (fun _ i _ => n - (intOf i).toNat)
  case atStart => exact ⟨0, [], _, rfl, by omega, by omega, by simp, rfl, hid ⟨World.ownsRow_nil _ _ _ _, by simp [tr], by simpa using H2.out.1.mono (fun j hj => by rcases hj with hj | hj; exact hj; simp [Value.ownBlock] at hj), H2.out.2, by simp⟩⟩
  case round =>
    clear H2 h1
    obtain ⟨k, M, v5, rfl, hk, hk60, hMk, rfl, HS⟩ := hrel
    by_cases hlt : k < n ∧ k < 60
    · obtain ⟨hk1, hk2⟩ := hlt
      have hb1 : decide ((k : Int) < (n : Int)) = true := by simp [hk1]
      have hb2 : decide ((k : Int) < 60) = true := by simp; omega
      obtain ⟨m, hm⟩ : ∃ m, L[k]? = some m := ⟨_, List.getElem?_eq_getElem (by rw [hL.len]; exact hk1)⟩
      have hmf : m.Fits := hf m (List.mem_of_getElem? hm)
      have hmx : L.take k ++ [m] = L.take (k + 1) := by rw [List.take_succ_eq_append_getElem (by rw [hL.len]; exact hk1), (List.getElem?_eq_some_iff.1 hm).2]
      have hnx := tr_next hm HS.out.2.1
      have hMv := move_tp m HS.out.2.2.1.drew ⟨hmf.id, hmf.block, hmf.parent⟩ (by have := tr_len (L.take k); rw [List.length_take] at this; omega)
      rw [← tr_snoc, hmx] at hMv
      obtain ⟨E, hE⟩ : ∃ E, E = mvE (tr (L.take k)) m := ⟨_, rfl⟩
      rw [← hE] at hMv hnx
      obtain ⟨⟨i1, i2⟩, tm, ⟨b1, b2⟩, ⟨p1, p2⟩, ky⟩ := m
      obtain ⟨g, o, rfl, hg, hcl⟩ := hL.look hm
      have hS1 : wr.drew.cell? ⟨g, o + k * 8, none⟩ = some (.int .i64 i1) ∧ wr.drew.cell? ⟨g, o + k * 8 + 1, none⟩ = some (.int .i64 i2) ∧ wr.drew.cell? ⟨g, o + k * 8 + 2, none⟩ = some (.int .i64 tm) ∧ wr.drew.cell? ⟨g, o + k * 8 + 3, none⟩ = some (.int .i64 b1) ∧ wr.drew.cell? ⟨g, o + k * 8 + 4, none⟩ = some (.int .i64 b2) ∧ wr.drew.cell? ⟨g, o + k * 8 + 5, none⟩ = some (.int .i64 p1) ∧ wr.drew.cell? ⟨g, o + k * 8 + 6, none⟩ = some (.int .i64 p2) ∧ wr.drew.cell? ⟨g, o + k * 8 + 7, none⟩ = some (.string ky) := hcl wr.drew (HS.out.2.2.2.1.block g hg)
      have HMv := hMv.mono (R' := fun e W' => e = .returned (.int .i64 E) ∧ (W'.cell? ⟨g, o + k * 8, none⟩ = some (.int .i64 i1) ∧ W'.cell? ⟨g, o + k * 8 + 1, none⟩ = some (.int .i64 i2) ∧ W'.cell? ⟨g, o + k * 8 + 2, none⟩ = some (.int .i64 tm) ∧ W'.cell? ⟨g, o + k * 8 + 3, none⟩ = some (.int .i64 b1) ∧ W'.cell? ⟨g, o + k * 8 + 4, none⟩ = some (.int .i64 b2) ∧ W'.cell? ⟨g, o + k * 8 + 5, none⟩ = some (.int .i64 p1) ∧ W'.cell? ⟨g, o + k * 8 + 6, none⟩ = some (.int .i64 p2) ∧ W'.cell? ⟨g, o + k * 8 + 7, none⟩ = some (.string ky)) ∧ Hid (W'.ownsRow w.heap.size 33 8 v5 M.length (flM M) ∧ TP W' t (tr (L.take (k + 1))) (fun j => j < w.heap.size ∨ v5.ownBlock = some j) ∧ Below w.heap.size w W')) (fun e W' h => by
        have hb : Below w.heap.size w W' := HS.out.2.2.2.1.trans (KP.bel (h.2.2.mono (fun j hj => Or.inl hj)) |> fun q => ⟨q.os, q.tape, q.output, q.size, q.block⟩)
        exact ⟨h.1, hcl W' (hb.block g hg), hid ⟨owns_kept HS.out.1 (fun j hj => h.2.2.keep j (Or.inr hj)), h.2.1, hb⟩⟩)
      have hcap := hL.cap
      have HNX := hid hnx
      have HMF := hid hmf
      clear hMv hcl hE hmx hm hnx hmf
      go_wp2_with fail
      refine wp_region_held_drew (S := fun w' => w'.cell? ⟨g, o + k * 8, none⟩ = some (.int .i64 i1) ∧ w'.cell? ⟨g, o + k * 8 + 1, none⟩ = some (.int .i64 i2) ∧ w'.cell? ⟨g, o + k * 8 + 2, none⟩ = some (.int .i64 tm) ∧ w'.cell? ⟨g, o + k * 8 + 3, none⟩ = some (.int .i64 b1) ∧ w'.cell? ⟨g, o + k * 8 + 4, none⟩ = some (.int .i64 b2) ∧ w'.cell? ⟨g, o + k * 8 + 5, none⟩ = some (.int .i64 p1) ∧ w'.cell? ⟨g, o + k * 8 + 6, none⟩ = some (.int .i64 p2) ∧ w'.cell? ⟨g, o + k * 8 + 7, none⟩ = some (.string ky)) hmxo hS1 ?_
      intro _
      refine wpAnyH_take (i := 0) (v := .pointer (some ⟨t, 0, none⟩)) rfl (by kernel_rfl) (by kernel_rfl) (by kernel_rfl) (fun _ _ _ h => h) (Or.inl ⟨by kernel_rfl, fun w hSw => ?_⟩) hS1 ?_
      · obtain ⟨e1, e2, e3, e4, e5, e6, e7, e8⟩ := hSw; go_simp
      simp only [Act.put, List.getElem_toArray, List.getElem_cons_succ, List.getElem_cons_zero, List.setIfInBounds_toArray, List.set_cons_zero, List.set_cons_succ]
      refine wpAnyH_take (i := 1) (v := .slice (some ⟨g, o, none⟩) n c) rfl (by kernel_rfl) (by kernel_rfl) (by kernel_rfl) (fun _ _ _ h => h) (Or.inl ⟨by kernel_rfl, fun w hSw => ?_⟩) hS1 ?_
      · obtain ⟨e1, e2, e3, e4, e5, e6, e7, e8⟩ := hSw; go_simp
      simp only [Act.put, List.getElem_toArray, List.getElem_cons_succ, List.getElem_cons_zero, List.setIfInBounds_toArray, List.set_cons_zero, List.set_cons_succ]
      refine wpAnyH_take (i := 2) (v := .int .i64 (k : Int)) rfl (by kernel_rfl) (by kernel_rfl) (by kernel_rfl) (fun _ _ _ h => h) (Or.inl ⟨by kernel_rfl, fun w hSw => ?_⟩) hS1 ?_
      · obtain ⟨e1, e2, e3, e4, e5, e6, e7, e8⟩ := hSw; go_simp
      simp only [Act.put, List.getElem_toArray, List.getElem_cons_succ, List.getElem_cons_zero, List.setIfInBounds_toArray, List.set_cons_zero, List.set_cons_succ]
      refine wpAnyH_take (i := 3) (v := .pointer (some ⟨g, o + k * 8, none⟩)) rfl (by kernel_rfl) (by kernel_rfl) (by kernel_rfl) (fun _ _ _ h => h) (Or.inl ⟨by kernel_rfl, fun w hSw => ?_⟩) hS1 ?_
      · obtain ⟨e1, e2, e3, e4, e5, e6, e7, e8⟩ := hSw; go_simp
      simp only [Act.put, List.getElem_toArray, List.getElem_cons_succ, List.getElem_cons_zero, List.setIfInBounds_toArray, List.set_cons_zero, List.set_cons_succ]
      refine wpAnyH_take (i := 4) (v := .pointer (some ⟨g, o + k * 8, none⟩)) rfl (by kernel_rfl) (by kernel_rfl) (by kernel_rfl) (fun _ _ _ h => h) (Or.inl ⟨by kernel_rfl, fun w hSw => ?_⟩) hS1 ?_
      · obtain ⟨e1, e2, e3, e4, e5, e6, e7, e8⟩ := hSw; go_simp
      simp only [Act.put, List.getElem_toArray, List.getElem_cons_succ, List.getElem_cons_zero, List.setIfInBounds_toArray, List.set_cons_zero, List.set_cons_succ]
      refine wpAnyH_take (i := 5) (v := .agg #[.int .i64 i1, .int .i64 i2]) rfl (by kernel_rfl) (by kernel_rfl) (by kernel_rfl) (fun _ _ _ h => h) (Or.inl ⟨by kernel_rfl, fun w hSw => ?_⟩) hS1 ?_
      · obtain ⟨e1, e2, e3, e4, e5, e6, e7, e8⟩ := hSw; go_simp
      simp only [Act.put, List.getElem_toArray, List.getElem_cons_succ, List.getElem_cons_zero, List.setIfInBounds_toArray, List.set_cons_zero, List.set_cons_succ]
      refine wpAnyH_take (i := 6) (v := .slice (some ⟨g, o, none⟩) n c) rfl (by kernel_rfl) (by kernel_rfl) (by kernel_rfl) (fun _ _ _ h => h) (Or.inl ⟨by kernel_rfl, fun w hSw => ?_⟩) hS1 ?_
      · obtain ⟨e1, e2, e3, e4, e5, e6, e7, e8⟩ := hSw; go_simp
      simp only [Act.put, List.getElem_toArray, List.getElem_cons_succ, List.getElem_cons_zero, List.setIfInBounds_toArray, List.set_cons_zero, List.set_cons_succ]
      refine wpAnyH_take (i := 7) (v := .int .i64 (k : Int)) rfl (by kernel_rfl) (by kernel_rfl) (by kernel_rfl) (fun _ _ _ h => h) (Or.inl ⟨by kernel_rfl, fun w hSw => ?_⟩) hS1 ?_
      · obtain ⟨e1, e2, e3, e4, e5, e6, e7, e8⟩ := hSw; go_simp
      simp only [Act.put, List.getElem_toArray, List.getElem_cons_succ, List.getElem_cons_zero, List.setIfInBounds_toArray, List.set_cons_zero, List.set_cons_succ]
      refine wpAnyH_take (i := 8) (v := .pointer (some ⟨g, o + k * 8, none⟩)) rfl (by kernel_rfl) (by kernel_rfl) (by kernel_rfl) (fun _ _ _ h => h) (Or.inl ⟨by kernel_rfl, fun w hSw => ?_⟩) hS1 ?_
      · obtain ⟨e1, e2, e3, e4, e5, e6, e7, e8⟩ := hSw; go_simp
      simp only [Act.put, List.getElem_toArray, List.getElem_cons_succ, List.getElem_cons_zero, List.setIfInBounds_toArray, List.set_cons_zero, List.set_cons_succ]
      refine wpAnyH_take (i := 9) (v := .pointer (some ⟨g, o + k * 8 + 2, none⟩)) rfl (by kernel_rfl) (by kernel_rfl) (by kernel_rfl) (fun _ _ _ h => h) (Or.inl ⟨by kernel_rfl, fun w hSw => ?_⟩) hS1 ?_
      · obtain ⟨e1, e2, e3, e4, e5, e6, e7, e8⟩ := hSw; go_simp
      simp only [Act.put, List.getElem_toArray, List.getElem_cons_succ, List.getElem_cons_zero, List.setIfInBounds_toArray, List.set_cons_zero, List.set_cons_succ]
      refine wpAnyH_take (i := 10) (v := .int .i64 tm) rfl (by kernel_rfl) (by kernel_rfl) (by kernel_rfl) (fun _ _ _ h => h) (Or.inl ⟨by kernel_rfl, fun w hSw => ?_⟩) hS1 ?_
      · obtain ⟨e1, e2, e3, e4, e5, e6, e7, e8⟩ := hSw; go_simp
      simp only [Act.put, List.getElem_toArray, List.getElem_cons_succ, List.getElem_cons_zero, List.setIfInBounds_toArray, List.set_cons_zero, List.set_cons_succ]
      refine wpAnyH_take (i := 11) (v := .slice (some ⟨g, o, none⟩) n c) rfl (by kernel_rfl) (by kernel_rfl) (by kernel_rfl) (fun _ _ _ h => h) (Or.inl ⟨by kernel_rfl, fun w hSw => ?_⟩) hS1 ?_
      · obtain ⟨e1, e2, e3, e4, e5, e6, e7, e8⟩ := hSw; go_simp
      simp only [Act.put, List.getElem_toArray, List.getElem_cons_succ, List.getElem_cons_zero, List.setIfInBounds_toArray, List.set_cons_zero, List.set_cons_succ]
      refine wpAnyH_take (i := 12) (v := .int .i64 (k : Int)) rfl (by kernel_rfl) (by kernel_rfl) (by kernel_rfl) (fun _ _ _ h => h) (Or.inl ⟨by kernel_rfl, fun w hSw => ?_⟩) hS1 ?_
      · obtain ⟨e1, e2, e3, e4, e5, e6, e7, e8⟩ := hSw; go_simp
      simp only [Act.put, List.getElem_toArray, List.getElem_cons_succ, List.getElem_cons_zero, List.setIfInBounds_toArray, List.set_cons_zero, List.set_cons_succ]
      refine wpAnyH_take (i := 13) (v := .pointer (some ⟨g, o + k * 8, none⟩)) rfl (by kernel_rfl) (by kernel_rfl) (by kernel_rfl) (fun _ _ _ h => h) (Or.inl ⟨by kernel_rfl, fun w hSw => ?_⟩) hS1 ?_
      · obtain ⟨e1, e2, e3, e4, e5, e6, e7, e8⟩ := hSw; go_simp
      simp only [Act.put, List.getElem_toArray, List.getElem_cons_succ, List.getElem_cons_zero, List.setIfInBounds_toArray, List.set_cons_zero, List.set_cons_succ]
      refine wpAnyH_take (i := 14) (v := .pointer (some ⟨g, o + k * 8 + 3, none⟩)) rfl (by kernel_rfl) (by kernel_rfl) (by kernel_rfl) (fun _ _ _ h => h) (Or.inl ⟨by kernel_rfl, fun w hSw => ?_⟩) hS1 ?_
      · obtain ⟨e1, e2, e3, e4, e5, e6, e7, e8⟩ := hSw; go_simp
      simp only [Act.put, List.getElem_toArray, List.getElem_cons_succ, List.getElem_cons_zero, List.setIfInBounds_toArray, List.set_cons_zero, List.set_cons_succ]
      refine wpAnyH_take (i := 15) (v := .agg #[.int .i64 b1, .int .i64 b2]) rfl (by kernel_rfl) (by kernel_rfl) (by kernel_rfl) (fun _ _ _ h => h) (Or.inl ⟨by kernel_rfl, fun w hSw => ?_⟩) hS1 ?_
      · obtain ⟨e1, e2, e3, e4, e5, e6, e7, e8⟩ := hSw; go_simp
      simp only [Act.put, List.getElem_toArray, List.getElem_cons_succ, List.getElem_cons_zero, List.setIfInBounds_toArray, List.set_cons_zero, List.set_cons_succ]
      refine wpAnyH_take (i := 16) (v := .slice (some ⟨g, o, none⟩) n c) rfl (by kernel_rfl) (by kernel_rfl) (by kernel_rfl) (fun _ _ _ h => h) (Or.inl ⟨by kernel_rfl, fun w hSw => ?_⟩) hS1 ?_
      · obtain ⟨e1, e2, e3, e4, e5, e6, e7, e8⟩ := hSw; go_simp
      simp only [Act.put, List.getElem_toArray, List.getElem_cons_succ, List.getElem_cons_zero, List.setIfInBounds_toArray, List.set_cons_zero, List.set_cons_succ]
      refine wpAnyH_take (i := 17) (v := .int .i64 (k : Int)) rfl (by kernel_rfl) (by kernel_rfl) (by kernel_rfl) (fun _ _ _ h => h) (Or.inl ⟨by kernel_rfl, fun w hSw => ?_⟩) hS1 ?_
      · obtain ⟨e1, e2, e3, e4, e5, e6, e7, e8⟩ := hSw; go_simp
      simp only [Act.put, List.getElem_toArray, List.getElem_cons_succ, List.getElem_cons_zero, List.setIfInBounds_toArray, List.set_cons_zero, List.set_cons_succ]
      refine wpAnyH_take (i := 18) (v := .pointer (some ⟨g, o + k * 8, none⟩)) rfl (by kernel_rfl) (by kernel_rfl) (by kernel_rfl) (fun _ _ _ h => h) (Or.inl ⟨by kernel_rfl, fun w hSw => ?_⟩) hS1 ?_
      · obtain ⟨e1, e2, e3, e4, e5, e6, e7, e8⟩ := hSw; go_simp
      simp only [Act.put, List.getElem_toArray, List.getElem_cons_succ, List.getElem_cons_zero, List.setIfInBounds_toArray, List.set_cons_zero, List.set_cons_succ]
      refine wpAnyH_take (i := 19) (v := .pointer (some ⟨g, o + k * 8 + 5, none⟩)) rfl (by kernel_rfl) (by kernel_rfl) (by kernel_rfl) (fun _ _ _ h => h) (Or.inl ⟨by kernel_rfl, fun w hSw => ?_⟩) hS1 ?_
      · obtain ⟨e1, e2, e3, e4, e5, e6, e7, e8⟩ := hSw; go_simp
      simp only [Act.put, List.getElem_toArray, List.getElem_cons_succ, List.getElem_cons_zero, List.setIfInBounds_toArray, List.set_cons_zero, List.set_cons_succ]
      refine wpAnyH_take (i := 20) (v := .agg #[.int .i64 p1, .int .i64 p2]) rfl (by kernel_rfl) (by kernel_rfl) (by kernel_rfl) (fun _ _ _ h => h) (Or.inl ⟨by kernel_rfl, fun w hSw => ?_⟩) hS1 ?_
      · obtain ⟨e1, e2, e3, e4, e5, e6, e7, e8⟩ := hSw; go_simp
      simp only [Act.put, List.getElem_toArray, List.getElem_cons_succ, List.getElem_cons_zero, List.setIfInBounds_toArray, List.set_cons_zero, List.set_cons_succ]
      refine wpAnyH_take (i := 21) (v := .slice (some ⟨g, o, none⟩) n c) rfl (by kernel_rfl) (by kernel_rfl) (by kernel_rfl) (fun _ _ _ h => h) (Or.inl ⟨by kernel_rfl, fun w hSw => ?_⟩) hS1 ?_
      · obtain ⟨e1, e2, e3, e4, e5, e6, e7, e8⟩ := hSw; go_simp
      simp only [Act.put, List.getElem_toArray, List.getElem_cons_succ, List.getElem_cons_zero, List.setIfInBounds_toArray, List.set_cons_zero, List.set_cons_succ]
      refine wpAnyH_take (i := 22) (v := .int .i64 (k : Int)) rfl (by kernel_rfl) (by kernel_rfl) (by kernel_rfl) (fun _ _ _ h => h) (Or.inl ⟨by kernel_rfl, fun w hSw => ?_⟩) hS1 ?_
      · obtain ⟨e1, e2, e3, e4, e5, e6, e7, e8⟩ := hSw; go_simp
      simp only [Act.put, List.getElem_toArray, List.getElem_cons_succ, List.getElem_cons_zero, List.setIfInBounds_toArray, List.set_cons_zero, List.set_cons_succ]
      refine wpAnyH_take (i := 23) (v := .pointer (some ⟨g, o + k * 8, none⟩)) rfl (by kernel_rfl) (by kernel_rfl) (by kernel_rfl) (fun _ _ _ h => h) (Or.inl ⟨by kernel_rfl, fun w hSw => ?_⟩) hS1 ?_
      · obtain ⟨e1, e2, e3, e4, e5, e6, e7, e8⟩ := hSw; go_simp
      simp only [Act.put, List.getElem_toArray, List.getElem_cons_succ, List.getElem_cons_zero, List.setIfInBounds_toArray, List.set_cons_zero, List.set_cons_succ]
      refine wpAnyH_take (i := 24) (v := .pointer (some ⟨g, o + k * 8 + 7, none⟩)) rfl (by kernel_rfl) (by kernel_rfl) (by kernel_rfl) (fun _ _ _ h => h) (Or.inl ⟨by kernel_rfl, fun w hSw => ?_⟩) hS1 ?_
      · obtain ⟨e1, e2, e3, e4, e5, e6, e7, e8⟩ := hSw; go_simp
      simp only [Act.put, List.getElem_toArray, List.getElem_cons_succ, List.getElem_cons_zero, List.setIfInBounds_toArray, List.set_cons_zero, List.set_cons_succ]
      refine wpAnyH_take (i := 25) (v := .string ky) rfl (by kernel_rfl) (by kernel_rfl) (by kernel_rfl) (fun _ _ _ h => h) (Or.inl ⟨by kernel_rfl, fun w hSw => ?_⟩) hS1 ?_
      · obtain ⟨e1, e2, e3, e4, e5, e6, e7, e8⟩ := hSw; go_simp
      simp only [Act.put, List.getElem_toArray, List.getElem_cons_succ, List.getElem_cons_zero, List.setIfInBounds_toArray, List.set_cons_zero, List.set_cons_succ]
      refine wpAnyH_ready (rs := [26]) (by kernel_rfl) (by simp) ?_
      refine AllReadyH.cons rfl (fun K hK => ?_) AllReadyH.nil
      go_simp
      refine HMv.mono ?_
      rintro e W2 ⟨rfl, S2, H3⟩
      refine hK.out _ _ S2 (fun _ => ?_)
      clear hK K
      refine wpAnyH_take (i := 27) (v := .int .i64 E) rfl (by kernel_rfl) (by kernel_rfl) (by kernel_rfl) (fun _ _ _ h => h) (Or.inl ⟨by kernel_rfl, fun w hSw => ?_⟩) S2 ?_
      · obtain ⟨e1, e2, e3, e4, e5, e6, e7, e8⟩ := hSw; go_simp
      simp only [Act.put, List.getElem_toArray, List.getElem_cons_succ, List.getElem_cons_zero, List.setIfInBounds_toArray, List.set_cons_zero, List.set_cons_succ]
      refine wpAnyH_done (by kernel_rfl) ?_ _
      obtain ⟨s0, s1, s2, s3, s4, s5, s6, s7⟩ := S2
      clear HMv hS1
      by_cases hE0 : E = 0
      · subst hE0
        obtain ⟨i0, hi, hz0, hz1, hz2⟩ := info_parts Try.infoM
        have hown2 := H3.out.1.alloc (.cells #[.int .i64 i1, .int .i64 i2, .int .i64 tm, .int .i64 b1, .int .i64 b2, .int .i64 p1, .int .i64 p2, .string ky] 33)
        have hb2 : w.heap.size ≤ W2.heap.size := H3.out.2.2.size
        go_wp2_with (first
          | (at_builtin; refine wpList_append_own_at _ rfl _ _ 22 rfl w.heap.size 33 i0 _ 8 72 Try.underlying22 hi hz0 hz1 hz2 rfl (by decide) v5 M.length (flM M) rfl hown2 ⟨W2.heap.size, 0, none⟩ 1 1 ((⟨(i1, i2), tm, (b1, b2), (p1, p2), ky⟩ : Mv)).cells rfl rfl (cell_mv W2 i1 i2 tm b1 b2 p1 p2 ky) (by simp [Mv.cells, Value.oneCell']) (by unfold maxLen; omega) (by omega) (by simp; omega) ?_; intro v' w3 ho hgr hnil hat))
        have HF : Hid (∃ v5' M', v5' = v' ∧ M'.length ≤ k + 1 ∧ w3.ownsRow w.heap.size 33 8 v5' M'.length (flM M') ∧ M'.Perm (tr (L.take (k + 1))) ∧ TP w3 t (tr (L.take (k + 1))) (fun j => j < w.heap.size ∨ v5'.ownBlock = some j) ∧ Below w.heap.size w w3 ∧ (∀ m ∈ M', m.Fits)) := hid (by
          have hz3 : W2.heap.size + 1 ≤ w3.heap.size := by have := hgr.size; simpa using this
          have keep : ∀ j, j < W2.heap.size → v5.ownBlock ≠ some j → w3.heap[j]? = W2.heap[j]? := fun j hj hne => (hgr.block j (by simp; omega) (fun e => hne e.symm)).trans (Below.heap_alloc W2 _ j hj)
          have hvb : ∀ j, v5.ownBlock = some j → w.heap.size ≤ j ∧ j < W2.heap.size := fun j hj => H3.out.1.lt j hj
          refine ⟨v', M ++ [(⟨(i1, i2), tm, (b1, b2), (p1, p2), ky⟩ : Mv)], rfl, by rw [List.length_append]; simp; omega, by rw [List.length_append, flM_append]; simpa [flM] using ho, HNX.out.1 rfl, H3.out.2.1.turn (by omega) (fun j hj hP => keep j hj (fun e => hP (Or.inr e))) (fun j hj => ?_), ?_, fun m hm => ?_⟩
          · rcases hj with hj | hj
            · exact Or.inl (Or.inl hj)
            · rcases hat with e | e
              · exact Or.inl (Or.inr (by rw [← e]; exact hj))
              · rw [e] at hj
                cases hj
                obtain ⟨q, _⟩ := ho.lt _ e
                exact Or.inr ⟨by simp, (ho.lt _ e).2⟩
          · have h2 := H3.out.2.2
            exact ⟨hgr.os.trans h2.os, hgr.tape.trans h2.tape, hgr.output.trans h2.output, by omega, fun j hj => (keep j (by omega) (fun e => by have := (hvb j e).1; omega)).trans (h2.block j hj)⟩
          · rcases List.mem_append.1 hm with hm | hm
            · exact HS.out.2.2.2.2 m hm
            · rw [List.mem_singleton.1 hm]; exact HMF.out)
        clear ho hgr hnil hat hown2
        go_wp2
        go_roundw
        case rel =>
          obtain ⟨v5', M', rfl, h1, h2⟩ := HF.out
          exact ⟨k + 1, M', v5', rfl, by omega, by omega, h1, by go_num, hid h2⟩
        case measure => simp [intOf]; omega
      · have hbE : (E == 0) = false := by simpa using hE0
        go_wp2
        go_roundw
        case rel => exact ⟨k + 1, M, v5, rfl, by omega, by omega, by omega, by go_num, hid ⟨H3.out.1, HNX.out.2 hE0, H3.out.2.1, H3.out.2.2, HS.out.2.2.2.2⟩⟩
        case measure => simp [intOf]; omega
    · obtain ⟨l, hl⟩ : ∃ l, l = tr (L.take k) := ⟨_, rfl⟩
      rw [← hl] at HS
      go_upto_region 7 with fail
      go_cut [28] from 21 to 28 (fun s wc => s = .bool false ∧ wr = wc)
      case first =>
        by_cases hk1 : k < n
        · have hb1 : decide ((k : Int) < (n : Int)) = true := by simp [hk1]
          have h60 : 60 ≤ k := by omega
          have hb2 : decide ((k : Int) < 60) = false := by simp; omega
          go_wp2_with fail
          go_meet
          case rel => exact ⟨rfl, rfl⟩
        · have hkn : n ≤ k := by omega
          have hb1 : decide ((k : Int) < (n : Int)) = false := by simp; omega
          go_wp2_with fail
          go_meet
          case rel => exact ⟨rfl, rfl⟩
      case rest =>
        obtain ⟨rfl, rfl⟩ := hcut
        obtain ⟨W5, rfl⟩ : ∃ X, X = wr := ⟨wr, rfl⟩
        obtain ⟨hown, hperm, hTP, hBel, hfit⟩ := HS.out
        obtain ⟨a5, c5, hv5, hM5⟩ := own_mvs hown
        obtain ⟨n5, hn5⟩ : ∃ n5, n5 = M.length := ⟨_, rfl⟩
        rw [← hn5] at hv5 hM5
        subst hv5
        obtain ⟨P5, hP5⟩ : ∃ P5 : Nat → Prop, P5 = (fun j => j < w.heap.size ∨ (Value.slice a5 n5 c5).ownBlock = some j) := ⟨_, rfl⟩
        rw [← hP5] at hTP
        have HLog := hid hTP.log
        have HPE := hid hperm
        have HT5 := hid hTP
        have HB5 := hid hBel
        have HM5 := hid hM5
        have HP5 := hid hP5
        have HFi := hid hfit
        have hn60 : n5 ≤ 60 := by omega
        have hnc5 := hM5.cap
        have HND : Hid ((M.map Mv.id).Nodup) := hid ((hperm.map Mv.id).nodup_iff.2 hTP.log.1.ids)
        clear hown hperm hTP hBel hfit hM5 hP5 HS hl hL hf HLlen hn5
        go_wp2_with fail
        go_loopw [8] (fun i wr2 => ∃ i5 : Nat, i5 ≤ n5 ∧ i = .int .i64 i5 ∧ Hid (TP wr2 t l P5 ∧ KP P5 W5 wr2)) (fun i _ => n5 - (intOf i).toNat)
        case atStart => exact ⟨0, by omega, rfl, hid ⟨HT5.out, KP.refl _ _⟩⟩
        case round =>
          obtain ⟨wr2, rfl⟩ : ∃ X, X = wr := ⟨wr, rfl⟩
          obtain ⟨i5, hi5, rfl, HS⟩ := hrel
          by_cases hil : i5 < n5
          · have hb3 : decide ((i5 : Int) < (n5 : Int)) = true := by simp [hil]
            obtain ⟨⟨⟨xi1, xi2⟩, xtm, ⟨xb1, xb2⟩, ⟨xp1, xp2⟩, xky⟩, hx⟩ : ∃ m, M[i5]? = some m := ⟨_, List.getElem?_eq_getElem (by rw [HM5.out.len]; exact hil)⟩
            have hxf := HFi.out _ (List.mem_of_getElem? hx)
            obtain ⟨g5, o5, rfl, hg5, hlx⟩ := HM5.out.look hx
            have hPg : P5 g5 := by rw [HP5.out]; exact Or.inr rfl
            obtain ⟨x0, x1, x2, x3, x4, x5, x6, x7⟩ := hlx wr2 (HS.out.2.keep g5 hPg)
            obtain ⟨Pb, hPb⟩ : ∃ Pb : Nat → Prop, Pb = (fun j => P5 j ∨ j = wr2.heap.size) := ⟨_, rfl⟩
            obtain ⟨Wx, hWx⟩ : ∃ Wx, Wx = wr2.alloc (.cells #[.int .i64 xb1, .int .i64 xb2] 24) := ⟨_, rfl⟩
            have hbl : Below wr2.heap.size wr2 Wx := by rw [hWx]; exact (Below.refl _ wr2).alloc (Nat.le_refl _) _
            have HTb : Hid (TP Wx t l Pb ∧ KP Pb Wx Wx) := hid ⟨by rw [hWx, hPb]; exact HS.out.1.alloc _, KP.refl _ _⟩
            have HKg : Hid (∀ V, KP Pb Wx V → V.heap[g5]? = W5.heap[g5]?) := hid (fun V hV => (hV.keep g5 (by rw [hPb]; exact Or.inl hPg)).trans ((hbl.block g5 (HS.out.1.lt g5 hPg)).trans (HS.out.2.keep g5 hPg)))
            have HBx : Hid (∀ V, KP Pb Wx V → V.cell? ⟨wr2.heap.size, 0, none⟩ = some (.int .i64 xb1) ∧ V.cell? ⟨wr2.heap.size, 1, none⟩ = some (.int .i64 xb2)) := hid (fun V hV => by
              have e : V.heap[wr2.heap.size]? = some (.cells #[.int .i64 xb1, .int .i64 xb2] 24 (0, 0)) := (hV.keep _ (by rw [hPb]; exact Or.inr rfl)).trans (by rw [hWx]; exact World.alloc_heap_new wr2 _)
              exact ⟨by simp [World.cell?, e], by simp [World.cell?, e]⟩)
            have HK5 : Hid (∀ V, (TP V t l Pb ∧ KP Pb Wx V) → (TP V t l P5 ∧ KP P5 W5 V)) := hid (fun V hV => ⟨hV.1.mono (fun j hj => by rw [hPb]; exact Or.inl hj), HS.out.2.trans ((KP.below hbl HS.out.1.lt).trans (hV.2.mono (fun j hj => by rw [hPb]; exact Or.inl hj)))⟩)
            have HXW : Hid (Dw (xb1, xb2)) := hid hxf.block
            have HWX := hid hWx
            clear hx hxf hlx hg5 hPg hbl hPb hWx HS
            go_wp2_with fail
            rw [← HWX.out]
            clear x0 x1 x2 x3 x4 x5 x6 x7
            go_loopw [10, 11, 12] (fun k3 md j wr3 => ∃ (jn : Nat) (kk : Int) (mdb : Bool), jn ≤ n5 ∧ j = .int .i64 jn ∧ k3 = .int .i64 kk ∧ md = .bool mdb ∧ -1 ≤ kk ∧ kk < jn ∧ Hid (FndL l (xb1, xb2) (M.take jn) kk mdb) ∧ Hid (TP wr3 t l Pb ∧ KP Pb Wx wr3)) (fun _ _ j _ => n5 - (intOf j).toNat)
            case atStart => exact ⟨0, -1, false, by omega, rfl, rfl, rfl, by omega, by omega, hid (by simpa using FndL.start l (xb1, xb2)), HTb⟩
            case round =>
              obtain ⟨wr3, rfl⟩ : ∃ X, X = wr := ⟨wr, rfl⟩
              obtain ⟨jn, kk, mdb, hjn, rfl, rfl, rfl, hk1, hk2, HF, S3⟩ := hrel
              by_cases hjl : jn < n5
              · have hb4 : decide ((jn : Int) < (n5 : Int)) = true := by simp [hjl]
                obtain ⟨⟨⟨yi1, yi2⟩, ytm, ⟨yb1, yb2⟩, ⟨yp1, yp2⟩, yky⟩, hym⟩ : ∃ m, M[jn]? = some m := ⟨_, List.getElem?_eq_getElem (by rw [HM5.out.len]; exact hjl)⟩
                have hyf := HFi.out _ (List.mem_of_getElem? hym)
                obtain ⟨g', o', e', _, hly⟩ := HM5.out.look hym
                cases e'
                obtain ⟨y0, y1, y2, y3, y4, y5, y6, y7⟩ := hly wr3 (HKg.out _ S3.out.2)
                have HTk : Hid (M.take (jn + 1) = M.take jn ++ [(⟨(yi1, yi2), ytm, (yb1, yb2), (yp1, yp2), yky⟩ : Mv)]) := hid (by rw [List.take_succ_eq_append_getElem (by rw [HM5.out.len]; exact hjl), (List.getElem?_eq_some_iff.1 hym).2])
                have HLn : Hid ((((M.take jn).length : Nat) : Int) = (jn : Int)) := hid (by rw [List.length_take, HM5.out.len, Nat.min_eq_left (by omega)])
                have HLy := hid hly
                have HYm := hid hym
                obtain ⟨T3, hT3⟩ : ∃ T3, T3 = tookB l (yi1, yi2) := ⟨_, rfl⟩
                have HTo := (took_tp (yi1, yi2) S3.out.1 hyf.id).mono (R' := fun e U => e = .returned (.bool T3) ∧ Hid (TP U t l Pb ∧ KP Pb Wx U)) (fun e U g => ⟨by rw [g.1, hT3], hid ⟨g.2.1, S3.out.2.trans g.2.2⟩⟩)
                have HT3 := hid hT3
                clear hly hym hyf hT3
                go_wp2_with (go_at_call 18; refine HTo.mono ?_; rintro e U ⟨rfl, SU⟩)
                clear HTo y0 y1 y2 y3 y4 y5 y6 y7
                by_cases e1 : yb1 = xb1
                · by_cases e2 : yb2 = xb2
                  · cases hTT : T3 with
                    | false =>
                      subst hTT
                      have HNG : Hid (¬ Gd l (xb1, xb2) (⟨(yi1, yi2), ytm, (yb1, yb2), (yp1, yp2), yky⟩ : Mv)) := hid (fun g => by have h1 := HT3.out; rw [g.2] at h1; cases h1)
                      have hba : (yb1 == xb1) = true := by simpa using e1
                      have hbb : (yb2 == xb2) = true := by simpa using e2
                      haveI : Nonempty (Wb U) := ⟨⟨U, Below.refl _ _⟩⟩
                      have HBU : Hid (∀ pp : Wb U, TP pp.u t l Pb ∧ KP Pb Wx pp.u) := hid (fun pp => ⟨SU.out.1.below pp.h, SU.out.2.trans (KP.below pp.h SU.out.1.lt)⟩)
                      have hy : ∀ pp : Wb U, (pp.u.cell? ⟨g5, o5 + jn * 8, none⟩ = some (.int .i64 yi1) ∧ pp.u.cell? ⟨g5, o5 + jn * 8 + 1, none⟩ = some (.int .i64 yi2) ∧ pp.u.cell? ⟨g5, o5 + jn * 8 + 2, none⟩ = some (.int .i64 ytm) ∧ pp.u.cell? ⟨g5, o5 + jn * 8 + 3, none⟩ = some (.int .i64 yb1) ∧ pp.u.cell? ⟨g5, o5 + jn * 8 + 4, none⟩ = some (.int .i64 yb2) ∧ pp.u.cell? ⟨g5, o5 + jn * 8 + 5, none⟩ = some (.int .i64 yp1) ∧ pp.u.cell? ⟨g5, o5 + jn * 8 + 6, none⟩ = some (.int .i64 yp2) ∧ pp.u.cell? ⟨g5, o5 + jn * 8 + 7, none⟩ = some (.string yky)) := fun pp => HLy.out pp.u (HKg.out _ (HBU.out pp).2)
                      have qy0 : ∀ pp : Wb U, pp.u.cell? ⟨g5, o5 + jn * 8, none⟩ = some (.int .i64 yi1) := fun pp => (hy pp).1
                      have qy1 : ∀ pp : Wb U, pp.u.cell? ⟨g5, o5 + jn * 8 + 1, none⟩ = some (.int .i64 yi2) := fun pp => (hy pp).2.1
                      have qy2 : ∀ pp : Wb U, pp.u.cell? ⟨g5, o5 + jn * 8 + 2, none⟩ = some (.int .i64 ytm) := fun pp => (hy pp).2.2.1
                      have qy3 : ∀ pp : Wb U, pp.u.cell? ⟨g5, o5 + jn * 8 + 3, none⟩ = some (.int .i64 yb1) := fun pp => (hy pp).2.2.2.1
                      have qy4 : ∀ pp : Wb U, pp.u.cell? ⟨g5, o5 + jn * 8 + 4, none⟩ = some (.int .i64 yb2) := fun pp => (hy pp).2.2.2.2.1
                      have qb0 : ∀ pp : Wb U, pp.u.cell? ⟨wr2.heap.size, 0, none⟩ = some (.int .i64 xb1) := fun pp => (HBx.out _ (HBU.out pp).2).1
                      have qb1 : ∀ pp : Wb U, pp.u.cell? ⟨wr2.heap.size, 1, none⟩ = some (.int .i64 xb2) := fun pp => (HBx.out _ (HBU.out pp).2).2
                      clear hy
                      refine wp_region_below mixed (by kernel_rfl) ?_
                      repeat (go_big_quiet_step (first | (fail)))
                      refine wpQuiet_nil ?_
                      intro _ hw'
                      obtain ⟨pp, hw''⟩ := hw'
                      subst hw''
                      go_wp2
                      go_roundw
                      case rel => exact ⟨jn + 1, kk, mdb, by omega, by go_num, rfl, rfl, by omega, by omega, hid (by rw [HTk.out]; exact HF.out.skip (fun g => HNG.out g)), hid (HBU.out pp)⟩
                      case measure => simp [intOf]; omega
                    | true =>
                      subst hTT
                      have HG : Hid (Gd l (xb1, xb2) (⟨(yi1, yi2), ytm, (yb1, yb2), (yp1, yp2), yky⟩ : Mv)) := hid ⟨by show (yb1, yb2) = (xb1, xb2); rw [e1, e2], HT3.out.symm⟩
                      have hba : (yb1 == xb1) = true := by simpa using e1
                      have hbb : (yb2 == xb2) = true := by simpa using e2
                      obtain ⟨MD, hMD⟩ : ∃ MD, MD = (mdb || decide ((yi1, yi2) = (xb1, xb2))) := ⟨_, rfl⟩
                      have HMD : Hid (MD = (mdb || decide (((⟨(yi1, yi2), ytm, (yb1, yb2), (yp1, yp2), yky⟩ : Mv)).id = (xb1, xb2)))) := hid hMD
                      have HMDx := hid hMD
                      clear hMD e1 e2
                      go_cut [101] from 91 to 101 (fun s wc => s = .bool false ∧ Hid (TP wc t l Pb ∧ KP Pb Wx wc))
                      case first =>
                        haveI : Nonempty (Wb U) := ⟨⟨U, Below.refl _ _⟩⟩
                        have HBU : Hid (∀ pp : Wb U, TP pp.u t l Pb ∧ KP Pb Wx pp.u) := hid (fun pp => ⟨SU.out.1.below pp.h, SU.out.2.trans (KP.below pp.h SU.out.1.lt)⟩)
                        have hy : ∀ pp : Wb U, (pp.u.cell? ⟨g5, o5 + jn * 8, none⟩ = some (.int .i64 yi1) ∧ pp.u.cell? ⟨g5, o5 + jn * 8 + 1, none⟩ = some (.int .i64 yi2) ∧ pp.u.cell? ⟨g5, o5 + jn * 8 + 2, none⟩ = some (.int .i64 ytm) ∧ pp.u.cell? ⟨g5, o5 + jn * 8 + 3, none⟩ = some (.int .i64 yb1) ∧ pp.u.cell? ⟨g5, o5 + jn * 8 + 4, none⟩ = some (.int .i64 yb2) ∧ pp.u.cell? ⟨g5, o5 + jn * 8 + 5, none⟩ = some (.int .i64 yp1) ∧ pp.u.cell? ⟨g5, o5 + jn * 8 + 6, none⟩ = some (.int .i64 yp2) ∧ pp.u.cell? ⟨g5, o5 + jn * 8 + 7, none⟩ = some (.string yky)) := fun pp => HLy.out pp.u (HKg.out _ (HBU.out pp).2)
                        have qy0 : ∀ pp : Wb U, pp.u.cell? ⟨g5, o5 + jn * 8, none⟩ = some (.int .i64 yi1) := fun pp => (hy pp).1
                        have qy1 : ∀ pp : Wb U, pp.u.cell? ⟨g5, o5 + jn * 8 + 1, none⟩ = some (.int .i64 yi2) := fun pp => (hy pp).2.1
                        have qy2 : ∀ pp : Wb U, pp.u.cell? ⟨g5, o5 + jn * 8 + 2, none⟩ = some (.int .i64 ytm) := fun pp => (hy pp).2.2.1
                        have qy3 : ∀ pp : Wb U, pp.u.cell? ⟨g5, o5 + jn * 8 + 3, none⟩ = some (.int .i64 yb1) := fun pp => (hy pp).2.2.2.1
                        have qy4 : ∀ pp : Wb U, pp.u.cell? ⟨g5, o5 + jn * 8 + 4, none⟩ = some (.int .i64 yb2) := fun pp => (hy pp).2.2.2.2.1
                        have qb0 : ∀ pp : Wb U, pp.u.cell? ⟨wr2.heap.size, 0, none⟩ = some (.int .i64 xb1) := fun pp => (HBx.out _ (HBU.out pp).2).1
                        have qb1 : ∀ pp : Wb U, pp.u.cell? ⟨wr2.heap.size, 1, none⟩ = some (.int .i64 xb2) := fun pp => (HBx.out _ (HBU.out pp).2).2
                        clear hy
                        refine wp_region_below mixed (by kernel_rfl) ?_
                        repeat (go_big_quiet_step (first | (fail)))
                        refine wpQuiet_nil ?_
                        intro _ hw'
                        obtain ⟨pp, hw''⟩ := hw'
                        subst hw''
                        go_wp2_with fail
                        go_meet
                        case rel => exact ⟨rfl, hid (HBU.out pp)⟩
                      case rest =>
                        obtain ⟨rfl, SU2⟩ := hcut
                        obtain ⟨U2, hU2⟩ : ∃ U2, U2 = wc := ⟨_, rfl⟩
                        rw [← hU2] at SU2 ⊢
                        clear hU2
                        go_upto_region 23 with fail
                        go_cut [11] from 91 to 111 (fun s wc => s = .bool MD ∧ Hid (TP wc t l Pb ∧ KP Pb Wx wc))
                        case first =>
                          clear SU U
                          obtain ⟨U, hU⟩ : ∃ U, U = U2 := ⟨_, rfl⟩
                          subst hU
                          haveI : Nonempty (Wb U) := ⟨⟨U, Below.refl _ _⟩⟩
                          have HBU : Hid (∀ pp : Wb U, TP pp.u t l Pb ∧ KP Pb Wx pp.u) := hid (fun pp => ⟨SU2.out.1.below pp.h, SU2.out.2.trans (KP.below pp.h SU2.out.1.lt)⟩)
                          have hy : ∀ pp : Wb U, (pp.u.cell? ⟨g5, o5 + jn * 8, none⟩ = some (.int .i64 yi1) ∧ pp.u.cell? ⟨g5, o5 + jn * 8 + 1, none⟩ = some (.int .i64 yi2) ∧ pp.u.cell? ⟨g5, o5 + jn * 8 + 2, none⟩ = some (.int .i64 ytm) ∧ pp.u.cell? ⟨g5, o5 + jn * 8 + 3, none⟩ = some (.int .i64 yb1) ∧ pp.u.cell? ⟨g5, o5 + jn * 8 + 4, none⟩ = some (.int .i64 yb2) ∧ pp.u.cell? ⟨g5, o5 + jn * 8 + 5, none⟩ = some (.int .i64 yp1) ∧ pp.u.cell? ⟨g5, o5 + jn * 8 + 6, none⟩ = some (.int .i64 yp2) ∧ pp.u.cell? ⟨g5, o5 + jn * 8 + 7, none⟩ = some (.string yky)) := fun pp => HLy.out pp.u (HKg.out _ (HBU.out pp).2)
                          have qy0 : ∀ pp : Wb U, pp.u.cell? ⟨g5, o5 + jn * 8, none⟩ = some (.int .i64 yi1) := fun pp => (hy pp).1
                          have qy1 : ∀ pp : Wb U, pp.u.cell? ⟨g5, o5 + jn * 8 + 1, none⟩ = some (.int .i64 yi2) := fun pp => (hy pp).2.1
                          have qy2 : ∀ pp : Wb U, pp.u.cell? ⟨g5, o5 + jn * 8 + 2, none⟩ = some (.int .i64 ytm) := fun pp => (hy pp).2.2.1
                          have qy3 : ∀ pp : Wb U, pp.u.cell? ⟨g5, o5 + jn * 8 + 3, none⟩ = some (.int .i64 yb1) := fun pp => (hy pp).2.2.2.1
                          have qy4 : ∀ pp : Wb U, pp.u.cell? ⟨g5, o5 + jn * 8 + 4, none⟩ = some (.int .i64 yb2) := fun pp => (hy pp).2.2.2.2.1
                          have qb0 : ∀ pp : Wb U, pp.u.cell? ⟨wr2.heap.size, 0, none⟩ = some (.int .i64 xb1) := fun pp => (HBx.out _ (HBU.out pp).2).1
                          have qb1 : ∀ pp : Wb U, pp.u.cell? ⟨wr2.heap.size, 1, none⟩ = some (.int .i64 xb2) := fun pp => (HBx.out _ (HBU.out pp).2).2
                          clear hy
                          cases mdb with
                          | true =>
                            have hm1 : MD = true := by rw [HMDx.out]; rfl
                            subst hm1
                            refine wp_region_below mixed (by kernel_rfl) ?_
                            repeat (go_big_quiet_step (first | (fail)))
                            refine wpQuiet_nil ?_
                            intro _ hw'
                            obtain ⟨pp, hw''⟩ := hw'
                            subst hw''
                            go_wp2_with fail
                            go_meet
                            case rel => exact ⟨rfl, hid (HBU.out pp)⟩
                          | false =>
                            by_cases f1 : yi1 = xb1
                            · by_cases f2 : yi2 = xb2
                              · have hm1 : MD = true := by rw [HMDx.out, f1, f2]; simp
                                subst hm1
                                have hbc : (yi1 == xb1) = true := by simpa using f1
                                have hbd : (yi2 == xb2) = true := by simpa using f2
                                clear f1 f2
                                refine wp_region_below mixed (by kernel_rfl) ?_
                                repeat (go_big_quiet_step (first | (fail)))
                                refine wpQuiet_nil ?_
                                intro _ hw'
                                obtain ⟨pp, hw''⟩ := hw'
                                subst hw''
                                go_wp2_with fail
                                go_meet
                                case rel => exact ⟨rfl, hid (HBU.out pp)⟩
                              · have hm1 : MD = false := by rw [HMDx.out]; simp [f2]
                                subst hm1
                                have hbc : (yi1 == xb1) = true := by simpa using f1
                                have hbd : (yi2 == xb2) = false := by simpa using f2
                                clear f1 f2
                                refine wp_region_below mixed (by kernel_rfl) ?_
                                repeat (go_big_quiet_step (first | (fail)))
                                refine wpQuiet_nil ?_
                                intro _ hw'
                                obtain ⟨pp, hw''⟩ := hw'
                                subst hw''
                                go_wp2_with fail
                                go_meet
                                case rel => exact ⟨rfl, hid (HBU.out pp)⟩
                            · have hm1 : MD = false := by rw [HMDx.out]; simp [f1]
                              subst hm1
                              have hbc : (yi1 == xb1) = false := by simpa using f1
                              clear f1
                              refine wp_region_below mixed (by kernel_rfl) ?_
                              repeat (go_big_quiet_step (first | (fail)))
                              refine wpQuiet_nil ?_
                              intro _ hw'
                              obtain ⟨pp, hw''⟩ := hw'
                              subst hw''
                              go_wp2_with fail
                              go_meet
                              case rel => exact ⟨rfl, hid (HBU.out pp)⟩
                        case rest =>
                          obtain ⟨rfl, S4⟩ := hcut
                          clear SU SU2 U U2
                          obtain ⟨U, hU⟩ : ∃ U, U = wc := ⟨_, rfl⟩
                          rw [← hU] at S4 ⊢
                          clear hU
                          go_upto_region 24 with fail
                          -- region 24
                          rcases HF.out.lo with ⟨hk0, _⟩ | ⟨i, z, hki, hzi, _, _⟩
                          · subst hk0
                            have HUP : Hid (True → ((-1 : Int) < 0 ∨ ∃ (i : Nat) (x : Mv), (-1 : Int) = (i : Int) ∧ (M.take jn)[i]? = some x ∧ mvl x (⟨(yi1, yi2), ytm, (yb1, yb2), (yp1, yp2), yky⟩ : Mv) = true)) := hid (fun _ => Or.inl (by decide))
                            haveI : Nonempty (Wb U) := ⟨⟨U, Below.refl _ _⟩⟩
                            have HBU : Hid (∀ pp : Wb U, TP pp.u t l Pb ∧ KP Pb Wx pp.u) := hid (fun pp => ⟨S4.out.1.below pp.h, S4.out.2.trans (KP.below pp.h S4.out.1.lt)⟩)
                            have hy : ∀ pp : Wb U, (pp.u.cell? ⟨g5, o5 + jn * 8, none⟩ = some (.int .i64 yi1) ∧ pp.u.cell? ⟨g5, o5 + jn * 8 + 1, none⟩ = some (.int .i64 yi2) ∧ pp.u.cell? ⟨g5, o5 + jn * 8 + 2, none⟩ = some (.int .i64 ytm) ∧ pp.u.cell? ⟨g5, o5 + jn * 8 + 3, none⟩ = some (.int .i64 yb1) ∧ pp.u.cell? ⟨g5, o5 + jn * 8 + 4, none⟩ = some (.int .i64 yb2) ∧ pp.u.cell? ⟨g5, o5 + jn * 8 + 5, none⟩ = some (.int .i64 yp1) ∧ pp.u.cell? ⟨g5, o5 + jn * 8 + 6, none⟩ = some (.int .i64 yp2) ∧ pp.u.cell? ⟨g5, o5 + jn * 8 + 7, none⟩ = some (.string yky)) := fun pp => HLy.out pp.u (HKg.out _ (HBU.out pp).2)
                            have qy0 : ∀ pp : Wb U, pp.u.cell? ⟨g5, o5 + jn * 8, none⟩ = some (.int .i64 yi1) := fun pp => (hy pp).1
                            have qy1 : ∀ pp : Wb U, pp.u.cell? ⟨g5, o5 + jn * 8 + 1, none⟩ = some (.int .i64 yi2) := fun pp => (hy pp).2.1
                            have qy2 : ∀ pp : Wb U, pp.u.cell? ⟨g5, o5 + jn * 8 + 2, none⟩ = some (.int .i64 ytm) := fun pp => (hy pp).2.2.1
                            have qy3 : ∀ pp : Wb U, pp.u.cell? ⟨g5, o5 + jn * 8 + 3, none⟩ = some (.int .i64 yb1) := fun pp => (hy pp).2.2.2.1
                            have qy4 : ∀ pp : Wb U, pp.u.cell? ⟨g5, o5 + jn * 8 + 4, none⟩ = some (.int .i64 yb2) := fun pp => (hy pp).2.2.2.2.1
                            have qb0 : ∀ pp : Wb U, pp.u.cell? ⟨wr2.heap.size, 0, none⟩ = some (.int .i64 xb1) := fun pp => (HBx.out _ (HBU.out pp).2).1
                            have qb1 : ∀ pp : Wb U, pp.u.cell? ⟨wr2.heap.size, 1, none⟩ = some (.int .i64 xb2) := fun pp => (HBx.out _ (HBU.out pp).2).2
                            clear hy
                            refine wp_region_below mixed (by kernel_rfl) ?_
                            repeat (go_big_quiet_step (first | (go_at_call 24; exact kL _)))
                            refine wpQuiet_nil ?_
                            intro _ hw'
                            obtain ⟨pp, hw''⟩ := hw'
                            subst hw''
                            go_wp2
                            go_roundw
                            case rel => exact ⟨jn + 1, (jn : Int), MD, by omega, by go_num, rfl, rfl, by omega, by omega, hid (by rw [HTk.out, HMD.out]; have h9 := HF.out.next HG.out (HUP.out trivial); rw [HLn.out] at h9; exact h9), hid (HBU.out pp)⟩
                            case measure => simp [intOf]; omega
                          · obtain ⟨⟨zi1, zi2⟩, ztm, ⟨zb1, zb2⟩, ⟨zp1, zp2⟩, zky⟩ := z
                            have hzt : (M.take jn)[i]? = some (⟨(zi1, zi2), ztm, (zb1, zb2), (zp1, zp2), zky⟩ : Mv) := hzi
                            have hzl : i < jn := by have := (List.getElem?_eq_some_iff.1 hzi).1; rw [List.length_take] at this; omega
                            have hzm : M[i]? = some (⟨(zi1, zi2), ztm, (zb1, zb2), (zp1, zp2), zky⟩ : Mv) := by rw [List.getElem?_take, if_pos hzl] at hzi; exact hzi
                            have hin5 : i < n5 := by omega
                            obtain ⟨g', o', e', _, hlz⟩ := HM5.out.look hzm
                            cases e'
                            have HLz := hid hlz
                            have HZt := hid hzt
                            have HKI := hid hki
                            have HIDn : Hid ((((⟨(zi1, zi2), ztm, (zb1, zb2), (zp1, zp2), zky⟩ : Mv)).id) ≠ (((⟨(yi1, yi2), ytm, (yb1, yb2), (yp1, yp2), yky⟩ : Mv)).id)) := hid (fun e => by
                              have h1 : i = jn := (List.getElem?_inj (l := M.map Mv.id) (by simpa using (List.getElem?_eq_some_iff.1 hzm).1) HND.out).1 (by rw [List.getElem?_map, List.getElem?_map, hzm, HYm.out, Option.map_some, Option.map_some, e])
                              omega)
                            clear hzi hzt hlz hzm
                            have hk1' : decide ((i : Int) < 0) = false := by simp
                            rcases Int.lt_trichotomy ztm ytm with ht | ht | ht
                            · have hbt : decide (ztm < ytm) = true := by simpa using ht
                              have HUP : Hid (True → (kk < 0 ∨ ∃ (i : Nat) (x : Mv), kk = (i : Int) ∧ (M.take jn)[i]? = some x ∧ mvl x (⟨(yi1, yi2), ytm, (yb1, yb2), (yp1, yp2), yky⟩ : Mv) = true)) := hid (fun _ => Or.inr ⟨i, _, HKI.out, HZt.out, (mvl_iff _ _).2 (Or.inl ht)⟩)
                              subst hki
                              haveI : Nonempty (Wb U) := ⟨⟨U, Below.refl _ _⟩⟩
                              have HBU : Hid (∀ pp : Wb U, TP pp.u t l Pb ∧ KP Pb Wx pp.u) := hid (fun pp => ⟨S4.out.1.below pp.h, S4.out.2.trans (KP.below pp.h S4.out.1.lt)⟩)
                              have hy : ∀ pp : Wb U, (pp.u.cell? ⟨g5, o5 + jn * 8, none⟩ = some (.int .i64 yi1) ∧ pp.u.cell? ⟨g5, o5 + jn * 8 + 1, none⟩ = some (.int .i64 yi2) ∧ pp.u.cell? ⟨g5, o5 + jn * 8 + 2, none⟩ = some (.int .i64 ytm) ∧ pp.u.cell? ⟨g5, o5 + jn * 8 + 3, none⟩ = some (.int .i64 yb1) ∧ pp.u.cell? ⟨g5, o5 + jn * 8 + 4, none⟩ = some (.int .i64 yb2) ∧ pp.u.cell? ⟨g5, o5 + jn * 8 + 5, none⟩ = some (.int .i64 yp1) ∧ pp.u.cell? ⟨g5, o5 + jn * 8 + 6, none⟩ = some (.int .i64 yp2) ∧ pp.u.cell? ⟨g5, o5 + jn * 8 + 7, none⟩ = some (.string yky)) := fun pp => HLy.out pp.u (HKg.out _ (HBU.out pp).2)
                              have qy0 : ∀ pp : Wb U, pp.u.cell? ⟨g5, o5 + jn * 8, none⟩ = some (.int .i64 yi1) := fun pp => (hy pp).1
                              have qy1 : ∀ pp : Wb U, pp.u.cell? ⟨g5, o5 + jn * 8 + 1, none⟩ = some (.int .i64 yi2) := fun pp => (hy pp).2.1
                              have qy2 : ∀ pp : Wb U, pp.u.cell? ⟨g5, o5 + jn * 8 + 2, none⟩ = some (.int .i64 ytm) := fun pp => (hy pp).2.2.1
                              have qy3 : ∀ pp : Wb U, pp.u.cell? ⟨g5, o5 + jn * 8 + 3, none⟩ = some (.int .i64 yb1) := fun pp => (hy pp).2.2.2.1
                              have qy4 : ∀ pp : Wb U, pp.u.cell? ⟨g5, o5 + jn * 8 + 4, none⟩ = some (.int .i64 yb2) := fun pp => (hy pp).2.2.2.2.1
                              have hz : ∀ pp : Wb U, (pp.u.cell? ⟨g5, o5 + i * 8, none⟩ = some (.int .i64 zi1) ∧ pp.u.cell? ⟨g5, o5 + i * 8 + 1, none⟩ = some (.int .i64 zi2) ∧ pp.u.cell? ⟨g5, o5 + i * 8 + 2, none⟩ = some (.int .i64 ztm) ∧ pp.u.cell? ⟨g5, o5 + i * 8 + 3, none⟩ = some (.int .i64 zb1) ∧ pp.u.cell? ⟨g5, o5 + i * 8 + 4, none⟩ = some (.int .i64 zb2) ∧ pp.u.cell? ⟨g5, o5 + i * 8 + 5, none⟩ = some (.int .i64 zp1) ∧ pp.u.cell? ⟨g5, o5 + i * 8 + 6, none⟩ = some (.int .i64 zp2) ∧ pp.u.cell? ⟨g5, o5 + i * 8 + 7, none⟩ = some (.string zky)) := fun pp => HLz.out pp.u (HKg.out _ (HBU.out pp).2)
                              have qz0 : ∀ pp : Wb U, pp.u.cell? ⟨g5, o5 + i * 8, none⟩ = some (.int .i64 zi1) := fun pp => (hz pp).1
                              have qz1 : ∀ pp : Wb U, pp.u.cell? ⟨g5, o5 + i * 8 + 1, none⟩ = some (.int .i64 zi2) := fun pp => (hz pp).2.1
                              have qz2 : ∀ pp : Wb U, pp.u.cell? ⟨g5, o5 + i * 8 + 2, none⟩ = some (.int .i64 ztm) := fun pp => (hz pp).2.2.1
                              have qz5 : ∀ pp : Wb U, pp.u.cell? ⟨g5, o5 + i * 8 + 5, none⟩ = some (.int .i64 zp1) := fun pp => (hz pp).2.2.2.2.2.1
                              have qz6 : ∀ pp : Wb U, pp.u.cell? ⟨g5, o5 + i * 8 + 6, none⟩ = some (.int .i64 zp2) := fun pp => (hz pp).2.2.2.2.2.2.1
                              have qz7 : ∀ pp : Wb U, pp.u.cell? ⟨g5, o5 + i * 8 + 7, none⟩ = some (.string zky) := fun pp => (hz pp).2.2.2.2.2.2.2
                              have qb0 : ∀ pp : Wb U, pp.u.cell? ⟨wr2.heap.size, 0, none⟩ = some (.int .i64 xb1) := fun pp => (HBx.out _ (HBU.out pp).2).1
                              have qb1 : ∀ pp : Wb U, pp.u.cell? ⟨wr2.heap.size, 1, none⟩ = some (.int .i64 xb2) := fun pp => (HBx.out _ (HBU.out pp).2).2
                              clear hy hz
                              refine wp_region_below mixed (by kernel_rfl) ?_
                              repeat (go_big_quiet_step (first | (go_at_call 24; exact kL _)))
                              refine wpQuiet_nil ?_
                              intro _ hw'
                              obtain ⟨pp, hw''⟩ := hw'
                              subst hw''
                              go_wp2
                              go_roundw
                              case rel => exact ⟨jn + 1, (jn : Int), MD, by omega, by go_num, rfl, rfl, by omega, by omega, hid (by rw [HTk.out, HMD.out]; have h9 := HF.out.next HG.out (HUP.out trivial); rw [HLn.out] at h9; exact h9), hid (HBU.out pp)⟩
                              case measure => simp [intOf]; omega
                            · cases hls : dl (zi1, zi2) (yi1, yi2) with
                              | true =>
                                have HUP : Hid (True → (kk < 0 ∨ ∃ (i : Nat) (x : Mv), kk = (i : Int) ∧ (M.take jn)[i]? = some x ∧ mvl x (⟨(yi1, yi2), ytm, (yb1, yb2), (yp1, yp2), yky⟩ : Mv) = true)) := hid (fun _ => Or.inr ⟨i, _, HKI.out, HZt.out, (mvl_iff _ _).2 (Or.inr ⟨ht, hls⟩)⟩)
                                have hbt : decide (ztm < ytm) = false := by simp; omega
                                have hbe : (ztm == ytm) = true := by simpa using ht
                                subst hki
                                haveI : Nonempty (Wb U) := ⟨⟨U, Below.refl _ _⟩⟩
                                have HBU : Hid (∀ pp : Wb U, TP pp.u t l Pb ∧ KP Pb Wx pp.u) := hid (fun pp => ⟨S4.out.1.below pp.h, S4.out.2.trans (KP.below pp.h S4.out.1.lt)⟩)
                                have hy : ∀ pp : Wb U, (pp.u.cell? ⟨g5, o5 + jn * 8, none⟩ = some (.int .i64 yi1) ∧ pp.u.cell? ⟨g5, o5 + jn * 8 + 1, none⟩ = some (.int .i64 yi2) ∧ pp.u.cell? ⟨g5, o5 + jn * 8 + 2, none⟩ = some (.int .i64 ytm) ∧ pp.u.cell? ⟨g5, o5 + jn * 8 + 3, none⟩ = some (.int .i64 yb1) ∧ pp.u.cell? ⟨g5, o5 + jn * 8 + 4, none⟩ = some (.int .i64 yb2) ∧ pp.u.cell? ⟨g5, o5 + jn * 8 + 5, none⟩ = some (.int .i64 yp1) ∧ pp.u.cell? ⟨g5, o5 + jn * 8 + 6, none⟩ = some (.int .i64 yp2) ∧ pp.u.cell? ⟨g5, o5 + jn * 8 + 7, none⟩ = some (.string yky)) := fun pp => HLy.out pp.u (HKg.out _ (HBU.out pp).2)
                                have qy0 : ∀ pp : Wb U, pp.u.cell? ⟨g5, o5 + jn * 8, none⟩ = some (.int .i64 yi1) := fun pp => (hy pp).1
                                have qy1 : ∀ pp : Wb U, pp.u.cell? ⟨g5, o5 + jn * 8 + 1, none⟩ = some (.int .i64 yi2) := fun pp => (hy pp).2.1
                                have qy2 : ∀ pp : Wb U, pp.u.cell? ⟨g5, o5 + jn * 8 + 2, none⟩ = some (.int .i64 ytm) := fun pp => (hy pp).2.2.1
                                have qy3 : ∀ pp : Wb U, pp.u.cell? ⟨g5, o5 + jn * 8 + 3, none⟩ = some (.int .i64 yb1) := fun pp => (hy pp).2.2.2.1
                                have qy4 : ∀ pp : Wb U, pp.u.cell? ⟨g5, o5 + jn * 8 + 4, none⟩ = some (.int .i64 yb2) := fun pp => (hy pp).2.2.2.2.1
                                have hz : ∀ pp : Wb U, (pp.u.cell? ⟨g5, o5 + i * 8, none⟩ = some (.int .i64 zi1) ∧ pp.u.cell? ⟨g5, o5 + i * 8 + 1, none⟩ = some (.int .i64 zi2) ∧ pp.u.cell? ⟨g5, o5 + i * 8 + 2, none⟩ = some (.int .i64 ztm) ∧ pp.u.cell? ⟨g5, o5 + i * 8 + 3, none⟩ = some (.int .i64 zb1) ∧ pp.u.cell? ⟨g5, o5 + i * 8 + 4, none⟩ = some (.int .i64 zb2) ∧ pp.u.cell? ⟨g5, o5 + i * 8 + 5, none⟩ = some (.int .i64 zp1) ∧ pp.u.cell? ⟨g5, o5 + i * 8 + 6, none⟩ = some (.int .i64 zp2) ∧ pp.u.cell? ⟨g5, o5 + i * 8 + 7, none⟩ = some (.string zky)) := fun pp => HLz.out pp.u (HKg.out _ (HBU.out pp).2)
                                have qz0 : ∀ pp : Wb U, pp.u.cell? ⟨g5, o5 + i * 8, none⟩ = some (.int .i64 zi1) := fun pp => (hz pp).1
                                have qz1 : ∀ pp : Wb U, pp.u.cell? ⟨g5, o5 + i * 8 + 1, none⟩ = some (.int .i64 zi2) := fun pp => (hz pp).2.1
                                have qz2 : ∀ pp : Wb U, pp.u.cell? ⟨g5, o5 + i * 8 + 2, none⟩ = some (.int .i64 ztm) := fun pp => (hz pp).2.2.1
                                have qz5 : ∀ pp : Wb U, pp.u.cell? ⟨g5, o5 + i * 8 + 5, none⟩ = some (.int .i64 zp1) := fun pp => (hz pp).2.2.2.2.2.1
                                have qz6 : ∀ pp : Wb U, pp.u.cell? ⟨g5, o5 + i * 8 + 6, none⟩ = some (.int .i64 zp2) := fun pp => (hz pp).2.2.2.2.2.2.1
                                have qz7 : ∀ pp : Wb U, pp.u.cell? ⟨g5, o5 + i * 8 + 7, none⟩ = some (.string zky) := fun pp => (hz pp).2.2.2.2.2.2.2
                                have qb0 : ∀ pp : Wb U, pp.u.cell? ⟨wr2.heap.size, 0, none⟩ = some (.int .i64 xb1) := fun pp => (HBx.out _ (HBU.out pp).2).1
                                have qb1 : ∀ pp : Wb U, pp.u.cell? ⟨wr2.heap.size, 1, none⟩ = some (.int .i64 xb2) := fun pp => (HBx.out _ (HBU.out pp).2).2
                                clear hy hz
                                have kL : ∀ pp : Wb U, Calls Try.prog 24 #[.agg #[.int .i64 zi1, .int .i64 zi2], .agg #[.int .i64 yi1, .int .i64 yi2]] pp.u fun e w'' => e = .returned (.bool true) ∧ ∃ p' : Wb U, w'' = p'.u := fun pp => by
                                  have := far_q (p := pp) (rless_any (zi1, zi2) (yi1, yi2) pp.u)
                                  rw [hls] at this
                                  exact this
                                refine wp_region_below mixed (by kernel_rfl) ?_
                                repeat (go_big_quiet_step (first | (go_at_call 24; exact kL _)))
                                refine wpQuiet_nil ?_
                                intro _ hw'
                                obtain ⟨pp, hw''⟩ := hw'
                                subst hw''
                                go_wp2
                                go_roundw
                                case rel => exact ⟨jn + 1, (jn : Int), MD, by omega, by go_num, rfl, rfl, by omega, by omega, hid (by rw [HTk.out, HMD.out]; have h9 := HF.out.next HG.out (HUP.out trivial); rw [HLn.out] at h9; exact h9), hid (HBU.out pp)⟩
                                case measure => simp [intOf]; omega
                              | false =>
                                have HUN : Hid (mvl (⟨(zi1, zi2), ztm, (zb1, zb2), (zp1, zp2), zky⟩ : Mv) (⟨(yi1, yi2), ytm, (yb1, yb2), (yp1, yp2), yky⟩ : Mv) = false) := hid (by
                                  cases hm : mvl (⟨(zi1, zi2), ztm, (zb1, zb2), (zp1, zp2), zky⟩ : Mv) (⟨(yi1, yi2), ytm, (yb1, yb2), (yp1, yp2), yky⟩ : Mv) with
                                  | false => rfl
                                  | true =>
                                    rcases (mvl_iff _ _).1 hm with h | ⟨_, h⟩
                                    · have : ztm < ytm := h
                                      omega
                                    · have h' : dl (zi1, zi2) (yi1, yi2) = true := h
                                      rw [hls] at h'
                                      cases h')
                                have hbt : decide (ztm < ytm) = false := by simp; omega
                                have hbe : (ztm == ytm) = true := by simpa using ht
                                subst hki
                                haveI : Nonempty (Wb U) := ⟨⟨U, Below.refl _ _⟩⟩
                                have HBU : Hid (∀ pp : Wb U, TP pp.u t l Pb ∧ KP Pb Wx pp.u) := hid (fun pp => ⟨S4.out.1.below pp.h, S4.out.2.trans (KP.below pp.h S4.out.1.lt)⟩)
                                have hy : ∀ pp : Wb U, (pp.u.cell? ⟨g5, o5 + jn * 8, none⟩ = some (.int .i64 yi1) ∧ pp.u.cell? ⟨g5, o5 + jn * 8 + 1, none⟩ = some (.int .i64 yi2) ∧ pp.u.cell? ⟨g5, o5 + jn * 8 + 2, none⟩ = some (.int .i64 ytm) ∧ pp.u.cell? ⟨g5, o5 + jn * 8 + 3, none⟩ = some (.int .i64 yb1) ∧ pp.u.cell? ⟨g5, o5 + jn * 8 + 4, none⟩ = some (.int .i64 yb2) ∧ pp.u.cell? ⟨g5, o5 + jn * 8 + 5, none⟩ = some (.int .i64 yp1) ∧ pp.u.cell? ⟨g5, o5 + jn * 8 + 6, none⟩ = some (.int .i64 yp2) ∧ pp.u.cell? ⟨g5, o5 + jn * 8 + 7, none⟩ = some (.string yky)) := fun pp => HLy.out pp.u (HKg.out _ (HBU.out pp).2)
                                have qy0 : ∀ pp : Wb U, pp.u.cell? ⟨g5, o5 + jn * 8, none⟩ = some (.int .i64 yi1) := fun pp => (hy pp).1
                                have qy1 : ∀ pp : Wb U, pp.u.cell? ⟨g5, o5 + jn * 8 + 1, none⟩ = some (.int .i64 yi2) := fun pp => (hy pp).2.1
                                have qy2 : ∀ pp : Wb U, pp.u.cell? ⟨g5, o5 + jn * 8 + 2, none⟩ = some (.int .i64 ytm) := fun pp => (hy pp).2.2.1
                                have qy3 : ∀ pp : Wb U, pp.u.cell? ⟨g5, o5 + jn * 8 + 3, none⟩ = some (.int .i64 yb1) := fun pp => (hy pp).2.2.2.1
                                have qy4 : ∀ pp : Wb U, pp.u.cell? ⟨g5, o5 + jn * 8 + 4, none⟩ = some (.int .i64 yb2) := fun pp => (hy pp).2.2.2.2.1
                                have hz : ∀ pp : Wb U, (pp.u.cell? ⟨g5, o5 + i * 8, none⟩ = some (.int .i64 zi1) ∧ pp.u.cell? ⟨g5, o5 + i * 8 + 1, none⟩ = some (.int .i64 zi2) ∧ pp.u.cell? ⟨g5, o5 + i * 8 + 2, none⟩ = some (.int .i64 ztm) ∧ pp.u.cell? ⟨g5, o5 + i * 8 + 3, none⟩ = some (.int .i64 zb1) ∧ pp.u.cell? ⟨g5, o5 + i * 8 + 4, none⟩ = some (.int .i64 zb2) ∧ pp.u.cell? ⟨g5, o5 + i * 8 + 5, none⟩ = some (.int .i64 zp1) ∧ pp.u.cell? ⟨g5, o5 + i * 8 + 6, none⟩ = some (.int .i64 zp2) ∧ pp.u.cell? ⟨g5, o5 + i * 8 + 7, none⟩ = some (.string zky)) := fun pp => HLz.out pp.u (HKg.out _ (HBU.out pp).2)
                                have qz0 : ∀ pp : Wb U, pp.u.cell? ⟨g5, o5 + i * 8, none⟩ = some (.int .i64 zi1) := fun pp => (hz pp).1
                                have qz1 : ∀ pp : Wb U, pp.u.cell? ⟨g5, o5 + i * 8 + 1, none⟩ = some (.int .i64 zi2) := fun pp => (hz pp).2.1
                                have qz2 : ∀ pp : Wb U, pp.u.cell? ⟨g5, o5 + i * 8 + 2, none⟩ = some (.int .i64 ztm) := fun pp => (hz pp).2.2.1
                                have qz5 : ∀ pp : Wb U, pp.u.cell? ⟨g5, o5 + i * 8 + 5, none⟩ = some (.int .i64 zp1) := fun pp => (hz pp).2.2.2.2.2.1
                                have qz6 : ∀ pp : Wb U, pp.u.cell? ⟨g5, o5 + i * 8 + 6, none⟩ = some (.int .i64 zp2) := fun pp => (hz pp).2.2.2.2.2.2.1
                                have qz7 : ∀ pp : Wb U, pp.u.cell? ⟨g5, o5 + i * 8 + 7, none⟩ = some (.string zky) := fun pp => (hz pp).2.2.2.2.2.2.2
                                have qb0 : ∀ pp : Wb U, pp.u.cell? ⟨wr2.heap.size, 0, none⟩ = some (.int .i64 xb1) := fun pp => (HBx.out _ (HBU.out pp).2).1
                                have qb1 : ∀ pp : Wb U, pp.u.cell? ⟨wr2.heap.size, 1, none⟩ = some (.int .i64 xb2) := fun pp => (HBx.out _ (HBU.out pp).2).2
                                clear hy hz
                                have kL : ∀ pp : Wb U, Calls Try.prog 24 #[.agg #[.int .i64 zi1, .int .i64 zi2], .agg #[.int .i64 yi1, .int .i64 yi2]] pp.u fun e w'' => e = .returned (.bool false) ∧ ∃ p' : Wb U, w'' = p'.u := fun pp => by
                                  have := far_q (p := pp) (rless_any (zi1, zi2) (yi1, yi2) pp.u)
                                  rw [hls] at this
                                  exact this
                                refine wp_region_below mixed (by kernel_rfl) ?_
                                repeat (go_big_quiet_step (first | (go_at_call 24; exact kL _)))
                                refine wpQuiet_nil ?_
                                intro _ hw'
                                obtain ⟨pp, hw''⟩ := hw'
                                subst hw''
                                go_wp2
                                go_roundw
                                case rel => exact ⟨jn + 1, (i : Int), MD, by omega, by go_num, rfl, rfl, by omega, by omega, hid (by rw [HTk.out, HMD.out]; exact HF.out.stay HG.out HKI.out HZt.out HIDn.out HUN.out), hid (HBU.out pp)⟩
                                case measure => simp [intOf]; omega
                            · have HUN : Hid (mvl (⟨(zi1, zi2), ztm, (zb1, zb2), (zp1, zp2), zky⟩ : Mv) (⟨(yi1, yi2), ytm, (yb1, yb2), (yp1, yp2), yky⟩ : Mv) = false) := hid (by
                                cases hm : mvl (⟨(zi1, zi2), ztm, (zb1, zb2), (zp1, zp2), zky⟩ : Mv) (⟨(yi1, yi2), ytm, (yb1, yb2), (yp1, yp2), yky⟩ : Mv) with
                                | false => rfl
                                | true =>
                                  rcases (mvl_iff _ _).1 hm with h | ⟨h, _⟩
                                  · have : ztm < ytm := h
                                    omega
                                  · have : ztm = ytm := h
                                    omega)
                              have hbt : decide (ztm < ytm) = false := by simp; omega
                              have hbe : (ztm == ytm) = false := by simp; omega
                              subst hki
                              haveI : Nonempty (Wb U) := ⟨⟨U, Below.refl _ _⟩⟩
                              have HBU : Hid (∀ pp : Wb U, TP pp.u t l Pb ∧ KP Pb Wx pp.u) := hid (fun pp => ⟨S4.out.1.below pp.h, S4.out.2.trans (KP.below pp.h S4.out.1.lt)⟩)
                              have hy : ∀ pp : Wb U, (pp.u.cell? ⟨g5, o5 + jn * 8, none⟩ = some (.int .i64 yi1) ∧ pp.u.cell? ⟨g5, o5 + jn * 8 + 1, none⟩ = some (.int .i64 yi2) ∧ pp.u.cell? ⟨g5, o5 + jn * 8 + 2, none⟩ = some (.int .i64 ytm) ∧ pp.u.cell? ⟨g5, o5 + jn * 8 + 3, none⟩ = some (.int .i64 yb1) ∧ pp.u.cell? ⟨g5, o5 + jn * 8 + 4, none⟩ = some (.int .i64 yb2) ∧ pp.u.cell? ⟨g5, o5 + jn * 8 + 5, none⟩ = some (.int .i64 yp1) ∧ pp.u.cell? ⟨g5, o5 + jn * 8 + 6, none⟩ = some (.int .i64 yp2) ∧ pp.u.cell? ⟨g5, o5 + jn * 8 + 7, none⟩ = some (.string yky)) := fun pp => HLy.out pp.u (HKg.out _ (HBU.out pp).2)
                              have qy0 : ∀ pp : Wb U, pp.u.cell? ⟨g5, o5 + jn * 8, none⟩ = some (.int .i64 yi1) := fun pp => (hy pp).1
                              have qy1 : ∀ pp : Wb U, pp.u.cell? ⟨g5, o5 + jn * 8 + 1, none⟩ = some (.int .i64 yi2) := fun pp => (hy pp).2.1
                              have qy2 : ∀ pp : Wb U, pp.u.cell? ⟨g5, o5 + jn * 8 + 2, none⟩ = some (.int .i64 ytm) := fun pp => (hy pp).2.2.1
                              have qy3 : ∀ pp : Wb U, pp.u.cell? ⟨g5, o5 + jn * 8 + 3, none⟩ = some (.int .i64 yb1) := fun pp => (hy pp).2.2.2.1
                              have qy4 : ∀ pp : Wb U, pp.u.cell? ⟨g5, o5 + jn * 8 + 4, none⟩ = some (.int .i64 yb2) := fun pp => (hy pp).2.2.2.2.1
                              have hz : ∀ pp : Wb U, (pp.u.cell? ⟨g5, o5 + i * 8, none⟩ = some (.int .i64 zi1) ∧ pp.u.cell? ⟨g5, o5 + i * 8 + 1, none⟩ = some (.int .i64 zi2) ∧ pp.u.cell? ⟨g5, o5 + i * 8 + 2, none⟩ = some (.int .i64 ztm) ∧ pp.u.cell? ⟨g5, o5 + i * 8 + 3, none⟩ = some (.int .i64 zb1) ∧ pp.u.cell? ⟨g5, o5 + i * 8 + 4, none⟩ = some (.int .i64 zb2) ∧ pp.u.cell? ⟨g5, o5 + i * 8 + 5, none⟩ = some (.int .i64 zp1) ∧ pp.u.cell? ⟨g5, o5 + i * 8 + 6, none⟩ = some (.int .i64 zp2) ∧ pp.u.cell? ⟨g5, o5 + i * 8 + 7, none⟩ = some (.string zky)) := fun pp => HLz.out pp.u (HKg.out _ (HBU.out pp).2)
                              have qz0 : ∀ pp : Wb U, pp.u.cell? ⟨g5, o5 + i * 8, none⟩ = some (.int .i64 zi1) := fun pp => (hz pp).1
                              have qz1 : ∀ pp : Wb U, pp.u.cell? ⟨g5, o5 + i * 8 + 1, none⟩ = some (.int .i64 zi2) := fun pp => (hz pp).2.1
                              have qz2 : ∀ pp : Wb U, pp.u.cell? ⟨g5, o5 + i * 8 + 2, none⟩ = some (.int .i64 ztm) := fun pp => (hz pp).2.2.1
                              have qz5 : ∀ pp : Wb U, pp.u.cell? ⟨g5, o5 + i * 8 + 5, none⟩ = some (.int .i64 zp1) := fun pp => (hz pp).2.2.2.2.2.1
                              have qz6 : ∀ pp : Wb U, pp.u.cell? ⟨g5, o5 + i * 8 + 6, none⟩ = some (.int .i64 zp2) := fun pp => (hz pp).2.2.2.2.2.2.1
                              have qz7 : ∀ pp : Wb U, pp.u.cell? ⟨g5, o5 + i * 8 + 7, none⟩ = some (.string zky) := fun pp => (hz pp).2.2.2.2.2.2.2
                              have qb0 : ∀ pp : Wb U, pp.u.cell? ⟨wr2.heap.size, 0, none⟩ = some (.int .i64 xb1) := fun pp => (HBx.out _ (HBU.out pp).2).1
                              have qb1 : ∀ pp : Wb U, pp.u.cell? ⟨wr2.heap.size, 1, none⟩ = some (.int .i64 xb2) := fun pp => (HBx.out _ (HBU.out pp).2).2
                              clear hy hz
                              refine wp_region_below mixed (by kernel_rfl) ?_
                              repeat (go_big_quiet_step (first | (go_at_call 24; exact kL _)))
                              refine wpQuiet_nil ?_
                              intro _ hw'
                              obtain ⟨pp, hw''⟩ := hw'
                              subst hw''
                              go_wp2
                              go_roundw
                              case rel => exact ⟨jn + 1, (i : Int), MD, by omega, by go_num, rfl, rfl, by omega, by omega, hid (by rw [HTk.out, HMD.out]; exact HF.out.stay HG.out HKI.out HZt.out HIDn.out HUN.out), hid (HBU.out pp)⟩
                              case measure => simp [intOf]; omega
                  · have HNG : Hid (¬ Gd l (xb1, xb2) (⟨(yi1, yi2), ytm, (yb1, yb2), (yp1, yp2), yky⟩ : Mv)) := hid (fun g => by have h1 : (yb1, yb2) = (xb1, xb2) := g.1; simp only [Prod.mk.injEq] at h1; exact e2 h1.2)
                    have hba : (yb1 == xb1) = true := by simpa using e1
                    have hbb : (yb2 == xb2) = false := by simpa using e2
                    haveI : Nonempty (Wb U) := ⟨⟨U, Below.refl _ _⟩⟩
                    have HBU : Hid (∀ pp : Wb U, TP pp.u t l Pb ∧ KP Pb Wx pp.u) := hid (fun pp => ⟨SU.out.1.below pp.h, SU.out.2.trans (KP.below pp.h SU.out.1.lt)⟩)
                    have hy : ∀ pp : Wb U, (pp.u.cell? ⟨g5, o5 + jn * 8, none⟩ = some (.int .i64 yi1) ∧ pp.u.cell? ⟨g5, o5 + jn * 8 + 1, none⟩ = some (.int .i64 yi2) ∧ pp.u.cell? ⟨g5, o5 + jn * 8 + 2, none⟩ = some (.int .i64 ytm) ∧ pp.u.cell? ⟨g5, o5 + jn * 8 + 3, none⟩ = some (.int .i64 yb1) ∧ pp.u.cell? ⟨g5, o5 + jn * 8 + 4, none⟩ = some (.int .i64 yb2) ∧ pp.u.cell? ⟨g5, o5 + jn * 8 + 5, none⟩ = some (.int .i64 yp1) ∧ pp.u.cell? ⟨g5, o5 + jn * 8 + 6, none⟩ = some (.int .i64 yp2) ∧ pp.u.cell? ⟨g5, o5 + jn * 8 + 7, none⟩ = some (.string yky)) := fun pp => HLy.out pp.u (HKg.out _ (HBU.out pp).2)
                    have qy0 : ∀ pp : Wb U, pp.u.cell? ⟨g5, o5 + jn * 8, none⟩ = some (.int .i64 yi1) := fun pp => (hy pp).1
                    have qy1 : ∀ pp : Wb U, pp.u.cell? ⟨g5, o5 + jn * 8 + 1, none⟩ = some (.int .i64 yi2) := fun pp => (hy pp).2.1
                    have qy2 : ∀ pp : Wb U, pp.u.cell? ⟨g5, o5 + jn * 8 + 2, none⟩ = some (.int .i64 ytm) := fun pp => (hy pp).2.2.1
                    have qy3 : ∀ pp : Wb U, pp.u.cell? ⟨g5, o5 + jn * 8 + 3, none⟩ = some (.int .i64 yb1) := fun pp => (hy pp).2.2.2.1
                    have qy4 : ∀ pp : Wb U, pp.u.cell? ⟨g5, o5 + jn * 8 + 4, none⟩ = some (.int .i64 yb2) := fun pp => (hy pp).2.2.2.2.1
                    have qb0 : ∀ pp : Wb U, pp.u.cell? ⟨wr2.heap.size, 0, none⟩ = some (.int .i64 xb1) := fun pp => (HBx.out _ (HBU.out pp).2).1
                    have qb1 : ∀ pp : Wb U, pp.u.cell? ⟨wr2.heap.size, 1, none⟩ = some (.int .i64 xb2) := fun pp => (HBx.out _ (HBU.out pp).2).2
                    clear hy
                    refine wp_region_below mixed (by kernel_rfl) ?_
                    repeat (go_big_quiet_step (first | (fail)))
                    refine wpQuiet_nil ?_
                    intro _ hw'
                    obtain ⟨pp, hw''⟩ := hw'
                    subst hw''
                    go_wp2
                    go_roundw
                    case rel => exact ⟨jn + 1, kk, mdb, by omega, by go_num, rfl, rfl, by omega, by omega, hid (by rw [HTk.out]; exact HF.out.skip (fun g => HNG.out g)), hid (HBU.out pp)⟩
                    case measure => simp [intOf]; omega
                · have HNG : Hid (¬ Gd l (xb1, xb2) (⟨(yi1, yi2), ytm, (yb1, yb2), (yp1, yp2), yky⟩ : Mv)) := hid (fun g => by have h1 : (yb1, yb2) = (xb1, xb2) := g.1; simp only [Prod.mk.injEq] at h1; exact e1 h1.1)
                  have hba : (yb1 == xb1) = false := by simpa using e1
                  haveI : Nonempty (Wb U) := ⟨⟨U, Below.refl _ _⟩⟩
                  have HBU : Hid (∀ pp : Wb U, TP pp.u t l Pb ∧ KP Pb Wx pp.u) := hid (fun pp => ⟨SU.out.1.below pp.h, SU.out.2.trans (KP.below pp.h SU.out.1.lt)⟩)
                  have hy : ∀ pp : Wb U, (pp.u.cell? ⟨g5, o5 + jn * 8, none⟩ = some (.int .i64 yi1) ∧ pp.u.cell? ⟨g5, o5 + jn * 8 + 1, none⟩ = some (.int .i64 yi2) ∧ pp.u.cell? ⟨g5, o5 + jn * 8 + 2, none⟩ = some (.int .i64 ytm) ∧ pp.u.cell? ⟨g5, o5 + jn * 8 + 3, none⟩ = some (.int .i64 yb1) ∧ pp.u.cell? ⟨g5, o5 + jn * 8 + 4, none⟩ = some (.int .i64 yb2) ∧ pp.u.cell? ⟨g5, o5 + jn * 8 + 5, none⟩ = some (.int .i64 yp1) ∧ pp.u.cell? ⟨g5, o5 + jn * 8 + 6, none⟩ = some (.int .i64 yp2) ∧ pp.u.cell? ⟨g5, o5 + jn * 8 + 7, none⟩ = some (.string yky)) := fun pp => HLy.out pp.u (HKg.out _ (HBU.out pp).2)
                  have qy0 : ∀ pp : Wb U, pp.u.cell? ⟨g5, o5 + jn * 8, none⟩ = some (.int .i64 yi1) := fun pp => (hy pp).1
                  have qy1 : ∀ pp : Wb U, pp.u.cell? ⟨g5, o5 + jn * 8 + 1, none⟩ = some (.int .i64 yi2) := fun pp => (hy pp).2.1
                  have qy2 : ∀ pp : Wb U, pp.u.cell? ⟨g5, o5 + jn * 8 + 2, none⟩ = some (.int .i64 ytm) := fun pp => (hy pp).2.2.1
                  have qy3 : ∀ pp : Wb U, pp.u.cell? ⟨g5, o5 + jn * 8 + 3, none⟩ = some (.int .i64 yb1) := fun pp => (hy pp).2.2.2.1
                  have qy4 : ∀ pp : Wb U, pp.u.cell? ⟨g5, o5 + jn * 8 + 4, none⟩ = some (.int .i64 yb2) := fun pp => (hy pp).2.2.2.2.1
                  have qb0 : ∀ pp : Wb U, pp.u.cell? ⟨wr2.heap.size, 0, none⟩ = some (.int .i64 xb1) := fun pp => (HBx.out _ (HBU.out pp).2).1
                  have qb1 : ∀ pp : Wb U, pp.u.cell? ⟨wr2.heap.size, 1, none⟩ = some (.int .i64 xb2) := fun pp => (HBx.out _ (HBU.out pp).2).2
                  clear hy
                  refine wp_region_below mixed (by kernel_rfl) ?_
                  repeat (go_big_quiet_step (first | (fail)))
                  refine wpQuiet_nil ?_
                  intro _ hw'
                  obtain ⟨pp, hw''⟩ := hw'
                  subst hw''
                  go_wp2
                  go_roundw
                  case rel => exact ⟨jn + 1, kk, mdb, by omega, by go_num, rfl, rfl, by omega, by omega, hid (by rw [HTk.out]; exact HF.out.skip (fun g => HNG.out g)), hid (HBU.out pp)⟩
                  case measure => simp [intOf]; omega
              · obtain rfl : jn = n5 := by omega
                have hfin := FndL.fin HLog.out.1 HPE.out (b := (xb1, xb2)) (k := kk) (made := mdb) (by have h9 := HF.out; rwa [List.take_of_length_le (by rw [HM5.out.len]; exact Nat.le_refl _)] at h9)
                obtain ⟨h1, h2, h3⟩ := hfin
                rcases HF.out.lo with ⟨hk0, _⟩ | ⟨i, z, hki, hzi, _, _⟩
                · subst hk0
                  have hnone : lk (run l) (xb1, xb2) = none := by
                    cases hl : lk (run l) (xb1, xb2) with
                    | none => rfl
                    | some q => rw [hl] at h1; cases h1
                  have hmd : mdb = false := by rw [hnone] at h2; exact h2.symm
                  subst hmd
                  have HPar := (parent_tp (xb1, xb2) S3.out.1 HXW.out).mono (R' := fun e U => e = .returned (.tuple #[.agg #[.int .i64 0, .int .i64 0], .string ⟨#[]⟩, .bool false]) ∧ Hid (TP U t l Pb ∧ KP Pb Wx U)) (fun e U g => by
                    rw [hnone] at g
                    exact ⟨g.1, hid ⟨g.2.1, S3.out.2.trans g.2.2⟩⟩)
                  obtain ⟨bx0, bx1⟩ := HBx.out _ S3.out.2
                  clear h1 h2 h3 hnone
                  go_wp2_with (go_at_call 16; refine HPar.mono ?_; rintro e U ⟨rfl, SU⟩)
                  clear HPar bx0 bx1
                  obtain ⟨UU, hUU⟩ : ∃ UU, UU = U.alloc (.cells #[.int .i64 0, .int .i64 0] 24) := ⟨_, rfl⟩
                  rw [← hUU]
                  have hbu : Below U.heap.size U UU := by rw [hUU]; exact (Below.refl _ U).alloc (Nat.le_refl _) _
                  haveI : Nonempty (Wb UU) := ⟨⟨UU, Below.refl _ _⟩⟩
                  have HBU : Hid (∀ pp : Wb UU, TP pp.u t l Pb ∧ KP Pb Wx pp.u) := hid (fun pp => by
                    have hb2 := hbu.trans (pp.h.mono hbu.size)
                    exact ⟨SU.out.1.below hb2, SU.out.2.trans (KP.below hb2 SU.out.1.lt)⟩)
                  clear hUU hbu
                  refine wp_region_below mixed (by kernel_rfl) ?_
                  repeat (go_big_quiet_step (first | (fail)))
                  refine wpQuiet_nil ?_
                  intro _ hw'
                  obtain ⟨pp, hw''⟩ := hw'
                  subst hw''
                  go_wp2
                  go_roundw
                  case rel => exact ⟨i5 + 1, by omega, by go_num, hid (HK5.out _ (HBU.out pp))⟩
                  case measure => simp [intOf]; omega
                · obtain ⟨⟨zi1, zi2⟩, ztm, ⟨zb1, zb2⟩, ⟨zp1, zp2⟩, zky⟩ := z
                  have hzm : M[i]? = some (⟨(zi1, zi2), ztm, (zb1, zb2), (zp1, zp2), zky⟩ : Mv) := by rw [List.take_of_length_le (by rw [HM5.out.len]; exact Nat.le_refl _)] at hzi; exact hzi
                  have hil2 : i < jn := by have := (List.getElem?_eq_some_iff.1 hzm).1; rw [HM5.out.len] at this; exact this
                  have hsome : lk (run l) (xb1, xb2) = some ((zp1, zp2), zky) := h3 i _ hki hzm
                  have hmd : mdb = true := by rw [hsome] at h2; exact h2.symm
                  subst hmd
                  obtain ⟨g', o', e', _, hlz⟩ := HM5.out.look hzm
                  cases e'
                  have HLz := hid hlz
                  have HPar := (parent_tp (xb1, xb2) S3.out.1 HXW.out).mono (R' := fun e U => e = .returned (.tuple #[.agg #[.int .i64 zp1, .int .i64 zp2], .string zky, .bool true]) ∧ Hid (TP U t l Pb ∧ KP Pb Wx U)) (fun e U g => by
                    rw [hsome] at g
                    exact ⟨g.1, hid ⟨g.2.1, S3.out.2.trans g.2.2⟩⟩)
                  obtain ⟨bx0, bx1⟩ := HBx.out _ S3.out.2
                  clear h1 h2 h3 hsome hzi hzm hlz
                  subst hki
                  go_wp2_with (go_at_call 16; refine HPar.mono ?_; rintro e U ⟨rfl, SU⟩)
                  clear HPar bx0 bx1
                  obtain ⟨UU, hUU⟩ : ∃ UU, UU = U.alloc (.cells #[.int .i64 zp1, .int .i64 zp2] 24) := ⟨_, rfl⟩
                  rw [← hUU]
                  have hbu : Below U.heap.size U UU := by rw [hUU]; exact (Below.refl _ U).alloc (Nat.le_refl _) _
                  have hbx : UU.heap[U.heap.size]? = some (.cells #[.int .i64 zp1, .int .i64 zp2] 24 (0, 0)) := by rw [hUU]; exact World.alloc_heap_new U _
                  haveI : Nonempty (Wb UU) := ⟨⟨UU, Below.refl _ _⟩⟩
                  have HBU : Hid (∀ pp : Wb UU, TP pp.u t l Pb ∧ KP Pb Wx pp.u) := hid (fun pp => by
                    have hb2 := hbu.trans (pp.h.mono hbu.size)
                    exact ⟨SU.out.1.below hb2, SU.out.2.trans (KP.below hb2 SU.out.1.lt)⟩)
                  have hz : ∀ pp : Wb UU, (pp.u.cell? ⟨g5, o5 + i * 8, none⟩ = some (.int .i64 zi1) ∧ pp.u.cell? ⟨g5, o5 + i * 8 + 1, none⟩ = some (.int .i64 zi2) ∧ pp.u.cell? ⟨g5, o5 + i * 8 + 2, none⟩ = some (.int .i64 ztm) ∧ pp.u.cell? ⟨g5, o5 + i * 8 + 3, none⟩ = some (.int .i64 zb1) ∧ pp.u.cell? ⟨g5, o5 + i * 8 + 4, none⟩ = some (.int .i64 zb2) ∧ pp.u.cell? ⟨g5, o5 + i * 8 + 5, none⟩ = some (.int .i64 zp1) ∧ pp.u.cell? ⟨g5, o5 + i * 8 + 6, none⟩ = some (.int .i64 zp2) ∧ pp.u.cell? ⟨g5, o5 + i * 8 + 7, none⟩ = some (.string zky)) := fun pp => HLz.out pp.u (HKg.out _ (HBU.out pp).2)
                  have qz5 : ∀ pp : Wb UU, pp.u.cell? ⟨g5, o5 + i * 8 + 5, none⟩ = some (.int .i64 zp1) := fun pp => (hz pp).2.2.2.2.2.1
                  have qz6 : ∀ pp : Wb UU, pp.u.cell? ⟨g5, o5 + i * 8 + 6, none⟩ = some (.int .i64 zp2) := fun pp => (hz pp).2.2.2.2.2.2.1
                  have qz7 : ∀ pp : Wb UU, pp.u.cell? ⟨g5, o5 + i * 8 + 7, none⟩ = some (.string zky) := fun pp => (hz pp).2.2.2.2.2.2.2
                  have hbk : ∀ pp : Wb UU, pp.u.heap[U.heap.size]? = some (.cells #[.int .i64 zp1, .int .i64 zp2] 24 (0, 0)) := fun pp => (pp.h.block _ (Array.getElem?_eq_some_iff.1 hbx).1).trans hbx
                  have qc0 : ∀ pp : Wb UU, pp.u.cell? ⟨U.heap.size, 0, none⟩ = some (.int .i64 zp1) := fun pp => by have := hbk pp; simp [World.cell?, this]
                  have qc1 : ∀ pp : Wb UU, pp.u.cell? ⟨U.heap.size, 1, none⟩ = some (.int .i64 zp2) := fun pp => by have := hbk pp; simp [World.cell?, this]
                  clear hUU hbu hz hbk hbx
                  obtain ⟨us, hus⟩ : ∃ us, us = U.heap.size := ⟨_, rfl⟩
                  rw [← hus] at qc0 qc1 ⊢
                  clear hus
                  refine wp_region_below mixed (by kernel_rfl) ?_
                  repeat (go_big_quiet_step (first | (fail)))
                  refine wpQuiet_nil ?_
                  intro _ hw'
                  obtain ⟨pp, hw''⟩ := hw'
                  subst hw''
                  go_wp2
                  go_roundw
                  case rel => exact ⟨i5 + 1, by omega, by go_num, hid (HK5.out _ (HBU.out pp))⟩
                  case measure => simp [intOf]; omega
          · obtain rfl : i5 = n5 := by omega
            go_wp2
            go_ret
            have hq2 := HS.out.2.mono (Q := fun j => j < w.heap.size) (fun j hj => by rw [HP5.out]; exact Or.inl hj)
            exact ⟨rfl, HB5.out.trans hq2.bel⟩
end Go.Proofs.Ytddfbcknehfpaaa
