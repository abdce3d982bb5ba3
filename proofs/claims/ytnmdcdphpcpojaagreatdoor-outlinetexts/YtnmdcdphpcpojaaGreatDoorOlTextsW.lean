/- OutlineTexts: its walk. -/
import Derived.Test.YtnmdcdphpcpojaaGreatDoorOlTree
import Derived.Test.YtnmdcdphpcpojaaGreatDoorTrAwake
import Derived.Test.YtnmdcdphpcpojaaGreatDoorFgMap
import Derived.Test.YtnmdcdphpcpojaaGreatDoorOlAwake
import Derived.Test.YtnmdcdphpcpojaaGreatDoorFgRString
import Derived.BigQuiet
import Derived.Deep.RegionHeld
import Derived.Sort.AtCall
set_option linter.unusedVariables false
set_option linter.unusedSimpArgs false
namespace Go.Proofs.YtnmdcdphpcpojaaGreatDoor
open Go.RowKit Go.Shelf

set_option maxRecDepth 100000 in
set_option maxHeartbeats 8000000 in
theorem texts_walk (a : Option Addr) (n c : Nat) (l : List UInt8) (m : Int) (w : World) (hl : l.length = n) (hm : w.cell? ⟨0, 0, none⟩ = some (.int .i64 m)) (h0 : 0 < w.heap.size) (hcv : ∀ W, Below w.heap.size w W → (convert 59 9 (.slice a n c)).run Tryz.prog W = .ok (.string ⟨l.toArray⟩) W) :
    Calls Tryz.prog 8 #[.slice a n c] w fun e w' => e = .returned (.bool true) ∧ Below w.heap.size w w' := by
  have hmxo : Tryz.prog.follows .mixedOrders = true := by kernel_rfl
  have mixed := mixed
  have HAW := hid (olawake_any m w hm h0)
  have HLL := hid hl
  go_enter Tryz.func8, Tryz.ntmps8
  go_upto_region 4 with (go_at_call 9; refine HAW.out.mono ?_; rintro e W1 ⟨rfl, hB1⟩)
  have HB1 := hid hB1
  clear hB1 HAW
  by_cases hlong : 100 < n
  · have hb2 : decide (100 < (n : Int)) = true := by simp; omega
    go_wp2
    go_ret
    exact ⟨rfl, HB1.out⟩
  · have hb2 : decide (100 < (n : Int)) = false := by simp; omega
    have HNL := hid hlong
    clear hlong
    have hcv1 := hcv W1 HB1.out
    have HTY := hid (typed_any l W1 (by rw [HLL.out]; have := HNL.out; omega))
    clear hm hcv hl
    go_upto_region 7 with (go_at_call 24; refine HTY.out.mono ?_; rintro e W2 ⟨ta, tn, tc, rfl, hrt, hct, hB2⟩)
    have HT2 := hid (show RT W2 ta tn tc (tyC 0 l) ∧ CT W2 ta ∧ Below W1.heap.size W1 W2 from ⟨hrt, hct, hB2⟩)
    clear hrt hct hB2 HTY hcv1
    obtain rfl : n = tn := by rw [← HT2.out.1.len, tyC_len, HLL.out]
    obtain ⟨W2b, hW2b⟩ : ∃ W2b, W2b = W2.alloc (.cells #[.slice ta n tc] 62) := ⟨_, rfl⟩
    obtain ⟨tb, htb⟩ : ∃ tb, tb = W2.heap.size := ⟨_, rfl⟩
    obtain ⟨x, hx⟩ : ∃ x, x = W2b.heap.size := ⟨_, rfl⟩
    have hx1 : x = tb + 1 := by rw [hx, hW2b, htb]; simp
    have hbtb : W2b.heap[tb]? = some (.cells #[.slice ta n tc] 62 (0, 0)) := by rw [hW2b, htb]; exact World.alloc_heap_new W2 _
    have hB2b : Below W2.heap.size W2 W2b := by rw [hW2b]; exact (Below.refl _ W2).alloc (Nat.le_refl _) _
    have HNE : Hid (Calls Tryz.prog 25 #[] W2b fun e W3 => e = .returned (.pointer (some ⟨x, 0, none⟩)) ∧ Hid (TM W3 x [] ∧ KP (fun j => j < x) W2b W3)) := hid (by
      have := new_tm W2b
      rw [← hx] at this
      exact this.mono (fun e W3 g => ⟨g.1, hid ⟨g.2.1, KP.below (by rw [← hx] ; exact g.2.2) (fun j hj => by rw [← hx]; exact hj)⟩⟩))
    have HC : Hid (∀ V, KP (fun j => j < x) W2b V → Below W1.heap.size W1 V ∧ V.cell? ⟨tb, 0, none⟩ = some (.slice ta n tc) ∧ RT V ta n tc (tyC 0 l)) := hid (fun V hV => by
      have e0 := (hV.keep tb (by omega)).trans hbtb
      have hb : Below W2.heap.size W2 V := hB2b.trans (KP.bel (hV.mono (fun j hj => by omega)))
      exact ⟨HT2.out.2.2.trans (hb.mono HT2.out.2.2.size), by rw [Lib.cell_of_heap e0]; rfl, HT2.out.1.below hb⟩)
    have HX := hid (show x = tb + 1 ∧ x = W2b.heap.size from ⟨hx1, hx⟩)
    rw [← hW2b, ← htb]
    clear hx1 hbtb hB2b hx hW2b htb
    go_wp2_with (go_at_call 25; refine HNE.out.mono ?_; rintro e W3 ⟨rfl, S3⟩)
    go_loopw [6] (fun i wr => ∃ k : Nat, k ≤ n ∧ i = .int .i64 k ∧ Hid (TM wr x (tyC 0 (l.take k)) ∧ KP (fun j => j < x) W2b wr)) (fun i _ => n - (intOf i).toNat)
    case atStart => exact ⟨0, by omega, rfl, S3⟩
    case round =>
      obtain ⟨k, hk, rfl, S1⟩ := hrel
      by_cases hlt : k < n
      · obtain ⟨hBe, hct, hrt⟩ := HC.out _ S1.out.2
        obtain ⟨g, o, rfl, hg, hcell⟩ := hrt.at_ (by omega)
        have hkl : k < l.length := by rw [HLL.out]; exact hlt
        obtain ⟨b, hb⟩ : ∃ b, b = l[k] := ⟨_, rfl⟩
        obtain ⟨p1, hp1⟩ : ∃ p, p = (tyAt k).1 := ⟨_, rfl⟩
        obtain ⟨p2, hp2⟩ : ∃ p, p = (tyAt k).2 := ⟨_, rfl⟩
        have hgt : (tyC 0 l)[k]'(by rw [tyC_len]; exact hkl) = tyOne k b := by
          have := tyC_get 0 l k
          rw [List.getElem?_eq_getElem (by rw [tyC_len]; exact hkl), List.getElem?_eq_getElem hkl, Nat.zero_add] at this
          rw [hb]
          exact Option.some.inj this
        have hgx : g < x := by
          obtain ⟨_, _, hr0⟩ := HC.out W2b (KP.refl _ _)
          obtain ⟨g', o', e', hg', _⟩ := hr0.at_ (by omega)
          cases e'
          rw [HX.out.2]
          exact hg'
        have HCK : Hid (∀ V, KP (fun j => j < x) W2b V → V.cell? ⟨tb, 0, none⟩ = some (.slice (some ⟨g, o, none⟩) n tc) ∧ V.cell? ⟨g, o + k * 7, none⟩ = some (.int .i64 1) ∧ V.cell? ⟨g, o + k * 7 + 1, none⟩ = some (.int .i64 ((k : Int) + 1)) ∧ V.cell? ⟨g, o + k * 7 + 2, none⟩ = some (.int .i64 p1) ∧ V.cell? ⟨g, o + k * 7 + 3, none⟩ = some (.int .i64 p2) ∧ V.cell? ⟨g, o + k * 7 + 4, none⟩ = some (.int .i64 1) ∧ V.cell? ⟨g, o + k * 7 + 5, none⟩ = some (.int .i64 b.toNat)) := hid (fun V hV => by
          obtain ⟨_, h1, h2⟩ := HC.out V hV
          obtain ⟨g', o', e', _, h3⟩ := h2.at_ (by omega)
          cases e'
          have h4 := h3 k (by rw [tyC_len]; exact hkl)
          rw [hgt] at h4
          refine ⟨h1, h4 0 _ ?_, h4 1 _ ?_, h4 2 _ ?_, h4 3 _ ?_, h4 4 _ ?_, h4 5 _ ?_⟩
          · rfl
          · rfl
          · rw [hp1]; rfl
          · rw [hp2]; rfl
          · rfl
          · rfl)
        have HTK : Hid (l.take k ++ [b] = l.take (k + 1)) := hid (by rw [hb]; exact (List.take_succ_eq_append_getElem hkl).symm)
        have hkL : (k : Int) < 100 := by have := HNL.out; omega
        have HTD : Hid (Dw (tyAt k)) := hid (by
          unfold tyAt
          split
          · exact ⟨rfl, rfl⟩
          · exact ⟨rfl, wf_i64 (show -9223372036854775808 ≤ (k : Int) by omega) (by omega)⟩)
        have hk1 : (k : Int) < (n : Int) := by omega
        have hk0 : (0 : Int) ≤ (k : Int) := by omega
        have hbl := b.toNat_lt
        have J0 : Hid (TM wr.drew x (tyC 0 (l.take k)) ∧ KP (fun j => j < x) W2b wr.drew) := hid ⟨S1.out.1.below ((Far.refl wr).drewN 1).below, S1.out.2.drew⟩
        have HINS : Hid (Calls Tryz.prog 26 #[.pointer (some ⟨x, 0, none⟩), .agg #[.int .i64 1, .int .i64 ((k : Int) + 1)], .agg #[.int .i64 p1, .int .i64 p2], .int .i64 1, .int .i64 b.toNat] wr.drew fun e V => e = .returned (.int .i64 0) ∧ (V.cell? ⟨tb, 0, none⟩ = some (.slice (some ⟨g, o, none⟩) n tc) ∧ V.cell? ⟨g, o + k * 7, none⟩ = some (.int .i64 1) ∧ V.cell? ⟨g, o + k * 7 + 1, none⟩ = some (.int .i64 ((k : Int) + 1)) ∧ V.cell? ⟨g, o + k * 7 + 2, none⟩ = some (.int .i64 p1) ∧ V.cell? ⟨g, o + k * 7 + 3, none⟩ = some (.int .i64 p2) ∧ V.cell? ⟨g, o + k * 7 + 4, none⟩ = some (.int .i64 1) ∧ V.cell? ⟨g, o + k * 7 + 5, none⟩ = some (.int .i64 b.toNat)) ∧ Hid (TM V x (tyC 0 (l.take (k + 1))) ∧ KP (fun j => j < x) W2b V)) := hid (by
          have e2 : (l.take k).length = k := by rw [List.length_take]; omega
          have e1 := ty_ins (l := l.take k) (b := b)
          rw [e2, HTK.out] at e1
          have hi := insert_tm J0.out.1 (by rw [tyC_len, e2]; omega) (1, (k : Int) + 1) (tyAt k) 1 (b.toNat : Int) ⟨wf_i64 (show -9223372036854775808 ≤ (1 : Int) by omega) (by omega), wf_i64 (show -9223372036854775808 ≤ (k : Int) + 1 by omega) (by omega)⟩ HTD.out ⟨by omega, by omega⟩
          rw [e1] at hi
          have e3 : dv (tyAt k) = .agg #[.int .i64 p1, .int .i64 p2] := by rw [hp1, hp2]
          rw [e3] at hi
          refine hi.mono ?_
          rintro e V ⟨rfl, h1, h2⟩
          have hKV : KP (fun j => j < x) W2b V := J0.out.2.trans ⟨h2.size, fun j hj => h2.block j (by have := J0.out.2.size; have := HX.out.2; omega) (Or.inl hj), ⟨h2.os, h2.tape, h2.output⟩⟩
          exact ⟨rfl, HCK.out V hKV, hid ⟨h1, hKV⟩⟩)
        have hS0 := HCK.out _ J0.out.2
        clear hgt hgx hp1 hp2 hb hcell hrt hkl
        go_upto_region 11 with fail
        refine wp_region_held_drew (S := fun V => V.cell? ⟨tb, 0, none⟩ = some (.slice (some ⟨g, o, none⟩) n tc) ∧ V.cell? ⟨g, o + k * 7, none⟩ = some (.int .i64 1) ∧ V.cell? ⟨g, o + k * 7 + 1, none⟩ = some (.int .i64 ((k : Int) + 1)) ∧ V.cell? ⟨g, o + k * 7 + 2, none⟩ = some (.int .i64 p1) ∧ V.cell? ⟨g, o + k * 7 + 3, none⟩ = some (.int .i64 p2) ∧ V.cell? ⟨g, o + k * 7 + 4, none⟩ = some (.int .i64 1) ∧ V.cell? ⟨g, o + k * 7 + 5, none⟩ = some (.int .i64 b.toNat)) hmxo hS0 ?_
        intro _
        refine wpAnyH_take (i := 0) (v := .pointer (some ⟨x, 0, none⟩)) rfl (by kernel_rfl) (by kernel_rfl) (by kernel_rfl) (fun _ _ _ h => h) (Or.inl ⟨by kernel_rfl, fun w hSw => ?_⟩) hS0 ?_
        · obtain ⟨e0, e1, e2, e3, e4, e5, e6⟩ := hSw; go_simp
        simp only [Act.put, List.getElem_toArray, List.getElem_cons_succ, List.getElem_cons_zero, List.setIfInBounds_toArray, List.set_cons_zero, List.set_cons_succ]
        refine wpAnyH_take (i := 1) (v := .pointer (some ⟨tb, 0, none⟩)) rfl (by kernel_rfl) (by kernel_rfl) (by kernel_rfl) (fun _ _ _ h => h) (Or.inl ⟨by kernel_rfl, fun w hSw => ?_⟩) hS0 ?_
        · obtain ⟨e0, e1, e2, e3, e4, e5, e6⟩ := hSw; go_simp
        simp only [Act.put, List.getElem_toArray, List.getElem_cons_succ, List.getElem_cons_zero, List.setIfInBounds_toArray, List.set_cons_zero, List.set_cons_succ]
        refine wpAnyH_take (i := 2) (v := .slice (some ⟨g, o, none⟩) n tc) rfl (by kernel_rfl) (by kernel_rfl) (by kernel_rfl) (fun _ _ _ h => h) (Or.inl ⟨by kernel_rfl, fun w hSw => ?_⟩) hS0 ?_
        · obtain ⟨e0, e1, e2, e3, e4, e5, e6⟩ := hSw; go_simp
        simp only [Act.put, List.getElem_toArray, List.getElem_cons_succ, List.getElem_cons_zero, List.setIfInBounds_toArray, List.set_cons_zero, List.set_cons_succ]
        refine wpAnyH_take (i := 3) (v := .int .i64 k) rfl (by kernel_rfl) (by kernel_rfl) (by kernel_rfl) (fun _ _ _ h => h) (Or.inl ⟨by kernel_rfl, fun w hSw => ?_⟩) hS0 ?_
        · obtain ⟨e0, e1, e2, e3, e4, e5, e6⟩ := hSw; go_simp
        simp only [Act.put, List.getElem_toArray, List.getElem_cons_succ, List.getElem_cons_zero, List.setIfInBounds_toArray, List.set_cons_zero, List.set_cons_succ]
        refine wpAnyH_take (i := 4) (v := .pointer (some ⟨g, o + k * 7, none⟩)) rfl (by kernel_rfl) (by kernel_rfl) (by kernel_rfl) (fun _ _ _ h => h) (Or.inl ⟨by kernel_rfl, fun w hSw => ?_⟩) hS0 ?_
        · obtain ⟨e0, e1, e2, e3, e4, e5, e6⟩ := hSw; go_simp
        simp only [Act.put, List.getElem_toArray, List.getElem_cons_succ, List.getElem_cons_zero, List.setIfInBounds_toArray, List.set_cons_zero, List.set_cons_succ]
        refine wpAnyH_take (i := 5) (v := .pointer (some ⟨g, o + k * 7, none⟩)) rfl (by kernel_rfl) (by kernel_rfl) (by kernel_rfl) (fun _ _ _ h => h) (Or.inl ⟨by kernel_rfl, fun w hSw => ?_⟩) hS0 ?_
        · obtain ⟨e0, e1, e2, e3, e4, e5, e6⟩ := hSw; go_simp
        simp only [Act.put, List.getElem_toArray, List.getElem_cons_succ, List.getElem_cons_zero, List.setIfInBounds_toArray, List.set_cons_zero, List.set_cons_succ]
        refine wpAnyH_take (i := 6) (v := .agg #[.int .i64 1, .int .i64 ((k : Int) + 1)]) rfl (by kernel_rfl) (by kernel_rfl) (by kernel_rfl) (fun _ _ _ h => h) (Or.inl ⟨by kernel_rfl, fun w hSw => ?_⟩) hS0 ?_
        · obtain ⟨e0, e1, e2, e3, e4, e5, e6⟩ := hSw; go_simp
        simp only [Act.put, List.getElem_toArray, List.getElem_cons_succ, List.getElem_cons_zero, List.setIfInBounds_toArray, List.set_cons_zero, List.set_cons_succ]
        refine wpAnyH_take (i := 7) (v := .pointer (some ⟨tb, 0, none⟩)) rfl (by kernel_rfl) (by kernel_rfl) (by kernel_rfl) (fun _ _ _ h => h) (Or.inl ⟨by kernel_rfl, fun w hSw => ?_⟩) hS0 ?_
        · obtain ⟨e0, e1, e2, e3, e4, e5, e6⟩ := hSw; go_simp
        simp only [Act.put, List.getElem_toArray, List.getElem_cons_succ, List.getElem_cons_zero, List.setIfInBounds_toArray, List.set_cons_zero, List.set_cons_succ]
        refine wpAnyH_take (i := 8) (v := .slice (some ⟨g, o, none⟩) n tc) rfl (by kernel_rfl) (by kernel_rfl) (by kernel_rfl) (fun _ _ _ h => h) (Or.inl ⟨by kernel_rfl, fun w hSw => ?_⟩) hS0 ?_
        · obtain ⟨e0, e1, e2, e3, e4, e5, e6⟩ := hSw; go_simp
        simp only [Act.put, List.getElem_toArray, List.getElem_cons_succ, List.getElem_cons_zero, List.setIfInBounds_toArray, List.set_cons_zero, List.set_cons_succ]
        refine wpAnyH_take (i := 9) (v := .int .i64 k) rfl (by kernel_rfl) (by kernel_rfl) (by kernel_rfl) (fun _ _ _ h => h) (Or.inl ⟨by kernel_rfl, fun w hSw => ?_⟩) hS0 ?_
        · obtain ⟨e0, e1, e2, e3, e4, e5, e6⟩ := hSw; go_simp
        simp only [Act.put, List.getElem_toArray, List.getElem_cons_succ, List.getElem_cons_zero, List.setIfInBounds_toArray, List.set_cons_zero, List.set_cons_succ]
        refine wpAnyH_take (i := 10) (v := .pointer (some ⟨g, o + k * 7, none⟩)) rfl (by kernel_rfl) (by kernel_rfl) (by kernel_rfl) (fun _ _ _ h => h) (Or.inl ⟨by kernel_rfl, fun w hSw => ?_⟩) hS0 ?_
        · obtain ⟨e0, e1, e2, e3, e4, e5, e6⟩ := hSw; go_simp
        simp only [Act.put, List.getElem_toArray, List.getElem_cons_succ, List.getElem_cons_zero, List.setIfInBounds_toArray, List.set_cons_zero, List.set_cons_succ]
        refine wpAnyH_take (i := 11) (v := .pointer (some ⟨g, o + k * 7 + 2, none⟩)) rfl (by kernel_rfl) (by kernel_rfl) (by kernel_rfl) (fun _ _ _ h => h) (Or.inl ⟨by kernel_rfl, fun w hSw => ?_⟩) hS0 ?_
        · obtain ⟨e0, e1, e2, e3, e4, e5, e6⟩ := hSw; go_simp
        simp only [Act.put, List.getElem_toArray, List.getElem_cons_succ, List.getElem_cons_zero, List.setIfInBounds_toArray, List.set_cons_zero, List.set_cons_succ]
        refine wpAnyH_take (i := 12) (v := .agg #[.int .i64 p1, .int .i64 p2]) rfl (by kernel_rfl) (by kernel_rfl) (by kernel_rfl) (fun _ _ _ h => h) (Or.inl ⟨by kernel_rfl, fun w hSw => ?_⟩) hS0 ?_
        · obtain ⟨e0, e1, e2, e3, e4, e5, e6⟩ := hSw; go_simp
        simp only [Act.put, List.getElem_toArray, List.getElem_cons_succ, List.getElem_cons_zero, List.setIfInBounds_toArray, List.set_cons_zero, List.set_cons_succ]
        refine wpAnyH_take (i := 13) (v := .pointer (some ⟨tb, 0, none⟩)) rfl (by kernel_rfl) (by kernel_rfl) (by kernel_rfl) (fun _ _ _ h => h) (Or.inl ⟨by kernel_rfl, fun w hSw => ?_⟩) hS0 ?_
        · obtain ⟨e0, e1, e2, e3, e4, e5, e6⟩ := hSw; go_simp
        simp only [Act.put, List.getElem_toArray, List.getElem_cons_succ, List.getElem_cons_zero, List.setIfInBounds_toArray, List.set_cons_zero, List.set_cons_succ]
        refine wpAnyH_take (i := 14) (v := .slice (some ⟨g, o, none⟩) n tc) rfl (by kernel_rfl) (by kernel_rfl) (by kernel_rfl) (fun _ _ _ h => h) (Or.inl ⟨by kernel_rfl, fun w hSw => ?_⟩) hS0 ?_
        · obtain ⟨e0, e1, e2, e3, e4, e5, e6⟩ := hSw; go_simp
        simp only [Act.put, List.getElem_toArray, List.getElem_cons_succ, List.getElem_cons_zero, List.setIfInBounds_toArray, List.set_cons_zero, List.set_cons_succ]
        refine wpAnyH_take (i := 15) (v := .int .i64 k) rfl (by kernel_rfl) (by kernel_rfl) (by kernel_rfl) (fun _ _ _ h => h) (Or.inl ⟨by kernel_rfl, fun w hSw => ?_⟩) hS0 ?_
        · obtain ⟨e0, e1, e2, e3, e4, e5, e6⟩ := hSw; go_simp
        simp only [Act.put, List.getElem_toArray, List.getElem_cons_succ, List.getElem_cons_zero, List.setIfInBounds_toArray, List.set_cons_zero, List.set_cons_succ]
        refine wpAnyH_take (i := 16) (v := .pointer (some ⟨g, o + k * 7, none⟩)) rfl (by kernel_rfl) (by kernel_rfl) (by kernel_rfl) (fun _ _ _ h => h) (Or.inl ⟨by kernel_rfl, fun w hSw => ?_⟩) hS0 ?_
        · obtain ⟨e0, e1, e2, e3, e4, e5, e6⟩ := hSw; go_simp
        simp only [Act.put, List.getElem_toArray, List.getElem_cons_succ, List.getElem_cons_zero, List.setIfInBounds_toArray, List.set_cons_zero, List.set_cons_succ]
        refine wpAnyH_take (i := 17) (v := .pointer (some ⟨g, o + k * 7 + 4, none⟩)) rfl (by kernel_rfl) (by kernel_rfl) (by kernel_rfl) (fun _ _ _ h => h) (Or.inl ⟨by kernel_rfl, fun w hSw => ?_⟩) hS0 ?_
        · obtain ⟨e0, e1, e2, e3, e4, e5, e6⟩ := hSw; go_simp
        simp only [Act.put, List.getElem_toArray, List.getElem_cons_succ, List.getElem_cons_zero, List.setIfInBounds_toArray, List.set_cons_zero, List.set_cons_succ]
        refine wpAnyH_take (i := 18) (v := .int .i64 1) rfl (by kernel_rfl) (by kernel_rfl) (by kernel_rfl) (fun _ _ _ h => h) (Or.inl ⟨by kernel_rfl, fun w hSw => ?_⟩) hS0 ?_
        · obtain ⟨e0, e1, e2, e3, e4, e5, e6⟩ := hSw; go_simp
        simp only [Act.put, List.getElem_toArray, List.getElem_cons_succ, List.getElem_cons_zero, List.setIfInBounds_toArray, List.set_cons_zero, List.set_cons_succ]
        refine wpAnyH_take (i := 19) (v := .pointer (some ⟨tb, 0, none⟩)) rfl (by kernel_rfl) (by kernel_rfl) (by kernel_rfl) (fun _ _ _ h => h) (Or.inl ⟨by kernel_rfl, fun w hSw => ?_⟩) hS0 ?_
        · obtain ⟨e0, e1, e2, e3, e4, e5, e6⟩ := hSw; go_simp
        simp only [Act.put, List.getElem_toArray, List.getElem_cons_succ, List.getElem_cons_zero, List.setIfInBounds_toArray, List.set_cons_zero, List.set_cons_succ]
        refine wpAnyH_take (i := 20) (v := .slice (some ⟨g, o, none⟩) n tc) rfl (by kernel_rfl) (by kernel_rfl) (by kernel_rfl) (fun _ _ _ h => h) (Or.inl ⟨by kernel_rfl, fun w hSw => ?_⟩) hS0 ?_
        · obtain ⟨e0, e1, e2, e3, e4, e5, e6⟩ := hSw; go_simp
        simp only [Act.put, List.getElem_toArray, List.getElem_cons_succ, List.getElem_cons_zero, List.setIfInBounds_toArray, List.set_cons_zero, List.set_cons_succ]
        refine wpAnyH_take (i := 21) (v := .int .i64 k) rfl (by kernel_rfl) (by kernel_rfl) (by kernel_rfl) (fun _ _ _ h => h) (Or.inl ⟨by kernel_rfl, fun w hSw => ?_⟩) hS0 ?_
        · obtain ⟨e0, e1, e2, e3, e4, e5, e6⟩ := hSw; go_simp
        simp only [Act.put, List.getElem_toArray, List.getElem_cons_succ, List.getElem_cons_zero, List.setIfInBounds_toArray, List.set_cons_zero, List.set_cons_succ]
        refine wpAnyH_take (i := 22) (v := .pointer (some ⟨g, o + k * 7, none⟩)) rfl (by kernel_rfl) (by kernel_rfl) (by kernel_rfl) (fun _ _ _ h => h) (Or.inl ⟨by kernel_rfl, fun w hSw => ?_⟩) hS0 ?_
        · obtain ⟨e0, e1, e2, e3, e4, e5, e6⟩ := hSw; go_simp
        simp only [Act.put, List.getElem_toArray, List.getElem_cons_succ, List.getElem_cons_zero, List.setIfInBounds_toArray, List.set_cons_zero, List.set_cons_succ]
        refine wpAnyH_take (i := 23) (v := .pointer (some ⟨g, o + k * 7 + 5, none⟩)) rfl (by kernel_rfl) (by kernel_rfl) (by kernel_rfl) (fun _ _ _ h => h) (Or.inl ⟨by kernel_rfl, fun w hSw => ?_⟩) hS0 ?_
        · obtain ⟨e0, e1, e2, e3, e4, e5, e6⟩ := hSw; go_simp
        simp only [Act.put, List.getElem_toArray, List.getElem_cons_succ, List.getElem_cons_zero, List.setIfInBounds_toArray, List.set_cons_zero, List.set_cons_succ]
        refine wpAnyH_take (i := 24) (v := .int .i64 b.toNat) rfl (by kernel_rfl) (by kernel_rfl) (by kernel_rfl) (fun _ _ _ h => h) (Or.inl ⟨by kernel_rfl, fun w hSw => ?_⟩) hS0 ?_
        · obtain ⟨e0, e1, e2, e3, e4, e5, e6⟩ := hSw; go_simp
        simp only [Act.put, List.getElem_toArray, List.getElem_cons_succ, List.getElem_cons_zero, List.setIfInBounds_toArray, List.set_cons_zero, List.set_cons_succ]
        refine wpAnyH_ready (rs := [25]) (by kernel_rfl) (by simp) ?_
        refine (AllReadyH.cons rfl (fun K hK => ?_) AllReadyH.nil)
        go_simp
        refine HINS.out.mono ?_
        rintro e V4 ⟨rfl, hS4, S4⟩
        refine hK.out _ _ hS4 (fun _ => ?_)
        clear hK K
        refine wpAnyH_done (by kernel_rfl) ?_ _
        clear HINS hS0 hS4
        go_wp2
        exact ⟨⟨k + 1, by omega, by simp, S4⟩, by simp [intOf]; omega⟩
      · obtain rfl : k = n := by omega
        have HV : Hid (∀ V, KP (fun j => j < wr.heap.size) wr V → Below W1.heap.size W1 V ∧ V.cell? ⟨tb, 0, none⟩ = some (.slice ta k tc) ∧ RT V ta k tc (tyC 0 l) ∧ TM V x (tyC 0 l)) := hid (fun V hV => by
          have hxs : x ≤ wr.heap.size := by have := S1.out.2.size; rw [← HX.out.2] at this; exact this
          obtain ⟨h1, h2, h3⟩ := HC.out V (S1.out.2.trans (hV.mono (fun j hj => by omega)))
          have h4 := S1.out.1
          rw [show l.take k = l from by rw [← HLL.out, List.take_length]] at h4
          exact ⟨h1, h2, h3, h4.held (fun j _ hj => hV.keep j hj)⟩)
        obtain ⟨st, hst⟩ : ∃ st : List UInt8, st = strB (seenC (tyC 0 l)) := ⟨_, rfl⟩
        have HST := hid hst
        have hctr : wr.cell? ⟨tb, 0, none⟩ = some (.slice ta k tc) := (HV.out wr (KP.refl _ _)).2.1
        obtain ⟨t, ht⟩ : ∃ t, t = wr.heap.size := ⟨_, rfl⟩
        have HN := hid ((new_tp wr).mono (R' := fun e w' => e = .returned (.pointer (some ⟨t, 0, none⟩)) ∧ Hid (TP w' t [] (fun j => j < wr.heap.size) ∧ Below wr.heap.size wr w')) (fun e w' h => by rw [ht]; exact ⟨h.1, hid h.2⟩))
        clear ht hst
        go_upto_region 14 with (go_at_call 27; refine HN.out.mono ?_; rintro e X ⟨rfl, HX5⟩)
        clear HN hctr
        obtain ⟨W6, hW6⟩ : ∃ W6, W6 = X.alloc (.cells #[.int .i64 2, .int .i64 1] 24) := ⟨_, rfl⟩
        rw [← hW6]
        obtain ⟨qa, hqa⟩ : ∃ qa, qa = X.heap.size := ⟨_, rfl⟩
        have hz6 : W6.heap.size = qa + 1 := by rw [hW6, hqa]; simp
        have hb6 : Below X.heap.size X W6 := by rw [hW6]; exact (Below.refl _ X).alloc (Nat.le_refl _) _
        have ba : W6.heap[qa]? = some (.cells #[.int .i64 2, .int .i64 1] 24 (0, 0)) := by rw [hW6, hqa]; exact World.alloc_heap_new X _
        obtain ⟨P, hP⟩ : ∃ P : Nat → Prop, P = (fun j => j < wr.heap.size ∨ j = qa) := ⟨_, rfl⟩
        have HS : Hid (∀ V, KP P W6 V → V.cell? ⟨qa, 0, none⟩ = some (.int .i64 2) ∧ V.cell? ⟨qa, 1, none⟩ = some (.int .i64 1)) := hid (fun V hV => by
          have e0 := (hV.keep qa (by rw [hP]; exact Or.inr rfl)).trans ba
          exact ⟨by rw [Lib.cell_of_heap e0]; rfl, by rw [Lib.cell_of_heap e0]; rfl⟩)
        have S6 : Hid (TP W6.drew t [] P ∧ KP P W6 W6.drew) := hid ⟨by rw [hP, hqa, hW6]; exact (HX5.out.1.alloc _).drew, (KP.refl P W6).drew⟩
        have HU : Hid (∀ V, KP P W6 V → KP (fun j => j < wr.heap.size) wr V) := hid (fun V hV => by
          have k0 : KP (fun j => j < wr.heap.size) wr W6 := KP.below (HX5.out.2.trans (hb6.mono HX5.out.2.size)) (fun j hj => hj)
          exact k0.trans (hV.mono (fun j hj => by rw [hP]; exact Or.inl hj)))
        have HRl : Hid (∀ j, P j → j < W6.heap.size) := hid (fun j hj => by
          rw [hP] at hj
          have := HX5.out.2.size
          rcases hj with hj | hj <;> omega)
        have HRo : Hid (∀ W l, (TP W t l P ∧ KP P W6 W) → Calls Tryz.prog 12 #[] W fun e W' => e = .returned (.agg #[.int .i64 0, .int .i64 (-1)]) ∧ Hid (TP W' t l P ∧ KP P W6 W')) := hid (fun W l h => (root_any W).mono (fun e W' g => ⟨g.1, hid (tp_far h (fun j hj => hj) g.2)⟩))
        have HM1 : Hid (∀ W, (TP W t [] P ∧ KP P W6 W) → Calls Tryz.prog 28 #[.pointer (some ⟨t, 0, none⟩), .agg #[.int .i64 2, .int .i64 1], .int .i64 1, .agg #[.int .i64 2, .int .i64 1], .agg #[.int .i64 0, .int .i64 (-1)], .string ⟨#[110]⟩] W fun e W' => e = .returned (.int .i64 0) ∧ Hid (TP W' t [awT] P ∧ KP P W6 W')) := hid (fun W h => by
          have := move_tp awT h.1 ⟨⟨rfl, rfl⟩, ⟨rfl, rfl⟩, ⟨rfl, rfl⟩⟩ (by decide)
          rw [awt_1.1, awt_1.2] at this
          exact this.mono (fun e W' g => ⟨g.1, hid ⟨g.2.1, h.2.trans g.2.2⟩⟩))
        have hS0 := HS.out _ S6.out.2
        have HQE := hid hqa
        rw [← hqa]
        clear hW6 hP hz6 hb6 ba HX5 hqa
        refine wp_region_held_drew (S := fun w' => w'.cell? ⟨qa, 0, none⟩ = some (.int .i64 2) ∧ w'.cell? ⟨qa, 1, none⟩ = some (.int .i64 1)) hmxo hS0 ?_
        intro _
        refine wpAnyH_take (i := 0) (v := .pointer (some ⟨t, 0, none⟩)) rfl (by kernel_rfl) (by kernel_rfl) (by kernel_rfl) (fun _ _ _ h => h) (Or.inl ⟨by kernel_rfl, fun w hSw => ?_⟩) hS0 ?_
        · obtain ⟨e1, e2⟩ := hSw; go_simp
        simp only [Act.put, List.getElem_toArray, List.getElem_cons_succ, List.getElem_cons_zero, List.setIfInBounds_toArray, List.set_cons_zero, List.set_cons_succ]
        refine wpAnyH_take (i := 1) (v := .agg #[.int .i64 2, .int .i64 1]) rfl (by kernel_rfl) (by kernel_rfl) (by kernel_rfl) (fun _ _ _ h => h) (Or.inl ⟨by kernel_rfl, fun w hSw => ?_⟩) hS0 ?_
        · obtain ⟨e1, e2⟩ := hSw; go_simp
        simp only [Act.put, List.getElem_toArray, List.getElem_cons_succ, List.getElem_cons_zero, List.setIfInBounds_toArray, List.set_cons_zero, List.set_cons_succ]
        refine wpAnyH_take (i := 2) (v := .agg #[.int .i64 2, .int .i64 1]) rfl (by kernel_rfl) (by kernel_rfl) (by kernel_rfl) (fun _ _ _ h => h) (Or.inl ⟨by kernel_rfl, fun w hSw => ?_⟩) hS0 ?_
        · obtain ⟨e1, e2⟩ := hSw; go_simp
        simp only [Act.put, List.getElem_toArray, List.getElem_cons_succ, List.getElem_cons_zero, List.setIfInBounds_toArray, List.set_cons_zero, List.set_cons_succ]
        refine wpAnyH_ready (rs := [3]) (by kernel_rfl) (by simp) ?_
        refine (AllReadyH.cons rfl (fun K hK => ?_) AllReadyH.nil)
        go_simp
        refine (HRo.out _ _ S6.out).mono ?_
        rintro e Y1 ⟨rfl, S7⟩
        have hS3 := HS.out _ S7.out.2
        refine hK.out _ _ hS3 (fun _ => ?_)
        clear hK K
        refine wpAnyH_ready (rs := [4]) (by kernel_rfl) (by simp) ?_
        refine (AllReadyH.cons rfl (fun K hK => ?_) AllReadyH.nil)
        go_simp
        refine (HM1.out _ S7.out).mono ?_
        rintro e Y2 ⟨rfl, S8⟩
        have hS4 := HS.out _ S8.out.2
        refine hK.out _ _ hS4 (fun _ => ?_)
        clear hK K
        refine wpAnyH_done (by kernel_rfl) ?_ _
        clear HM1 hS0 hS3 hS4 S6 S7
        go_upto_region 15 with fail
        have J0 : Hid (TP Y2.drew t [awT] P ∧ KP P W6 Y2.drew) := hid ⟨S8.out.1.drew, S8.out.2.drew⟩
        have HRo0 : Hid (∀ V, (TP V t [awT] P ∧ KP P W6 V) → Calls Tryz.prog 12 #[] V fun e V' => e = .returned (.agg #[.int .i64 0, .int .i64 (-1)]) ∧ (V'.cell? ⟨qa, 0, none⟩ = some (.int .i64 2) ∧ V'.cell? ⟨qa, 1, none⟩ = some (.int .i64 1)) ∧ Hid (TP V' t [awT] P ∧ KP P W6 V')) := hid (fun V h => (root_any V).mono (fun e V' g => by
          have := tp_far h (fun j hj => hj) g.2
          exact ⟨g.1, HS.out _ this.2, hid this⟩))
        have HRo1 : Hid (∀ V mb n G, (TP V t [awT] (fun j => P j ∨ j = mb) ∧ KP P W6 V ∧ PMc V mb n G) → Calls Tryz.prog 12 #[] V fun e V' => e = .returned (.agg #[.int .i64 0, .int .i64 (-1)]) ∧ (V'.cell? ⟨qa, 0, none⟩ = some (.int .i64 2) ∧ V'.cell? ⟨qa, 1, none⟩ = some (.int .i64 1)) ∧ Hid (TP V' t [awT] (fun j => P j ∨ j = mb) ∧ KP P W6 V' ∧ PMc V' mb n G)) := hid (fun V mb n G h => (root_any V).mono (fun e V' g => by
          have := tp_far ⟨h.1, h.2.1⟩ (fun j hj => Or.inl hj) g.2
          exact ⟨g.1, HS.out _ this.2, hid ⟨this.1, this.2, h.2.2.same (g.2.below.block _ h.2.2.lt)⟩⟩))
        have HMk : Hid (∀ V, (TP V t [awT] P ∧ KP P W6 V) → (TP (V.alloc (.map #[] 0)) t [awT] (fun j => P j ∨ j = V.heap.size) ∧ KP P W6 (V.alloc (.map #[] 0)) ∧ PMc (V.alloc (.map #[] 0)) V.heap.size 0 (fun _ => none)) ∧ ((V.alloc (.map #[] 0)).cell? ⟨qa, 0, none⟩ = some (.int .i64 2) ∧ (V.alloc (.map #[] 0)).cell? ⟨qa, 1, none⟩ = some (.int .i64 1))) := hid (fun V h => by
          have hk : KP P W6 (V.alloc (.map #[] 0)) := h.2.trans (KP.below ((Below.refl _ V).alloc (Nat.le_refl _) _) h.1.lt)
          exact ⟨⟨h.1.alloc _, hk, PMc.made V⟩, HS.out _ hk⟩)
        have HIn : Hid (∀ V mb, (TP V t [awT] (fun j => P j ∨ j = mb) ∧ KP P W6 V ∧ PMc V mb 0 (fun _ => none)) → W6.heap.size ≤ mb → ∃ V', (Instr.mapUpdate 29 (.map (some mb)) (.agg #[.int .i64 2, .int .i64 1]) (.pointer (some ⟨x, 0, none⟩))).run Tryz.prog V = .ok () V' ∧ (V'.cell? ⟨qa, 0, none⟩ = some (.int .i64 2) ∧ V'.cell? ⟨qa, 1, none⟩ = some (.int .i64 1)) ∧ Hid (TP V' t [awT] (fun j => P j ∨ j = mb) ∧ KP P W6 V' ∧ PMc V' mb (0 + 1) (fun e => if e = (2, 1) then some x else none))) := hid (fun V mb h hmb => by
          obtain ⟨V', h1, h2, h3⟩ := h.2.2.putT (d := (2, 1)) ⟨rfl, rfl⟩ x (by unfold maxLen; omega)
          have hk : KP P V V' := ⟨h3.size, fun j hj => h3.block j (h.1.lt j (Or.inl hj)) (fun e => by cases e; have := HRl.out _ hj; omega), Sm.g h3⟩
          have hk2 := h.2.1.trans hk
          refine ⟨V', h1, HS.out _ hk2, hid ⟨h.1.turn h3.size (fun j hj hn => h3.block j hj (fun e => by cases e; exact hn (Or.inr rfl))) (fun j hj => Or.inl hj), hk2, h2⟩⟩)
        have HUn : Hid (∀ V mb, (TP V t [awT] (fun j => P j ∨ j = mb) ∧ KP P W6 V ∧ PMc V mb (0 + 1) (fun e => if e = (2, 1) then some x else none)) → Calls Tryz.prog 15 #[.pointer (some ⟨t, 0, none⟩), .map (some mb), .agg #[.int .i64 0, .int .i64 (-1)]] V fun e V' => ∃ a c, e = .returned (.slice a 1 c) ∧ (V'.cell? ⟨qa, 0, none⟩ = some (.int .i64 2) ∧ V'.cell? ⟨qa, 1, none⟩ = some (.int .i64 1)) ∧ Hid (LnS V' a 1 c [⟨(2, 1), 0, st⟩] ∧ KP P W6 V')) := hid (fun V mb h => by
          have hx : XP (fun j => P j ∨ j = mb) V (.map (some mb)) (txσ st) := XP.of h.2.2 (Or.inr rfl) (T := fun _ => tyC 0 l) (fun d g hd hg => by
            by_cases e : d = (2, 1)
            · rw [if_pos e] at hg
              cases hg
              refine ⟨by rw [tyC_len, HLL.out]; have := HNL.out; omega, ?_, fun V' hV' => (HV.out V' (HU.out _ (h.2.1.trans (hV'.mono (fun j hj => Or.inl hj))))).2.2.2⟩
              unfold txσ
              rw [if_pos e, HST.out]
            · rw [if_neg e] at hg
              cases hg) (fun d hd hg => by
            by_cases e : d = (2, 1)
            · rw [if_pos e] at hg; cases hg
            · unfold txσ; rw [if_neg e])
          have := under_any t [awT] (some mb) (txσ st) (fun j => P j ∨ j = mb) (0, -1) V h.1 hx ⟨rfl, rfl⟩
          rw [awt_5] at this
          refine this.mono ?_
          rintro e V' ⟨v, rfl, ho, _, hk⟩
          obtain ⟨a, c, rfl, hL⟩ := own_lns ho
          have hk2 := h.2.1.trans (hk.mono (fun j hj => Or.inl hj))
          exact ⟨a, c, rfl, HS.out _ hk2, hid ⟨hL, hk2⟩⟩)
        have HFin : Hid (∀ V8 a c, LnS V8 a 1 c [⟨(2, 1), 0, st⟩] ∧ KP P W6 V8 → ∃ g8 o8, a = some ⟨g8, o8, none⟩ ∧ (∀ p : Wb V8, p.u.cell? ⟨g8, o8, none⟩ = some (.int .i64 2)) ∧ (∀ p : Wb V8, p.u.cell? ⟨g8, o8 + 1, none⟩ = some (.int .i64 1)) ∧ (∀ p : Wb V8, p.u.cell? ⟨g8, o8 + 3, none⟩ = some (.string ⟨st.toArray⟩)) ∧ (∀ p : Wb V8, p.u.cell? ⟨tb, 0, none⟩ = some (.slice ta k tc)) ∧ (∀ p : Wb V8, p.u.cell? ⟨qa, 0, none⟩ = some (.int .i64 2)) ∧ (∀ p : Wb V8, p.u.cell? ⟨qa, 1, none⟩ = some (.int .i64 1)) ∧ (∀ p : Wb V8, Calls Tryz.prog 29 #[.agg #[.slice ta k tc]] p.u fun e w'' => e = .returned (.string ⟨st.toArray⟩) ∧ ∃ p' : Wb V8, w'' = p'.u) ∧ (∀ p : Wb V8, Below W1.heap.size W1 p.u)) := hid (fun V8 a c h => by
          obtain ⟨g8, o8, rfl, hg8, hc8⟩ := h.1.at_ (by simp)
          have hkp : ∀ p : Wb V8, KP P W6 p.u := fun p => h.2.trans (KP.below p.h (fun j hj => by have := HRl.out j hj; have := h.2.size; omega))
          have hL : ∀ p : Wb V8, ∀ (j : Nat) (u : Value), (Ln.mk (2, 1) 0 st).cells[j]? = some u → p.u.cell? ⟨g8, o8 + j, none⟩ = some u := fun p j u hj => by
            have := hc8 0 (by simp) j u hj
            rw [Nat.zero_mul, Nat.add_zero] at this
            rw [World.cell?_of_block (p.h.block g8 hg8)]
            exact this
          refine ⟨g8, o8, rfl, fun p => hL p 0 _ rfl, fun p => hL p 1 _ rfl, fun p => hL p 3 _ rfl, fun p => (HV.out _ (HU.out _ (hkp p))).2.1, fun p => (HS.out _ (hkp p)).1, fun p => (HS.out _ (hkp p)).2, fun p => below_q ?_, fun p => (HV.out _ (HU.out _ (hkp p))).1⟩
          obtain ⟨_, _, hr, ht⟩ := HV.out _ (HU.out _ (hkp p))
          have := rstring_any ta k tc (tyC 0 l) ht.wt (fun x hx => ty_i64 hx) (by have := HNL.out; omega) p.u hr
          rw [← HST.out] at this
          exact this)
        have hmk := @run_makeMap Tryz.prog
        have hS0 := HS.out _ J0.out.2
        have HMB0 : Hid (∀ V, KP P W6 V → W6.heap.size ≤ V.heap.size) := hid (fun V h => h.size)
        clear HQE
        refine wp_region_held_drew (S := fun w' => w'.cell? ⟨qa, 0, none⟩ = some (.int .i64 2) ∧ w'.cell? ⟨qa, 1, none⟩ = some (.int .i64 1)) hmxo hS0 ?_
        intro _
        obtain ⟨Yd, hYd⟩ : ∃ Yd, Yd = Y2.drew := ⟨_, rfl⟩
        rw [← hYd] at hS0 J0 ⊢
        clear hYd
        refine wpAnyH_take (i := 0) (v := .pointer (some ⟨t, 0, none⟩)) rfl (by kernel_rfl) (by kernel_rfl) (by kernel_rfl) (fun _ _ _ h => h) (Or.inl ⟨by kernel_rfl, fun w hSw => ?_⟩) hS0 ?_
        · obtain ⟨e1, e2⟩ := hSw; go_simp
        simp only [Act.put, List.getElem_toArray, List.getElem_cons_succ, List.getElem_cons_zero, List.setIfInBounds_toArray, List.set_cons_zero, List.set_cons_succ]
        refine wpAnyH_take (i := 2) (v := .agg #[.int .i64 2, .int .i64 1]) rfl (by kernel_rfl) (by kernel_rfl) (by kernel_rfl) (fun _ _ _ h => h) (Or.inl ⟨by kernel_rfl, fun w hSw => ?_⟩) hS0 ?_
        · obtain ⟨e1, e2⟩ := hSw; go_simp
        simp only [Act.put, List.getElem_toArray, List.getElem_cons_succ, List.getElem_cons_zero, List.setIfInBounds_toArray, List.set_cons_zero, List.set_cons_succ]
        refine wpAnyH_take (i := 3) (v := .pointer (some ⟨x, 0, none⟩)) rfl (by kernel_rfl) (by kernel_rfl) (by kernel_rfl) (fun _ _ _ h => h) (Or.inl ⟨by kernel_rfl, fun w hSw => ?_⟩) hS0 ?_
        · obtain ⟨e1, e2⟩ := hSw; go_simp
        simp only [Act.put, List.getElem_toArray, List.getElem_cons_succ, List.getElem_cons_zero, List.setIfInBounds_toArray, List.set_cons_zero, List.set_cons_succ]
        refine wpAnyH_ready (rs := [1, 6]) (by kernel_rfl) (by simp) ?_
        refine AllReadyH.cons rfl (fun K hK => ?_) (AllReadyH.cons rfl (fun K hK => ?_) AllReadyH.nil)
        · go_simp
          obtain ⟨M1, M1S⟩ := HMk.out _ J0.out
          have M1H := hid M1
          obtain ⟨mb, hmb⟩ : ∃ mb, mb = (Yd).heap.size := ⟨_, rfl⟩
          have HMB := hid hmb
          have HMG : Hid (W6.heap.size ≤ mb) := hid (by rw [hmb]; exact HMB0.out _ J0.out.2)
          refine hK.out _ _ M1S (fun _ => ?_)
          clear hK K
          rw [← hmb] at M1 ⊢
          clear hmb M1H
          have M1J := hid M1
          clear M1
          refine wpAnyH_ready (rs := [4, 6]) (by kernel_rfl) (by simp) ?_
          refine AllReadyH.cons rfl (fun K hK => ?_) (AllReadyH.cons rfl (fun K hK => ?_) AllReadyH.nil)
          · obtain ⟨I2V, I2r, I2S, I2J⟩ := HIn.out _ mb M1J.out HMG.out
            go_simp
            refine hK.out _ _ I2S (fun _ => ?_)
            clear hK K
            refine wpAnyH_take (i := 5) (v := .map (some mb)) rfl (by kernel_rfl) (by kernel_rfl) (by kernel_rfl) (fun _ _ _ h => h) (Or.inl ⟨by kernel_rfl, fun w hSw => ?_⟩) I2S ?_
            · obtain ⟨e1, e2⟩ := hSw; go_simp
            simp only [Act.put, List.getElem_toArray, List.getElem_cons_succ, List.getElem_cons_zero, List.setIfInBounds_toArray, List.set_cons_zero, List.set_cons_succ]
            refine wpAnyH_ready (rs := [6]) (by kernel_rfl) (by simp) ?_
            refine AllReadyH.cons rfl (fun K hK => ?_) AllReadyH.nil
            go_simp
            refine (HRo1.out _ mb _ _ I2J.out).mono ?_
            rintro e N3V ⟨rfl, N3S, N3J⟩
            refine hK.out _ _ N3S (fun _ => ?_)
            clear hK K
            refine wpAnyH_ready (rs := [7]) (by kernel_rfl) (by simp) ?_
            refine AllReadyH.cons rfl (fun K hK => ?_) AllReadyH.nil
            go_simp
            refine (HUn.out _ mb N3J.out).mono ?_
            rintro e V8 ⟨a8, c8, rfl, V8S, V8J⟩
            refine hK.out _ _ V8S (fun _ => ?_)
            clear hK K
            refine wpAnyH_take (i := 8) (v := .slice a8 1 c8) rfl (by kernel_rfl) (by kernel_rfl) (by kernel_rfl) (fun _ _ _ h => h) (Or.inl ⟨by kernel_rfl, fun w hSw => ?_⟩) V8S ?_
            · obtain ⟨e1, e2⟩ := hSw; go_simp
            simp only [Act.put, List.getElem_toArray, List.getElem_cons_succ, List.getElem_cons_zero, List.setIfInBounds_toArray, List.set_cons_zero, List.set_cons_succ]
            refine wpAnyH_done (by kernel_rfl) ?_ _
            clear HUn HIn HMk HRo HRo0 HRo1 hmk
            obtain ⟨g8, o8, rfl, k1, k2, k3, k4, k5, k6, k7, k8⟩ := HFin.out _ _ _ V8J.out
            go_upto_region 16 with fail
            have hSF : ∀ p : Wb V8, p.u.cell? ⟨g8, o8, none⟩ = some (.int .i64 2) ∧ p.u.cell? ⟨g8, o8 + 1, none⟩ = some (.int .i64 1) ∧ p.u.cell? ⟨g8, o8 + 3, none⟩ = some (.string ⟨st.toArray⟩) ∧ p.u.cell? ⟨tb, 0, none⟩ = some (.slice ta k tc) ∧ p.u.cell? ⟨qa, 0, none⟩ = some (.int .i64 2) ∧ p.u.cell? ⟨qa, 1, none⟩ = some (.int .i64 1) := fun p => ⟨k1 p, k2 p, k3 p, k4 p, k5 p, k6 p⟩
            have hS0 := hSF ⟨V8.drew, ((Far.refl V8).drewN 1).below⟩
            have HSF := hid hSF
            have HK7 := hid k7
            have HK8 := hid k8
            clear k1 k2 k3 k4 k5 k6 k7 k8 hSF
            refine wp_region_held_drew (S := fun w' => w'.cell? ⟨g8, o8, none⟩ = some (.int .i64 2) ∧ w'.cell? ⟨g8, o8 + 1, none⟩ = some (.int .i64 1) ∧ w'.cell? ⟨g8, o8 + 3, none⟩ = some (.string ⟨st.toArray⟩) ∧ w'.cell? ⟨tb, 0, none⟩ = some (.slice ta k tc) ∧ w'.cell? ⟨qa, 0, none⟩ = some (.int .i64 2) ∧ w'.cell? ⟨qa, 1, none⟩ = some (.int .i64 1)) hmxo hS0 ?_
            intro _
            refine wpAnyH_take (i := 0) (v := .slice (some ⟨g8, o8, none⟩) 1 c8) rfl (by kernel_rfl) (by kernel_rfl) (by kernel_rfl) (fun _ _ _ h => h) (Or.inl ⟨by kernel_rfl, fun w hSw => ?_⟩) hS0 ?_
            · obtain ⟨e1, e2, e3, e4, e5, e6⟩ := hSw; go_simp
            simp only [Act.put, List.getElem_toArray, List.getElem_cons_succ, List.getElem_cons_zero, List.setIfInBounds_toArray, List.set_cons_zero, List.set_cons_succ]
            refine wpAnyH_take (i := 1) (v := .int .i64 1) rfl (by kernel_rfl) (by kernel_rfl) (by kernel_rfl) (fun _ _ _ h => h) (Or.inl ⟨by kernel_rfl, fun w hSw => ?_⟩) hS0 ?_
            · obtain ⟨e1, e2, e3, e4, e5, e6⟩ := hSw; go_simp
            simp only [Act.put, List.getElem_toArray, List.getElem_cons_succ, List.getElem_cons_zero, List.setIfInBounds_toArray, List.set_cons_zero, List.set_cons_succ]
            refine wpAnyH_take (i := 2) (v := .bool true) rfl (by kernel_rfl) (by kernel_rfl) (by kernel_rfl) (fun _ _ _ h => h) (Or.inl ⟨by kernel_rfl, fun w hSw => ?_⟩) hS0 ?_
            · obtain ⟨e1, e2, e3, e4, e5, e6⟩ := hSw; go_simp
            simp only [Act.put, List.getElem_toArray, List.getElem_cons_succ, List.getElem_cons_zero, List.setIfInBounds_toArray, List.set_cons_zero, List.set_cons_succ]
            refine wpAnyH_take (i := 3) (v := .bool true) rfl (by kernel_rfl) (by kernel_rfl) (by kernel_rfl) (fun _ _ _ h => h) (Or.inl ⟨by kernel_rfl, fun w hSw => ?_⟩) hS0 ?_
            · obtain ⟨e1, e2, e3, e4, e5, e6⟩ := hSw; go_simp
            simp only [Act.put, List.getElem_toArray, List.getElem_cons_succ, List.getElem_cons_zero, List.setIfInBounds_toArray, List.set_cons_zero, List.set_cons_succ]
            refine wpAnyH_take (i := 4) (v := .slice (some ⟨g8, o8, none⟩) 1 c8) rfl (by kernel_rfl) (by kernel_rfl) (by kernel_rfl) (fun _ _ _ h => h) (Or.inl ⟨by kernel_rfl, fun w hSw => ?_⟩) hS0 ?_
            · obtain ⟨e1, e2, e3, e4, e5, e6⟩ := hSw; go_simp
            simp only [Act.put, List.getElem_toArray, List.getElem_cons_succ, List.getElem_cons_zero, List.setIfInBounds_toArray, List.set_cons_zero, List.set_cons_succ]
            refine wpAnyH_take (i := 5) (v := .pointer (some ⟨g8, o8, none⟩)) rfl (by kernel_rfl) (by kernel_rfl) (by kernel_rfl) (fun _ _ _ h => h) (Or.inl ⟨by kernel_rfl, fun w hSw => ?_⟩) hS0 ?_
            · obtain ⟨e1, e2, e3, e4, e5, e6⟩ := hSw; go_simp
            simp only [Act.put, List.getElem_toArray, List.getElem_cons_succ, List.getElem_cons_zero, List.setIfInBounds_toArray, List.set_cons_zero, List.set_cons_succ]
            refine wpAnyH_take (i := 6) (v := .pointer (some ⟨g8, o8 + 3, none⟩)) rfl (by kernel_rfl) (by kernel_rfl) (by kernel_rfl) (fun _ _ _ h => h) (Or.inl ⟨by kernel_rfl, fun w hSw => ?_⟩) hS0 ?_
            · obtain ⟨e1, e2, e3, e4, e5, e6⟩ := hSw; go_simp
            simp only [Act.put, List.getElem_toArray, List.getElem_cons_succ, List.getElem_cons_zero, List.setIfInBounds_toArray, List.set_cons_zero, List.set_cons_succ]
            refine wpAnyH_take (i := 7) (v := .string ⟨st.toArray⟩) rfl (by kernel_rfl) (by kernel_rfl) (by kernel_rfl) (fun _ _ _ h => h) (Or.inl ⟨by kernel_rfl, fun w hSw => ?_⟩) hS0 ?_
            · obtain ⟨e1, e2, e3, e4, e5, e6⟩ := hSw; go_simp
            simp only [Act.put, List.getElem_toArray, List.getElem_cons_succ, List.getElem_cons_zero, List.setIfInBounds_toArray, List.set_cons_zero, List.set_cons_succ]
            refine wpAnyH_take (i := 8) (v := .agg #[.slice ta k tc]) rfl (by kernel_rfl) (by kernel_rfl) (by kernel_rfl) (fun _ _ _ h => h) (Or.inl ⟨by kernel_rfl, fun w hSw => ?_⟩) hS0 ?_
            · obtain ⟨e1, e2, e3, e4, e5, e6⟩ := hSw; go_simp
            simp only [Act.put, List.getElem_toArray, List.getElem_cons_succ, List.getElem_cons_zero, List.setIfInBounds_toArray, List.set_cons_zero, List.set_cons_succ]
            refine wpAnyH_ready (rs := [9]) (by kernel_rfl) (by simp) ?_
            refine (AllReadyH.cons rfl (fun K hK => ?_) AllReadyH.nil)
            go_simp
            refine (HK7.out ⟨V8.drew, ((Far.refl V8).drewN 1).below⟩).mono ?_
            rintro e V9 ⟨rfl, p, rfl⟩
            have hS9 := HSF.out p
            refine hK.out _ _ hS9 (fun _ => ?_)
            clear hK K
            refine wpAnyH_take (i := 10) (v := .bool true) rfl (by kernel_rfl) (by kernel_rfl) (by kernel_rfl) (fun _ _ _ h => h) (Or.inl ⟨by kernel_rfl, fun w hSw => ?_⟩) hS9 ?_
            · obtain ⟨e1, e2, e3, e4, e5, e6⟩ := hSw; go_simp
            simp only [Act.put, List.getElem_toArray, List.getElem_cons_succ, List.getElem_cons_zero, List.setIfInBounds_toArray, List.set_cons_zero, List.set_cons_succ]
            refine wpAnyH_take (i := 11) (v := .bool true) rfl (by kernel_rfl) (by kernel_rfl) (by kernel_rfl) (fun _ _ _ h => h) (Or.inl ⟨by kernel_rfl, fun w hSw => ?_⟩) hS9 ?_
            · obtain ⟨e1, e2, e3, e4, e5, e6⟩ := hSw; go_simp
            simp only [Act.put, List.getElem_toArray, List.getElem_cons_succ, List.getElem_cons_zero, List.setIfInBounds_toArray, List.set_cons_zero, List.set_cons_succ]
            refine wpAnyH_take (i := 12) (v := .bool true) rfl (by kernel_rfl) (by kernel_rfl) (by kernel_rfl) (fun _ _ _ h => h) (Or.inl ⟨by kernel_rfl, fun w hSw => ?_⟩) hS9 ?_
            · obtain ⟨e1, e2, e3, e4, e5, e6⟩ := hSw; go_simp
            simp only [Act.put, List.getElem_toArray, List.getElem_cons_succ, List.getElem_cons_zero, List.setIfInBounds_toArray, List.set_cons_zero, List.set_cons_succ]
            refine wpAnyH_take (i := 13) (v := .slice (some ⟨g8, o8, none⟩) 1 c8) rfl (by kernel_rfl) (by kernel_rfl) (by kernel_rfl) (fun _ _ _ h => h) (Or.inl ⟨by kernel_rfl, fun w hSw => ?_⟩) hS9 ?_
            · obtain ⟨e1, e2, e3, e4, e5, e6⟩ := hSw; go_simp
            simp only [Act.put, List.getElem_toArray, List.getElem_cons_succ, List.getElem_cons_zero, List.setIfInBounds_toArray, List.set_cons_zero, List.set_cons_succ]
            refine wpAnyH_take (i := 14) (v := .pointer (some ⟨g8, o8, none⟩)) rfl (by kernel_rfl) (by kernel_rfl) (by kernel_rfl) (fun _ _ _ h => h) (Or.inl ⟨by kernel_rfl, fun w hSw => ?_⟩) hS9 ?_
            · obtain ⟨e1, e2, e3, e4, e5, e6⟩ := hSw; go_simp
            simp only [Act.put, List.getElem_toArray, List.getElem_cons_succ, List.getElem_cons_zero, List.setIfInBounds_toArray, List.set_cons_zero, List.set_cons_succ]
            refine wpAnyH_take (i := 15) (v := .pointer (some ⟨g8, o8, none⟩)) rfl (by kernel_rfl) (by kernel_rfl) (by kernel_rfl) (fun _ _ _ h => h) (Or.inl ⟨by kernel_rfl, fun w hSw => ?_⟩) hS9 ?_
            · obtain ⟨e1, e2, e3, e4, e5, e6⟩ := hSw; go_simp
            simp only [Act.put, List.getElem_toArray, List.getElem_cons_succ, List.getElem_cons_zero, List.setIfInBounds_toArray, List.set_cons_zero, List.set_cons_succ]
            refine wpAnyH_take (i := 16) (v := .agg #[.int .i64 2, .int .i64 1]) rfl (by kernel_rfl) (by kernel_rfl) (by kernel_rfl) (fun _ _ _ h => h) (Or.inl ⟨by kernel_rfl, fun w hSw => ?_⟩) hS9 ?_
            · obtain ⟨e1, e2, e3, e4, e5, e6⟩ := hSw; go_simp
            simp only [Act.put, List.getElem_toArray, List.getElem_cons_succ, List.getElem_cons_zero, List.setIfInBounds_toArray, List.set_cons_zero, List.set_cons_succ]
            refine wpAnyH_take (i := 17) (v := .agg #[.int .i64 2, .int .i64 1]) rfl (by kernel_rfl) (by kernel_rfl) (by kernel_rfl) (fun _ _ _ h => h) (Or.inl ⟨by kernel_rfl, fun w hSw => ?_⟩) hS9 ?_
            · obtain ⟨e1, e2, e3, e4, e5, e6⟩ := hSw; go_simp
            simp only [Act.put, List.getElem_toArray, List.getElem_cons_succ, List.getElem_cons_zero, List.setIfInBounds_toArray, List.set_cons_zero, List.set_cons_succ]
            refine wpAnyH_take (i := 18) (v := .bool true) rfl (by kernel_rfl) (by kernel_rfl) (by kernel_rfl) (fun _ _ _ h => h) (Or.inl ⟨by kernel_rfl, fun w hSw => ?_⟩) hS9 ?_
            · obtain ⟨e1, e2, e3, e4, e5, e6⟩ := hSw; go_simp
            simp only [Act.put, List.getElem_toArray, List.getElem_cons_succ, List.getElem_cons_zero, List.setIfInBounds_toArray, List.set_cons_zero, List.set_cons_succ]
            refine wpAnyH_take (i := 19) (v := .bool true) rfl (by kernel_rfl) (by kernel_rfl) (by kernel_rfl) (fun _ _ _ h => h) (Or.inl ⟨by kernel_rfl, fun w hSw => ?_⟩) hS9 ?_
            · obtain ⟨e1, e2, e3, e4, e5, e6⟩ := hSw; go_simp
            simp only [Act.put, List.getElem_toArray, List.getElem_cons_succ, List.getElem_cons_zero, List.setIfInBounds_toArray, List.set_cons_zero, List.set_cons_succ]
            refine wpAnyH_take (i := 20) (v := .bool true) rfl (by kernel_rfl) (by kernel_rfl) (by kernel_rfl) (fun _ _ _ h => h) (Or.inl ⟨by kernel_rfl, fun w hSw => ?_⟩) hS9 ?_
            · obtain ⟨e1, e2, e3, e4, e5, e6⟩ := hSw; go_simp
            simp only [Act.put, List.getElem_toArray, List.getElem_cons_succ, List.getElem_cons_zero, List.setIfInBounds_toArray, List.set_cons_zero, List.set_cons_succ]
            refine wpAnyH_done (by kernel_rfl) ?_ _
            go_wp2
            go_ret
            exact ⟨rfl, HB1.out.trans ((HK8.out p).mono HB1.out.size)⟩
          · go_simp
            refine (HRo1.out _ mb _ _ M1J.out).mono ?_
            rintro e N2V ⟨rfl, N2S, N2J⟩
            refine hK.out _ _ N2S (fun _ => ?_)
            clear hK K
            refine wpAnyH_ready (rs := [4]) (by kernel_rfl) (by simp) ?_
            refine AllReadyH.cons rfl (fun K hK => ?_) AllReadyH.nil
            obtain ⟨I3V, I3r, I3S, I3J⟩ := HIn.out _ mb N2J.out HMG.out
            go_simp
            refine hK.out _ _ I3S (fun _ => ?_)
            clear hK K
            refine wpAnyH_take (i := 5) (v := .map (some mb)) rfl (by kernel_rfl) (by kernel_rfl) (by kernel_rfl) (fun _ _ _ h => h) (Or.inl ⟨by kernel_rfl, fun w hSw => ?_⟩) I3S ?_
            · obtain ⟨e1, e2⟩ := hSw; go_simp
            simp only [Act.put, List.getElem_toArray, List.getElem_cons_succ, List.getElem_cons_zero, List.setIfInBounds_toArray, List.set_cons_zero, List.set_cons_succ]
            refine wpAnyH_ready (rs := [7]) (by kernel_rfl) (by simp) ?_
            refine AllReadyH.cons rfl (fun K hK => ?_) AllReadyH.nil
            go_simp
            refine (HUn.out _ mb I3J.out).mono ?_
            rintro e V8 ⟨a8, c8, rfl, V8S, V8J⟩
            refine hK.out _ _ V8S (fun _ => ?_)
            clear hK K
            refine wpAnyH_take (i := 8) (v := .slice a8 1 c8) rfl (by kernel_rfl) (by kernel_rfl) (by kernel_rfl) (fun _ _ _ h => h) (Or.inl ⟨by kernel_rfl, fun w hSw => ?_⟩) V8S ?_
            · obtain ⟨e1, e2⟩ := hSw; go_simp
            simp only [Act.put, List.getElem_toArray, List.getElem_cons_succ, List.getElem_cons_zero, List.setIfInBounds_toArray, List.set_cons_zero, List.set_cons_succ]
            refine wpAnyH_done (by kernel_rfl) ?_ _
            clear HUn HIn HMk HRo HRo0 HRo1 hmk
            obtain ⟨g8, o8, rfl, k1, k2, k3, k4, k5, k6, k7, k8⟩ := HFin.out _ _ _ V8J.out
            go_upto_region 16 with fail
            have hSF : ∀ p : Wb V8, p.u.cell? ⟨g8, o8, none⟩ = some (.int .i64 2) ∧ p.u.cell? ⟨g8, o8 + 1, none⟩ = some (.int .i64 1) ∧ p.u.cell? ⟨g8, o8 + 3, none⟩ = some (.string ⟨st.toArray⟩) ∧ p.u.cell? ⟨tb, 0, none⟩ = some (.slice ta k tc) ∧ p.u.cell? ⟨qa, 0, none⟩ = some (.int .i64 2) ∧ p.u.cell? ⟨qa, 1, none⟩ = some (.int .i64 1) := fun p => ⟨k1 p, k2 p, k3 p, k4 p, k5 p, k6 p⟩
            have hS0 := hSF ⟨V8.drew, ((Far.refl V8).drewN 1).below⟩
            have HSF := hid hSF
            have HK7 := hid k7
            have HK8 := hid k8
            clear k1 k2 k3 k4 k5 k6 k7 k8 hSF
            refine wp_region_held_drew (S := fun w' => w'.cell? ⟨g8, o8, none⟩ = some (.int .i64 2) ∧ w'.cell? ⟨g8, o8 + 1, none⟩ = some (.int .i64 1) ∧ w'.cell? ⟨g8, o8 + 3, none⟩ = some (.string ⟨st.toArray⟩) ∧ w'.cell? ⟨tb, 0, none⟩ = some (.slice ta k tc) ∧ w'.cell? ⟨qa, 0, none⟩ = some (.int .i64 2) ∧ w'.cell? ⟨qa, 1, none⟩ = some (.int .i64 1)) hmxo hS0 ?_
            intro _
            refine wpAnyH_take (i := 0) (v := .slice (some ⟨g8, o8, none⟩) 1 c8) rfl (by kernel_rfl) (by kernel_rfl) (by kernel_rfl) (fun _ _ _ h => h) (Or.inl ⟨by kernel_rfl, fun w hSw => ?_⟩) hS0 ?_
            · obtain ⟨e1, e2, e3, e4, e5, e6⟩ := hSw; go_simp
            simp only [Act.put, List.getElem_toArray, List.getElem_cons_succ, List.getElem_cons_zero, List.setIfInBounds_toArray, List.set_cons_zero, List.set_cons_succ]
            refine wpAnyH_take (i := 1) (v := .int .i64 1) rfl (by kernel_rfl) (by kernel_rfl) (by kernel_rfl) (fun _ _ _ h => h) (Or.inl ⟨by kernel_rfl, fun w hSw => ?_⟩) hS0 ?_
            · obtain ⟨e1, e2, e3, e4, e5, e6⟩ := hSw; go_simp
            simp only [Act.put, List.getElem_toArray, List.getElem_cons_succ, List.getElem_cons_zero, List.setIfInBounds_toArray, List.set_cons_zero, List.set_cons_succ]
            refine wpAnyH_take (i := 2) (v := .bool true) rfl (by kernel_rfl) (by kernel_rfl) (by kernel_rfl) (fun _ _ _ h => h) (Or.inl ⟨by kernel_rfl, fun w hSw => ?_⟩) hS0 ?_
            · obtain ⟨e1, e2, e3, e4, e5, e6⟩ := hSw; go_simp
            simp only [Act.put, List.getElem_toArray, List.getElem_cons_succ, List.getElem_cons_zero, List.setIfInBounds_toArray, List.set_cons_zero, List.set_cons_succ]
            refine wpAnyH_take (i := 3) (v := .bool true) rfl (by kernel_rfl) (by kernel_rfl) (by kernel_rfl) (fun _ _ _ h => h) (Or.inl ⟨by kernel_rfl, fun w hSw => ?_⟩) hS0 ?_
            · obtain ⟨e1, e2, e3, e4, e5, e6⟩ := hSw; go_simp
            simp only [Act.put, List.getElem_toArray, List.getElem_cons_succ, List.getElem_cons_zero, List.setIfInBounds_toArray, List.set_cons_zero, List.set_cons_succ]
            refine wpAnyH_take (i := 4) (v := .slice (some ⟨g8, o8, none⟩) 1 c8) rfl (by kernel_rfl) (by kernel_rfl) (by kernel_rfl) (fun _ _ _ h => h) (Or.inl ⟨by kernel_rfl, fun w hSw => ?_⟩) hS0 ?_
            · obtain ⟨e1, e2, e3, e4, e5, e6⟩ := hSw; go_simp
            simp only [Act.put, List.getElem_toArray, List.getElem_cons_succ, List.getElem_cons_zero, List.setIfInBounds_toArray, List.set_cons_zero, List.set_cons_succ]
            refine wpAnyH_take (i := 5) (v := .pointer (some ⟨g8, o8, none⟩)) rfl (by kernel_rfl) (by kernel_rfl) (by kernel_rfl) (fun _ _ _ h => h) (Or.inl ⟨by kernel_rfl, fun w hSw => ?_⟩) hS0 ?_
            · obtain ⟨e1, e2, e3, e4, e5, e6⟩ := hSw; go_simp
            simp only [Act.put, List.getElem_toArray, List.getElem_cons_succ, List.getElem_cons_zero, List.setIfInBounds_toArray, List.set_cons_zero, List.set_cons_succ]
            refine wpAnyH_take (i := 6) (v := .pointer (some ⟨g8, o8 + 3, none⟩)) rfl (by kernel_rfl) (by kernel_rfl) (by kernel_rfl) (fun _ _ _ h => h) (Or.inl ⟨by kernel_rfl, fun w hSw => ?_⟩) hS0 ?_
            · obtain ⟨e1, e2, e3, e4, e5, e6⟩ := hSw; go_simp
            simp only [Act.put, List.getElem_toArray, List.getElem_cons_succ, List.getElem_cons_zero, List.setIfInBounds_toArray, List.set_cons_zero, List.set_cons_succ]
            refine wpAnyH_take (i := 7) (v := .string ⟨st.toArray⟩) rfl (by kernel_rfl) (by kernel_rfl) (by kernel_rfl) (fun _ _ _ h => h) (Or.inl ⟨by kernel_rfl, fun w hSw => ?_⟩) hS0 ?_
            · obtain ⟨e1, e2, e3, e4, e5, e6⟩ := hSw; go_simp
            simp only [Act.put, List.getElem_toArray, List.getElem_cons_succ, List.getElem_cons_zero, List.setIfInBounds_toArray, List.set_cons_zero, List.set_cons_succ]
            refine wpAnyH_take (i := 8) (v := .agg #[.slice ta k tc]) rfl (by kernel_rfl) (by kernel_rfl) (by kernel_rfl) (fun _ _ _ h => h) (Or.inl ⟨by kernel_rfl, fun w hSw => ?_⟩) hS0 ?_
            · obtain ⟨e1, e2, e3, e4, e5, e6⟩ := hSw; go_simp
            simp only [Act.put, List.getElem_toArray, List.getElem_cons_succ, List.getElem_cons_zero, List.setIfInBounds_toArray, List.set_cons_zero, List.set_cons_succ]
            refine wpAnyH_ready (rs := [9]) (by kernel_rfl) (by simp) ?_
            refine (AllReadyH.cons rfl (fun K hK => ?_) AllReadyH.nil)
            go_simp
            refine (HK7.out ⟨V8.drew, ((Far.refl V8).drewN 1).below⟩).mono ?_
            rintro e V9 ⟨rfl, p, rfl⟩
            have hS9 := HSF.out p
            refine hK.out _ _ hS9 (fun _ => ?_)
            clear hK K
            refine wpAnyH_take (i := 10) (v := .bool true) rfl (by kernel_rfl) (by kernel_rfl) (by kernel_rfl) (fun _ _ _ h => h) (Or.inl ⟨by kernel_rfl, fun w hSw => ?_⟩) hS9 ?_
            · obtain ⟨e1, e2, e3, e4, e5, e6⟩ := hSw; go_simp
            simp only [Act.put, List.getElem_toArray, List.getElem_cons_succ, List.getElem_cons_zero, List.setIfInBounds_toArray, List.set_cons_zero, List.set_cons_succ]
            refine wpAnyH_take (i := 11) (v := .bool true) rfl (by kernel_rfl) (by kernel_rfl) (by kernel_rfl) (fun _ _ _ h => h) (Or.inl ⟨by kernel_rfl, fun w hSw => ?_⟩) hS9 ?_
            · obtain ⟨e1, e2, e3, e4, e5, e6⟩ := hSw; go_simp
            simp only [Act.put, List.getElem_toArray, List.getElem_cons_succ, List.getElem_cons_zero, List.setIfInBounds_toArray, List.set_cons_zero, List.set_cons_succ]
            refine wpAnyH_take (i := 12) (v := .bool true) rfl (by kernel_rfl) (by kernel_rfl) (by kernel_rfl) (fun _ _ _ h => h) (Or.inl ⟨by kernel_rfl, fun w hSw => ?_⟩) hS9 ?_
            · obtain ⟨e1, e2, e3, e4, e5, e6⟩ := hSw; go_simp
            simp only [Act.put, List.getElem_toArray, List.getElem_cons_succ, List.getElem_cons_zero, List.setIfInBounds_toArray, List.set_cons_zero, List.set_cons_succ]
            refine wpAnyH_take (i := 13) (v := .slice (some ⟨g8, o8, none⟩) 1 c8) rfl (by kernel_rfl) (by kernel_rfl) (by kernel_rfl) (fun _ _ _ h => h) (Or.inl ⟨by kernel_rfl, fun w hSw => ?_⟩) hS9 ?_
            · obtain ⟨e1, e2, e3, e4, e5, e6⟩ := hSw; go_simp
            simp only [Act.put, List.getElem_toArray, List.getElem_cons_succ, List.getElem_cons_zero, List.setIfInBounds_toArray, List.set_cons_zero, List.set_cons_succ]
            refine wpAnyH_take (i := 14) (v := .pointer (some ⟨g8, o8, none⟩)) rfl (by kernel_rfl) (by kernel_rfl) (by kernel_rfl) (fun _ _ _ h => h) (Or.inl ⟨by kernel_rfl, fun w hSw => ?_⟩) hS9 ?_
            · obtain ⟨e1, e2, e3, e4, e5, e6⟩ := hSw; go_simp
            simp only [Act.put, List.getElem_toArray, List.getElem_cons_succ, List.getElem_cons_zero, List.setIfInBounds_toArray, List.set_cons_zero, List.set_cons_succ]
            refine wpAnyH_take (i := 15) (v := .pointer (some ⟨g8, o8, none⟩)) rfl (by kernel_rfl) (by kernel_rfl) (by kernel_rfl) (fun _ _ _ h => h) (Or.inl ⟨by kernel_rfl, fun w hSw => ?_⟩) hS9 ?_
            · obtain ⟨e1, e2, e3, e4, e5, e6⟩ := hSw; go_simp
            simp only [Act.put, List.getElem_toArray, List.getElem_cons_succ, List.getElem_cons_zero, List.setIfInBounds_toArray, List.set_cons_zero, List.set_cons_succ]
            refine wpAnyH_take (i := 16) (v := .agg #[.int .i64 2, .int .i64 1]) rfl (by kernel_rfl) (by kernel_rfl) (by kernel_rfl) (fun _ _ _ h => h) (Or.inl ⟨by kernel_rfl, fun w hSw => ?_⟩) hS9 ?_
            · obtain ⟨e1, e2, e3, e4, e5, e6⟩ := hSw; go_simp
            simp only [Act.put, List.getElem_toArray, List.getElem_cons_succ, List.getElem_cons_zero, List.setIfInBounds_toArray, List.set_cons_zero, List.set_cons_succ]
            refine wpAnyH_take (i := 17) (v := .agg #[.int .i64 2, .int .i64 1]) rfl (by kernel_rfl) (by kernel_rfl) (by kernel_rfl) (fun _ _ _ h => h) (Or.inl ⟨by kernel_rfl, fun w hSw => ?_⟩) hS9 ?_
            · obtain ⟨e1, e2, e3, e4, e5, e6⟩ := hSw; go_simp
            simp only [Act.put, List.getElem_toArray, List.getElem_cons_succ, List.getElem_cons_zero, List.setIfInBounds_toArray, List.set_cons_zero, List.set_cons_succ]
            refine wpAnyH_take (i := 18) (v := .bool true) rfl (by kernel_rfl) (by kernel_rfl) (by kernel_rfl) (fun _ _ _ h => h) (Or.inl ⟨by kernel_rfl, fun w hSw => ?_⟩) hS9 ?_
            · obtain ⟨e1, e2, e3, e4, e5, e6⟩ := hSw; go_simp
            simp only [Act.put, List.getElem_toArray, List.getElem_cons_succ, List.getElem_cons_zero, List.setIfInBounds_toArray, List.set_cons_zero, List.set_cons_succ]
            refine wpAnyH_take (i := 19) (v := .bool true) rfl (by kernel_rfl) (by kernel_rfl) (by kernel_rfl) (fun _ _ _ h => h) (Or.inl ⟨by kernel_rfl, fun w hSw => ?_⟩) hS9 ?_
            · obtain ⟨e1, e2, e3, e4, e5, e6⟩ := hSw; go_simp
            simp only [Act.put, List.getElem_toArray, List.getElem_cons_succ, List.getElem_cons_zero, List.setIfInBounds_toArray, List.set_cons_zero, List.set_cons_succ]
            refine wpAnyH_take (i := 20) (v := .bool true) rfl (by kernel_rfl) (by kernel_rfl) (by kernel_rfl) (fun _ _ _ h => h) (Or.inl ⟨by kernel_rfl, fun w hSw => ?_⟩) hS9 ?_
            · obtain ⟨e1, e2, e3, e4, e5, e6⟩ := hSw; go_simp
            simp only [Act.put, List.getElem_toArray, List.getElem_cons_succ, List.getElem_cons_zero, List.setIfInBounds_toArray, List.set_cons_zero, List.set_cons_succ]
            refine wpAnyH_done (by kernel_rfl) ?_ _
            go_wp2
            go_ret
            exact ⟨rfl, HB1.out.trans ((HK8.out p).mono HB1.out.size)⟩
        · go_simp
          refine (HRo0.out _ J0.out).mono ?_
          rintro e N1V ⟨rfl, N1S, N1J⟩
          refine hK.out _ _ N1S (fun _ => ?_)
          clear hK K
          refine wpAnyH_ready (rs := [1]) (by kernel_rfl) (by simp) ?_
          refine AllReadyH.cons rfl (fun K hK => ?_) AllReadyH.nil
          go_simp
          obtain ⟨M2, M2S⟩ := HMk.out _ N1J.out
          have M2H := hid M2
          obtain ⟨mb, hmb⟩ : ∃ mb, mb = (N1V).heap.size := ⟨_, rfl⟩
          have HMB := hid hmb
          have HMG : Hid (W6.heap.size ≤ mb) := hid (by rw [hmb]; exact HMB0.out _ N1J.out.2)
          refine hK.out _ _ M2S (fun _ => ?_)
          clear hK K
          rw [← hmb] at M2 ⊢
          clear hmb M2H
          have M2J := hid M2
          clear M2
          refine wpAnyH_ready (rs := [4]) (by kernel_rfl) (by simp) ?_
          refine AllReadyH.cons rfl (fun K hK => ?_) AllReadyH.nil
          obtain ⟨I3V, I3r, I3S, I3J⟩ := HIn.out _ mb M2J.out HMG.out
          go_simp
          refine hK.out _ _ I3S (fun _ => ?_)
          clear hK K
          refine wpAnyH_take (i := 5) (v := .map (some mb)) rfl (by kernel_rfl) (by kernel_rfl) (by kernel_rfl) (fun _ _ _ h => h) (Or.inl ⟨by kernel_rfl, fun w hSw => ?_⟩) I3S ?_
          · obtain ⟨e1, e2⟩ := hSw; go_simp
          simp only [Act.put, List.getElem_toArray, List.getElem_cons_succ, List.getElem_cons_zero, List.setIfInBounds_toArray, List.set_cons_zero, List.set_cons_succ]
          refine wpAnyH_ready (rs := [7]) (by kernel_rfl) (by simp) ?_
          refine AllReadyH.cons rfl (fun K hK => ?_) AllReadyH.nil
          go_simp
          refine (HUn.out _ mb I3J.out).mono ?_
          rintro e V8 ⟨a8, c8, rfl, V8S, V8J⟩
          refine hK.out _ _ V8S (fun _ => ?_)
          clear hK K
          refine wpAnyH_take (i := 8) (v := .slice a8 1 c8) rfl (by kernel_rfl) (by kernel_rfl) (by kernel_rfl) (fun _ _ _ h => h) (Or.inl ⟨by kernel_rfl, fun w hSw => ?_⟩) V8S ?_
          · obtain ⟨e1, e2⟩ := hSw; go_simp
          simp only [Act.put, List.getElem_toArray, List.getElem_cons_succ, List.getElem_cons_zero, List.setIfInBounds_toArray, List.set_cons_zero, List.set_cons_succ]
          refine wpAnyH_done (by kernel_rfl) ?_ _
          clear HUn HIn HMk HRo HRo0 HRo1 hmk
          obtain ⟨g8, o8, rfl, k1, k2, k3, k4, k5, k6, k7, k8⟩ := HFin.out _ _ _ V8J.out
          go_upto_region 16 with fail
          have hSF : ∀ p : Wb V8, p.u.cell? ⟨g8, o8, none⟩ = some (.int .i64 2) ∧ p.u.cell? ⟨g8, o8 + 1, none⟩ = some (.int .i64 1) ∧ p.u.cell? ⟨g8, o8 + 3, none⟩ = some (.string ⟨st.toArray⟩) ∧ p.u.cell? ⟨tb, 0, none⟩ = some (.slice ta k tc) ∧ p.u.cell? ⟨qa, 0, none⟩ = some (.int .i64 2) ∧ p.u.cell? ⟨qa, 1, none⟩ = some (.int .i64 1) := fun p => ⟨k1 p, k2 p, k3 p, k4 p, k5 p, k6 p⟩
          have hS0 := hSF ⟨V8.drew, ((Far.refl V8).drewN 1).below⟩
          have HSF := hid hSF
          have HK7 := hid k7
          have HK8 := hid k8
          clear k1 k2 k3 k4 k5 k6 k7 k8 hSF
          refine wp_region_held_drew (S := fun w' => w'.cell? ⟨g8, o8, none⟩ = some (.int .i64 2) ∧ w'.cell? ⟨g8, o8 + 1, none⟩ = some (.int .i64 1) ∧ w'.cell? ⟨g8, o8 + 3, none⟩ = some (.string ⟨st.toArray⟩) ∧ w'.cell? ⟨tb, 0, none⟩ = some (.slice ta k tc) ∧ w'.cell? ⟨qa, 0, none⟩ = some (.int .i64 2) ∧ w'.cell? ⟨qa, 1, none⟩ = some (.int .i64 1)) hmxo hS0 ?_
          intro _
          refine wpAnyH_take (i := 0) (v := .slice (some ⟨g8, o8, none⟩) 1 c8) rfl (by kernel_rfl) (by kernel_rfl) (by kernel_rfl) (fun _ _ _ h => h) (Or.inl ⟨by kernel_rfl, fun w hSw => ?_⟩) hS0 ?_
          · obtain ⟨e1, e2, e3, e4, e5, e6⟩ := hSw; go_simp
          simp only [Act.put, List.getElem_toArray, List.getElem_cons_succ, List.getElem_cons_zero, List.setIfInBounds_toArray, List.set_cons_zero, List.set_cons_succ]
          refine wpAnyH_take (i := 1) (v := .int .i64 1) rfl (by kernel_rfl) (by kernel_rfl) (by kernel_rfl) (fun _ _ _ h => h) (Or.inl ⟨by kernel_rfl, fun w hSw => ?_⟩) hS0 ?_
          · obtain ⟨e1, e2, e3, e4, e5, e6⟩ := hSw; go_simp
          simp only [Act.put, List.getElem_toArray, List.getElem_cons_succ, List.getElem_cons_zero, List.setIfInBounds_toArray, List.set_cons_zero, List.set_cons_succ]
          refine wpAnyH_take (i := 2) (v := .bool true) rfl (by kernel_rfl) (by kernel_rfl) (by kernel_rfl) (fun _ _ _ h => h) (Or.inl ⟨by kernel_rfl, fun w hSw => ?_⟩) hS0 ?_
          · obtain ⟨e1, e2, e3, e4, e5, e6⟩ := hSw; go_simp
          simp only [Act.put, List.getElem_toArray, List.getElem_cons_succ, List.getElem_cons_zero, List.setIfInBounds_toArray, List.set_cons_zero, List.set_cons_succ]
          refine wpAnyH_take (i := 3) (v := .bool true) rfl (by kernel_rfl) (by kernel_rfl) (by kernel_rfl) (fun _ _ _ h => h) (Or.inl ⟨by kernel_rfl, fun w hSw => ?_⟩) hS0 ?_
          · obtain ⟨e1, e2, e3, e4, e5, e6⟩ := hSw; go_simp
          simp only [Act.put, List.getElem_toArray, List.getElem_cons_succ, List.getElem_cons_zero, List.setIfInBounds_toArray, List.set_cons_zero, List.set_cons_succ]
          refine wpAnyH_take (i := 4) (v := .slice (some ⟨g8, o8, none⟩) 1 c8) rfl (by kernel_rfl) (by kernel_rfl) (by kernel_rfl) (fun _ _ _ h => h) (Or.inl ⟨by kernel_rfl, fun w hSw => ?_⟩) hS0 ?_
          · obtain ⟨e1, e2, e3, e4, e5, e6⟩ := hSw; go_simp
          simp only [Act.put, List.getElem_toArray, List.getElem_cons_succ, List.getElem_cons_zero, List.setIfInBounds_toArray, List.set_cons_zero, List.set_cons_succ]
          refine wpAnyH_take (i := 5) (v := .pointer (some ⟨g8, o8, none⟩)) rfl (by kernel_rfl) (by kernel_rfl) (by kernel_rfl) (fun _ _ _ h => h) (Or.inl ⟨by kernel_rfl, fun w hSw => ?_⟩) hS0 ?_
          · obtain ⟨e1, e2, e3, e4, e5, e6⟩ := hSw; go_simp
          simp only [Act.put, List.getElem_toArray, List.getElem_cons_succ, List.getElem_cons_zero, List.setIfInBounds_toArray, List.set_cons_zero, List.set_cons_succ]
          refine wpAnyH_take (i := 6) (v := .pointer (some ⟨g8, o8 + 3, none⟩)) rfl (by kernel_rfl) (by kernel_rfl) (by kernel_rfl) (fun _ _ _ h => h) (Or.inl ⟨by kernel_rfl, fun w hSw => ?_⟩) hS0 ?_
          · obtain ⟨e1, e2, e3, e4, e5, e6⟩ := hSw; go_simp
          simp only [Act.put, List.getElem_toArray, List.getElem_cons_succ, List.getElem_cons_zero, List.setIfInBounds_toArray, List.set_cons_zero, List.set_cons_succ]
          refine wpAnyH_take (i := 7) (v := .string ⟨st.toArray⟩) rfl (by kernel_rfl) (by kernel_rfl) (by kernel_rfl) (fun _ _ _ h => h) (Or.inl ⟨by kernel_rfl, fun w hSw => ?_⟩) hS0 ?_
          · obtain ⟨e1, e2, e3, e4, e5, e6⟩ := hSw; go_simp
          simp only [Act.put, List.getElem_toArray, List.getElem_cons_succ, List.getElem_cons_zero, List.setIfInBounds_toArray, List.set_cons_zero, List.set_cons_succ]
          refine wpAnyH_take (i := 8) (v := .agg #[.slice ta k tc]) rfl (by kernel_rfl) (by kernel_rfl) (by kernel_rfl) (fun _ _ _ h => h) (Or.inl ⟨by kernel_rfl, fun w hSw => ?_⟩) hS0 ?_
          · obtain ⟨e1, e2, e3, e4, e5, e6⟩ := hSw; go_simp
          simp only [Act.put, List.getElem_toArray, List.getElem_cons_succ, List.getElem_cons_zero, List.setIfInBounds_toArray, List.set_cons_zero, List.set_cons_succ]
          refine wpAnyH_ready (rs := [9]) (by kernel_rfl) (by simp) ?_
          refine (AllReadyH.cons rfl (fun K hK => ?_) AllReadyH.nil)
          go_simp
          refine (HK7.out ⟨V8.drew, ((Far.refl V8).drewN 1).below⟩).mono ?_
          rintro e V9 ⟨rfl, p, rfl⟩
          have hS9 := HSF.out p
          refine hK.out _ _ hS9 (fun _ => ?_)
          clear hK K
          refine wpAnyH_take (i := 10) (v := .bool true) rfl (by kernel_rfl) (by kernel_rfl) (by kernel_rfl) (fun _ _ _ h => h) (Or.inl ⟨by kernel_rfl, fun w hSw => ?_⟩) hS9 ?_
          · obtain ⟨e1, e2, e3, e4, e5, e6⟩ := hSw; go_simp
          simp only [Act.put, List.getElem_toArray, List.getElem_cons_succ, List.getElem_cons_zero, List.setIfInBounds_toArray, List.set_cons_zero, List.set_cons_succ]
          refine wpAnyH_take (i := 11) (v := .bool true) rfl (by kernel_rfl) (by kernel_rfl) (by kernel_rfl) (fun _ _ _ h => h) (Or.inl ⟨by kernel_rfl, fun w hSw => ?_⟩) hS9 ?_
          · obtain ⟨e1, e2, e3, e4, e5, e6⟩ := hSw; go_simp
          simp only [Act.put, List.getElem_toArray, List.getElem_cons_succ, List.getElem_cons_zero, List.setIfInBounds_toArray, List.set_cons_zero, List.set_cons_succ]
          refine wpAnyH_take (i := 12) (v := .bool true) rfl (by kernel_rfl) (by kernel_rfl) (by kernel_rfl) (fun _ _ _ h => h) (Or.inl ⟨by kernel_rfl, fun w hSw => ?_⟩) hS9 ?_
          · obtain ⟨e1, e2, e3, e4, e5, e6⟩ := hSw; go_simp
          simp only [Act.put, List.getElem_toArray, List.getElem_cons_succ, List.getElem_cons_zero, List.setIfInBounds_toArray, List.set_cons_zero, List.set_cons_succ]
          refine wpAnyH_take (i := 13) (v := .slice (some ⟨g8, o8, none⟩) 1 c8) rfl (by kernel_rfl) (by kernel_rfl) (by kernel_rfl) (fun _ _ _ h => h) (Or.inl ⟨by kernel_rfl, fun w hSw => ?_⟩) hS9 ?_
          · obtain ⟨e1, e2, e3, e4, e5, e6⟩ := hSw; go_simp
          simp only [Act.put, List.getElem_toArray, List.getElem_cons_succ, List.getElem_cons_zero, List.setIfInBounds_toArray, List.set_cons_zero, List.set_cons_succ]
          refine wpAnyH_take (i := 14) (v := .pointer (some ⟨g8, o8, none⟩)) rfl (by kernel_rfl) (by kernel_rfl) (by kernel_rfl) (fun _ _ _ h => h) (Or.inl ⟨by kernel_rfl, fun w hSw => ?_⟩) hS9 ?_
          · obtain ⟨e1, e2, e3, e4, e5, e6⟩ := hSw; go_simp
          simp only [Act.put, List.getElem_toArray, List.getElem_cons_succ, List.getElem_cons_zero, List.setIfInBounds_toArray, List.set_cons_zero, List.set_cons_succ]
          refine wpAnyH_take (i := 15) (v := .pointer (some ⟨g8, o8, none⟩)) rfl (by kernel_rfl) (by kernel_rfl) (by kernel_rfl) (fun _ _ _ h => h) (Or.inl ⟨by kernel_rfl, fun w hSw => ?_⟩) hS9 ?_
          · obtain ⟨e1, e2, e3, e4, e5, e6⟩ := hSw; go_simp
          simp only [Act.put, List.getElem_toArray, List.getElem_cons_succ, List.getElem_cons_zero, List.setIfInBounds_toArray, List.set_cons_zero, List.set_cons_succ]
          refine wpAnyH_take (i := 16) (v := .agg #[.int .i64 2, .int .i64 1]) rfl (by kernel_rfl) (by kernel_rfl) (by kernel_rfl) (fun _ _ _ h => h) (Or.inl ⟨by kernel_rfl, fun w hSw => ?_⟩) hS9 ?_
          · obtain ⟨e1, e2, e3, e4, e5, e6⟩ := hSw; go_simp
          simp only [Act.put, List.getElem_toArray, List.getElem_cons_succ, List.getElem_cons_zero, List.setIfInBounds_toArray, List.set_cons_zero, List.set_cons_succ]
          refine wpAnyH_take (i := 17) (v := .agg #[.int .i64 2, .int .i64 1]) rfl (by kernel_rfl) (by kernel_rfl) (by kernel_rfl) (fun _ _ _ h => h) (Or.inl ⟨by kernel_rfl, fun w hSw => ?_⟩) hS9 ?_
          · obtain ⟨e1, e2, e3, e4, e5, e6⟩ := hSw; go_simp
          simp only [Act.put, List.getElem_toArray, List.getElem_cons_succ, List.getElem_cons_zero, List.setIfInBounds_toArray, List.set_cons_zero, List.set_cons_succ]
          refine wpAnyH_take (i := 18) (v := .bool true) rfl (by kernel_rfl) (by kernel_rfl) (by kernel_rfl) (fun _ _ _ h => h) (Or.inl ⟨by kernel_rfl, fun w hSw => ?_⟩) hS9 ?_
          · obtain ⟨e1, e2, e3, e4, e5, e6⟩ := hSw; go_simp
          simp only [Act.put, List.getElem_toArray, List.getElem_cons_succ, List.getElem_cons_zero, List.setIfInBounds_toArray, List.set_cons_zero, List.set_cons_succ]
          refine wpAnyH_take (i := 19) (v := .bool true) rfl (by kernel_rfl) (by kernel_rfl) (by kernel_rfl) (fun _ _ _ h => h) (Or.inl ⟨by kernel_rfl, fun w hSw => ?_⟩) hS9 ?_
          · obtain ⟨e1, e2, e3, e4, e5, e6⟩ := hSw; go_simp
          simp only [Act.put, List.getElem_toArray, List.getElem_cons_succ, List.getElem_cons_zero, List.setIfInBounds_toArray, List.set_cons_zero, List.set_cons_succ]
          refine wpAnyH_take (i := 20) (v := .bool true) rfl (by kernel_rfl) (by kernel_rfl) (by kernel_rfl) (fun _ _ _ h => h) (Or.inl ⟨by kernel_rfl, fun w hSw => ?_⟩) hS9 ?_
          · obtain ⟨e1, e2, e3, e4, e5, e6⟩ := hSw; go_simp
          simp only [Act.put, List.getElem_toArray, List.getElem_cons_succ, List.getElem_cons_zero, List.setIfInBounds_toArray, List.set_cons_zero, List.set_cons_succ]
          refine wpAnyH_done (by kernel_rfl) ?_ _
          go_wp2
          go_ret
          exact ⟨rfl, HB1.out.trans ((HK8.out p).mono HB1.out.size)⟩
end Go.Proofs.YtnmdcdphpcpojaaGreatDoor
