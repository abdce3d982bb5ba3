/- The lines under a block: as deep as they lie, each block once. No function of the program. -/
import Derived.Test.YtnmdcdphpcpojaaGreatDoorTrMath
import Derived.Test.YtnmdcdphpcpojaaGreatDoorFgSame
import Derived.Test.YtnmdcdphpcpojaaGreatDoorOlShelfP
import Derived.Test.YtnmdcdphpcpojaaGreatDoorFgRIns
import Derived.BigQuiet
import Derived.Deep.RegionHeld
import Derived.Deep.CutRange
import Derived.Test.YtnmdcdphpcpojaaGreatDoorMKeys
import Derived.WalkKit
import Derived.Below
import Derived.Maps.OwnSet
import Derived.Maps.RangeWalk
import Derived.Sort.KeysCollected
import Derived.Test.YtnmdcdphpcpojaaGreatDoorTrDoM
import Derived.Sort.MapsRangeIn
import Derived.Laws.IdiomRangeMap
import Derived.WalkSpells
import Derived.WalkLawsBesides
import Derived.Sort.OwnSorted
import Derived.Shelf.SlSortCmp.WholeK
import Derived.Test.YtnmdcdphpcpojaaGreatDoorProg
import Derived.Test.YtnmdcdphpcpojaaGreatDoorOParts
namespace Go.Proofs.YtnmdcdphpcpojaaGreatDoor
section
set_option linter.unusedVariables false
set_option linter.unusedSimpArgs false
open Go.RowKit

/-- What typed has, behind the first k bytes. -/
structure TyS (w : World) (l : List UInt8) (a : Option Addr) (n c k : Nat) (V : World) : Prop where
  br : V.heap[w.heap.size]? = some (.cells #[.slice none 0 0] 62 (0, 0))
  bt : V.heap[w.heap.size + 1]? = some (.cells #[.slice a n c] 62 (0, 0))
  rt : RT V a n c (tyC 0 (l.take k))
  ct : CT V a
  bel : Below w.heap.size w V

theorem ct_more {V V' : World} {a : Option Addr} (h : CT V a) (hb : Below V.heap.size V V') : CT V' a := fun ad e => by
  obtain ⟨cs, hc⟩ := h ad e
  exact ⟨cs, (hb.block _ (Array.getElem?_eq_some_iff.1 hc).1).trans hc⟩

theorem TyS.more {w : World} {l : List UInt8} {a : Option Addr} {n c k : Nat} {V V' : World} (h : TyS w l a n c k V) (hb : Below V.heap.size V V') : TyS w l a n c k V' :=
  ⟨(hb.block _ (Array.getElem?_eq_some_iff.1 h.br).1).trans h.br, (hb.block _ (Array.getElem?_eq_some_iff.1 h.bt).1).trans h.bt, h.rt.below hb, ct_more h.ct hb, h.bel.trans (hb.mono h.bel.size)⟩

theorem TyS.drew {w : World} {l : List UInt8} {a : Option Addr} {n c k : Nat} {V : World} (h : TyS w l a n c k V) : TyS w l a n c k V.drew := h.more (((Far.refl V).drewN 1).below)

/-- A text is laid into its box. -/
theorem TyS.store {w : World} {l : List UInt8} {a a' : Option Addr} {n c n' c' k : Nat} {V : World} (h : TyS w l a n c k V) (h1 : RT V a' n' c' (tyC 0 (l.take (k + 1)))) (h2 : CT V a') : TyS w l a' n' c' (k + 1) (V.setCell ⟨w.heap.size + 1, 0, none⟩ (.slice a' n' c')) := by
  have hk : ∀ j, j ≠ w.heap.size + 1 → (V.setCell ⟨w.heap.size + 1, 0, none⟩ (.slice a' n' c')).heap[j]? = V.heap[j]? := fun j hj => Below.heap_setCell _ _ _ j (by simpa using hj)
  have hz : (V.setCell ⟨w.heap.size + 1, 0, none⟩ (.slice a' n' c')).heap.size = V.heap.size := by simp
  have hne : ∀ ad, a' = some ad → ad.block ≠ w.heap.size + 1 := fun ad e e2 => by
    obtain ⟨cs, hc⟩ := h2 ad e
    rw [e2, h.bt] at hc
    cases hc
  refine ⟨(hk _ (by omega)).trans h.br, ?_, ⟨h1.len, h1.cap, h1.max, h1.nil, fun hp => ?_⟩, fun ad e => ?_, h.bel.setCell (by simp) _⟩
  · have := set_heap h.bt 0 (.slice a' n' c')
    simpa using this
  · obtain ⟨g, o, e, hg, hx⟩ := h1.at_ hp
    refine ⟨g, o, e, by rw [hz]; exact hg, fun i hi j u hj => ?_⟩
    have := hx i hi j u hj
    rw [World.cell?_of_block (hk g (hne _ e))]
    exact this
  · obtain ⟨cs, hc⟩ := h2 ad e
    exact ⟨cs, (hk _ (hne ad e)).trans hc⟩

/-- The text is laid into the result. -/
theorem TyS.fin {w : World} {l : List UInt8} {a : Option Addr} {n c k : Nat} {V : World} (h : TyS w l a n c k V) : (V.setCell ⟨w.heap.size, 0, none⟩ (.slice a n c)).cell? ⟨w.heap.size, 0, none⟩ = some (.slice a n c) ∧ RT (V.setCell ⟨w.heap.size, 0, none⟩ (.slice a n c)) a n c (tyC 0 (l.take k)) ∧ CT (V.setCell ⟨w.heap.size, 0, none⟩ (.slice a n c)) a ∧ Below w.heap.size w (V.setCell ⟨w.heap.size, 0, none⟩ (.slice a n c)) := by
  have hk : ∀ j, j ≠ w.heap.size → (V.setCell ⟨w.heap.size, 0, none⟩ (.slice a n c)).heap[j]? = V.heap[j]? := fun j hj => Below.heap_setCell _ _ _ j (by simpa using hj)
  have hz : (V.setCell ⟨w.heap.size, 0, none⟩ (.slice a n c)).heap.size = V.heap.size := by simp
  have hne : ∀ ad, a = some ad → ad.block ≠ w.heap.size := fun ad e e2 => by
    obtain ⟨cs, hc⟩ := h.ct ad e
    rw [e2, h.br] at hc
    cases hc
  have h1 := h.rt
  have h3 := set_heap h.br 0 (.slice a n c)
  refine ⟨by rw [Lib.cell_of_heap h3]; rfl, ⟨h1.len, h1.cap, h1.max, h1.nil, fun hp => ?_⟩, fun ad e => ?_, h.bel.setCell (by simp) _⟩
  · obtain ⟨g, o, e, hg, hx⟩ := h1.at_ hp
    refine ⟨g, o, e, by rw [hz]; exact hg, fun i hi j u hj => ?_⟩
    have := hx i hi j u hj
    rw [World.cell?_of_block (hk g (hne _ e))]
    exact this
  · obtain ⟨cs, hc⟩ := h.ct ad e
    exact ⟨cs, (hk _ (hne ad e)).trans hc⟩

set_option maxRecDepth 100000 in
set_option maxHeartbeats 8000000 in
theorem typed_any (l : List UInt8) (w : World) (hl : l.length ≤ 100) : Calls Tryz.prog 24 #[.string ⟨l.toArray⟩] w fun e w' => ∃ a n c, e = .returned (.agg #[.slice a n c]) ∧ RT w' a n c (tyC 0 l) ∧ CT w' a ∧ Below w.heap.size w w' := by
  have hmxo : Tryz.prog.follows .mixedOrders = true := by kernel_rfl
  have mixed := mixed
  have H0 : Hid (TyS w l none 0 0 0 ((w.alloc (.cells #[.slice none 0 0] 62)).alloc (.cells #[.slice none 0 0] 62))) := hid (by
    refine ⟨(Below.heap_alloc _ _ _ (by simp)).trans (World.alloc_heap_new w _), ?_, ⟨rfl, Nat.le_refl _, by decide, fun _ => ⟨rfl, rfl⟩, fun hp => absurd hp (by omega)⟩, fun ad e => (nomatch e), ((Below.refl _ w).alloc (Nat.le_refl _) _).alloc (by simp) _⟩
    have := World.alloc_heap_new (w.alloc (.cells #[.slice none 0 0] 62)) (.cells #[.slice none 0 0] 62)
    rw [World.size_alloc] at this
    exact this)
  go_enter Tryz.func24, Tryz.ntmps24
  go_wp2_with fail
  go_loopw [4] (fun i wr => ∃ k : Nat, k ≤ l.length ∧ i = .int .i64 k ∧ ∃ a n c, Hid (TyS w l a n c k wr)) (fun i _ => l.length - (intOf i).toNat)
  case atStart => exact ⟨0, by omega, rfl, _, _, _, H0⟩
  case round =>
    obtain ⟨k, hk, rfl, a, n, c, HST⟩ := hrel
    by_cases hlt : k < l.length
    · obtain ⟨b, hb⟩ : ∃ b, b = l[k] := ⟨_, rfl⟩
      have HTK : Hid (l.take k ++ [b] = l.take (k + 1)) := hid (by rw [hb]; exact (List.take_succ_eq_append_getElem hlt).symm)
      have hk1 : (k : Int) < (l.length : Int) := by omega
      have hk0 : (0 : Int) ≤ (k : Int) := by omega
      have hz0 : k < (⟨l.toArray⟩ : ByteArray).size := by show k < l.toArray.size; simp; omega
      have hx0 : (⟨l.toArray⟩ : ByteArray)[k]'hz0 = b := by rw [hb]; rfl
      have hbl := b.toNat_lt
      have hbl2 : (b.toNat : Int) < 256 := by omega
      clear hb
      by_cases hz : k = 0
      · have HTA : Hid (tyAt k = (0, 0)) := hid (by unfold tyAt; rw [if_pos hz])
        have hkL : (k : Int) < 100 := by omega
        have hkz : ¬ (0 < k) := by omega
        have HZ := hid hz
        clear hz
        go_upto_region 8 with fail
        obtain ⟨W3, hW3⟩ : ∃ W3, W3 = wr.alloc (.cells #[.int .i64 0, .int .i64 0] 24) := ⟨_, rfl⟩
        obtain ⟨q5, hq5⟩ : ∃ q5, q5 = wr.heap.size := ⟨_, rfl⟩
        have hb5 : W3.heap[q5]? = some (.cells #[.int .i64 0, .int .i64 0] 24 (0, 0)) := by rw [hW3, hq5]; exact World.alloc_heap_new wr _
        have hB3 : Below wr.heap.size wr W3 := by rw [hW3]; exact (Below.refl _ wr).alloc (Nat.le_refl _) _
        have hq5s : q5 < W3.heap.size := (Array.getElem?_eq_some_iff.1 hb5).1
        have S3 := HST.out.more hB3
        have hqtq : w.heap.size + 1 ≠ q5 := by have := (Array.getElem?_eq_some_iff.1 HST.out.bt).1; omega
        have hc3 : W3.drew.cell? ⟨w.heap.size + 1, 0, none⟩ = some (.slice a n c) := by show W3.cell? _ = _; rw [Lib.cell_of_heap S3.bt]; rfl
        have hS0 : W3.drew.cell? ⟨q5, 0, none⟩ = some (.int .i64 0) ∧ W3.drew.cell? ⟨q5, 1, none⟩ = some (.int .i64 0) := ⟨by show W3.cell? _ = _; rw [Lib.cell_of_heap hb5]; rfl, by show W3.cell? _ = _; rw [Lib.cell_of_heap hb5]; rfl⟩
        have HINS : Hid (Calls Tryz.prog 36 #[.agg #[.slice a n c], .agg #[.int .i64 1, .int .i64 ((k : Int) + 1)], .agg #[.int .i64 0, .int .i64 0], .int .i64 1, .int .i64 b.toNat] W3.drew fun e V => ∃ a' n' c', e = .returned (.tuple #[.agg #[.slice a' n' c'], .int .i64 0]) ∧ (V.cell? ⟨q5, 0, none⟩ = some (.int .i64 0) ∧ V.cell? ⟨q5, 1, none⟩ = some (.int .i64 0)) ∧ V.cell? ⟨w.heap.size + 1, 0, none⟩ = some (.slice a n c) ∧ V.frozen? ⟨w.heap.size + 1, 0, none⟩ = false ∧ ((V.setCell ⟨w.heap.size + 1, 0, none⟩ (.slice a' n' c')).cell? ⟨q5, 0, none⟩ = some (.int .i64 0) ∧ (V.setCell ⟨w.heap.size + 1, 0, none⟩ (.slice a' n' c')).cell? ⟨q5, 1, none⟩ = some (.int .i64 0)) ∧ Hid (TyS w l a' n' c' (k + 1) (V.setCell ⟨w.heap.size + 1, 0, none⟩ (.slice a' n' c')))) := hid (by
          have hi := rinsert_any a n c (tyC 0 (l.take k)) (by rw [← S3.rt.len, tyC_len, List.length_take]; omega) (1, (k : Int) + 1) (0, 0) 1 (b.toNat : Int) W3.drew S3.drew.rt
          have e1 := ty_ins (l := l.take k) (b := b)
          have e2 : (l.take k).length = k := by rw [List.length_take]; omega
          rw [e2, HTA.out, HTK.out] at e1
          rw [e1] at hi
          refine hi.mono ?_
          rintro e V ⟨a', n', c', rfl, h1, h2, h3⟩
          have S4 := S3.drew.more h3
          have hb5' := (h3.block q5 hq5s).trans hb5
          refine ⟨a', n', c', rfl, ⟨by rw [Lib.cell_of_heap hb5']; rfl, by rw [Lib.cell_of_heap hb5']; rfl⟩, by rw [Lib.cell_of_heap S4.bt]; rfl, Lib.frozen_of_heap S4.bt 0, ?_, hid (S4.store h1 (h2.elim (fun e => by rw [e]; exact S4.ct) id))⟩
          have hb6 := (Below.heap_setCell V ⟨w.heap.size + 1, 0, none⟩ (.slice a' n' c') q5 (by simpa using Ne.symm hqtq)).trans hb5'
          exact ⟨by rw [Lib.cell_of_heap hb6]; rfl, by rw [Lib.cell_of_heap hb6]; rfl⟩)
        have HQ5 := hid hq5
        rw [← hW3, ← hq5]
        clear hW3 hq5 hb5 hB3 hq5s S3 hqtq HTA hkz
        refine wp_region_held_drew (S := fun w' => w'.cell? ⟨q5, 0, none⟩ = some (.int .i64 0) ∧ w'.cell? ⟨q5, 1, none⟩ = some (.int .i64 0)) hmxo hS0 ?_
        intro _
        refine wpAnyH_take (i := 1) (v := .int .i64 k) rfl (by kernel_rfl) (by kernel_rfl) (by kernel_rfl) (fun _ _ _ h => h) (Or.inl ⟨by kernel_rfl, fun w hSw => ?_⟩) hS0 ?_
        · obtain ⟨e1, e2⟩ := hSw; go_simp; try (rw [IntKind.wrap_i64]; omega)
        simp only [Act.put, List.getElem_toArray, List.getElem_cons_succ, List.getElem_cons_zero, List.setIfInBounds_toArray, List.set_cons_zero, List.set_cons_succ]
        refine wpAnyH_take (i := 2) (v := .int .i64 ((k : Int) + 1)) rfl (by kernel_rfl) (by kernel_rfl) (by kernel_rfl) (fun _ _ _ h => h) (Or.inl ⟨by kernel_rfl, fun w hSw => ?_⟩) hS0 ?_
        · obtain ⟨e1, e2⟩ := hSw; go_simp; try (rw [IntKind.wrap_i64]; omega)
        simp only [Act.put, List.getElem_toArray, List.getElem_cons_succ, List.getElem_cons_zero, List.setIfInBounds_toArray, List.set_cons_zero, List.set_cons_succ]
        refine wpAnyH_take (i := 3) (v := .agg #[.int .i64 1, .int .i64 ((k : Int) + 1)]) rfl (by kernel_rfl) (by kernel_rfl) (by kernel_rfl) (fun _ _ _ h => h) (Or.inl ⟨by kernel_rfl, fun w hSw => ?_⟩) hS0 ?_
        · obtain ⟨e1, e2⟩ := hSw; go_simp; try (rw [IntKind.wrap_i64]; omega)
        simp only [Act.put, List.getElem_toArray, List.getElem_cons_succ, List.getElem_cons_zero, List.setIfInBounds_toArray, List.set_cons_zero, List.set_cons_succ]
        refine wpAnyH_take (i := 4) (v := .agg #[.int .i64 0, .int .i64 0]) rfl (by kernel_rfl) (by kernel_rfl) (by kernel_rfl) (fun _ _ _ h => h) (Or.inl ⟨by kernel_rfl, fun w hSw => ?_⟩) hS0 ?_
        · obtain ⟨e1, e2⟩ := hSw; go_simp; try (rw [IntKind.wrap_i64]; omega)
        simp only [Act.put, List.getElem_toArray, List.getElem_cons_succ, List.getElem_cons_zero, List.setIfInBounds_toArray, List.set_cons_zero, List.set_cons_succ]
        refine wpAnyH_take (i := 5) (v := .string ⟨l.toArray⟩) rfl (by kernel_rfl) (by kernel_rfl) (by kernel_rfl) (fun _ _ _ h => h) (Or.inl ⟨by kernel_rfl, fun w hSw => ?_⟩) hS0 ?_
        · obtain ⟨e1, e2⟩ := hSw; go_simp; try (rw [IntKind.wrap_i64]; omega)
        simp only [Act.put, List.getElem_toArray, List.getElem_cons_succ, List.getElem_cons_zero, List.setIfInBounds_toArray, List.set_cons_zero, List.set_cons_succ]
        refine wpAnyH_take (i := 6) (v := .int .i64 k) rfl (by kernel_rfl) (by kernel_rfl) (by kernel_rfl) (fun _ _ _ h => h) (Or.inl ⟨by kernel_rfl, fun w hSw => ?_⟩) hS0 ?_
        · obtain ⟨e1, e2⟩ := hSw; go_simp; try (rw [IntKind.wrap_i64]; omega)
        simp only [Act.put, List.getElem_toArray, List.getElem_cons_succ, List.getElem_cons_zero, List.setIfInBounds_toArray, List.set_cons_zero, List.set_cons_succ]
        refine wpAnyH_take (i := 7) (v := .int .u8 b.toNat) rfl (by kernel_rfl) (by kernel_rfl) (by kernel_rfl) (fun _ _ _ h => h) (Or.inl ⟨by kernel_rfl, fun w hSw => ?_⟩) hS0 ?_
        · obtain ⟨e1, e2⟩ := hSw; go_simp; try (rw [IntKind.wrap_i64]; omega)
        simp only [Act.put, List.getElem_toArray, List.getElem_cons_succ, List.getElem_cons_zero, List.setIfInBounds_toArray, List.set_cons_zero, List.set_cons_succ]
        refine wpAnyH_take (i := 8) (v := .int .i64 b.toNat) rfl (by kernel_rfl) (by kernel_rfl) (by kernel_rfl) (fun _ _ _ h => h) (Or.inl ⟨by kernel_rfl, fun w hSw => ?_⟩) hS0 ?_
        · obtain ⟨e1, e2⟩ := hSw; go_simp; try (rw [IntKind.wrap_i64]; omega)
        simp only [Act.put, List.getElem_toArray, List.getElem_cons_succ, List.getElem_cons_zero, List.setIfInBounds_toArray, List.set_cons_zero, List.set_cons_succ]
        refine wpAnyH_ready (rs := [0]) (by kernel_rfl) (by simp) ?_
        refine AllReadyH.cons rfl (fun K hK => ?_) AllReadyH.nil
        go_simp
        refine hK.out _ _ hS0 (fun _ => ?_)
        clear hK K
        refine wpAnyH_ready (rs := [9]) (by kernel_rfl) (by simp) ?_
        refine AllReadyH.cons rfl (fun K hK => ?_) AllReadyH.nil
        go_simp
        refine HINS.out.mono ?_
        rintro e V4 ⟨a', n', c', rfl, hS4, hc4, hf4, hS5, HS5⟩
        refine hK.out _ _ hS4 (fun _ => ?_)
        clear hK K
        refine wpAnyH_take (i := 10) (v := .tuple #[.agg #[.slice a' n' c'], .int .i64 0]) rfl (by kernel_rfl) (by kernel_rfl) (by kernel_rfl) (fun _ _ _ h => h) (Or.inl ⟨by kernel_rfl, fun w hSw => ?_⟩) hS4 ?_
        · obtain ⟨e1, e2⟩ := hSw; go_simp; try (rw [IntKind.wrap_i64]; omega)
        simp only [Act.put, List.getElem_toArray, List.getElem_cons_succ, List.getElem_cons_zero, List.setIfInBounds_toArray, List.set_cons_zero, List.set_cons_succ]
        refine wpAnyH_take (i := 11) (v := .agg #[.slice a' n' c']) rfl (by kernel_rfl) (by kernel_rfl) (by kernel_rfl) (fun _ _ _ h => h) (Or.inl ⟨by kernel_rfl, fun w hSw => ?_⟩) hS4 ?_
        · obtain ⟨e1, e2⟩ := hSw; go_simp; try (rw [IntKind.wrap_i64]; omega)
        simp only [Act.put, List.getElem_toArray, List.getElem_cons_succ, List.getElem_cons_zero, List.setIfInBounds_toArray, List.set_cons_zero, List.set_cons_succ]
        refine wpAnyH_take (i := 12) (v := .int .i64 0) rfl (by kernel_rfl) (by kernel_rfl) (by kernel_rfl) (fun _ _ _ h => h) (Or.inl ⟨by kernel_rfl, fun w hSw => ?_⟩) hS4 ?_
        · obtain ⟨e1, e2⟩ := hSw; go_simp; try (rw [IntKind.wrap_i64]; omega)
        simp only [Act.put, List.getElem_toArray, List.getElem_cons_succ, List.getElem_cons_zero, List.setIfInBounds_toArray, List.set_cons_zero, List.set_cons_succ]
        refine wpAnyH_ready (rs := [13]) (by kernel_rfl) (by simp) ?_
        refine AllReadyH.cons rfl (fun K hK => ?_) AllReadyH.nil
        go_simp
        refine hK.out _ _ hS5 (fun _ => ?_)
        clear hK K
        refine wpAnyH_done (by kernel_rfl) ?_ _
        clear HINS hS0 hS4 hc4 hf4 hS5 hc3
        go_wp2
        exact ⟨⟨k + 1, by omega, by simp, _, _, _, HS5⟩, by simp [intOf]; omega⟩
      · have HTA : Hid (tyAt k = (1, (k : Int))) := hid (by unfold tyAt; rw [if_neg hz])
        have hkL : (k : Int) < 100 := by omega
        have hkz : (0 : Int) < (k : Int) := by omega
        have hb3 : decide ((0 : Int) < (k : Int)) = true := by simp; omega
        have HZ := hid hz
        clear hz
        go_upto_region 8 with fail
        obtain ⟨W3, hW3⟩ : ∃ W3, W3 = wr.alloc (.cells #[.int .i64 1, .int .i64 k] 24) := ⟨_, rfl⟩
        obtain ⟨q5, hq5⟩ : ∃ q5, q5 = wr.heap.size := ⟨_, rfl⟩
        have hb5 : W3.heap[q5]? = some (.cells #[.int .i64 1, .int .i64 k] 24 (0, 0)) := by rw [hW3, hq5]; exact World.alloc_heap_new wr _
        have hB3 : Below wr.heap.size wr W3 := by rw [hW3]; exact (Below.refl _ wr).alloc (Nat.le_refl _) _
        have hq5s : q5 < W3.heap.size := (Array.getElem?_eq_some_iff.1 hb5).1
        have S3 := HST.out.more hB3
        have hqtq : w.heap.size + 1 ≠ q5 := by have := (Array.getElem?_eq_some_iff.1 HST.out.bt).1; omega
        have hc3 : W3.drew.cell? ⟨w.heap.size + 1, 0, none⟩ = some (.slice a n c) := by show W3.cell? _ = _; rw [Lib.cell_of_heap S3.bt]; rfl
        have hS0 : W3.drew.cell? ⟨q5, 0, none⟩ = some (.int .i64 1) ∧ W3.drew.cell? ⟨q5, 1, none⟩ = some (.int .i64 k) := ⟨by show W3.cell? _ = _; rw [Lib.cell_of_heap hb5]; rfl, by show W3.cell? _ = _; rw [Lib.cell_of_heap hb5]; rfl⟩
        have HINS : Hid (Calls Tryz.prog 36 #[.agg #[.slice a n c], .agg #[.int .i64 1, .int .i64 ((k : Int) + 1)], .agg #[.int .i64 1, .int .i64 k], .int .i64 1, .int .i64 b.toNat] W3.drew fun e V => ∃ a' n' c', e = .returned (.tuple #[.agg #[.slice a' n' c'], .int .i64 0]) ∧ (V.cell? ⟨q5, 0, none⟩ = some (.int .i64 1) ∧ V.cell? ⟨q5, 1, none⟩ = some (.int .i64 k)) ∧ V.cell? ⟨w.heap.size + 1, 0, none⟩ = some (.slice a n c) ∧ V.frozen? ⟨w.heap.size + 1, 0, none⟩ = false ∧ ((V.setCell ⟨w.heap.size + 1, 0, none⟩ (.slice a' n' c')).cell? ⟨q5, 0, none⟩ = some (.int .i64 1) ∧ (V.setCell ⟨w.heap.size + 1, 0, none⟩ (.slice a' n' c')).cell? ⟨q5, 1, none⟩ = some (.int .i64 k)) ∧ Hid (TyS w l a' n' c' (k + 1) (V.setCell ⟨w.heap.size + 1, 0, none⟩ (.slice a' n' c')))) := hid (by
          have hi := rinsert_any a n c (tyC 0 (l.take k)) (by rw [← S3.rt.len, tyC_len, List.length_take]; omega) (1, (k : Int) + 1) (1, k) 1 (b.toNat : Int) W3.drew S3.drew.rt
          have e1 := ty_ins (l := l.take k) (b := b)
          have e2 : (l.take k).length = k := by rw [List.length_take]; omega
          rw [e2, HTA.out, HTK.out] at e1
          rw [e1] at hi
          refine hi.mono ?_
          rintro e V ⟨a', n', c', rfl, h1, h2, h3⟩
          have S4 := S3.drew.more h3
          have hb5' := (h3.block q5 hq5s).trans hb5
          refine ⟨a', n', c', rfl, ⟨by rw [Lib.cell_of_heap hb5']; rfl, by rw [Lib.cell_of_heap hb5']; rfl⟩, by rw [Lib.cell_of_heap S4.bt]; rfl, Lib.frozen_of_heap S4.bt 0, ?_, hid (S4.store h1 (h2.elim (fun e => by rw [e]; exact S4.ct) id))⟩
          have hb6 := (Below.heap_setCell V ⟨w.heap.size + 1, 0, none⟩ (.slice a' n' c') q5 (by simpa using Ne.symm hqtq)).trans hb5'
          exact ⟨by rw [Lib.cell_of_heap hb6]; rfl, by rw [Lib.cell_of_heap hb6]; rfl⟩)
        have HQ5 := hid hq5
        rw [← hW3, ← hq5]
        clear hW3 hq5 hb5 hB3 hq5s S3 hqtq HTA hkz
        refine wp_region_held_drew (S := fun w' => w'.cell? ⟨q5, 0, none⟩ = some (.int .i64 1) ∧ w'.cell? ⟨q5, 1, none⟩ = some (.int .i64 k)) hmxo hS0 ?_
        intro _
        refine wpAnyH_take (i := 1) (v := .int .i64 k) rfl (by kernel_rfl) (by kernel_rfl) (by kernel_rfl) (fun _ _ _ h => h) (Or.inl ⟨by kernel_rfl, fun w hSw => ?_⟩) hS0 ?_
        · obtain ⟨e1, e2⟩ := hSw; go_simp; try (rw [IntKind.wrap_i64]; omega)
        simp only [Act.put, List.getElem_toArray, List.getElem_cons_succ, List.getElem_cons_zero, List.setIfInBounds_toArray, List.set_cons_zero, List.set_cons_succ]
        refine wpAnyH_take (i := 2) (v := .int .i64 ((k : Int) + 1)) rfl (by kernel_rfl) (by kernel_rfl) (by kernel_rfl) (fun _ _ _ h => h) (Or.inl ⟨by kernel_rfl, fun w hSw => ?_⟩) hS0 ?_
        · obtain ⟨e1, e2⟩ := hSw; go_simp; try (rw [IntKind.wrap_i64]; omega)
        simp only [Act.put, List.getElem_toArray, List.getElem_cons_succ, List.getElem_cons_zero, List.setIfInBounds_toArray, List.set_cons_zero, List.set_cons_succ]
        refine wpAnyH_take (i := 3) (v := .agg #[.int .i64 1, .int .i64 ((k : Int) + 1)]) rfl (by kernel_rfl) (by kernel_rfl) (by kernel_rfl) (fun _ _ _ h => h) (Or.inl ⟨by kernel_rfl, fun w hSw => ?_⟩) hS0 ?_
        · obtain ⟨e1, e2⟩ := hSw; go_simp; try (rw [IntKind.wrap_i64]; omega)
        simp only [Act.put, List.getElem_toArray, List.getElem_cons_succ, List.getElem_cons_zero, List.setIfInBounds_toArray, List.set_cons_zero, List.set_cons_succ]
        refine wpAnyH_take (i := 4) (v := .agg #[.int .i64 1, .int .i64 k]) rfl (by kernel_rfl) (by kernel_rfl) (by kernel_rfl) (fun _ _ _ h => h) (Or.inl ⟨by kernel_rfl, fun w hSw => ?_⟩) hS0 ?_
        · obtain ⟨e1, e2⟩ := hSw; go_simp; try (rw [IntKind.wrap_i64]; omega)
        simp only [Act.put, List.getElem_toArray, List.getElem_cons_succ, List.getElem_cons_zero, List.setIfInBounds_toArray, List.set_cons_zero, List.set_cons_succ]
        refine wpAnyH_take (i := 5) (v := .string ⟨l.toArray⟩) rfl (by kernel_rfl) (by kernel_rfl) (by kernel_rfl) (fun _ _ _ h => h) (Or.inl ⟨by kernel_rfl, fun w hSw => ?_⟩) hS0 ?_
        · obtain ⟨e1, e2⟩ := hSw; go_simp; try (rw [IntKind.wrap_i64]; omega)
        simp only [Act.put, List.getElem_toArray, List.getElem_cons_succ, List.getElem_cons_zero, List.setIfInBounds_toArray, List.set_cons_zero, List.set_cons_succ]
        refine wpAnyH_take (i := 6) (v := .int .i64 k) rfl (by kernel_rfl) (by kernel_rfl) (by kernel_rfl) (fun _ _ _ h => h) (Or.inl ⟨by kernel_rfl, fun w hSw => ?_⟩) hS0 ?_
        · obtain ⟨e1, e2⟩ := hSw; go_simp; try (rw [IntKind.wrap_i64]; omega)
        simp only [Act.put, List.getElem_toArray, List.getElem_cons_succ, List.getElem_cons_zero, List.setIfInBounds_toArray, List.set_cons_zero, List.set_cons_succ]
        refine wpAnyH_take (i := 7) (v := .int .u8 b.toNat) rfl (by kernel_rfl) (by kernel_rfl) (by kernel_rfl) (fun _ _ _ h => h) (Or.inl ⟨by kernel_rfl, fun w hSw => ?_⟩) hS0 ?_
        · obtain ⟨e1, e2⟩ := hSw; go_simp; try (rw [IntKind.wrap_i64]; omega)
        simp only [Act.put, List.getElem_toArray, List.getElem_cons_succ, List.getElem_cons_zero, List.setIfInBounds_toArray, List.set_cons_zero, List.set_cons_succ]
        refine wpAnyH_take (i := 8) (v := .int .i64 b.toNat) rfl (by kernel_rfl) (by kernel_rfl) (by kernel_rfl) (fun _ _ _ h => h) (Or.inl ⟨by kernel_rfl, fun w hSw => ?_⟩) hS0 ?_
        · obtain ⟨e1, e2⟩ := hSw; go_simp; try (rw [IntKind.wrap_i64]; omega)
        simp only [Act.put, List.getElem_toArray, List.getElem_cons_succ, List.getElem_cons_zero, List.setIfInBounds_toArray, List.set_cons_zero, List.set_cons_succ]
        refine wpAnyH_ready (rs := [0]) (by kernel_rfl) (by simp) ?_
        refine AllReadyH.cons rfl (fun K hK => ?_) AllReadyH.nil
        go_simp
        refine hK.out _ _ hS0 (fun _ => ?_)
        clear hK K
        refine wpAnyH_ready (rs := [9]) (by kernel_rfl) (by simp) ?_
        refine AllReadyH.cons rfl (fun K hK => ?_) AllReadyH.nil
        go_simp
        refine HINS.out.mono ?_
        rintro e V4 ⟨a', n', c', rfl, hS4, hc4, hf4, hS5, HS5⟩
        refine hK.out _ _ hS4 (fun _ => ?_)
        clear hK K
        refine wpAnyH_take (i := 10) (v := .tuple #[.agg #[.slice a' n' c'], .int .i64 0]) rfl (by kernel_rfl) (by kernel_rfl) (by kernel_rfl) (fun _ _ _ h => h) (Or.inl ⟨by kernel_rfl, fun w hSw => ?_⟩) hS4 ?_
        · obtain ⟨e1, e2⟩ := hSw; go_simp; try (rw [IntKind.wrap_i64]; omega)
        simp only [Act.put, List.getElem_toArray, List.getElem_cons_succ, List.getElem_cons_zero, List.setIfInBounds_toArray, List.set_cons_zero, List.set_cons_succ]
        refine wpAnyH_take (i := 11) (v := .agg #[.slice a' n' c']) rfl (by kernel_rfl) (by kernel_rfl) (by kernel_rfl) (fun _ _ _ h => h) (Or.inl ⟨by kernel_rfl, fun w hSw => ?_⟩) hS4 ?_
        · obtain ⟨e1, e2⟩ := hSw; go_simp; try (rw [IntKind.wrap_i64]; omega)
        simp only [Act.put, List.getElem_toArray, List.getElem_cons_succ, List.getElem_cons_zero, List.setIfInBounds_toArray, List.set_cons_zero, List.set_cons_succ]
        refine wpAnyH_take (i := 12) (v := .int .i64 0) rfl (by kernel_rfl) (by kernel_rfl) (by kernel_rfl) (fun _ _ _ h => h) (Or.inl ⟨by kernel_rfl, fun w hSw => ?_⟩) hS4 ?_
        · obtain ⟨e1, e2⟩ := hSw; go_simp; try (rw [IntKind.wrap_i64]; omega)
        simp only [Act.put, List.getElem_toArray, List.getElem_cons_succ, List.getElem_cons_zero, List.setIfInBounds_toArray, List.set_cons_zero, List.set_cons_succ]
        refine wpAnyH_ready (rs := [13]) (by kernel_rfl) (by simp) ?_
        refine AllReadyH.cons rfl (fun K hK => ?_) AllReadyH.nil
        go_simp
        refine hK.out _ _ hS5 (fun _ => ?_)
        clear hK K
        refine wpAnyH_done (by kernel_rfl) ?_ _
        clear HINS hS0 hS4 hc4 hf4 hS5 hc3
        go_wp2
        exact ⟨⟨k + 1, by omega, by simp, _, _, _, HS5⟩, by simp [intOf]; omega⟩
    · obtain rfl : k = l.length := by omega
      have c0 : wr.cell? ⟨w.heap.size + 1, 0, none⟩ = some (.slice a n c) := by rw [Lib.cell_of_heap HST.out.bt]; rfl
      have c1 : wr.cell? ⟨w.heap.size, 0, none⟩ = some (.slice none 0 0) := by rw [Lib.cell_of_heap HST.out.br]; rfl
      have c2 : wr.frozen? ⟨w.heap.size, 0, none⟩ = false := Lib.frozen_of_heap HST.out.br 0
      go_wp2_with fail
      obtain ⟨q0, q1, q2, q3⟩ := HST.out.fin
      rw [List.take_length] at q1
      refine bodyPost_ret (v := .agg #[.slice a n c]) (by simp [results, Tryz.results24, go_sem, q0]) rfl ⟨a, n, c, rfl, q1, q2, q3⟩
end

section
open Go.RowKit Go.Sort Go.Maps

/-- Where each dot stands first. -/
def pl (L : List Dt) (d : Dt) : Option Int := if d ∈ L then some (L.idxOf d : Int) else Option.none
end

section
set_option linter.unusedVariables false
open Go.RowKit

/-- A tree of these moves; the blocks of which P holds are none of its own. -/
def TP (W : World) (t : Nat) (l : List Mv) (P : Nat → Prop) : Prop := ∃ A, TT W t l A ∧ ∀ j, P j → ¬ A j ∧ j < W.heap.size

/-- Blocks of which P holds are as they were. -/
structure KP (P : Nat → Prop) (W W' : World) : Prop where
  size : W.heap.size ≤ W'.heap.size
  keep : ∀ j, P j → W'.heap[j]? = W.heap[j]?
  sm : Sm W W'

theorem KP.refl (P : Nat → Prop) (W : World) : KP P W W := ⟨Nat.le_refl _, fun _ _ => rfl, Sm.refl _⟩
theorem KP.trans {P : Nat → Prop} {a b c : World} (h : KP P a b) (k : KP P b c) : KP P a c := ⟨Nat.le_trans h.size k.size, fun j hj => (k.keep j hj).trans (h.keep j hj), h.sm.trans k.sm⟩
theorem KP.mono {P Q : Nat → Prop} {a b : World} (h : KP P a b) (hq : ∀ j, Q j → P j) : KP Q a b := ⟨h.size, fun j hj => h.keep j (hq j hj), h.sm⟩
theorem KP.below {P : Nat → Prop} {a b : World} (h : Below a.heap.size a b) (hp : ∀ j, P j → j < a.heap.size) : KP P a b := ⟨h.size, fun j hj => h.block j (hp j hj), Sm.b h⟩
theorem KP.bel {a b : World} {n : Nat} (h : KP (fun j => j < n) a b) : Below n a b := ⟨h.sm.1, h.sm.2.1, h.sm.2.2, h.size, fun j hj => h.keep j hj⟩
theorem KP.drew {P : Nat → Prop} {a b : World} (h : KP P a b) : KP P a b.drew := ⟨h.size, h.keep, h.sm⟩

theorem TP.lt {W : World} {t : Nat} {l : List Mv} {P : Nat → Prop} (h : TP W t l P) : ∀ j, P j → j < W.heap.size := by
  obtain ⟨A, _, hA⟩ := h
  exact fun j hj => (hA j hj).2
theorem TP.log {W : World} {t : Nat} {l : List Mv} {P : Nat → Prop} (h : TP W t l P) : Lg l ∧ (∀ m ∈ l, Dw m.id ∧ Dw m.block ∧ Dw m.parent) ∧ l.length ≤ 1000 := by
  obtain ⟨A, h, _⟩ := h
  exact h.log
theorem TP.mono {W : World} {t : Nat} {l : List Mv} {P Q : Nat → Prop} (h : TP W t l P) (hq : ∀ j, Q j → P j) : TP W t l Q := by
  obtain ⟨A, h1, h2⟩ := h
  exact ⟨A, h1, fun j hj => h2 j (hq j hj)⟩

/-- Blocks that are none of the tree's may turn, and there may be new ones. -/
theorem TP.turn {W V : World} {t : Nat} {l : List Mv} {P Q : Nat → Prop} (h : TP W t l P) (hz : W.heap.size ≤ V.heap.size) (hk : ∀ j, j < W.heap.size → ¬ P j → V.heap[j]? = W.heap[j]?) (hq : ∀ j, Q j → P j ∨ (W.heap.size ≤ j ∧ j < V.heap.size)) : TP V t l Q := by
  obtain ⟨A, h1, h2⟩ := h
  refine ⟨A, h1.same hz (fun j hj => hk j (h1.lt j hj) (fun e => (h2 j e).1 hj)), fun j hj => ?_⟩
  rcases hq j hj with e | e
  · exact ⟨(h2 j e).1, Nat.lt_of_lt_of_le (h2 j e).2 hz⟩
  · exact ⟨fun e' => absurd (h1.lt j e') (by omega), e.2⟩
theorem TP.below {W V : World} {t : Nat} {l : List Mv} {P : Nat → Prop} (h : TP W t l P) (hb : Below W.heap.size W V) : TP V t l P := h.turn hb.size (fun j hj _ => hb.block j hj) (fun j hj => Or.inl hj)
theorem TP.alloc {W : World} {t : Nat} {l : List Mv} {P : Nat → Prop} (h : TP W t l P) (o : Obj) : TP (W.alloc o) t l (fun j => P j ∨ j = W.heap.size) :=
  h.turn (by simp) (fun j hj _ => Below.heap_alloc W o j hj) (fun j hj => hj.imp id (fun e => by subst e; simp))
theorem TP.drew {W : World} {t : Nat} {l : List Mv} {P : Nat → Prop} (h : TP W t l P) : TP W.drew t l P := h.turn (Nat.le_refl _) (fun j _ _ => rfl) (fun j hj => Or.inl hj)

theorem foreign {W W' : World} {A A' : Nat → Prop} (h : KA W W' A A') {j : Nat} (hj : ¬ A j ∧ j < W.heap.size) : ¬ A' j ∧ j < W'.heap.size :=
  ⟨fun e => by
    rcases h.new j e with e | e
    · exact hj.1 e
    · omega, Nat.lt_of_lt_of_le hj.2 h.size⟩

theorem TP.next {W W' : World} {t : Nat} {l' : List Mv} {A A' P : Nat → Prop} (hA : ∀ j, P j → ¬ A j ∧ j < W.heap.size) (h2 : TT W' t l' A') (h3 : KA W W' A A') : TP W' t l' P ∧ KP P W W' :=
  ⟨⟨A', h2, fun j hj => foreign h3 (hA j hj)⟩, ⟨h3.size, fun j hj => h3.keep j (hA j hj).2 (hA j hj).1, h3.sm⟩⟩

theorem new_tp (w : World) : Calls Tryz.prog 27 #[] w fun e w' => e = .returned (.pointer (some ⟨w.heap.size, 0, none⟩)) ∧ TP w' w.heap.size [] (fun j => j < w.heap.size) ∧ Below w.heap.size w w' :=
  (new_tt w).mono (fun e w' h => ⟨h.1, ⟨_, h.2.1, fun j hj => ⟨by omega, Nat.lt_of_lt_of_le hj h.2.2.size⟩⟩, h.2.2⟩)

theorem move_tp {t : Nat} {l : List Mv} {P : Nat → Prop} (m : Mv) {W : World} (h : TP W t l P) (hd : Dw m.id ∧ Dw m.block ∧ Dw m.parent) (hs : l.length + 1 ≤ 1000) : Calls Tryz.prog 28 #[.pointer (some ⟨t, 0, none⟩), dv m.id, .int .i64 m.time, dv m.block, dv m.parent, .string m.key] W fun e W' => e = .returned (.int .i64 (mvE l m)) ∧ TP W' t (mvL l m) P ∧ KP P W W' := by
  obtain ⟨A, hT, hA⟩ := h
  refine (move_any t l A m W hT hd hs).mono ?_
  rintro e W' ⟨e1, A', h2, h3⟩
  exact ⟨e1, TP.next hA h2 h3⟩
end

section
set_option linter.unusedVariables false

/-- The blocks under one, in their order. -/
def kidD (S : List Sp) (p : Dt) : List Dt := (kidS S p).map Sp.b

/-- The lines under a block: which, how deep, its text. -/
def undF (S : List Sp) (σ : Dt → List UInt8) : Nat → Dt → Nat → List (Dt × Nat × List UInt8)
  | 0, _, _ => []
  | f + 1, p, d => (kidD S p).flatMap (fun b => (b, d, σ b) :: undF S σ f b (d + 1))

/-- How many blocks are deeper. -/
def bel (S : List Sp) (r : Dt → Nat) (p : Dt) : Nat := S.countP (fun s => decide (r p < r s.b))

theorem bel_le (S : List Sp) (r : Dt → Nat) (p : Dt) : bel S r p ≤ S.length := List.countP_le_length

theorem count_lt {α : Type} (P Q : α → Bool) : ∀ (l : List α), (∀ x ∈ l, P x = true → Q x = true) → ∀ s ∈ l, Q s = true → P s = false → l.countP P < l.countP Q
  | [], _, s, hs, _, _ => by simp at hs
  | a :: l, h, s, hs, hq, hp => by
    have hle : l.countP P ≤ l.countP Q := by
      have : ∀ l : List α, (∀ x ∈ l, P x = true → Q x = true) → l.countP P ≤ l.countP Q := by
        intro l
        induction l with
        | nil => intro _; simp
        | cons b l ih =>
          intro h
          have h1 := ih (fun x hx => h x (by simp [hx]))
          have h2 := h b (by simp)
          rw [List.countP_cons, List.countP_cons]
          by_cases e : P b = true
          · simp [e, h2 e]; exact h1
          · simp [e]; omega
      exact this l (fun x hx => h x (by simp [hx]))
    rw [List.countP_cons, List.countP_cons]
    rcases List.mem_cons.1 hs with rfl | hs
    · simp [hq, hp]; omega
    · have ih := count_lt P Q l (fun x hx => h x (by simp [hx])) s hs hq hp
      have h2 := h a (by simp)
      by_cases e : P a = true
      · simp [e, h2 e]; exact ih
      · simp [e]; omega

theorem bel_lt {S : List Sp} {r : Dt → Nat} (h : Tk S r) {s : Sp} (hs : s ∈ S) : bel S r s.b < bel S r s.p := by
  have hr := h.rk s hs
  refine count_lt _ _ S (fun x _ hx => ?_) s hs (by simpa using hr) (by simp)
  simp at hx ⊢
  omega

theorem kidD_mem {S : List Sp} (h : (S.map Sp.b).Nodup) {p b : Dt} : b ∈ kidD S p ↔ ∃ k, lk S b = some (p, k) := by
  unfold kidD
  rw [List.mem_map]
  constructor
  · rintro ⟨s, hs, rfl⟩
    obtain ⟨h1, rfl⟩ := (kidS_mem h).1 hs
    exact ⟨s.k, lk_mem h h1⟩
  · rintro ⟨k, hk⟩
    obtain ⟨s, hs, rfl, e⟩ := lk_some hk
    exact ⟨s, (kidS_mem h).2 ⟨hs, congrArg Prod.fst e⟩, rfl⟩

theorem kidD_bel {S : List Sp} {r : Dt → Nat} (h : Tk S r) {p b : Dt} (hb : b ∈ kidD S p) : bel S r b < bel S r p ∧ r p < r b ∧ b ∈ S.map Sp.b := by
  obtain ⟨k, hk⟩ := (kidD_mem h.nd).1 hb
  obtain ⟨s, hs, rfl, e⟩ := lk_some hk
  have e1 : s.p = p := congrArg Prod.fst e
  subst e1
  exact ⟨bel_lt h hs, h.rk s hs, List.mem_map.2 ⟨s, hs, rfl⟩⟩

theorem kidD_pth {S : List Sp} {r : Dt → Nat} (h : Tk S r) {p b : Dt} (hb : b ∈ kidD S p) : pth S b = p :: pth S p := by
  obtain ⟨k, hk⟩ := (kidD_mem h.nd).1 hb
  exact h.pth_some hk

theorem kidD_nodup {S : List Sp} (h : (S.map Sp.b).Nodup) (p : Dt) : (kidD S p).Nodup := kidS_nodup h p

theorem pth_cases {S : List Sp} {r : Dt → Nat} (h : Tk S r) (x : Dt) : pth S x = [] ∨ ∃ q k, lk S x = some (q, k) ∧ pth S x = q :: pth S q ∧ r q < r x := by
  cases e : lk S x with
  | none => exact Or.inl (Tk.pth_none e)
  | some q =>
    obtain ⟨s, hs, rfl, rfl⟩ := lk_some e
    exact Or.inr ⟨s.p, s.k, rfl, h.pth_some e, h.rk s hs⟩

theorem pth_sub {S : List Sp} {r : Dt → Nat} (h : Tk S r) : ∀ (n : Nat) (x b : Dt), r x ≤ n → b ∈ pth S x → ∀ y ∈ pth S b, y ∈ pth S x := by
  intro n
  induction n with
  | zero =>
    intro x b hn hb y hy
    rcases pth_cases h x with e | ⟨q, k, _, e, hr⟩
    · rw [e] at hb; simp at hb
    · omega
  | succ n ih =>
    intro x b hn hb y hy
    rcases pth_cases h x with e | ⟨q, k, _, e, hr⟩
    · rw [e] at hb; simp at hb
    · rw [e] at hb ⊢
      rcases List.mem_cons.1 hb with rfl | hb
      · exact List.mem_cons_of_mem _ hy
      · exact List.mem_cons_of_mem _ (ih q b (by omega) hb y hy)

theorem pth_lt {S : List Sp} {r : Dt → Nat} (h : Tk S r) {x y : Dt} (hy : y ∈ pth S x) : r y < r x := h.pth_rk _ _ y hy

/-- Of two that lie under one, at most one is above a third one. -/
theorem one_kid {S : List Sp} {r : Dt → Nat} (h : Tk S r) {p : Dt} {b c : Dt} (hb : b ∈ kidD S p) (hc : c ∈ kidD S p) : ∀ (n : Nat) (x : Dt), r x ≤ n → (x = b ∨ b ∈ pth S x) → (x = c ∨ c ∈ pth S x) → b = c := by
  have key : ∀ x y, x ∈ kidD S p → y ∈ kidD S p → y ∉ pth S x := by
    intro x y hx hy e
    rw [kidD_pth h hx] at e
    have h1 := (kidD_bel h hy).2.1
    rcases List.mem_cons.1 e with rfl | e
    · omega
    · have := pth_lt h e
      omega
  intro n
  induction n with
  | zero =>
    intro x hn h1 h2
    have hno : ∀ y, y ∉ pth S x := fun y hy => by have := pth_lt h hy; omega
    rcases h1 with rfl | h1
    · rcases h2 with rfl | h2
      · rfl
      · exact absurd h2 (hno _)
    · exact absurd h1 (hno _)
  | succ n ih =>
    intro x hn h1 h2
    rcases h1 with rfl | h1
    · rcases h2 with rfl | h2
      · rfl
      · exact absurd h2 (key _ _ hb hc)
    · rcases h2 with rfl | h2
      · exact absurd h1 (key _ _ hc hb)
      · rcases pth_cases h x with e | ⟨q, k, _, e, hr⟩
        · rw [e] at h1; simp at h1
        · rw [e] at h1 h2
          exact ih q (by omega) ((List.mem_cons.1 h1).imp Eq.symm id) ((List.mem_cons.1 h2).imp Eq.symm id)

theorem und_mem_succ {S : List Sp} {σ : Dt → List UInt8} {f : Nat} {p : Dt} {d : Nat} {y : Dt × Nat × List UInt8} : y ∈ undF S σ (f + 1) p d ↔ ∃ b ∈ kidD S p, y = (b, d, σ b) ∨ y ∈ undF S σ f b (d + 1) := by
  show y ∈ (kidD S p).flatMap _ ↔ _
  rw [List.mem_flatMap]
  constructor
  · rintro ⟨b, hb, hy⟩
    exact ⟨b, hb, List.mem_cons.1 hy⟩
  · rintro ⟨b, hb, hy⟩
    exact ⟨b, hb, List.mem_cons.2 hy⟩

/-- What is told of a line: its text, that it lies under p, how deep. -/
theorem und_facts {S : List Sp} {r : Dt → Nat} (h : Tk S r) (σ : Dt → List UInt8) : ∀ (f : Nat) (p : Dt) (d : Nat), ∀ y ∈ undF S σ f p d, y.2.2 = σ y.1 ∧ p ∈ pth S y.1 ∧ y.1 ∈ S.map Sp.b ∧ d ≤ y.2.1 ∧ (pth S y.1).length = (pth S p).length + (y.2.1 - d) + 1
  | 0, _, _, y, hy => by simp [undF] at hy
  | f + 1, p, d, y, hy => by
    obtain ⟨b, hb, hy⟩ := und_mem_succ.1 hy
    have hp := kidD_pth h hb
    rcases hy with rfl | hy
    · refine ⟨rfl, ?_, (kidD_bel h hb).2.2, Nat.le_refl _, ?_⟩
      · show p ∈ pth S b; rw [hp]; simp
      · show (pth S b).length = _; rw [hp]; simp
    · obtain ⟨h1, h2, h3, h4, h5⟩ := und_facts h σ f b (d + 1) y hy
      refine ⟨h1, pth_sub h _ _ _ (Nat.le_refl _) h2 p (by rw [hp]; simp), h3, by omega, ?_⟩
      rw [h5, hp, List.length_cons]
      omega

theorem und_nodup {S : List Sp} {r : Dt → Nat} (h : Tk S r) (σ : Dt → List UInt8) : ∀ (f : Nat) (p : Dt) (d : Nat), ((undF S σ f p d).map (·.1)).Nodup
  | 0, _, _ => List.nodup_nil
  | f + 1, p, d => by
    show (((kidD S p).flatMap _).map _).Nodup
    rw [List.map_flatMap]
    unfold List.Nodup
    rw [List.pairwise_flatMap]
    refine ⟨fun b hb => ?_, ?_⟩
    · rw [List.map_cons]
      show List.Nodup _
      rw [List.nodup_cons]
      refine ⟨fun hm => ?_, und_nodup h σ f b (d + 1)⟩
      obtain ⟨y, hy, e⟩ := List.mem_map.1 hm
      have h2 := pth_lt h (und_facts h σ f b (d + 1) y hy).2.1
      rw [e] at h2
      exact Nat.lt_irrefl _ h2
    · have hsib : ∀ b ∈ kidD S p, ∀ c ∈ kidD S p, b ≠ c → ∀ x ∈ List.map (·.1) ((b, d, σ b) :: undF S σ f b (d + 1)), ∀ y ∈ List.map (·.1) ((c, d, σ c) :: undF S σ f c (d + 1)), x ≠ y := by
        intro b hb c hc hne x hx y hy e
        subst e
        have up : ∀ b ∈ kidD S p, x ∈ List.map (·.1) ((b, d, σ b) :: undF S σ f b (d + 1)) → x = b ∨ b ∈ pth S x := by
          intro b hb hx
          obtain ⟨z, hz, rfl⟩ := List.mem_map.1 hx
          rcases List.mem_cons.1 hz with rfl | hz
          · exact Or.inl rfl
          · exact Or.inr (und_facts h σ f b (d + 1) z hz).2.1
        exact hne (one_kid h hb hc _ x (Nat.le_refl _) (up b hb hx) (up c hc hy))
      have hnd := kidD_nodup h.nd p
      unfold List.Nodup at hnd
      exact hnd.imp_of_mem (fun {a b} ha hb hne => hsib a ha b hb hne)

theorem und_len {S : List Sp} {r : Dt → Nat} (h : Tk S r) (σ : Dt → List UInt8) (f : Nat) (p : Dt) (d : Nat) : (undF S σ f p d).length ≤ S.length := by
  have := List.Nodup.length_le_of_subset (und_nodup h σ f p d) (l₂ := S.map Sp.b) (fun x hx => by
    obtain ⟨y, hy, rfl⟩ := List.mem_map.1 hx
    exact (und_facts h σ f p d y hy).2.2.1)
  simpa using this
end
end Go.Proofs.YtnmdcdphpcpojaaGreatDoor
