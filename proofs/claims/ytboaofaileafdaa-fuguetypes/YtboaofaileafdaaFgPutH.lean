/- Insert: a character that may be put in. -/
import Derived.Test.YtboaofaileafdaaFgPutA
set_option linter.unusedVariables false
namespace Go.Proofs.Ytboaofaileafdaa
open Go.RowKit Go.Maps
open Go.Sort (grow)

/-- A text's map is made. -/
theorem TX.mapped {w : World} {t : Nat} {G : Dt → Option Nat} {n : Nat} {R : Dt → Bool → Value} (h : TX w t [] G G n R) : TX ((w.alloc (.map #[] 0)).setCell ⟨t, 0, none⟩ (.map (some w.heap.size))) t [] G G 0 R ∧ FrW t w ((w.alloc (.map #[] 0)).setCell ⟨t, 0, none⟩ (.map (some w.heap.size))) ∧ ((w.alloc (.map #[] 0)).setCell ⟨t, 0, none⟩ (.map (some w.heap.size))).heap[t]? = some (.cells (txCells (.map (some w.heap.size)) (R (0, 0) false) (R (0, 0) true)) 71 (0, 0)) ∧ PM ((w.alloc (.map #[] 0)).setCell ⟨t, 0, none⟩ (.map (some w.heap.size))) w.heap.size 0 G := by
  have hlt := h.lt
  have hb : RowKit.Below w.heap.size w (w.alloc (.map #[] 0)) := ((Far.refl w).alloc _).below
  have h1 := h.below hb
  obtain ⟨fm, h2, _⟩ := h1.tb
  have hblk : ((w.alloc (.map #[] 0)).setCell ⟨t, 0, none⟩ (.map (some w.heap.size))).heap[t]? = some (.cells (txCells (.map (some w.heap.size)) (R (0, 0) false) (R (0, 0) true)) 71 (0, 0)) := by
    rw [fset_block h2]
    simp [txCells]
  have hpm : PM ((w.alloc (.map #[] 0)).setCell ⟨t, 0, none⟩ (.map (some w.heap.size))) w.heap.size 0 G := by
    have hp := (PM.made w).same (w' := (w.alloc (.map #[] 0)).setCell ⟨t, 0, none⟩ (.map (some w.heap.size))) (fset_other (by omega) _)
    obtain ⟨D, ho, hT⟩ := hp
    refine ⟨D, ho, fun d hd => ?_⟩
    have hg : G d = none := by
      cases e : G d with
      | none => rfl
      | some g =>
        obtain ⟨c, hc, _⟩ := (h.gd d hd).1 (by rw [e]; rfl)
        simp at hc
    rw [hg]
    exact hT d hd
  refine ⟨⟨h.wt, ⟨_, hblk, Or.inr ⟨w.heap.size, rfl, hlt, hpm⟩⟩, h.gd, fun c hc => by simp at hc, fun d s hd => ?_, h.apart⟩, ?_, hblk, hpm⟩
  · obtain ⟨gs, k1, k2⟩ := h1.rows d s hd
    refine ⟨gs, k1, World.ownsRow.kept k2 (fgrown_set _ _ _ _) ?_⟩
    cases hb : (R d s).ownBlock with
    | none => exact Or.inl rfl
    | some b =>
      right
      intro e
      cases e
      obtain ⟨cur, hc⟩ := own_block k2 hb
      rw [h2] at hc
      simp at hc
  · refine (FrW.of_below hb).trans (FrW.of_grown (fgrown_set _ _ _ _) (fun k hk => ?_))
    cases hk
    refine ⟨Nat.le_refl _, fun cs ty hc => ?_⟩
    rw [h2] at hc
    simp at hc
    exact Or.inr (Or.inl hc.2.symm)

/-- The map tells of one more. -/
theorem TX.told {w w' : World} {t mb : Nat} {T : List Cr} {G M' : Dt → Option Nat} {n n' : Nat} {R : Dt → Bool → Value} (h : TX w t T G G n R) (hblk : w.heap[t]? = some (.cells (txCells (.map (some mb)) (R (0, 0) false) (R (0, 0) true)) 71 (0, 0))) (htm : t < mb) {m0 : Nat} {M0 : Dt → Option Nat} (hm : PM w mb m0 M0) (hg : w.grownBy w' (some mb)) (hp : PM w' mb n' M') :
    TX w' t T G M' n' R ∧ w'.heap[t]? = w.heap[t]? := by
  have hnc : ∀ (k : Nat) (cs : Array Value) (ty : TypeId), w.heap[k]? = some (Obj.cells cs ty (0, 0)) → w'.heap[k]? = w.heap[k]? := fun k cs ty hk => by
    refine hg.block k (Array.getElem?_eq_some_iff.1 hk).1 (fun e => ?_)
    cases e
    obtain ⟨D, ⟨es, clock, h1, _⟩, _⟩ := hm
    rw [h1] at hk
    cases hk
  have ht := hnc t _ _ hblk
  refine ⟨⟨h.wt, ⟨_, ht.trans hblk, Or.inr ⟨mb, rfl, htm, hp⟩⟩, h.gd, fun c hc => ?_, fun d s hd => ?_, h.apart⟩, ht⟩
  · obtain ⟨g, k1, k2, k3⟩ := h.ch c hc
    exact ⟨g, k1, k2, (hnc _ _ _ k3).trans k3⟩
  · obtain ⟨gs, k1, k2⟩ := h.rows d s hd
    refine ⟨gs, k1, World.ownsRow.kept k2 hg ?_⟩
    cases hb : (R d s).ownBlock with
    | none => exact Or.inl rfl
    | some b =>
      right
      intro e
      cases e
      obtain ⟨cur, hc⟩ := own_block k2 hb
      obtain ⟨D, ⟨es, clock, h1, _⟩, _⟩ := hm
      rw [h1] at hc
      cases hc

end Go.Proofs.Ytboaofaileafdaa
