/- A map held against none. -/
import Derived.Test.YtnmdcdphpcpojaaGreatDoorFgMap
import Derived.Test.YtnmdcdphpcpojaaGreatDoorMKeys
import Derived.Deep.RegionHeld
import Derived.Deep.CutBlock
import Derived.Deep.RegionWith
namespace Go.Proofs.YtnmdcdphpcpojaaGreatDoor
section
open Go.RowKit
open Go.Sort (grow)

theorem below_grownN {w w' : World} (h : RowKit.Below w.heap.size w w') (r : Option Nat) : w.grownBy w' r := ⟨h.os, h.tape, h.output, h.size, fun k hk _ => h.block k hk⟩

theorem own_keepP {w w' : World} {base e z : Nat} {v : Value} {n : Nat} {xs : List Value} (h : w.ownsRow base e z v n xs) (hb : RowKit.Below w.heap.size w w') : w'.ownsRow base e z v n xs := World.ownsRow.kept h (below_grownN hb none) (by cases v.ownBlock <;> simp)

theorem prow_one (gs : List Nat) : ∀ y ∈ prowc gs, y.oneCell' = true := fun y hy => by
  obtain ⟨g, _, rfl⟩ := List.mem_map.1 hy
  rfl

theorem prowc_ins (gs : List Nat) (k g : Nat) : (prowc gs).take k ++ [pvFc g] ++ (prowc gs).drop k = prowc (gs.take k ++ [g] ++ gs.drop k) := by simp [prowc]

set_option maxRecDepth 100000 in
set_option maxHeartbeats 2000000 in
theorem among_any (base : Nat) (v : Value) (n : Nat) (gs : List Nat) (ds : List Dt) (gc : Nat) (y : Dt) (w : World) (hown : w.ownsRow base 128 1 v n (prowc gs)) (hr : CR w gs ds) (hy : IdAt w gc y) (hn : n ≤ 1000000) (hbase : base ≤ w.heap.size) (ha : Up ds) :
    Calls Tryz.prog 59 #[v, pvFc gc] w fun e w' => ∃ g c, e = .returned (.slice (some ⟨g, 0, none⟩) (n + 1) c) ∧ w'.ownsRow base 128 1 (.slice (some ⟨g, 0, none⟩) (n + 1) c) (n + 1) (prowc (gs.take (aheadOf ds y) ++ [gc] ++ gs.drop (aheadOf ds y))) ∧ w.grownBy w' v.ownBlock ∧ (v.ownBlock = some g ∨ w.heap.size ≤ g) := by
  obtain ⟨a, c, rfl, hpp⟩ := own_ppc hown
  have hk : aheadOf ds y ≤ n := by have := aheadOf_le ds y; have := hr.len; have := hpp.len; omega
  have hS := fgsearch_any a n c gs ds gc y w hpp hr hy hn ha
  have HOWN := hid hown
  have hob : ∀ b, (Value.slice a n c).ownBlock = some b → b < w.heap.size := fun b hb => (World.ownsRow.lt hown b hb).2
  have HOB := hid hob
  have hI : ∀ w1, RowKit.Below w.heap.size w w1 → Calls Tryz.prog 96 #[.slice a n c, .int .i64 (aheadOf ds y : Nat), .slice (some ⟨w1.heap.size, 0, none⟩) 1 1] (w1.alloc (.cells #[pvFc gc] 128)) fun e w' =>
      ∃ g c', e = .returned (.slice (some ⟨g, 0, none⟩) (n + 1) c') ∧ w'.ownsRow base 128 1 (.slice (some ⟨g, 0, none⟩) (n + 1) c') (n + 1) (prowc (gs.take (aheadOf ds y) ++ [gc] ++ gs.drop (aheadOf ds y))) ∧ w.grownBy w' (Value.slice a n c).ownBlock ∧ ((Value.slice a n c).ownBlock = some g ∨ w.heap.size ≤ g) := fun w1 hb => by
    have hA : RowKit.Below w.heap.size w (w1.alloc (.cells #[pvFc gc] 128)) := below2 hb ((Far.refl w1).alloc _).below
    refine (fginsert_any base (.slice a n c) n (aheadOf ds y) w1.heap.size (prowc gs) (pvFc gc) _ hk hn (Nat.le_trans hbase hA.size) (own_keepP HOWN.out hA) (fun e => by have := HOB.out _ e; have := hb.size; omega) (MapKept.heap_alloc w1 _).1 (prow_one gs) rfl).mono ?_
    rintro e w' ⟨g, c', rfl, h2, h3, h4⟩
    refine ⟨g, c', rfl, by rw [← prowc_ins]; exact h2, (below_grownN hA _).trans h3, ?_⟩
    rcases h4 with h4 | h4
    · exact Or.inl h4
    · exact Or.inr (by rw [h4]; exact hA.size)
  generalize aheadOf ds y = k at *
  generalize gs.take k ++ [gc] ++ gs.drop k = gs' at *
  have HI := hid hI
  have hcm := hpp.cap
  have hcx := hpp.max
  unfold maxLen at hcx
  clear hown hpp hr hob hI hy
  go_enter Tryz.func59, Tryz.ntmps59
  go_wp2_with (first
    | (go_at_call 96; refine (HI.out _ hB1).mono ?_; rintro e w2 ⟨g, c', rfl, h2, h3, h4⟩)
    | (go_at_call 94; refine hS.mono ?_; rintro e w1 ⟨rfl, hB1⟩))
  go_ret
  exact ⟨g, c', rfl, h2, h3, h4⟩
end

section
open Go.RowKit
open Go.Sort (grow)

/-- A character's cells; the text's. -/
def Cr.cells (c : Cr) (l r : Value) : Array Value := #[.int .i64 c.id.1, .int .i64 c.id.2, .int .i64 c.ch, .bool c.seen, l, r]
def txCells (fm l r : Value) : Array Value := #[fm, .int .i64 0, .int .i64 0, .int .i64 0, .bool false, l, r]

/-- Block t is a text of the characters T, that lie where G tells; R: the rows of both sides of each one; the map tells M. -/
structure TX (w : World) (t : Nat) (T : List Cr) (G M : Dt → Option Nat) (n : Nat) (R : Dt → Bool → Value) : Prop where
  wt : WT T
  tb : ∃ fm, w.heap[t]? = some (.cells (txCells fm (R (0, 0) false) (R (0, 0) true)) 126 (0, 0)) ∧ ((T = [] ∧ fm = .map none) ∨ ∃ mb, fm = .map (some mb) ∧ t < mb ∧ PMc w mb n M)
  gd : ∀ d, Dw d → ((G d).isSome = true ↔ ∃ c ∈ T, c.id = d)
  ch : ∀ c ∈ T, ∃ g, G c.id = some g ∧ t < g ∧ w.heap[g]? = some (.cells (c.cells (R c.id false) (R c.id true)) 124 (0, 0))
  rows : ∀ d s, nodes T d → ∃ gs : List Nat, gs.map some = (kids T d s).map G ∧ w.ownsRow t 128 1 (R d s) (kids T d s).length (prowc gs)
  apart : ∀ d s d' s', nodes T d → nodes T d' → (d, s) ≠ (d', s') → (R d s).ownBlock = none ∨ (R d s).ownBlock ≠ (R d' s').ownBlock

theorem TX.lt {w : World} {t : Nat} {T : List Cr} {G M : Dt → Option Nat} {n : Nat} {R : Dt → Bool → Value} (h : TX w t T G M n R) : t < w.heap.size := by
  obtain ⟨fm, h1, _⟩ := h.tb
  exact (Array.getElem?_eq_some_iff.1 h1).1

/-- New memory leaves a text as it is. -/
theorem TX.below {w w' : World} {t : Nat} {T : List Cr} {G M : Dt → Option Nat} {n : Nat} {R : Dt → Bool → Value} (h : TX w t T G M n R) (hb : RowKit.Below w.heap.size w w') : TX w' t T G M n R := by
  refine ⟨h.wt, ?_, h.gd, fun c hc => ?_, fun d s hd => ?_, h.apart⟩
  · obtain ⟨fm, h1, h2⟩ := h.tb
    refine ⟨fm, (hb.block _ (Array.getElem?_eq_some_iff.1 h1).1).trans h1, ?_⟩
    rcases h2 with h2 | ⟨mb, e, hm, hp⟩
    · exact Or.inl h2
    · exact Or.inr ⟨mb, e, hm, hp.same (hb.block _ hp.lt)⟩
  · obtain ⟨g, h1, h2, h3⟩ := h.ch c hc
    exact ⟨g, h1, h2, (hb.block _ (Array.getElem?_eq_some_iff.1 h3).1).trans h3⟩
  · obtain ⟨gs, h1, h2⟩ := h.rows d s hd
    exact ⟨gs, h1, own_keepP h2 hb⟩

/-- The block of a row that is there: it holds pointers. -/
theorem own_block {w : World} {base n : Nat} {v : Value} {xs : List Value} {k : Nat} (h : w.ownsRow base 128 1 v n xs) (hk : v.ownBlock = some k) : ∃ cur, w.heap[k]? = some (.cells cur 128 (0, 0)) := by
  rcases h.2 with ⟨rfl, _⟩ | ⟨g, cap, cur, rfl, _, hg, _⟩
  · cases hk
  · simp only [Value.ownBlock, Option.some.injEq] at hk
    subst hk
    exact ⟨cur, hg⟩

theorem TX.id_at {w : World} {t : Nat} {T : List Cr} {G M : Dt → Option Nat} {n : Nat} {R : Dt → Bool → Value} (h : TX w t T G M n R) {c : Cr} (hc : c ∈ T) {g : Nat} (hg : G c.id = some g) : IdAt w g c.id := by
  obtain ⟨g', h1, _, h3⟩ := h.ch c hc
  rw [hg] at h1
  cases h1
  exact ⟨by simp [World.cell?, h3, Cr.cells], by simp [World.cell?, h3, Cr.cells]⟩

/-- The characters of a row. -/
theorem TX.cr {w : World} {t : Nat} {T : List Cr} {G M : Dt → Option Nat} {n : Nat} {R : Dt → Bool → Value} (h : TX w t T G M n R) {d : Dt} {s : Bool} {gs : List Nat} (he : gs.map some = (kids T d s).map G) : CR w gs (kids T d s) := by
  have hl : gs.length = (kids T d s).length := by simpa using congrArg List.length he
  refine ⟨hl, fun i g k hg hk => ?_⟩
  have h1 : ((gs.map some)[i]? : Option (Option Nat)) = ((kids T d s).map G)[i]? := by rw [he]
  rw [List.getElem?_map, List.getElem?_map, hg, hk] at h1
  simp at h1
  obtain ⟨c, hc, _, _, rfl⟩ := mem_kids.1 (List.mem_of_getElem? hk)
  exact h.id_at hc h1.symm

/-- Two characters lie in two blocks. -/
theorem TX.inj {w : World} {t : Nat} {T : List Cr} {G M : Dt → Option Nat} {n : Nat} {R : Dt → Bool → Value} (h : TX w t T G M n R) {a b : Cr} (ha : a ∈ T) (hb : b ∈ T) {g : Nat} (h1 : G a.id = some g) (h2 : G b.id = some g) : a.id = b.id := by
  have x := h.id_at ha h1
  have y := h.id_at hb h2
  have e0 := x.c0.symm.trans y.c0
  have e1 := x.c1.symm.trans y.c1
  simp at e0 e1
  exact Prod.ext e0 e1

theorem fset_other {w : World} {q r j : Nat} (h : r ≠ q) (v : Value) : (w.setCell ⟨q, j, none⟩ v).heap[r]? = w.heap[r]? := heap_setCell_other w ⟨q, j, none⟩ r v (fun e => h (by simpa using e))
theorem fset_block {w : World} {q j : Nat} {cs : Array Value} {t : TypeId} (h : w.heap[q]? = some (.cells cs t (0, 0))) (u : Value) : (w.setCell ⟨q, j, none⟩ u).heap[q]? = some (.cells (cs.setIfInBounds j u) t (0, 0)) := by
  simp [World.setCell, Array.getElem?_modify, h]
theorem fgrown_set (w : World) (q j : Nat) (v : Value) : w.grownBy (w.setCell ⟨q, j, none⟩ v) (some q) := ⟨rfl, rfl, rfl, by simp, fun k _ hk => heap_setCell_other w ⟨q, j, none⟩ k v (fun e => hk (by simp [e]))⟩

/-- Where the rows of one stand: in which block, from which cell on. -/
def spotOf (t : Nat) (G : Dt → Option Nat) (d : Dt) : Nat × Nat := if d = (0, 0) then (t, 5) else ((G d).getD 0, 4)

/-- One more: its block is there, the map tells of it, its row is made and stored. -/
theorem TX.more {w2 w3 : World} {t : Nat} {T : List Cr} {G : Dt → Option Nat} {n : Nat} {R : Dt → Bool → Value} {c : Cr} {gc : Nat} (h : TX w2 t T G (fun e => if e = c.id then some gc else G e) n R)
    (hnz : c.id ≠ (0, 0)) (hdw : Dw c.id) (hfr : ∀ x ∈ T, x.id ≠ c.id) (hnd : nodes T c.at_) (hrt : c.at_ = (0, 0) → c.sd = true)
    (hmap : ∃ fm mb, w2.heap[t]? = some (.cells (txCells fm (R (0, 0) false) (R (0, 0) true)) 126 (0, 0)) ∧ fm = .map (some mb) ∧ t < mb ∧ PMc w2 mb n (fun e => if e = c.id then some gc else G e))
    (hgc : w2.heap[gc]? = some (.cells (c.cells (.slice none 0 0) (.slice none 0 0)) 124 (0, 0))) (htg : t < gc)
    {gs : List Nat} (hgs : gs.map some = (kids T c.at_ c.sd).map G) {q m cq : Nat}
    (hg3 : w2.grownBy w3 (R c.at_ c.sd).ownBlock) (ho3 : w3.ownsRow t 128 1 (.slice (some ⟨q, 0, none⟩) m cq) m (prowc (gs.take (aheadOf (kids T c.at_ c.sd) c.id) ++ [gc] ++ gs.drop (aheadOf (kids T c.at_ c.sd) c.id)))) (hm : m = (kids T c.at_ c.sd).length + 1)
    (hq : (R c.at_ c.sd).ownBlock = some q ∨ w2.heap.size ≤ q) :
    TX (w3.setCell ⟨(spotOf t G c.at_).1, (spotOf t G c.at_).2 + (if c.sd then 1 else 0), none⟩ (.slice (some ⟨q, 0, none⟩) m cq)) t (T ++ [c]) (fun e => if e = c.id then some gc else G e) (fun e => if e = c.id then some gc else G e) n
      (fun d s => if d = c.id then .slice none 0 0 else if d = c.at_ ∧ s = c.sd then .slice (some ⟨q, 0, none⟩) m cq else R d s) := by
  have hat : c.at_ ≠ c.id := fun e => by
    rcases hnd with h0 | ⟨x, hx, e'⟩
    · exact hnz (by rw [← e, h0])
    · exact hfr x hx (by rw [e', e])
  have h00 : ((0, 0) : Dt) ≠ c.id := fun e => hnz e.symm
  have hGg : ∀ {d : Dt}, d ≠ c.id → (if d = c.id then some gc else G d) = G d := fun hd => if_neg hd
  -- the row of one's own is of pointers: other blocks are as they were
  have hown0 := h.rows c.at_ c.sd hnd
  have hkeep : ∀ (k : Nat) (cs : Array Value) (ty : TypeId), w2.heap[k]? = some (Obj.cells cs ty (0, 0)) → ty ≠ 128 → w3.heap[k]? = w2.heap[k]? := fun k cs ty hk hty => by
    refine hg3.block k (Array.getElem?_eq_some_iff.1 hk).1 (fun e => ?_)
    obtain ⟨gs0, _, ho⟩ := hown0
    obtain ⟨cur, hc⟩ := own_block ho e.symm
    rw [hk] at hc
    simp at hc
    exact hty hc.2
  have hkeepM : ∀ {k n' : Nat} {M : Dt → Option Nat}, PMc w2 k n' M → w3.heap[k]? = w2.heap[k]? := fun {k n' M} hp => by
    refine hg3.block k hp.lt (fun e => ?_)
    obtain ⟨gs0, _, ho⟩ := hown0
    obtain ⟨cur, hc⟩ := own_block ho e.symm
    obtain ⟨D, ⟨es, clock, h1, _⟩, _⟩ := hp
    rw [h1] at hc
    cases hc
  -- in which block the new row's value is stored
  obtain ⟨j4, hj4⟩ : ∃ j4, j4 = (spotOf t G c.at_).2 + (if c.sd then 1 else 0) := ⟨_, rfl⟩
  rw [← hj4]
  obtain ⟨newv, hnewv⟩ : ∃ newv : Value, newv = .slice (some ⟨q, 0, none⟩) m cq := ⟨_, rfl⟩
  have hnb : ∃ cs ty, w2.heap[(spotOf t G c.at_).1]? = some (Obj.cells cs ty (0, 0)) ∧ ty ≠ 128 := by
    unfold spotOf
    by_cases h0 : c.at_ = (0, 0)
    · rw [if_pos h0]
      obtain ⟨fm, h1, _⟩ := h.tb
      exact ⟨_, _, h1, by decide⟩
    · rw [if_neg h0]
      rcases hnd with e | ⟨x, hx, e⟩
      · exact absurd e h0
      · obtain ⟨g, h1, _, h3⟩ := h.ch x hx
        rw [e] at h1
        rw [h1]
        exact ⟨_, _, h3, by decide⟩
  obtain ⟨ncs, nty, hnb2, hnty⟩ := hnb
  have hnb3 := (hkeep _ _ _ hnb2 hnty).trans hnb2
  have hqn : q ≠ (spotOf t G c.at_).1 := fun e => by
    obtain ⟨cur, hc⟩ := own_block ho3 (k := q) rfl
    rw [e, hnb3] at hc
    simp at hc
    exact hnty hc.2
  have hrow4 : ∀ {v : Value} {k : Nat} {xs : List Value}, w3.ownsRow t 128 1 v k xs → (w3.setCell ⟨(spotOf t G c.at_).1, j4, none⟩ newv).ownsRow t 128 1 v k xs := fun {v k xs} hv => by
    refine World.ownsRow.kept hv (fgrown_set _ _ _ _) ?_
    cases hb : v.ownBlock with
    | none => exact Or.inl rfl
    | some b =>
      right
      intro e
      cases e
      obtain ⟨cur, hc⟩ := own_block hv hb
      rw [hnb3] at hc
      simp at hc
      exact hnty hc.2
  have hck : ∀ k ∈ kids T c.at_ c.sd, k ≠ c.id := fun k hk e => by
    obtain ⟨x, hx, _, _, e'⟩ := mem_kids.1 hk
    exact hfr x hx (by rw [e', e])
  rw [← hnewv] at ho3 ⊢
  refine ⟨h.wt.snoc hnz hdw hfr hnd hrt, ?_, fun d hd => ?_, fun x hx => ?_, fun d s hd => ?_, fun d s d' s' hd hd' hne => ?_⟩
  · obtain ⟨fm, mb, h1, hfm, htm, hp⟩ := hmap
    have hp3 : PMc w3 mb n (fun e => if e = c.id then some gc else G e) := hp.same (hkeepM hp)
    have hmn : mb ≠ (spotOf t G c.at_).1 := fun e => by
      obtain ⟨D, ⟨es, clock, h5, _⟩, _⟩ := hp
      rw [e, hnb2] at h5
      cases h5
    have h13 := (hkeep _ _ _ h1 (by decide)).trans h1
    refine ⟨fm, ?_, Or.inr ⟨mb, hfm, htm, hp3.same (fset_other hmn _)⟩⟩
    simp only [if_neg h00]
    by_cases h0 : c.at_ = (0, 0)
    · have hsd := hrt h0
      have e1 : spotOf t G c.at_ = (t, 5) := by unfold spotOf; rw [if_pos h0]
      have e2 : j4 = 6 := by rw [hj4, e1, hsd]; rfl
      rw [e1, e2, h0, hsd]
      simp only [true_and, Bool.false_eq_true, if_false, if_true]
      rw [fset_block h13]
      simp [txCells]
    · have hne : t ≠ (spotOf t G c.at_).1 := by
        unfold spotOf
        rw [if_neg h0]
        rcases hnd with e | ⟨x, hx, e⟩
        · exact absurd e h0
        · obtain ⟨g, g1, g2, _⟩ := h.ch x hx
          rw [e] at g1
          rw [g1]
          show t ≠ g
          omega
      rw [fset_other hne, h13]
      have : ¬ ((0, 0) : Dt) = c.at_ := fun e => h0 e.symm
      simp [this]
  · by_cases e : d = c.id
    · subst e
      simp only [if_true, Option.isSome_some, true_iff]
      exact ⟨c, by simp, rfl⟩
    · rw [if_neg e, h.gd d hd]
      constructor
      · rintro ⟨x, hx, e'⟩
        exact ⟨x, List.mem_append_left _ hx, e'⟩
      · rintro ⟨x, hx, e'⟩
        rcases List.mem_append.1 hx with hx | hx
        · exact ⟨x, hx, e'⟩
        · simp at hx
          rw [hx] at e'
          exact absurd e'.symm e
  · rcases List.mem_append.1 hx with hx | hx
    · have hxi := hfr x hx
      obtain ⟨g, g1, g2, g3⟩ := h.ch x hx
      have g4 := (hkeep _ _ _ g3 (by decide)).trans g3
      refine ⟨g, by rw [if_neg hxi]; exact g1, g2, ?_⟩
      simp only [if_neg hxi]
      by_cases ha : x.id = c.at_
      · have hz : c.at_ ≠ (0, 0) := fun e => h.wt.nz x hx (by rw [ha, e])
        have e1 : spotOf t G c.at_ = (g, 4) := by unfold spotOf; rw [if_neg hz, ← ha, g1]; rfl
        have e2 : j4 = 4 + (if c.sd then 1 else 0) := by rw [hj4, e1]
        rw [e1, fset_block g4, e2]
        cases hs : c.sd <;> simp [ha, Cr.cells]
      · have hne : g ≠ (spotOf t G c.at_).1 := by
          unfold spotOf
          by_cases h0 : c.at_ = (0, 0)
          · rw [if_pos h0]; show g ≠ t; omega
          · rw [if_neg h0]
            rcases hnd with e | ⟨y, hy, e⟩
            · exact absurd e h0
            · obtain ⟨g', k1, _, _⟩ := h.ch y hy
              rw [← e, k1]
              show g ≠ g'
              intro e2
              rw [← e2] at k1
              exact ha (by rw [← e]; exact h.inj hx hy g1 k1)
        rw [fset_other hne, g4]
        simp [ha]
    · have hx' : x = c := by simpa using hx
      rw [hx']
      refine ⟨gc, by rw [if_pos rfl], htg, ?_⟩
      simp only [if_true]
      have hne : gc ≠ (spotOf t G c.at_).1 := by
        unfold spotOf
        by_cases h0 : c.at_ = (0, 0)
        · rw [if_pos h0]; show gc ≠ t; omega
        · rw [if_neg h0]
          rcases hnd with e | ⟨y, hy, e⟩
          · exact absurd e h0
          · obtain ⟨g', k1, _, k3⟩ := h.ch y hy
            rw [← e, k1]
            show gc ≠ g'
            intro e2
            rw [← e2, hgc] at k3
            simp [Cr.cells] at k3
            exact hfr y hy (Prod.ext k3.1.symm k3.2.1.symm)
      rw [fset_other hne, hkeep _ _ _ hgc (by decide)]
      exact hgc
  · by_cases hdc : d = c.id
    · subst hdc
      have hk : kids (T ++ [c]) c.id s = [] := by rw [kids_snoc, if_neg (fun e => hat e.1), h.wt.fresh hfr hnz]
      rw [hk]
      refine ⟨[], rfl, ?_⟩
      simp only [if_true]
      exact World.ownsRow_nil _ _ _ _
    · have hdT : nodes T d := by
        rcases nodes_snoc.1 hd with hd | hd
        · exact hd
        · exact absurd hd.symm hdc
      by_cases htgt : d = c.at_ ∧ s = c.sd
      · obtain ⟨rfl, rfl⟩ := htgt
        have hk : kids (T ++ [c]) c.at_ c.sd = (kids T c.at_ c.sd).take (aheadOf (kids T c.at_ c.sd) c.id) ++ [c.id] ++ (kids T c.at_ c.sd).drop (aheadOf (kids T c.at_ c.sd) c.id) := by rw [kids_snoc, if_pos ⟨rfl, rfl⟩, ins_at c.id _ (fun hm' => hck _ hm' rfl)]
        rw [hk]
        refine ⟨gs.take (aheadOf (kids T c.at_ c.sd) c.id) ++ [gc] ++ gs.drop (aheadOf (kids T c.at_ c.sd) c.id), ?_, ?_⟩
        · have hmap2 : (kids T c.at_ c.sd).map (fun e => if e = c.id then some gc else G e) = (kids T c.at_ c.sd).map G := List.map_congr_left (fun k hk => if_neg (hck k hk))
          rw [List.map_append, List.map_append, List.map_append, List.map_append, List.map_take, List.map_drop, List.map_take, List.map_drop, hmap2, hgs]
          simp
        · simp only [if_neg hdc, and_self, if_true]
          have hl : (List.take (aheadOf (kids T c.at_ c.sd) c.id) (kids T c.at_ c.sd) ++ [c.id] ++ List.drop (aheadOf (kids T c.at_ c.sd) c.id) (kids T c.at_ c.sd)).length = m := by
            have := aheadOf_le (kids T c.at_ c.sd) c.id
            simp
            omega
          rw [hl]
          exact hrow4 ho3
      · obtain ⟨gs0, k1, k2⟩ := h.rows d s hdT
        have hks : kids (T ++ [c]) d s = kids T d s := by rw [kids_snoc, if_neg (fun e => htgt ⟨e.1.symm, e.2.symm⟩)]
        refine ⟨gs0, ?_, ?_⟩
        · rw [hks, k1]
          refine (List.map_congr_left (fun k hk => if_neg (fun e => ?_))).symm
          obtain ⟨x, hx, _, _, e'⟩ := mem_kids.1 hk
          exact hfr x hx (by rw [e', e])
        · rw [hks]
          simp only [if_neg hdc, if_neg htgt]
          refine hrow4 (World.ownsRow.kept k2 hg3 (h.apart d s c.at_ c.sd hdT hnd (fun e => htgt (by simpa using e))))
  · by_cases hdc : d = c.id
    · rw [if_pos hdc]
      exact Or.inl rfl
    · by_cases hdc' : d' = c.id
      · rw [if_pos hdc']
        cases ((if d = c.id then Value.slice none 0 0 else if d = c.at_ ∧ s = c.sd then newv else R d s)).ownBlock with
        | none => exact Or.inl rfl
        | some b => exact Or.inr (by simp [Value.ownBlock])
      · have hdT : nodes T d := by
          rcases nodes_snoc.1 hd with hd | hd
          · exact hd
          · exact absurd hd.symm hdc
        have hdT' : nodes T d' := by
          rcases nodes_snoc.1 hd' with hd' | hd'
          · exact hd'
          · exact absurd hd'.symm hdc'
        have hlt : ∀ {e s0}, nodes T e → ∀ b, (R e s0).ownBlock = some b → b < w2.heap.size := fun {e s0} he b hb => by
          obtain ⟨gs0, _, k2⟩ := h.rows e s0 he
          exact (World.ownsRow.lt k2 b hb).2
        have hnq : newv.ownBlock = some q := by rw [hnewv]; rfl
        rw [if_neg hdc, if_neg hdc']
        by_cases h1 : d = c.at_ ∧ s = c.sd
        · rw [if_pos h1, if_neg (fun e => hne (by rw [h1.1, h1.2, e.1, e.2])), hnq]
          right
          intro e
          rcases hq with hq | hq
          · obtain ⟨rfl, rfl⟩ := h1
            rcases h.apart c.at_ c.sd d' s' hnd hdT' hne with k | k
            · rw [hq] at k; cases k
            · exact k (by rw [hq, e])
          · have := hlt hdT' q e.symm
            omega
        · rw [if_neg h1]
          by_cases h2 : d' = c.at_ ∧ s' = c.sd
          · rw [if_pos h2, hnq]
            obtain ⟨rfl, rfl⟩ := h2
            rcases hq with hq | hq
            · rw [← hq]
              exact h.apart d s c.at_ c.sd hdT hnd hne
            · cases hb : (R d s).ownBlock with
              | none => exact Or.inl rfl
              | some b =>
                right
                intro e
                cases e
                have := hlt hdT q hb
                omega
          · rw [if_neg h2]
            exact h.apart d s d' s' hdT hdT' hne
end

section
open Go.RowKit
open Go.Sort (grow)

/-- Whether a character may be put in there, as far as that hangs on no others. -/
def mayI (id at_ : Dt) (side : Int) : Bool := if side = 0 then decide (id ≠ (0, 0)) && decide (at_ ≠ (0, 0)) else if side = 1 then decide (id ≠ (0, 0)) else false

theorem dot_cases (d : Dt) : (d = (0, 0)) ∨ (d ≠ (0, 0) ∧ (d.1 == 0) = false ∧ (d.1 != 0) = true) ∨ (d ≠ (0, 0) ∧ d.1 = 0 ∧ (d.2 == 0) = false ∧ (d.2 != 0) = true) := by
  obtain ⟨a, b⟩ := d
  by_cases ha : a = 0
  · by_cases hb : b = 0
    · left; rw [ha, hb]
    · right; right; exact ⟨fun e => hb (by simpa using congrArg Prod.snd e), ha, by simp [hb], by simp [hb]⟩
  · right; left; exact ⟨fun e => ha (by simpa using congrArg Prod.fst e), by simp [ha], by simp [ha]⟩

set_option maxRecDepth 100000 in
set_option maxHeartbeats 4000000 in
theorem fgmay_any (id at_ : Dt) (side : Int) (w : World) : Tells 57 #[dv id, dv at_, .int .i64 side] w (.bool (mayI id at_ side)) := by
  have hfar : ∀ a b c : Obj, Far w (((w.alloc a).alloc b).alloc c) := fun a b c => (((Far.refl w).alloc a).alloc b).alloc c
  by_cases h0 : side = 0
  · subst h0
    have hr : Hid (mayI id at_ 0 = (decide (id ≠ (0, 0)) && decide (at_ ≠ (0, 0)))) := hid rfl
    rcases dot_cases id with rfl | ⟨hi, hi1, hi2⟩ | ⟨hi, hi0, hi1, hi2⟩
    · have hr' : Hid (mayI (0, 0) at_ 0 = false) := hid (by rw [hr.out]; simp)
      go_enter Tryz.func57, Tryz.ntmps57
      go_wp2
      go_ret
      exact ⟨by rw [hr'.out]; rfl, hfar _ _ _⟩
    · rcases dot_cases at_ with rfl | ⟨ha, ha1, ha2⟩ | ⟨ha, ha0, ha1, ha2⟩
      · have hr' : Hid (mayI id (0, 0) 0 = false) := hid (by rw [hr.out]; simp)
        clear hi hr
        go_enter Tryz.func57, Tryz.ntmps57
        go_wp2
        go_ret
        exact ⟨by rw [hr'.out]; rfl, hfar _ _ _⟩
      · have hr' : Hid (mayI id at_ 0 = true) := hid (by rw [hr.out]; simp [hi, ha])
        clear hi ha hr
        go_enter Tryz.func57, Tryz.ntmps57
        go_wp2
        go_ret
        exact ⟨by rw [hr'.out]; rfl, hfar _ _ _⟩
      · have hr' : Hid (mayI id at_ 0 = true) := hid (by rw [hr.out]; simp [hi, ha])
        clear hi ha hr
        go_enter Tryz.func57, Tryz.ntmps57
        go_wp2
        go_ret
        exact ⟨by rw [hr'.out]; rfl, hfar _ _ _⟩
    · rcases dot_cases at_ with rfl | ⟨ha, ha1, ha2⟩ | ⟨ha, ha0, ha1, ha2⟩
      · have hr' : Hid (mayI id (0, 0) 0 = false) := hid (by rw [hr.out]; simp)
        clear hi hr
        go_enter Tryz.func57, Tryz.ntmps57
        go_wp2
        go_ret
        exact ⟨by rw [hr'.out]; rfl, hfar _ _ _⟩
      · have hr' : Hid (mayI id at_ 0 = true) := hid (by rw [hr.out]; simp [hi, ha])
        clear hi ha hr
        go_enter Tryz.func57, Tryz.ntmps57
        go_wp2
        go_ret
        exact ⟨by rw [hr'.out]; rfl, hfar _ _ _⟩
      · have hr' : Hid (mayI id at_ 0 = true) := hid (by rw [hr.out]; simp [hi, ha])
        clear hi ha hr
        go_enter Tryz.func57, Tryz.ntmps57
        go_wp2
        go_ret
        exact ⟨by rw [hr'.out]; rfl, hfar _ _ _⟩
  · have hb0 : (side == 0) = false := by simp [h0]
    by_cases h1 : side = 1
    · subst h1
      have hr : Hid (mayI id at_ 1 = decide (id ≠ (0, 0))) := hid rfl
      rcases dot_cases id with rfl | ⟨hi, hi1, hi2⟩ | ⟨hi, hi0, hi1, hi2⟩
      · have hr' : Hid (mayI (0, 0) at_ 1 = false) := hid (by rw [hr.out]; simp)
        clear hr
        go_enter Tryz.func57, Tryz.ntmps57
        go_wp2
        go_ret
        exact ⟨by rw [hr'.out]; rfl, hfar _ _ _⟩
      · have hr' : Hid (mayI id at_ 1 = true) := hid (by rw [hr.out]; simp [hi])
        clear hi hr
        go_enter Tryz.func57, Tryz.ntmps57
        go_wp2
        go_ret
        exact ⟨by rw [hr'.out]; rfl, hfar _ _ _⟩
      · have hr' : Hid (mayI id at_ 1 = true) := hid (by rw [hr.out]; simp [hi])
        clear hi hr
        go_enter Tryz.func57, Tryz.ntmps57
        go_wp2
        go_ret
        exact ⟨by rw [hr'.out]; rfl, hfar _ _ _⟩
    · have hb1 : (side == 1) = false := by simp [h1]
      have hr' : Hid (mayI id at_ side = false) := hid (by unfold mayI; rw [if_neg h0, if_neg h1])
      go_enter Tryz.func57, Tryz.ntmps57
      go_wp2
      go_ret
      exact ⟨by rw [hr'.out]; rfl, hfar _ _ _⟩
end

section
open Go.RowKit
open Go.Sort (grow)

/-- What the map of a text tells, or no map. -/
theorem TX.found {w : World} {t : Nat} {T : List Cr} {G : Dt → Option Nat} {n : Nat} {R : Dt → Bool → Value} (h : TX w t T G G n R) : ∃ fm, w.cell? ⟨t, 0, none⟩ = some fm ∧ (∃ o, fm = .map o) ∧ ∀ (W : World), RowKit.Below w.heap.size w W → ∀ d, Dw d → (Instr.lookup 120 fm (.agg #[.int .i64 d.1, .int .i64 d.2]) false).run Tryz.prog W = .ok (pvoc (G d)) W := by
  obtain ⟨fm, h1, h2⟩ := h.tb
  refine ⟨fm, by simp [World.cell?, h1, txCells], ?_, fun W hb d hd => ?_⟩
  · rcases h2 with ⟨_, e⟩ | ⟨mb, e, _⟩
    · exact ⟨_, e⟩
    · exact ⟨_, e⟩
  · rcases h2 with ⟨hT, rfl⟩ | ⟨mb, rfl, _, hp⟩
    · have hn : G d = none := by
        cases e : G d with
        | none => rfl
        | some g =>
          obtain ⟨c, hc, _⟩ := (h.gd d hd).1 (by rw [e]; rfl)
          rw [hT] at hc
          simp at hc
      rw [hn]
      exact Maps.look_nil false law Tryz.underlying120 (zeroPtrc W) (keyOf_dot hd)
    · exact (hp.same (hb.block _ hp.lt)).look hd

/-- The root, or a character, or none. -/
def aboveV (t : Nat) (G : Dt → Option Nat) (d : Dt) : Value := if d = (0, 0) then .pointer (some ⟨t, 1, none⟩) else pvoc (G d)

set_option maxRecDepth 100000 in
set_option maxHeartbeats 4000000 in
theorem above_any (t : Nat) (T : List Cr) (G : Dt → Option Nat) (n : Nat) (R : Dt → Bool → Value) (d : Dt) (w : World) (h : TX w t T G G n R) (hd : Dw d) :
    Calls Tryz.prog 58 #[.pointer (some ⟨t, 0, none⟩), dv d] w fun e w' => e = .returned (aboveV t G d) ∧ RowKit.Below w.heap.size w w' := by
  have mixed := mixed
  obtain ⟨fm, hc, ⟨om, rfl⟩, hlk⟩ := h.found
  have htl := h.lt
  have hA : RowKit.Below w.heap.size w (w.alloc (.cells #[.int .i64 d.1, .int .i64 d.2] 24)) := ((Far.refl w).alloc _).below
  by_cases h0 : d = (0, 0)
  · subst h0
    have hr : Hid (aboveV t G (0, 0) = .pointer (some ⟨t, 1, none⟩)) := hid rfl
    clear hlk h hd
    go_enter Tryz.func58, Tryz.ntmps58
    go_wp2
    go_ret
    exact ⟨by rw [hr.out]; rfl, hA⟩
  · obtain ⟨d1, d2⟩ := d
    have hr : Hid (aboveV t G (d1, d2) = pvoc (G (d1, d2))) := hid (if_neg h0)
    have hx : ((d1 == 0) && (d2 == 0)) = false := by
      rcases dot_cases (d1, d2) with e | ⟨_, e, _⟩ | ⟨_, _, e, _⟩
      · exact absurd e h0
      · simp [e]
      · simp [e]
    obtain ⟨W, hW⟩ : ∃ W, W = w.alloc (.cells #[.int .i64 d1, .int .i64 d2] 24) := ⟨_, rfl⟩
    have k0 : W.cell? ⟨w.heap.size, 0, none⟩ = some (.int .i64 d1) := by rw [hW]; go_simp
    have k1 : W.cell? ⟨w.heap.size, 1, none⟩ = some (.int .i64 d2) := by rw [hW]; go_simp
    rw [← hW] at hA
    have hwl : w.heap.size < W.heap.size := by rw [hW]; simp
    haveI : Nonempty (Wb W) := ⟨⟨W, Below.refl _ _⟩⟩
    have y0 := fun p : Wb W => (p.h.cell (p := ⟨w.heap.size, 0, none⟩) hwl).trans k0
    have y1 := fun p : Wb W => (p.h.cell (p := ⟨w.heap.size, 1, none⟩) hwl).trans k1
    have yt := fun p : Wb W => ((below2 hA p.h).cell (p := ⟨t, 0, none⟩) htl).trans hc
    have yl := fun p : Wb W => hlk p.u (below2 hA p.h) (d1, d2) hd
    generalize pvoc (G (d1, d2)) = pr at *
    clear hlk h h0
    by_cases e0 : d1 = 0
    · have e1 : (d2 == 0) = false := by simpa [e0] using hx
      have e2 : (d2 != 0) = true := by simpa using e1
      subst e0
      go_enter Tryz.func58, Tryz.ntmps58
      go_upto_region 3 with fail
      rw [← hW]
      clear hW
      refine wp_region_below mixed (by kernel_rfl) ?_
      repeat (go_big_quiet_step (fail))
      refine wpQuiet_nil ?_
      intro _ hw'
      obtain ⟨p, hw''⟩ := hw'
      subst hw''
      go_wp2
      go_ret
      exact ⟨by rw [hr.out]; rfl, below2 hA p.h⟩
    · have e1 : (d1 == 0) = false := by simp [e0]
      have e2 : (d1 != 0) = true := by simp [e0]
      clear e0
      go_enter Tryz.func58, Tryz.ntmps58
      go_upto_region 3 with fail
      rw [← hW]
      clear hW
      refine wp_region_below mixed (by kernel_rfl) ?_
      repeat (go_big_quiet_step (fail))
      refine wpQuiet_nil ?_
      intro _ hw'
      obtain ⟨p, hw''⟩ := hw'
      subst hw''
      go_wp2
      go_ret
      exact ⟨by rw [hr.out]; rfl, below2 hA p.h⟩
end

section
set_option linter.unusedVariables false
open Go.RowKit
open Go.Sort (grow)

/-- What lies below block t, and what is of other types than a text's, is as it was. -/
structure FrW (t : Nat) (w w' : World) : Prop where
  os : w'.os = w.os
  tape : w'.tape = w.tape
  output : w'.output = w.output
  size : w.heap.size ≤ w'.heap.size
  block : ∀ k, k < w.heap.size → (k < t ∨ ∃ (cs : Array Value) (ty : TypeId), w.heap[k]? = some (.cells cs ty (0, 0)) ∧ ty ≠ 124 ∧ ty ≠ 126 ∧ ty ≠ 128) → w'.heap[k]? = w.heap[k]?

theorem FrW.of_below {t : Nat} {w w' : World} (h : RowKit.Below w.heap.size w w') : FrW t w w' := ⟨h.os, h.tape, h.output, h.size, fun k hk _ => h.block k hk⟩

theorem FrW.trans {t : Nat} {a b c : World} (h : FrW t a b) (k : FrW t b c) : FrW t a c :=
  ⟨k.os.trans h.os, k.tape.trans h.tape, k.output.trans h.output, Nat.le_trans h.size k.size, fun i hi hc => by
    have e := h.block i hi hc
    refine (k.block i (Nat.lt_of_lt_of_le hi h.size) ?_).trans e
    rcases hc with hc | ⟨cs, ty, h1, h2⟩
    · exact Or.inl hc
    · exact Or.inr ⟨cs, ty, e.trans h1, h2⟩⟩

/-- A block of a text's own may turn. -/
theorem FrW.of_grown {t : Nat} {w w' : World} {r : Option Nat} (h : w.grownBy w' r) (hr : ∀ k, r = some k → t ≤ k ∧ ∀ (cs : Array Value) (ty : TypeId), w.heap[k]? = some (.cells cs ty (0, 0)) → ty = 124 ∨ ty = 126 ∨ ty = 128) : FrW t w w' :=
  ⟨h.os, h.tape, h.output, h.size, fun k hk hc => h.block k hk (fun e => by
    obtain ⟨h1, h2⟩ := hr k e.symm
    rcases hc with hc | ⟨cs, ty, g1, g2, g3, g4⟩
    · omega
    · rcases h2 cs ty g1 with e | e | e
      · exact g2 e
      · exact g3 e
      · exact g4 e)⟩

theorem two_dots (w : World) (d e : Dt) : ((w.alloc (.cells #[.int .i64 d.1, .int .i64 d.2] 24)).alloc (.cells #[.int .i64 e.1, .int .i64 e.2] 24)).cell? ⟨w.heap.size, 0, none⟩ = some (.int .i64 d.1) ∧ ((w.alloc (.cells #[.int .i64 d.1, .int .i64 d.2] 24)).alloc (.cells #[.int .i64 e.1, .int .i64 e.2] 24)).cell? ⟨w.heap.size, 1, none⟩ = some (.int .i64 d.2) ∧
    ((w.alloc (.cells #[.int .i64 d.1, .int .i64 d.2] 24)).alloc (.cells #[.int .i64 e.1, .int .i64 e.2] 24)).cell? ⟨w.heap.size + 1, 0, none⟩ = some (.int .i64 e.1) ∧ ((w.alloc (.cells #[.int .i64 d.1, .int .i64 d.2] 24)).alloc (.cells #[.int .i64 e.1, .int .i64 e.2] 24)).cell? ⟨w.heap.size + 1, 1, none⟩ = some (.int .i64 e.2) ∧
    RowKit.Below w.heap.size w ((w.alloc (.cells #[.int .i64 d.1, .int .i64 d.2] 24)).alloc (.cells #[.int .i64 e.1, .int .i64 e.2] 24)) := by
  refine ⟨by go_simp, by go_simp, by go_simp, by go_simp, (((Far.refl w).alloc _).alloc _).below⟩

set_option maxRecDepth 100000 in
set_option maxHeartbeats 4000000 in
theorem ins_no (t : Nat) (T : List Cr) (G : Dt → Option Nat) (R : Dt → Bool → Value) (id at_ : Dt) (side ch : Int) (w : World) (h : TX w t T G G T.length R) (hid0 : Dw id) (hat : Dw at_) (hm : mayI id at_ side = false) :
    Calls Tryz.prog 26 #[.pointer (some ⟨t, 0, none⟩), dv id, dv at_, .int .i64 side, .int .i64 ch] w fun e w' => e = .returned (.int .i64 1) ∧ RowKit.Below w.heap.size w w' := by
  have mixed := mixed
  obtain ⟨k0, k1, k2, k3, hA⟩ := two_dots w id at_
  obtain ⟨W, hW⟩ : ∃ W, W = (w.alloc (.cells #[.int .i64 id.1, .int .i64 id.2] 24)).alloc (.cells #[.int .i64 at_.1, .int .i64 at_.2] 24) := ⟨_, rfl⟩
  rw [← hW] at k0 k1 k2 k3 hA
  have hWl : w.heap.size + 1 < W.heap.size := by rw [hW]; simp
  have hM := fgmay_any id at_ side W
  rw [hm] at hM
  clear h
  go_enter Tryz.func26, Tryz.ntmps26
  go_upto_region 1 with fail
  rw [← hW]
  clear hW
  go_wp2_with (first
    | (go_at_call 57; refine hM.mono ?_; rintro e w1 ⟨rfl, hF1⟩))
  go_ret
  exact ⟨rfl, below2 hA hF1.below⟩

set_option maxRecDepth 100000 in
set_option maxHeartbeats 4000000 in
theorem ins_twice (t : Nat) (T : List Cr) (G : Dt → Option Nat) (R : Dt → Bool → Value) (id at_ : Dt) (side ch : Int) (w : World) (h : TX w t T G G T.length R) (hid0 : Dw id) (hat : Dw at_) (hm : mayI id at_ side = true) (hf : ∃ c ∈ T, c.id = id) :
    Calls Tryz.prog 26 #[.pointer (some ⟨t, 0, none⟩), dv id, dv at_, .int .i64 side, .int .i64 ch] w fun e w' => e = .returned (.int .i64 32) ∧ RowKit.Below w.heap.size w w' := by
  have mixed := mixed
  obtain ⟨k0, k1, k2, k3, hA⟩ := two_dots w id at_
  obtain ⟨W, hW⟩ : ∃ W, W = (w.alloc (.cells #[.int .i64 id.1, .int .i64 id.2] 24)).alloc (.cells #[.int .i64 at_.1, .int .i64 at_.2] 24) := ⟨_, rfl⟩
  rw [← hW] at k0 k1 k2 k3 hA
  have hWl : w.heap.size + 1 < W.heap.size := by rw [hW]; simp
  obtain ⟨g, hg⟩ : ∃ g, G id = some g := by
    have := (h.gd id hid0).2 hf
    exact Option.isSome_iff_exists.1 this
  have hM := fgmay_any id at_ side W
  rw [hm] at hM
  have hX := hid h
  obtain ⟨fm, hc, ⟨om, rfl⟩, hlk⟩ := h.found
  have htl := h.lt
  have HLK := hid hlk
  clear h hlk
  go_enter Tryz.func26, Tryz.ntmps26
  go_upto_region 1 with fail
  rw [← hW]
  clear hW
  go_upto_region 3 with (first
    | (go_at_call 57; refine hM.mono ?_; rintro e w1 ⟨rfl, hF1⟩))
  have hA1 := below2 hA hF1.below
  have x0 := (hF1.below.cell (p := ⟨w.heap.size, 0, none⟩) (by show w.heap.size < W.heap.size; omega)).trans k0
  have x1 := (hF1.below.cell (p := ⟨w.heap.size, 1, none⟩) (by show w.heap.size < W.heap.size; omega)).trans k1
  have x2 := (hF1.below.cell (p := ⟨w.heap.size + 1, 0, none⟩) (by show w.heap.size + 1 < W.heap.size; omega)).trans k2
  have x3 := (hF1.below.cell (p := ⟨w.heap.size + 1, 1, none⟩) (by show w.heap.size + 1 < W.heap.size; omega)).trans k3
  have hw1l : w.heap.size + 1 < w1.heap.size := Nat.lt_of_lt_of_le hWl hF1.below.size
  clear k0 k1 k2 k3 hM hWl hA hF1
  haveI : Nonempty (Wb w1) := ⟨⟨w1, Below.refl _ _⟩⟩
  have y0 := fun p : Wb w1 => (p.h.cell (p := ⟨w.heap.size, 0, none⟩) (by show w.heap.size < w1.heap.size; omega)).trans x0
  have y1 := fun p : Wb w1 => (p.h.cell (p := ⟨w.heap.size, 1, none⟩) (by show w.heap.size < w1.heap.size; omega)).trans x1
  have yt := fun p : Wb w1 => ((below2 hA1 p.h).cell (p := ⟨t, 0, none⟩) htl).trans hc
  have yl := fun p : Wb w1 => HLK.out p.u (below2 hA1 p.h) id hid0
  rw [hg] at yl
  have yl' : ∀ p : Wb w1, (Instr.lookup 120 (.map om) (.agg #[.int .i64 id.1, .int .i64 id.2]) false).run Tryz.prog p.u = .ok (.pointer (some ⟨g, 0, none⟩)) p.u := yl
  clear yl hg hf
  refine wp_region_below mixed (by kernel_rfl) ?_
  repeat (go_big_quiet_step (fail))
  refine wpQuiet_nil ?_
  intro _ hw'
  obtain ⟨p, hw''⟩ := hw'
  subst hw''
  go_wp2
  go_ret
  exact ⟨rfl, below2 hA1 p.h⟩

set_option maxRecDepth 100000 in
set_option maxHeartbeats 4000000 in
theorem ins_index (t : Nat) (T : List Cr) (G : Dt → Option Nat) (R : Dt → Bool → Value) (id at_ : Dt) (side ch : Int) (w : World) (h : TX w t T G G T.length R) (hid0 : Dw id) (hat : Dw at_) (hm : mayI id at_ side = true) (hf : ¬ ∃ c ∈ T, c.id = id) (hnd : ¬ nodes T at_) :
    Calls Tryz.prog 26 #[.pointer (some ⟨t, 0, none⟩), dv id, dv at_, .int .i64 side, .int .i64 ch] w fun e w' => e = .returned (.int .i64 41) ∧ RowKit.Below w.heap.size w w' := by
  have mixed := mixed
  obtain ⟨k0, k1, k2, k3, hA⟩ := two_dots w id at_
  obtain ⟨W, hW⟩ : ∃ W, W = (w.alloc (.cells #[.int .i64 id.1, .int .i64 id.2] 24)).alloc (.cells #[.int .i64 at_.1, .int .i64 at_.2] 24) := ⟨_, rfl⟩
  rw [← hW] at k0 k1 k2 k3 hA
  have hWl : w.heap.size + 1 < W.heap.size := by rw [hW]; simp
  have hg : G id = none := by
    cases e : G id with
    | none => rfl
    | some g => exact absurd ((h.gd id hid0).1 (by rw [e]; rfl)) hf
  have hga : Hid (aboveV t G at_ = .pointer none) := hid (by
    unfold aboveV
    rw [if_neg (fun e => hnd (Or.inl e))]
    cases e : G at_ with
    | none => rfl
    | some g => exact absurd (Or.inr ((h.gd at_ hat).1 (by rw [e]; rfl))) hnd)
  have hM := fgmay_any id at_ side W
  rw [hm] at hM
  have hX := hid h
  obtain ⟨fm, hc, ⟨om, rfl⟩, hlk⟩ := h.found
  have htl := h.lt
  have HLK := hid hlk
  clear h hlk
  go_enter Tryz.func26, Tryz.ntmps26
  go_upto_region 1 with fail
  rw [← hW]
  clear hW
  go_upto_region 3 with (first
    | (go_at_call 57; refine hM.mono ?_; rintro e w1 ⟨rfl, hF1⟩))
  have hA1 := below2 hA hF1.below
  have x0 := (hF1.below.cell (p := ⟨w.heap.size, 0, none⟩) (by show w.heap.size < W.heap.size; omega)).trans k0
  have x1 := (hF1.below.cell (p := ⟨w.heap.size, 1, none⟩) (by show w.heap.size < W.heap.size; omega)).trans k1
  have x2 := (hF1.below.cell (p := ⟨w.heap.size + 1, 0, none⟩) (by show w.heap.size + 1 < W.heap.size; omega)).trans k2
  have x3 := (hF1.below.cell (p := ⟨w.heap.size + 1, 1, none⟩) (by show w.heap.size + 1 < W.heap.size; omega)).trans k3
  have hw1l : w.heap.size + 1 < w1.heap.size := Nat.lt_of_lt_of_le hWl hF1.below.size
  clear k0 k1 k2 k3 hM hWl hA hF1
  haveI : Nonempty (Wb w1) := ⟨⟨w1, Below.refl _ _⟩⟩
  have y0 := fun p : Wb w1 => (p.h.cell (p := ⟨w.heap.size, 0, none⟩) (by show w.heap.size < w1.heap.size; omega)).trans x0
  have y1 := fun p : Wb w1 => (p.h.cell (p := ⟨w.heap.size, 1, none⟩) (by show w.heap.size < w1.heap.size; omega)).trans x1
  have yt := fun p : Wb w1 => ((below2 hA1 p.h).cell (p := ⟨t, 0, none⟩) htl).trans hc
  have yl := fun p : Wb w1 => HLK.out p.u (below2 hA1 p.h) id hid0
  rw [hg] at yl
  have yl' : ∀ p : Wb w1, (Instr.lookup 120 (.map om) (.agg #[.int .i64 id.1, .int .i64 id.2]) false).run Tryz.prog p.u = .ok (.pointer none) p.u := yl
  clear yl hg hf
  refine wp_region_below mixed (by kernel_rfl) ?_
  repeat (go_big_quiet_step (fail))
  refine wpQuiet_nil ?_
  intro _ hw'
  obtain ⟨p, hw''⟩ := hw'
  subst hw''
  have hA2 := below2 hA1 p.h
  have z2 := (p.h.cell (p := ⟨w.heap.size + 1, 0, none⟩) (by show w.heap.size + 1 < w1.heap.size; omega)).trans x2
  have z3 := (p.h.cell (p := ⟨w.heap.size + 1, 1, none⟩) (by show w.heap.size + 1 < w1.heap.size; omega)).trans x3
  have hAb : Calls Tryz.prog 58 #[.pointer (some ⟨t, 0, none⟩), .agg #[.int .i64 at_.1, .int .i64 at_.2]] p.u fun e w' => e = .returned (.pointer none) ∧ RowKit.Below p.u.heap.size p.u w' := by
    have := above_any t T G T.length R at_ p.u (hX.out.below hA2) hat
    rw [hga.out] at this
    exact this
  clear yl' y0 y1 yt
  generalize p.u = w2 at *
  go_wp2_with (first
    | (go_at_call 58; refine hAb.mono ?_; rintro e w3 ⟨rfl, hB3⟩))
  go_ret
  exact ⟨rfl, below2 hA2 hB3⟩
end

section
set_option linter.unusedVariables false
open Go.RowKit Go.Maps
open Go.Sort (grow)

/-- A text's map is made. -/
theorem TX.mapped {w : World} {t : Nat} {G : Dt → Option Nat} {n : Nat} {R : Dt → Bool → Value} (h : TX w t [] G G n R) : TX ((w.alloc (.map #[] 0)).setCell ⟨t, 0, none⟩ (.map (some w.heap.size))) t [] G G 0 R ∧ FrW t w ((w.alloc (.map #[] 0)).setCell ⟨t, 0, none⟩ (.map (some w.heap.size))) ∧ ((w.alloc (.map #[] 0)).setCell ⟨t, 0, none⟩ (.map (some w.heap.size))).heap[t]? = some (.cells (txCells (.map (some w.heap.size)) (R (0, 0) false) (R (0, 0) true)) 126 (0, 0)) ∧ PMc ((w.alloc (.map #[] 0)).setCell ⟨t, 0, none⟩ (.map (some w.heap.size))) w.heap.size 0 G := by
  have hlt := h.lt
  have hb : RowKit.Below w.heap.size w (w.alloc (.map #[] 0)) := ((Far.refl w).alloc _).below
  have h1 := h.below hb
  obtain ⟨fm, h2, _⟩ := h1.tb
  have hblk : ((w.alloc (.map #[] 0)).setCell ⟨t, 0, none⟩ (.map (some w.heap.size))).heap[t]? = some (.cells (txCells (.map (some w.heap.size)) (R (0, 0) false) (R (0, 0) true)) 126 (0, 0)) := by
    rw [fset_block h2]
    simp [txCells]
  have hpm : PMc ((w.alloc (.map #[] 0)).setCell ⟨t, 0, none⟩ (.map (some w.heap.size))) w.heap.size 0 G := by
    have hp := (PMc.made w).same (w' := (w.alloc (.map #[] 0)).setCell ⟨t, 0, none⟩ (.map (some w.heap.size))) (fset_other (by omega) _)
    obtain ⟨D, ho, hT⟩ := hp
    refine ⟨D, ho, fun d hd => ?_⟩
    have hg : G d = none := by
      cases e : G d with
      | none => rfl
      | some g =>
        obtain ⟨c, hc, _⟩ := (h.gd d hd).1 (by rw [e]; rfl)
        simp at hc
    rw [hg]
    exact hT d hd
  refine ⟨⟨h.wt, ⟨_, hblk, Or.inr ⟨w.heap.size, rfl, hlt, hpm⟩⟩, h.gd, fun c hc => by simp at hc, fun d s hd => ?_, h.apart⟩, ?_, hblk, hpm⟩
  · obtain ⟨gs, k1, k2⟩ := h1.rows d s hd
    refine ⟨gs, k1, World.ownsRow.kept k2 (fgrown_set _ _ _ _) ?_⟩
    cases hb : (R d s).ownBlock with
    | none => exact Or.inl rfl
    | some b =>
      right
      intro e
      cases e
      obtain ⟨cur, hc⟩ := own_block k2 hb
      rw [h2] at hc
      simp at hc
  · refine (FrW.of_below hb).trans (FrW.of_grown (fgrown_set _ _ _ _) (fun k hk => ?_))
    cases hk
    refine ⟨Nat.le_refl _, fun cs ty hc => ?_⟩
    rw [h2] at hc
    simp at hc
    exact Or.inr (Or.inl hc.2.symm)

/-- The map tells of one more. -/
theorem TX.told {w w' : World} {t mb : Nat} {T : List Cr} {G M' : Dt → Option Nat} {n n' : Nat} {R : Dt → Bool → Value} (h : TX w t T G G n R) (hblk : w.heap[t]? = some (.cells (txCells (.map (some mb)) (R (0, 0) false) (R (0, 0) true)) 126 (0, 0))) (htm : t < mb) {m0 : Nat} {M0 : Dt → Option Nat} (hm : PMc w mb m0 M0) (hg : w.grownBy w' (some mb)) (hp : PMc w' mb n' M') :
    TX w' t T G M' n' R ∧ w'.heap[t]? = w.heap[t]? := by
  have hnc : ∀ (k : Nat) (cs : Array Value) (ty : TypeId), w.heap[k]? = some (Obj.cells cs ty (0, 0)) → w'.heap[k]? = w.heap[k]? := fun k cs ty hk => by
    refine hg.block k (Array.getElem?_eq_some_iff.1 hk).1 (fun e => ?_)
    cases e
    obtain ⟨D, ⟨es, clock, h1, _⟩, _⟩ := hm
    rw [h1] at hk
    cases hk
  have ht := hnc t _ _ hblk
  refine ⟨⟨h.wt, ⟨_, ht.trans hblk, Or.inr ⟨mb, rfl, htm, hp⟩⟩, h.gd, fun c hc => ?_, fun d s hd => ?_, h.apart⟩, ht⟩
  · obtain ⟨g, k1, k2, k3⟩ := h.ch c hc
    exact ⟨g, k1, k2, (hnc _ _ _ k3).trans k3⟩
  · obtain ⟨gs, k1, k2⟩ := h.rows d s hd
    refine ⟨gs, k1, World.ownsRow.kept k2 hg ?_⟩
    cases hb : (R d s).ownBlock with
    | none => exact Or.inl rfl
    | some b =>
      right
      intro e
      cases e
      obtain ⟨cur, hc⟩ := own_block k2 hb
      obtain ⟨D, ⟨es, clock, h1, _⟩, _⟩ := hm
      rw [h1] at hc
      cases hc
end

section
open Go.RowKit Go.Maps
theorem map_none (W : World) : (binOp .eql 120 (.map none) (.map none)).run Tryz.prog W = .ok (.bool true) W := by
  have hd : Op.maxDepth = (Op.maxDepth - 1) + 1 := by decide
  simp only [binOp, Op.equal]
  rw [hd]
  simp [Op.equalIn, run_underlying Tryz.underlying120]
theorem map_some (b : Nat) (W : World) : (binOp .eql 120 (.map (some b)) (.map none)).run Tryz.prog W = .ok (.bool false) W := by
  have hd : Op.maxDepth = (Op.maxDepth - 1) + 1 := by decide
  simp only [binOp, Op.equal]
  rw [hd]
  simp [Op.equalIn, run_underlying Tryz.underlying120]
end
end Go.Proofs.YtnmdcdphpcpojaaGreatDoor
