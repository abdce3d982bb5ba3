/- A text in memory. No function of the program. -/
import Derived.Test.YtbpepmajpojacaaVMerge
import Derived.Test.YtbpepmajpojacaaFgSearch
import Derived.Maps.OwnSet
import Derived.Sort.KeysCollected
import Derived.Test.YtbpepmajpojacaaFgMath
namespace Go.Proofs.Ytbpepmajpojacaa
section
open Go.RowKit Go.Sort Go.Maps

/-- A pointer to a block, or none. -/
def pvo : Option Nat → Value
  | none => .pointer none
  | some g => .pointer (some ⟨g, 0, none⟩)
def pz : Option Nat → DataW Unit
  | none => .lit (.int .i64 (-1))
  | some g => .lit (.int .i64 (g : Int))
/-- How such a one reads, as an element of a map: as a number. -/
def pR (v : Value) : Option (DataW Unit × List MemPlace) :=
  match v with
  | .pointer none => some (pz none, [])
  | .pointer (some ⟨g, 0, none⟩) => some (pz (some g), [])
  | _ => none

theorem pR_mk (o : Option Nat) : pR (pvo o) = some (pz o, []) := by cases o <;> rfl

theorem pz_inj {o p : Option Nat} (h : pz o = pz p) : o = p := by
  cases o <;> cases p
  · rfl
  · simp [pz] at h
  · simp [pz] at h
  · simp [pz] at h; congr 1; omega

theorem pR_inv {v : Value} {o : Option Nat} {ps : List MemPlace} (h : pR v = some (pz o, ps)) : v = pvo o := by
  unfold pR at h
  split at h
  · have h1 : pz none = pz o := by simpa using congrArg Prod.fst (Option.some.inj h)
    rw [← pz_inj h1]; rfl
  · rename_i g
    have h1 : pz (some g) = pz o := by simpa using congrArg Prod.fst (Option.some.inj h)
    rw [← pz_inj h1]; rfl
  · cases h

/-- Block b is a map of at most n dots to blocks, that tells G. -/
def PM (w : World) (b n : Nat) (G : Dt → Option Nat) : Prop := ∃ D : DataW Unit, w.ownsMap Try.prog 24 pR b n D ∧ ∀ d, Dw d → Maps.has D (kl d) = (G d).isSome ∧ D.atKey (kl d) (pz none) = pz (G d)

theorem zeroPtr (w : World) : (zeroValue 72).run Try.prog w = .ok (pvo none) w := Try.zeroValue72 w

theorem PM.made (w : World) : PM (w.alloc (.map #[] 0)) w.heap.size 0 (fun _ => none) := ⟨_, World.ownsMap_made _ _ _ _, fun _ _ => ⟨rfl, rfl⟩⟩

theorem PM.lt {w : World} {b n : Nat} {G : Dt → Option Nat} (h : PM w b n G) : b < w.heap.size := by
  obtain ⟨D, ho, _⟩ := h
  exact ho.lt

theorem PM.same {w w' : World} {b n : Nat} {G : Dt → Option Nat} (h : PM w b n G) (hs : w'.heap[b]? = w.heap[b]?) : PM w' b n G := by
  obtain ⟨D, ⟨es, clock, h1, h2⟩, hT⟩ := h
  exact ⟨D, ⟨es, clock, by rw [hs]; exact h1, h2⟩, hT⟩

theorem PM.look {w : World} {b n : Nat} {G : Dt → Option Nat} (h : PM w b n G) {d : Dt} (hd : Dw d) : (Instr.lookup 65 (.map (some b)) (dv d) false).run Try.prog w = .ok (pvo (G d)) w := by
  obtain ⟨D, ho, hT⟩ := h
  obtain ⟨v, ps, hr, hv⟩ := ho.lookup law Try.underlying65 (zeroPtr w) (pR_mk none) (keyOf_dot hd)
  rw [(hT d hd).2] at hv
  rw [hr, pR_inv hv]

theorem PM.put {w : World} {b n : Nat} {G : Dt → Option Nat} (h : PM w b n G) {d : Dt} (hd : Dw d) (g : Nat) (hn : n < maxLen) : ∃ w', (Instr.mapUpdate 65 (.map (some b)) (dv d) (pvF g)).run Try.prog w = .ok () w' ∧ PM w' b (n + 1) (fun e => if e = d then some g else G e) ∧ w.grownBy w' (some b) := by
  obtain ⟨D, ho, hT⟩ := h
  obtain ⟨w', hr, ho', hg⟩ := ho.update law Try.underlying65 hn (keyOf_dot hd) (pR_mk (some g))
  refine ⟨w', hr, ⟨_, ho', fun e he => ?_⟩, hg⟩
  by_cases hea : e = d
  · subst hea
    simp only [if_true]
    exact ⟨by rw [has_put_same ho.isMap (kl_isKey _)]; rfl, atKey_put_same ho.isMap (kl_isKey _) _ _⟩
  · have hne : kl e ≠ kl d := fun h' => hea (kl_inj he hd h')
    simp only [hea, if_false]
    exact ⟨by rw [has_put_other hne]; exact (hT e he).1, by rw [atKey_put_other hne]; exact (hT e he).2⟩

theorem nodup_kl9 : ∀ {S : List Dt}, S.Nodup → Dws S → (S.map kl).Nodup
  | [], _, _ => List.nodup_nil
  | x :: r, h, hw => by
    obtain ⟨h1, h2⟩ := List.nodup_cons.1 h
    refine List.nodup_cons.2 ⟨fun hm => ?_, nodup_kl9 h2 (fun d hd => hw d (List.mem_cons_of_mem _ hd))⟩
    obtain ⟨d, hd, e⟩ := List.mem_map.1 hm
    exact h1 (kl_inj (hw d (List.mem_cons_of_mem _ hd)) (hw x (List.mem_cons_self ..)) e ▸ hd)

/-- How many entries: as many as there are dots. -/
theorem PM.size {w : World} {b n : Nat} {G : Dt → Option Nat} (h : PM w b n G) {S : List Dt} (hS : S.Nodup) (hw : Dws S) (hm : ∀ d, Dw d → ((G d).isSome = true ↔ d ∈ S)) : ∃ D, w.ownsMap Try.prog 24 pR b n D ∧ Maps.size D = S.length := by
  obtain ⟨D, hown, hT⟩ := h
  refine ⟨D, hown, ?_⟩
  obtain ⟨es, hD, hpw, _⟩ := hown.entries law
  obtain ⟨es', hD', hko⟩ := hown.keysOf
  obtain rfl : es = es' := by rw [hD] at hD'; simpa using hD'
  subst hD
  have hp : (es.map Prod.fst).Perm (S.map kl) := by
    refine (List.perm_ext_iff_of_nodup ?_ ?_).2 fun x => ?_
    · exact List.pairwise_map.2 hpw
    · exact nodup_kl9 hS hw
    · constructor
      · intro hx
        obtain ⟨p, hp, rfl⟩ := List.mem_map.1 hx
        obtain ⟨v, hv⟩ := hko p hp
        obtain ⟨d, _, hdw, hk⟩ := keyOf_dot_inv hv
        have hh : Maps.has (.map es) (kl d) = true := List.any_eq_true.2 ⟨p, hp, by rw [hk]; exact WideAt.sameKey_self (kl_isKey d)⟩
        rw [(hT d hdw).1] at hh
        exact List.mem_map.2 ⟨d, (hm d hdw).1 hh, hk.symm⟩
      · intro hx
        obtain ⟨d, hd, rfl⟩ := List.mem_map.1 hx
        have hh := (hm d (hw d hd)).2 hd
        rw [← (hT d (hw d hd)).1] at hh
        obtain ⟨p, hp, hs⟩ := List.any_eq_true.1 hh
        exact List.mem_map.2 ⟨p, hp, WideAt.sameKey_eq hs⟩
  have := hp.length_eq
  simpa [Maps.size] using this

end

section
open Go.RowKit
open Go.Sort (grow)

theorem below_grownN {w w' : World} (h : RowKit.Below w.heap.size w w') (r : Option Nat) : w.grownBy w' r := ⟨h.os, h.tape, h.output, h.size, fun k hk _ => h.block k hk⟩

theorem own_keepP {w w' : World} {base e z : Nat} {v : Value} {n : Nat} {xs : List Value} (h : w.ownsRow base e z v n xs) (hb : RowKit.Below w.heap.size w w') : w'.ownsRow base e z v n xs := World.ownsRow.kept h (below_grownN hb none) (by cases v.ownBlock <;> simp)

theorem prow_one (gs : List Nat) : ∀ y ∈ prow gs, y.oneCell' = true := fun y hy => by
  obtain ⟨g, _, rfl⟩ := List.mem_map.1 hy
  rfl

theorem prow_ins (gs : List Nat) (k g : Nat) : (prow gs).take k ++ [pvF g] ++ (prow gs).drop k = prow (gs.take k ++ [g] ++ gs.drop k) := by simp [prow]

set_option maxRecDepth 100000 in
set_option maxHeartbeats 2000000 in
theorem among_any (base : Nat) (v : Value) (n : Nat) (gs : List Nat) (ds : List Dt) (gc : Nat) (y : Dt) (w : World) (hown : w.ownsRow base 72 1 v n (prow gs)) (hr : CR w gs ds) (hy : IdAt w gc y) (hn : n ≤ 1000000) (hbase : base ≤ w.heap.size) (ha : Up ds) :
    Calls Try.prog 33 #[v, pvF gc] w fun e w' => ∃ g c, e = .returned (.slice (some ⟨g, 0, none⟩) (n + 1) c) ∧ w'.ownsRow base 72 1 (.slice (some ⟨g, 0, none⟩) (n + 1) c) (n + 1) (prow (gs.take (aheadOf ds y) ++ [gc] ++ gs.drop (aheadOf ds y))) ∧ w.grownBy w' v.ownBlock ∧ (v.ownBlock = some g ∨ w.heap.size ≤ g) := by
  obtain ⟨a, c, rfl, hpp⟩ := own_pp hown
  have hk : aheadOf ds y ≤ n := by have := aheadOf_le ds y; have := hr.len; have := hpp.len; omega
  have hS := fgsearch_any a n c gs ds gc y w hpp hr hy hn ha
  have HOWN := hid hown
  have hob : ∀ b, (Value.slice a n c).ownBlock = some b → b < w.heap.size := fun b hb => (World.ownsRow.lt hown b hb).2
  have HOB := hid hob
  have hI : ∀ w1, RowKit.Below w.heap.size w w1 → Calls Try.prog 55 #[.slice a n c, .int .i64 (aheadOf ds y : Nat), .slice (some ⟨w1.heap.size, 0, none⟩) 1 1] (w1.alloc (.cells #[pvF gc] 72)) fun e w' =>
      ∃ g c', e = .returned (.slice (some ⟨g, 0, none⟩) (n + 1) c') ∧ w'.ownsRow base 72 1 (.slice (some ⟨g, 0, none⟩) (n + 1) c') (n + 1) (prow (gs.take (aheadOf ds y) ++ [gc] ++ gs.drop (aheadOf ds y))) ∧ w.grownBy w' (Value.slice a n c).ownBlock ∧ ((Value.slice a n c).ownBlock = some g ∨ w.heap.size ≤ g) := fun w1 hb => by
    have hA : RowKit.Below w.heap.size w (w1.alloc (.cells #[pvF gc] 72)) := below2 hb ((Far.refl w1).alloc _).below
    refine (fginsert_any base (.slice a n c) n (aheadOf ds y) w1.heap.size (prow gs) (pvF gc) _ hk hn (Nat.le_trans hbase hA.size) (own_keepP HOWN.out hA) (fun e => by have := HOB.out _ e; have := hb.size; omega) (MapKept.heap_alloc w1 _).1 (prow_one gs) rfl).mono ?_
    rintro e w' ⟨g, c', rfl, h2, h3, h4⟩
    refine ⟨g, c', rfl, by rw [← prow_ins]; exact h2, (below_grownN hA _).trans h3, ?_⟩
    rcases h4 with h4 | h4
    · exact Or.inl h4
    · exact Or.inr (by rw [h4]; exact hA.size)
  generalize aheadOf ds y = k at *
  generalize gs.take k ++ [gc] ++ gs.drop k = gs' at *
  have HI := hid hI
  have hcm := hpp.cap
  have hcx := hpp.max
  unfold maxLen at hcx
  clear hown hpp hr hob hI hy
  go_enter Try.func33, Try.ntmps33
  go_wp2_with (first
    | (go_at_call 55; refine (HI.out _ hB1).mono ?_; rintro e w2 ⟨g, c', rfl, h2, h3, h4⟩)
    | (go_at_call 53; refine hS.mono ?_; rintro e w1 ⟨rfl, hB1⟩))
  go_ret
  exact ⟨g, c', rfl, h2, h3, h4⟩
end

section
open Go.RowKit
open Go.Sort (grow)

/-- A character's cells; the text's. -/
def Cr.cells (c : Cr) (l r : Value) : Array Value := #[.int .i64 c.id.1, .int .i64 c.id.2, .int .i64 c.ch, .bool c.seen, l, r]
def txCells (fm l r : Value) : Array Value := #[fm, .int .i64 0, .int .i64 0, .int .i64 0, .bool false, l, r]

/-- Block t is a text of the characters T, that lie where G tells; R: the rows of both sides of each one; the map tells M. -/
structure TX (w : World) (t : Nat) (T : List Cr) (G M : Dt → Option Nat) (n : Nat) (R : Dt → Bool → Value) : Prop where
  wt : WT T
  tb : ∃ fm, w.heap[t]? = some (.cells (txCells fm (R (0, 0) false) (R (0, 0) true)) 71 (0, 0)) ∧ ((T = [] ∧ fm = .map none) ∨ ∃ mb, fm = .map (some mb) ∧ t < mb ∧ PM w mb n M)
  gd : ∀ d, Dw d → ((G d).isSome = true ↔ ∃ c ∈ T, c.id = d)
  ch : ∀ c ∈ T, ∃ g, G c.id = some g ∧ t < g ∧ w.heap[g]? = some (.cells (c.cells (R c.id false) (R c.id true)) 69 (0, 0))
  rows : ∀ d s, nodes T d → ∃ gs : List Nat, gs.map some = (kids T d s).map G ∧ w.ownsRow t 72 1 (R d s) (kids T d s).length (prow gs)
  apart : ∀ d s d' s', nodes T d → nodes T d' → (d, s) ≠ (d', s') → (R d s).ownBlock = none ∨ (R d s).ownBlock ≠ (R d' s').ownBlock

theorem TX.lt {w : World} {t : Nat} {T : List Cr} {G M : Dt → Option Nat} {n : Nat} {R : Dt → Bool → Value} (h : TX w t T G M n R) : t < w.heap.size := by
  obtain ⟨fm, h1, _⟩ := h.tb
  exact (Array.getElem?_eq_some_iff.1 h1).1

/-- New memory leaves a text as it is. -/
theorem TX.below {w w' : World} {t : Nat} {T : List Cr} {G M : Dt → Option Nat} {n : Nat} {R : Dt → Bool → Value} (h : TX w t T G M n R) (hb : RowKit.Below w.heap.size w w') : TX w' t T G M n R := by
  refine ⟨h.wt, ?_, h.gd, fun c hc => ?_, fun d s hd => ?_, h.apart⟩
  · obtain ⟨fm, h1, h2⟩ := h.tb
    refine ⟨fm, (hb.block _ (Array.getElem?_eq_some_iff.1 h1).1).trans h1, ?_⟩
    rcases h2 with h2 | ⟨mb, e, hm, hp⟩
    · exact Or.inl h2
    · exact Or.inr ⟨mb, e, hm, hp.same (hb.block _ hp.lt)⟩
  · obtain ⟨g, h1, h2, h3⟩ := h.ch c hc
    exact ⟨g, h1, h2, (hb.block _ (Array.getElem?_eq_some_iff.1 h3).1).trans h3⟩
  · obtain ⟨gs, h1, h2⟩ := h.rows d s hd
    exact ⟨gs, h1, own_keepP h2 hb⟩

/-- The block of a row that is there: it holds pointers. -/
theorem own_block {w : World} {base n : Nat} {v : Value} {xs : List Value} {k : Nat} (h : w.ownsRow base 72 1 v n xs) (hk : v.ownBlock = some k) : ∃ cur, w.heap[k]? = some (.cells cur 72 (0, 0)) := by
  rcases h.2 with ⟨rfl, _⟩ | ⟨g, cap, cur, rfl, _, hg, _⟩
  · cases hk
  · simp only [Value.ownBlock, Option.some.injEq] at hk
    subst hk
    exact ⟨cur, hg⟩

theorem TX.id_at {w : World} {t : Nat} {T : List Cr} {G M : Dt → Option Nat} {n : Nat} {R : Dt → Bool → Value} (h : TX w t T G M n R) {c : Cr} (hc : c ∈ T) {g : Nat} (hg : G c.id = some g) : IdAt w g c.id := by
  obtain ⟨g', h1, _, h3⟩ := h.ch c hc
  rw [hg] at h1
  cases h1
  exact ⟨by simp [World.cell?, h3, Cr.cells], by simp [World.cell?, h3, Cr.cells]⟩

/-- The characters of a row. -/
theorem TX.cr {w : World} {t : Nat} {T : List Cr} {G M : Dt → Option Nat} {n : Nat} {R : Dt → Bool → Value} (h : TX w t T G M n R) {d : Dt} {s : Bool} {gs : List Nat} (he : gs.map some = (kids T d s).map G) : CR w gs (kids T d s) := by
  have hl : gs.length = (kids T d s).length := by simpa using congrArg List.length he
  refine ⟨hl, fun i g k hg hk => ?_⟩
  have h1 : ((gs.map some)[i]? : Option (Option Nat)) = ((kids T d s).map G)[i]? := by rw [he]
  rw [List.getElem?_map, List.getElem?_map, hg, hk] at h1
  simp at h1
  obtain ⟨c, hc, _, _, rfl⟩ := mem_kids.1 (List.mem_of_getElem? hk)
  exact h.id_at hc h1.symm

/-- Two characters lie in two blocks. -/
theorem TX.inj {w : World} {t : Nat} {T : List Cr} {G M : Dt → Option Nat} {n : Nat} {R : Dt → Bool → Value} (h : TX w t T G M n R) {a b : Cr} (ha : a ∈ T) (hb : b ∈ T) {g : Nat} (h1 : G a.id = some g) (h2 : G b.id = some g) : a.id = b.id := by
  have x := h.id_at ha h1
  have y := h.id_at hb h2
  have e0 := x.c0.symm.trans y.c0
  have e1 := x.c1.symm.trans y.c1
  simp at e0 e1
  exact Prod.ext e0 e1

theorem fset_other {w : World} {q r j : Nat} (h : r ≠ q) (v : Value) : (w.setCell ⟨q, j, none⟩ v).heap[r]? = w.heap[r]? := heap_setCell_other w ⟨q, j, none⟩ r v (fun e => h (by simpa using e))
theorem fset_block {w : World} {q j : Nat} {cs : Array Value} {t : TypeId} (h : w.heap[q]? = some (.cells cs t (0, 0))) (u : Value) : (w.setCell ⟨q, j, none⟩ u).heap[q]? = some (.cells (cs.setIfInBounds j u) t (0, 0)) := by
  simp [World.setCell, Array.getElem?_modify, h]
theorem fgrown_set (w : World) (q j : Nat) (v : Value) : w.grownBy (w.setCell ⟨q, j, none⟩ v) (some q) := ⟨rfl, rfl, rfl, by simp, fun k _ hk => heap_setCell_other w ⟨q, j, none⟩ k v (fun e => hk (by simp [e]))⟩

/-- Where the rows of one stand: in which block, from which cell on. -/
def spotOf (t : Nat) (G : Dt → Option Nat) (d : Dt) : Nat × Nat := if d = (0, 0) then (t, 5) else ((G d).getD 0, 4)

/-- One more: its block is there, the map tells of it, its row is made and stored. -/
theorem TX.more {w2 w3 : World} {t : Nat} {T : List Cr} {G : Dt → Option Nat} {n : Nat} {R : Dt → Bool → Value} {c : Cr} {gc : Nat} (h : TX w2 t T G (fun e => if e = c.id then some gc else G e) n R)
    (hnz : c.id ≠ (0, 0)) (hdw : Dw c.id) (hfr : ∀ x ∈ T, x.id ≠ c.id) (hnd : nodes T c.at_) (hrt : c.at_ = (0, 0) → c.sd = true)
    (hmap : ∃ fm mb, w2.heap[t]? = some (.cells (txCells fm (R (0, 0) false) (R (0, 0) true)) 71 (0, 0)) ∧ fm = .map (some mb) ∧ t < mb ∧ PM w2 mb n (fun e => if e = c.id then some gc else G e))
    (hgc : w2.heap[gc]? = some (.cells (c.cells (.slice none 0 0) (.slice none 0 0)) 69 (0, 0))) (htg : t < gc)
    {gs : List Nat} (hgs : gs.map some = (kids T c.at_ c.sd).map G) {q m cq : Nat}
    (hg3 : w2.grownBy w3 (R c.at_ c.sd).ownBlock) (ho3 : w3.ownsRow t 72 1 (.slice (some ⟨q, 0, none⟩) m cq) m (prow (gs.take (aheadOf (kids T c.at_ c.sd) c.id) ++ [gc] ++ gs.drop (aheadOf (kids T c.at_ c.sd) c.id)))) (hm : m = (kids T c.at_ c.sd).length + 1)
    (hq : (R c.at_ c.sd).ownBlock = some q ∨ w2.heap.size ≤ q) :
    TX (w3.setCell ⟨(spotOf t G c.at_).1, (spotOf t G c.at_).2 + (if c.sd then 1 else 0), none⟩ (.slice (some ⟨q, 0, none⟩) m cq)) t (T ++ [c]) (fun e => if e = c.id then some gc else G e) (fun e => if e = c.id then some gc else G e) n
      (fun d s => if d = c.id then .slice none 0 0 else if d = c.at_ ∧ s = c.sd then .slice (some ⟨q, 0, none⟩) m cq else R d s) := by
  have hat : c.at_ ≠ c.id := fun e => by
    rcases hnd with h0 | ⟨x, hx, e'⟩
    · exact hnz (by rw [← e, h0])
    · exact hfr x hx (by rw [e', e])
  have h00 : ((0, 0) : Dt) ≠ c.id := fun e => hnz e.symm
  have hGg : ∀ {d : Dt}, d ≠ c.id → (if d = c.id then some gc else G d) = G d := fun hd => if_neg hd
  -- the row of one's own is of pointers: other blocks are as they were
  have hown0 := h.rows c.at_ c.sd hnd
  have hkeep : ∀ (k : Nat) (cs : Array Value) (ty : TypeId), w2.heap[k]? = some (Obj.cells cs ty (0, 0)) → ty ≠ 72 → w3.heap[k]? = w2.heap[k]? := fun k cs ty hk hty => by
    refine hg3.block k (Array.getElem?_eq_some_iff.1 hk).1 (fun e => ?_)
    obtain ⟨gs0, _, ho⟩ := hown0
    obtain ⟨cur, hc⟩ := own_block ho e.symm
    rw [hk] at hc
    simp at hc
    exact hty hc.2
  have hkeepM : ∀ {k n' : Nat} {M : Dt → Option Nat}, PM w2 k n' M → w3.heap[k]? = w2.heap[k]? := fun {k n' M} hp => by
    refine hg3.block k hp.lt (fun e => ?_)
    obtain ⟨gs0, _, ho⟩ := hown0
    obtain ⟨cur, hc⟩ := own_block ho e.symm
    obtain ⟨D, ⟨es, clock, h1, _⟩, _⟩ := hp
    rw [h1] at hc
    cases hc
  -- in which block the new row's value is stored
  obtain ⟨j4, hj4⟩ : ∃ j4, j4 = (spotOf t G c.at_).2 + (if c.sd then 1 else 0) := ⟨_, rfl⟩
  rw [← hj4]
  obtain ⟨newv, hnewv⟩ : ∃ newv : Value, newv = .slice (some ⟨q, 0, none⟩) m cq := ⟨_, rfl⟩
  have hnb : ∃ cs ty, w2.heap[(spotOf t G c.at_).1]? = some (Obj.cells cs ty (0, 0)) ∧ ty ≠ 72 := by
    unfold spotOf
    by_cases h0 : c.at_ = (0, 0)
    · rw [if_pos h0]
      obtain ⟨fm, h1, _⟩ := h.tb
      exact ⟨_, _, h1, by decide⟩
    · rw [if_neg h0]
      rcases hnd with e | ⟨x, hx, e⟩
      · exact absurd e h0
      · obtain ⟨g, h1, _, h3⟩ := h.ch x hx
        rw [e] at h1
        rw [h1]
        exact ⟨_, _, h3, by decide⟩
  obtain ⟨ncs, nty, hnb2, hnty⟩ := hnb
  have hnb3 := (hkeep _ _ _ hnb2 hnty).trans hnb2
  have hqn : q ≠ (spotOf t G c.at_).1 := fun e => by
    obtain ⟨cur, hc⟩ := own_block ho3 (k := q) rfl
    rw [e, hnb3] at hc
    simp at hc
    exact hnty hc.2
  have hrow4 : ∀ {v : Value} {k : Nat} {xs : List Value}, w3.ownsRow t 72 1 v k xs → (w3.setCell ⟨(spotOf t G c.at_).1, j4, none⟩ newv).ownsRow t 72 1 v k xs := fun {v k xs} hv => by
    refine World.ownsRow.kept hv (fgrown_set _ _ _ _) ?_
    cases hb : v.ownBlock with
    | none => exact Or.inl rfl
    | some b =>
      right
      intro e
      cases e
      obtain ⟨cur, hc⟩ := own_block hv hb
      rw [hnb3] at hc
      simp at hc
      exact hnty hc.2
  have hck : ∀ k ∈ kids T c.at_ c.sd, k ≠ c.id := fun k hk e => by
    obtain ⟨x, hx, _, _, e'⟩ := mem_kids.1 hk
    exact hfr x hx (by rw [e', e])
  rw [← hnewv] at ho3 ⊢
  refine ⟨h.wt.snoc hnz hdw hfr hnd hrt, ?_, fun d hd => ?_, fun x hx => ?_, fun d s hd => ?_, fun d s d' s' hd hd' hne => ?_⟩
  · obtain ⟨fm, mb, h1, hfm, htm, hp⟩ := hmap
    have hp3 : PM w3 mb n (fun e => if e = c.id then some gc else G e) := hp.same (hkeepM hp)
    have hmn : mb ≠ (spotOf t G c.at_).1 := fun e => by
      obtain ⟨D, ⟨es, clock, h5, _⟩, _⟩ := hp
      rw [e, hnb2] at h5
      cases h5
    have h13 := (hkeep _ _ _ h1 (by decide)).trans h1
    refine ⟨fm, ?_, Or.inr ⟨mb, hfm, htm, hp3.same (fset_other hmn _)⟩⟩
    simp only [if_neg h00]
    by_cases h0 : c.at_ = (0, 0)
    · have hsd := hrt h0
      have e1 : spotOf t G c.at_ = (t, 5) := by unfold spotOf; rw [if_pos h0]
      have e2 : j4 = 6 := by rw [hj4, e1, hsd]; rfl
      rw [e1, e2, h0, hsd]
      simp only [true_and, Bool.false_eq_true, if_false, if_true]
      rw [fset_block h13]
      simp [txCells]
    · have hne : t ≠ (spotOf t G c.at_).1 := by
        unfold spotOf
        rw [if_neg h0]
        rcases hnd with e | ⟨x, hx, e⟩
        · exact absurd e h0
        · obtain ⟨g, g1, g2, _⟩ := h.ch x hx
          rw [e] at g1
          rw [g1]
          show t ≠ g
          omega
      rw [fset_other hne, h13]
      have : ¬ ((0, 0) : Dt) = c.at_ := fun e => h0 e.symm
      simp [this]
  · by_cases e : d = c.id
    · subst e
      simp only [if_true, Option.isSome_some, true_iff]
      exact ⟨c, by simp, rfl⟩
    · rw [if_neg e, h.gd d hd]
      constructor
      · rintro ⟨x, hx, e'⟩
        exact ⟨x, List.mem_append_left _ hx, e'⟩
      · rintro ⟨x, hx, e'⟩
        rcases List.mem_append.1 hx with hx | hx
        · exact ⟨x, hx, e'⟩
        · simp at hx
          rw [hx] at e'
          exact absurd e'.symm e
  · rcases List.mem_append.1 hx with hx | hx
    · have hxi := hfr x hx
      obtain ⟨g, g1, g2, g3⟩ := h.ch x hx
      have g4 := (hkeep _ _ _ g3 (by decide)).trans g3
      refine ⟨g, by rw [if_neg hxi]; exact g1, g2, ?_⟩
      simp only [if_neg hxi]
      by_cases ha : x.id = c.at_
      · have hz : c.at_ ≠ (0, 0) := fun e => h.wt.nz x hx (by rw [ha, e])
        have e1 : spotOf t G c.at_ = (g, 4) := by unfold spotOf; rw [if_neg hz, ← ha, g1]; rfl
        have e2 : j4 = 4 + (if c.sd then 1 else 0) := by rw [hj4, e1]
        rw [e1, fset_block g4, e2]
        cases hs : c.sd <;> simp [ha, Cr.cells]
      · have hne : g ≠ (spotOf t G c.at_).1 := by
          unfold spotOf
          by_cases h0 : c.at_ = (0, 0)
          · rw [if_pos h0]; show g ≠ t; omega
          · rw [if_neg h0]
            rcases hnd with e | ⟨y, hy, e⟩
            · exact absurd e h0
            · obtain ⟨g', k1, _, _⟩ := h.ch y hy
              rw [← e, k1]
              show g ≠ g'
              intro e2
              rw [← e2] at k1
              exact ha (by rw [← e]; exact h.inj hx hy g1 k1)
        rw [fset_other hne, g4]
        simp [ha]
    · have hx' : x = c := by simpa using hx
      rw [hx']
      refine ⟨gc, by rw [if_pos rfl], htg, ?_⟩
      simp only [if_true]
      have hne : gc ≠ (spotOf t G c.at_).1 := by
        unfold spotOf
        by_cases h0 : c.at_ = (0, 0)
        · rw [if_pos h0]; show gc ≠ t; omega
        · rw [if_neg h0]
          rcases hnd with e | ⟨y, hy, e⟩
          · exact absurd e h0
          · obtain ⟨g', k1, _, k3⟩ := h.ch y hy
            rw [← e, k1]
            show gc ≠ g'
            intro e2
            rw [← e2, hgc] at k3
            simp [Cr.cells] at k3
            exact hfr y hy (Prod.ext k3.1.symm k3.2.1.symm)
      rw [fset_other hne, hkeep _ _ _ hgc (by decide)]
      exact hgc
  · by_cases hdc : d = c.id
    · subst hdc
      have hk : kids (T ++ [c]) c.id s = [] := by rw [kids_snoc, if_neg (fun e => hat e.1), h.wt.fresh hfr hnz]
      rw [hk]
      refine ⟨[], rfl, ?_⟩
      simp only [if_true]
      exact World.ownsRow_nil _ _ _ _
    · have hdT : nodes T d := by
        rcases nodes_snoc.1 hd with hd | hd
        · exact hd
        · exact absurd hd.symm hdc
      by_cases htgt : d = c.at_ ∧ s = c.sd
      · obtain ⟨rfl, rfl⟩ := htgt
        have hk : kids (T ++ [c]) c.at_ c.sd = (kids T c.at_ c.sd).take (aheadOf (kids T c.at_ c.sd) c.id) ++ [c.id] ++ (kids T c.at_ c.sd).drop (aheadOf (kids T c.at_ c.sd) c.id) := by rw [kids_snoc, if_pos ⟨rfl, rfl⟩, ins_at c.id _ (fun hm' => hck _ hm' rfl)]
        rw [hk]
        refine ⟨gs.take (aheadOf (kids T c.at_ c.sd) c.id) ++ [gc] ++ gs.drop (aheadOf (kids T c.at_ c.sd) c.id), ?_, ?_⟩
        · have hmap2 : (kids T c.at_ c.sd).map (fun e => if e = c.id then some gc else G e) = (kids T c.at_ c.sd).map G := List.map_congr_left (fun k hk => if_neg (hck k hk))
          rw [List.map_append, List.map_append, List.map_append, List.map_append, List.map_take, List.map_drop, List.map_take, List.map_drop, hmap2, hgs]
          simp
        · simp only [if_neg hdc, and_self, if_true]
          have hl : (List.take (aheadOf (kids T c.at_ c.sd) c.id) (kids T c.at_ c.sd) ++ [c.id] ++ List.drop (aheadOf (kids T c.at_ c.sd) c.id) (kids T c.at_ c.sd)).length = m := by
            have := aheadOf_le (kids T c.at_ c.sd) c.id
            simp
            omega
          rw [hl]
          exact hrow4 ho3
      · obtain ⟨gs0, k1, k2⟩ := h.rows d s hdT
        have hks : kids (T ++ [c]) d s = kids T d s := by rw [kids_snoc, if_neg (fun e => htgt ⟨e.1.symm, e.2.symm⟩)]
        refine ⟨gs0, ?_, ?_⟩
        · rw [hks, k1]
          refine (List.map_congr_left (fun k hk => if_neg (fun e => ?_))).symm
          obtain ⟨x, hx, _, _, e'⟩ := mem_kids.1 hk
          exact hfr x hx (by rw [e', e])
        · rw [hks]
          simp only [if_neg hdc, if_neg htgt]
          refine hrow4 (World.ownsRow.kept k2 hg3 (h.apart d s c.at_ c.sd hdT hnd (fun e => htgt (by simpa using e))))
  · by_cases hdc : d = c.id
    · rw [if_pos hdc]
      exact Or.inl rfl
    · by_cases hdc' : d' = c.id
      · rw [if_pos hdc']
        cases ((if d = c.id then Value.slice none 0 0 else if d = c.at_ ∧ s = c.sd then newv else R d s)).ownBlock with
        | none => exact Or.inl rfl
        | some b => exact Or.inr (by simp [Value.ownBlock])
      · have hdT : nodes T d := by
          rcases nodes_snoc.1 hd with hd | hd
          · exact hd
          · exact absurd hd.symm hdc
        have hdT' : nodes T d' := by
          rcases nodes_snoc.1 hd' with hd' | hd'
          · exact hd'
          · exact absurd hd'.symm hdc'
        have hlt : ∀ {e s0}, nodes T e → ∀ b, (R e s0).ownBlock = some b → b < w2.heap.size := fun {e s0} he b hb => by
          obtain ⟨gs0, _, k2⟩ := h.rows e s0 he
          exact (World.ownsRow.lt k2 b hb).2
        have hnq : newv.ownBlock = some q := by rw [hnewv]; rfl
        rw [if_neg hdc, if_neg hdc']
        by_cases h1 : d = c.at_ ∧ s = c.sd
        · rw [if_pos h1, if_neg (fun e => hne (by rw [h1.1, h1.2, e.1, e.2])), hnq]
          right
          intro e
          rcases hq with hq | hq
          · obtain ⟨rfl, rfl⟩ := h1
            rcases h.apart c.at_ c.sd d' s' hnd hdT' hne with k | k
            · rw [hq] at k; cases k
            · exact k (by rw [hq, e])
          · have := hlt hdT' q e.symm
            omega
        · rw [if_neg h1]
          by_cases h2 : d' = c.at_ ∧ s' = c.sd
          · rw [if_pos h2, hnq]
            obtain ⟨rfl, rfl⟩ := h2
            rcases hq with hq | hq
            · rw [← hq]
              exact h.apart d s c.at_ c.sd hdT hnd hne
            · cases hb : (R d s).ownBlock with
              | none => exact Or.inl rfl
              | some b =>
                right
                intro e
                cases e
                have := hlt hdT q hb
                omega
          · rw [if_neg h2]
            exact h.apart d s d' s' hdT hdT' hne
end
end Go.Proofs.Ytbpepmajpojacaa
