/- row: the dots that are a map's keys, in new memory, rising. What the library's sort does to them is taken as said in SortSays (proved behind this). -/
import Derived.Test.YtplcohjpchfkkaaTrTold
import Derived.Test.YtplcohjpchfkkaaTrDoM
import Derived.Test.YtplcohjpchfkkaaMKeys
import Derived.WalkKit
import Derived.Below
import Derived.Maps.OwnSet
import Derived.Maps.RangeWalk
import Derived.Sort.KeysCollected
import Derived.WalkSpells
import Derived.WalkLawsBesides
import Derived.Sort.OwnSorted
namespace Go.Proofs.Ytplcohjpchfkkaa
section
set_option linter.unusedVariables false
open Go.RowKit Go.Shelf

theorem Try.infoDD : (Try.prog.info? 24).map (fun i => (i.zero, i.size, i.bytes)) = some (some (.agg #[.int .i64 0, .int .i64 0]), 2, 16) := by kernel_rfl

/-- The row's box Bs holds what came; all else that was there is as it was. -/
structure RI (V : World) (Bs : Nat) (pre : List Dt) (W : World) : Prop where
  row : ∃ v, Boxed W Bs 29 v ∧ W.ownsRow V.heap.size 24 2 v pre.length (flat pre)
  size : V.heap.size ≤ W.heap.size
  keep : ∀ j, j < V.heap.size → j ≠ Bs → W.heap[j]? = V.heap[j]?
  sm : Sm V W

theorem RI.own {V : World} {Bs : Nat} (hBs : Bs < V.heap.size) : OwnT V.heap.size (RI V Bs) := by
  rintro s A B row ⟨⟨v, h1, h2⟩, h3, h4, h5⟩ hg hrow
  have hn : ∀ (j : Nat) (cs : Array Value) (ty : TypeId) (fz : Nat × Nat), A.heap[j]? = some (Obj.cells cs ty fz) → ty ≠ 74 → B.heap[j]? = A.heap[j]? := fun j cs ty fz hj hty => hg.block j (Array.getElem?_eq_some_iff.1 hj).1 (fun e => by
    obtain ⟨_, o, ho, ht⟩ := hrow j e.symm
    rw [hj] at ho
    cases ho
    rcases ht with ht | ⟨cs', fz', ht⟩
    · cases ht
    · cases ht; exact hty rfl)
  refine ⟨⟨v, (hn Bs _ _ _ h1 (by decide)).trans h1, ?_⟩, Nat.le_trans h3 hg.size, fun j hj hne => (hg.block j (by omega) (fun e => by have := (hrow j e.symm).1; omega)).trans (h4 j hj hne), h5.trans (Sm.g hg)⟩
  refine h2.kept hg ?_
  rcases h2.2 with ⟨rfl, _⟩ | ⟨g, cap, cur, rfl, _, hgb, _⟩
  · exact .inl rfl
  · refine .inr fun e => ?_
    obtain ⟨_, o, ho, ht⟩ := hrow g (by simpa [Value.ownBlock] using e.symm)
    rw [hgb] at ho
    cases ho
    rcases ht with ht | ⟨cs', fz', ht⟩
    · cases ht
    · cases ht

theorem RI.alloc {V W : World} {Bs : Nat} {pre : List Dt} (hBs : Bs < V.heap.size) (h : RI V Bs pre W) (o : Obj) : RI V Bs pre (W.alloc o) := (RI.own hBs).alloc (s := pre) o h

theorem RI.app {V W w2 : World} {Bs : Nat} {pre : List Dt} {x : Dt} {v v' : Value} (hBs : Bs < V.heap.size) (h3 : V.heap.size ≤ W.heap.size) (h4 : ∀ j, j < V.heap.size → j ≠ Bs → W.heap[j]? = V.heap[j]?) (h5 : Sm V W) (h1 : Boxed W Bs 29 v) (h2 : W.ownsRow V.heap.size 24 2 v pre.length (flat pre)) {o : Obj} (ho : w2.ownsRow V.heap.size 24 2 v' (pre.length + 1) (flat pre ++ [.int .i64 x.1, .int .i64 x.2])) (hg : (W.alloc o).grownBy w2 v.ownBlock) :
    w2.cell? ⟨Bs, 0, none⟩ = some v ∧ w2.frozen? ⟨Bs, 0, none⟩ = false ∧ Hid (RI V Bs (pre ++ [x]) (w2.setCell ⟨Bs, 0, none⟩ v') ∧ KeepsFrom V.heap.size W (w2.setCell ⟨Bs, 0, none⟩ v') ∧ KU V.heap.size (fun k => V.heap.size ≤ k ∨ k = Bs) W (w2.setCell ⟨Bs, 0, none⟩ v')) := by
  have hv1 : Boxed w2 Bs 29 v := (h1.alloc o).kept hg (h1.not_row (by decide) h2)
  have hrb : ∀ j, v.ownBlock = some j → V.heap.size ≤ j ∧ ∃ cs, W.heap[j]? = some (.cells cs 24 (0, 0)) := fun j ej => by
    rcases h2.2 with ⟨rfl, _⟩ | ⟨g, cap, cur, rfl, hb, hgb, _⟩
    · simp [Value.ownBlock] at ej
    · obtain rfl : g = j := by simpa [Value.ownBlock] using ej
      exact ⟨hb, cur, hgb⟩
  have hz : W.heap.size ≤ (w2.setCell ⟨Bs, 0, none⟩ v').heap.size := by
    have := hg.size
    have := (grownBy_setCell' w2 Bs v').size
    simp at *
    omega
  have hk : ∀ j, j < W.heap.size → j ≠ Bs → v.ownBlock ≠ some j → (w2.setCell ⟨Bs, 0, none⟩ v').heap[j]? = W.heap[j]? := fun j hj hne hnv =>
    (Below.heap_setCell _ _ _ j (by simpa using hne)).trans ((hg.block j (by simp; omega) (fun e => hnv e.symm)).trans (Below.heap_alloc W o j hj))
  refine ⟨hv1.cell, hv1.frozen, hid ⟨⟨⟨v', hv1.set v', ?_⟩, Nat.le_trans h3 hz, fun j hj hne => (hk j (by omega) hne (fun e => by have := (hrb j e).1; omega)).trans (h4 j hj hne), h5.trans (Sm.trans ⟨rfl, rfl, rfl⟩ ((Sm.g hg).trans ⟨rfl, rfl, rfl⟩))⟩, ⟨hz, fun k ob hk2 hob hc => ?_⟩, ⟨hz, fun k cs ty fz hkk hor => ?_, fun k hk2 es c he => ?_⟩⟩⟩
  · have := ho.kept (grownBy_setCell' w2 Bs v') (.inr (hv1.not_row (by decide) ho).symm)
    rw [List.length_append, flat_append]
    exact this
  · refine (hk k (Array.getElem?_eq_some_iff.1 hob).1 (by omega) (fun e => ?_)).trans hob
    obtain ⟨_, cs, hcs⟩ := hrb k e
    rw [hob] at hcs
    cases hcs
    cases hc
  · refine (hk k (Array.getElem?_eq_some_iff.1 hkk).1 (fun e => ?_) (fun e => ?_)).trans hkk
    · rcases hor with hor | hor
      · exact hor (Or.inr e)
      · subst e
        rw [show W.heap[k]? = _ from h1] at hkk
        cases hkk
        exact absurd hor (by decide)
    · obtain ⟨hge, cs', hcs⟩ := hrb k e
      rcases hor with hor | hor
      · exact hor (Or.inl hge)
      · rw [hcs] at hkk
        cases hkk
        exact absurd hor (by decide)
  · refine (hk k (Array.getElem?_eq_some_iff.1 he).1 (fun e => ?_) (fun e => ?_)).trans he
    · subst e
      rw [show W.heap[k]? = _ from h1] at he
      cases he
    · have := (hrb k e).1
      omega

theorem cell_two {w : World} (x y : Value) (T : TypeId) : ∀ j u, ([x, y] : List Value)[j]? = some u → (w.alloc (.cells #[x, y] T)).cell? ((⟨w.heap.size, 0, none⟩ : Addr).add j) = some u := fun j u hu => by
  have ea : ((⟨w.heap.size, 0, none⟩ : Addr).add j) = ⟨w.heap.size, j, none⟩ := by unfold Addr.add; split <;> simp_all
  rw [ea]
  simp only [World.cell?]
  rw [show (w.alloc (.cells #[x, y] T)).heap[w.heap.size]? = some (.cells #[x, y] T (0, 0)) from World.alloc_heap_new w _]
  simpa using hu
end

section
open Go.RowKit Go.Sort Go.Maps

/-- What a map that reads as D holds at the dots. -/
def MTells (D : DataW Unit) (g : Dt → Option Int) : Prop :=
  ∀ d, Dw d → Maps.has D (kl d) = (g d).isSome ∧ ∀ c, g d = some c → ∀ z, D.atKey (kl d) z = .lit (.int .i64 c)

theorem tells_empty : MTells (.map []) (fun _ => Option.none) := fun d _ => ⟨rfl, fun c h => by cases h⟩

theorem MTells.put {D : DataW Unit} {g : Dt → Option Int} (h : MTells D g) (hm : IsMap D) {d : Dt} (hd : Dw d) (c : Int) :
    MTells (D.put (kl d) (.lit (.int .i64 c))) (fun e => if e = d then some c else g e) := by
  intro e he
  by_cases hed : e = d
  · subst hed
    simp only [if_true]
    refine ⟨by rw [has_put_same hm (kl_isKey _)]; rfl, fun c' hc z => ?_⟩
    cases hc
    exact atKey_put_same hm (kl_isKey _) _ _
  · have hne : kl e ≠ kl d := fun h' => hed (kl_inj he hd h')
    simp only [hed, if_false]
    refine ⟨by rw [has_put_other hne]; exact (h e he).1, fun c' hc z => ?_⟩
    rw [atKey_put_other hne]
    exact (h e he).2 c' hc z

theorem MTells.del {D : DataW Unit} {g : Dt → Option Int} (h : MTells D g) {d : Dt} (hd : Dw d) :
    MTells (D.del (kl d)) (fun e => if e = d then Option.none else g e) := by
  intro e he
  by_cases hed : e = d
  · subst hed
    simp only [if_true]
    refine ⟨by rw [has_del_same]; rfl, fun c' hc z => by cases hc⟩
  · have hne : kl e ≠ kl d := fun h' => hed (kl_inj he hd h')
    simp only [hed, if_false]
    refine ⟨by rw [has_del_other hne]; exact (h e he).1, fun c' hc z => ?_⟩
    rw [atKey_del_other hne]
    exact (h e he).2 c' hc z

theorem MTells.congr {D : DataW Unit} {g g' : Dt → Option Int} (h : MTells D g) (e : ∀ d, g d = g' d) : MTells D g' := fun d hd => by rw [← e d]; exact h d hd

theorem nodup_kl : ∀ {S : List Dt}, S.Nodup → Dws S → (S.map kl).Nodup
  | [], _, _ => List.nodup_nil
  | x :: r, h, hw => by
    obtain ⟨h1, h2⟩ := List.nodup_cons.1 h
    refine List.nodup_cons.2 ⟨fun hm => ?_, nodup_kl h2 (fun d hd => hw d (List.mem_cons_of_mem _ hd))⟩
    obtain ⟨d, hd, e⟩ := List.mem_map.1 hm
    exact h1 (kl_inj (hw d (List.mem_cons_of_mem _ hd)) (hw x (List.mem_cons_self ..)) e ▸ hd)

/-- How many entries: as many as there are dots. -/
theorem MTells.size {w : World} {b n : Nat} {D : DataW Unit} {g : Dt → Option Int} (h : MTells D g) (hown : w.ownsMap Try.prog 24 (plainElem (H := Unit) Try.prog 3) b n D) {S : List Dt} (hS : S.Nodup) (hw : Dws S) (hm : ∀ d, Dw d → ((g d).isSome = true ↔ d ∈ S)) :
    Maps.size D = S.length := by
  obtain ⟨es, hD, hpw, _⟩ := hown.entries law
  obtain ⟨es', hD', hko⟩ := hown.keysOf
  obtain rfl : es = es' := by rw [hD] at hD'; simpa using hD'
  subst hD
  have hp : (es.map Prod.fst).Perm (S.map kl) := by
    refine (List.perm_ext_iff_of_nodup ?_ ?_).2 fun x => ?_
    · exact List.pairwise_map.2 hpw
    · exact nodup_kl hS hw
    · constructor
      · intro hx
        obtain ⟨p, hp, rfl⟩ := List.mem_map.1 hx
        obtain ⟨v, hv⟩ := hko p hp
        obtain ⟨d, _, hdw, hk⟩ := keyOf_dot_inv hv
        have hh : Maps.has (.map es) (kl d) = true := List.any_eq_true.2 ⟨p, hp, by rw [hk]; exact WideAt.sameKey_self (kl_isKey d)⟩
        rw [(h d hdw).1] at hh
        exact List.mem_map.2 ⟨d, (hm d hdw).1 hh, hk.symm⟩
      · intro hx
        obtain ⟨d, hd, rfl⟩ := List.mem_map.1 hx
        have hh := (hm d (hw d hd)).2 hd
        rw [← (h d (hw d hd)).1] at hh
        obtain ⟨p, hp, hs⟩ := List.any_eq_true.1 hh
        exact List.mem_map.2 ⟨p, hp, WideAt.sameKey_eq hs⟩
  have := hp.length_eq
  simpa [Maps.size] using this

/-- Where each dot stands first. -/
def pl (L : List Dt) (d : Dt) : Option Int := if d ∈ L then some (L.idxOf d : Int) else Option.none

theorem pl_some (L : List Dt) (d : Dt) : (pl L d).isSome = true ↔ d ∈ L := by unfold pl; split <;> simp_all

theorem pl_snoc (L : List Dt) (d e : Dt) : pl (L ++ [d]) e = if (pl L d).isSome = true then pl L e else if e = d then some (L.length : Int) else pl L e := by
  unfold pl
  by_cases hd : d ∈ L
  · by_cases he : e ∈ L
    · simp [hd, he, List.idxOf_append]
    · have : e ≠ d := fun h => he (h ▸ hd)
      simp [hd, he, this]
  · by_cases hed : e = d
    · subst hed
      simp [hd, List.idxOf_append]
    · by_cases he : e ∈ L
      · simp [hd, he, hed, List.idxOf_append]
      · simp [hd, he, hed]

end

section
open Go.RowKit Go.Sort Go.Maps

/-- Block b is a map of at most n dots that tells g. -/
def DM (w : World) (b n : Nat) (g : Dt → Option Int) : Prop := ∃ D : DataW Unit, w.ownsMap Try.prog 24 (plainElem (H := Unit) Try.prog 3) b n D ∧ MTells D g

theorem DM.below {w w' : World} {b n : Nat} {g : Dt → Option Int} (h : DM w b n g) {B : Nat} (hb : Below B w w') (hB : b < B) : DM w' b n g := by
  obtain ⟨D, ⟨es, clock, h1, h2⟩, hT⟩ := h
  exact ⟨D, ⟨es, clock, by rw [hb.block b hB]; exact h1, h2⟩, hT⟩

theorem DM.lt {w : World} {b n : Nat} {g : Dt → Option Int} (h : DM w b n g) : b < w.heap.size := by
  obtain ⟨D, hown, _⟩ := h
  exact hown.lt

set_option maxHeartbeats 2000000 in
theorem places_any (a : Option Addr) (n c : Nat) (L : List Dt) (w : World) (hs : PS w a n c L) (hd : Dws L) (hn : n ≤ 1000000) :
    Calls Try.prog 58 #[.slice a n c] w fun e w' => e = .returned (.map (some w.heap.size)) ∧ DM w' w.heap.size n (pl L) ∧ Below w.heap.size w w' := by
  have hlen := hs.len
  have hcap := hs.cap
  have hmk := @run_makeMap Try.prog
  go_enter Try.func58, Try.ntmps58
  go_wp2
  go_loopw [11] (fun i wr => ∃ k : Nat, k ≤ n ∧ i = .int .i64 k ∧ DM wr w.heap.size k (pl (L.take k)) ∧ Below w.heap.size w wr) (fun i _ => n - (intOf i).toNat)
  case atStart => exact ⟨0, by omega, rfl, ⟨_, World.ownsMap_made _ _ _ _, tells_empty.congr (fun d => by simp [pl])⟩, (Below.refl _ _).alloc (Nat.le_refl _) _⟩
  case round =>
    obtain ⟨k, hk, rfl, hdm, hbl⟩ := hrel
    by_cases hlt : k < n
    · obtain ⟨g, o, rfl, hg, hcell⟩ := (hs.below hbl).at (by omega)
      obtain ⟨hc0, hc1⟩ := hcell k (by omega)
      have hdk : Dw (L[k]'(by omega)) := hd _ (List.getElem_mem _)
      have hts := take_snoc (L := L) (k := k) (by omega)
      generalize (L[k]'(by omega)) = d at hc0 hc1 hdk hts
      obtain ⟨D, hown, hT⟩ := hdm
      have hlk := hT d hdk
      clear hs hd hcell
      cases hp : pl (L.take k) d with
      | none =>
        rw [hp] at hlk
        obtain ⟨hhas, _⟩ := hlk
        have hhas' : Maps.has D (kl d) = false := hhas
        go_wp2_with (first
          | (at_lookup; refine wpList_lookup_own_ok_int _ rfl _ _ 106 rfl 24 3 .i64 law Try.underlying106 Try.underlying3 (zero3 _) w.heap.size k D rfl (hown.alloc _) _ _ rfl (keyOf_dot hdk) ?_; intro cc hat hwc; rw [hhas'])
          | (at_mapUpdate; refine wpList_mapUpdate_own _ rfl _ _ _ 106 rfl 24 3 law Try.underlying106 _ w.heap.size k D rfl (hown.alloc _) (by unfold maxLen; omega) _ _ (kl d) rfl rfl (keyOf_dot hdk) (.lit (.int .i64 k)) [] (plainElem_int Try.underlying3 (WalkArith.wf_i64 (by omega))) ?_; intro w1 hown1 hgrow1))
        go_roundw
        case rel =>
          refine ⟨k + 1, by omega, by go_num, ⟨_, hown1, ?_⟩, (hbl.alloc hbl.size _).grown hgrow1 (hbl.alloc hbl.size _).size (fun j hj => by cases hj; exact Nat.le_refl _)⟩
          refine (hT.put hown.isMap hdk k).congr fun e => ?_
          rw [hts, pl_snoc, hp, List.length_take]
          simp only [Option.isSome_none, Bool.false_eq_true, if_false]
          rw [Nat.min_eq_left (by omega)]
        case measure => simp [intOf]; omega
      | some cc =>
        rw [hp] at hlk
        obtain ⟨hhas, _⟩ := hlk
        have hhas' : Maps.has D (kl d) = true := hhas
        go_wp2_with (first
          | (at_lookup; refine wpList_lookup_own_ok_int _ rfl _ _ 106 rfl 24 3 .i64 law Try.underlying106 Try.underlying3 (zero3 _) w.heap.size k D rfl (hown.alloc _) _ _ rfl (keyOf_dot hdk) ?_; intro cc hat hwc; rw [hhas']))
        go_roundw
        case rel =>
          refine ⟨k + 1, by omega, by go_num, ⟨_, (hown.alloc _).mono (Nat.le_succ _), ?_⟩, hbl.alloc hbl.size _⟩
          refine hT.congr fun e => ?_
          rw [hts, pl_snoc, hp]
          simp
        case measure => simp [intOf]; omega
    · obtain rfl : k = n := by omega
      go_wp2
      go_ret
      rw [← hlen, List.take_length] at hdm
      exact ⟨rfl, hlen ▸ hdm, hbl⟩

end

section
open Go.RowKit Go.Sort Go.Maps

/-- The slice of n dots in block g, of this capacity, is of the call's own and holds L. -/
abbrev Own (w : World) (base g n c : Nat) (L : List Dt) : Prop := w.ownsRow base 24 2 (.slice (some ⟨g, 0, none⟩) n c) n (flat L)

theorem Own.ps {w : World} {base g n c : Nat} {L : List Dt} (h : Own w base g n c L) (hl : L.length = n) : PS w (some ⟨g, 0, none⟩) n c L := by
  have hc := h.cells (g := g) rfl
  rcases h.2 with ⟨h0, _⟩ | ⟨g', cap', cur, hv, hg, hb, hn, hcap, _, _⟩
  · cases h0
  · cases hv
    exact ⟨hl, hn, hcap, fun h => (by cases h), fun ad ha j u hj => (by cases ha; exact hc j u hj)⟩

/-- What the library's sort does to a row of dots each of which stands there once. -/
def SortSays : Prop := ∀ (base g c : Nat) (ds : List Dt) (w : World), Own w base g ds.length c ds → ds.Nodup → ds.length ≤ 1000000 →
  Calls Try.prog 78 #[.slice (some ⟨g, 0, none⟩) ds.length c, .func (.func 79) #[] #[]] w fun e w' =>
    e = .returned (.tuple #[]) ∧ Own w' base g ds.length c (rise ds) ∧ w.grownBy w' (some g)

/-- The dots that were met so far. -/
def Coll (D : DataW Unit) (left : Lit → Bool) (cs : List Dt) : Prop := cs.Nodup ∧ Dws cs ∧ ∀ d, Dw d → (d ∈ cs ↔ Maps.has D (kl d) = true ∧ left (kl d) = false)

theorem coll_start (D : DataW Unit) : Coll D (Maps.has D) [] := ⟨List.nodup_nil, fun d hd => by simp at hd, fun d _ => by cases Maps.has D (kl d) <;> simp⟩

theorem Coll.step {D : DataW Unit} {left : Lit → Bool} {cs : List Dt} (h : Coll D left cs) {x : Dt} (hx : Dw x) {y : DataW Unit} (hlk : left (kl x) = true) (hat : ∀ zd, D.atKey (kl x) zd = y) :
    Coll D (fun z => left z && !z.sameKey (kl x)) (cs ++ [x]) := by
  have hhas : Maps.has D (kl x) = true := has_true_of_atKey hat
  have hnew : x ∉ cs := fun hm => by have := ((h.2.2 x hx).1 hm).2; rw [hlk] at this; cases this
  refine ⟨List.nodup_append.2 ⟨h.1, by simp, fun a ha b hb => by simp at hb; subst hb; exact fun e => hnew (e ▸ ha)⟩, fun d hd => ?_, fun d hd => ?_⟩
  · rcases List.mem_append.1 hd with hd | hd
    · exact h.2.1 d hd
    · simp at hd; exact hd ▸ hx
  · by_cases hdx : d = x
    · subst hdx
      simp [hhas, WideAt.sameKey_self (kl_isKey d)]
    · have hs : (kl d).sameKey (kl x) = false := sameKey_ne (fun e => hdx (kl_inj hd hx e))
      simp [h.2.2 d hd, hdx, hs]

theorem cell_two_new1 (w : World) (o : Obj) (x y : Value) (T : TypeId) : ∀ j u, ([x, y] : List Value)[j]? = some u → ((w.alloc o).alloc (.cells #[x, y] T)).cell? ((⟨w.heap.size + 1, 0, none⟩ : Addr).add j) = some u := by
  have := cell_two_new (w.alloc o) x y T
  simpa using this

theorem nodup_rise_length {l : List Dt} (h : l.Nodup) : (rise l).length = l.length :=
  ((List.perm_ext_iff_of_nodup (up_nodup (up_rise l)) h).2 (fun d => mem_rise d l)).length_eq

set_option maxRecDepth 100000 in
set_option maxHeartbeats 2000000 in
theorem row_has (hsort : SortSays) (b m : Nat) (D : DataW Unit) (S : List Dt) (w : World) (hown : w.ownsMap Try.prog 24 (plainElem (H := Unit) Try.prog 3) b m D) (hS : ∀ d, Dw d → (Maps.has D (kl d) = true ↔ d ∈ S)) (hw : Dws S) (hm : m ≤ 1000000) :
    Calls Try.prog 57 #[.map (some b)] w fun e w' => ∃ g c, e = .returned (.slice (some ⟨g, 0, none⟩) (rise S).length c) ∧ Own w' w.heap.size g (rise S).length c (rise S) ∧ Below w.heap.size w w' := by
  obtain ⟨i0, hi, hz0, hz1, hz2⟩ := info_parts Try.info24
  have hbl := hown.lt
  have hsz := hown.size_le
  go_enter Try.func57, Try.ntmps57
  go_wp2_with (first
    | (at_len; refine wpList_len_own _ rfl _ 106 rfl 24 3 Try.underlying106 _ b m _ rfl hown ?_)
    | (at_make; refine wpList_make_own _ rfl _ _ 29 rfl w.heap.size 24 i0 (.agg #[.int .i64 0, .int .i64 0]) 2 Try.underlying29 hi hz0 hz1 _ _ _ (Maps.size D) rfl rfl rfl (by rw [hz2]; omega) (by unfold maxLen; omega) (Nat.le_refl _) ?_; intro w1 hrow1 hg1)
    | (at_range; refine wpList_range_own _ rfl _ 106 rfl 24 3 law Try.underlying106 _ b m _ rfl (hown.kept hg1 (by simp)) ?_; intro w0 hrg0 hg0 hs0)
    | go_in)
  go_frame
  go_loopw [3] (fun v wr => ∃ (left : Lit → Bool) (cnt : Nat) (cs : List Dt), wr.ranges Try.prog 24 (plainElem (H := Unit) Try.prog 3) b w1.heap.size m D left cnt ∧ cs.length + cnt ≤ Maps.size D ∧
      wr.ownsRow w.heap.size 24 2 v cs.length (flat cs) ∧ v ≠ .slice none 0 0 ∧ Coll D left cs ∧ Below w.heap.size w wr)
    (fun _ wr => wr.rangeLeft b w1.heap.size)
  case atStart =>
    exact ⟨_, _, [], hrg0, by simp, hrow1.kept hg0 (Or.inr (by simp [Value.ownBlock])), by simp, coll_start D,
      ((Below.refl _ _).grown hg1 (Nat.le_refl _) (fun j hj => by cases hj)).grown hg0 hg1.size (fun j hj => by cases hj)⟩
  case round =>
    obtain ⟨left, cnt, cs, hrg, hcs, hrow, hnn, hC, hnx⟩ := hrel
    go_wp2_with (first
      | (at_next; refine wpList_next_ranges _ rfl _ rfl 24 law (plainElem (H := Unit) Try.prog 3) dv (Value.int .i64) (fun key kl hk => by obtain ⟨x, hx, _⟩ := keyOf_dot_inv hk; exact ⟨x, hx⟩) (fun v y hv => by obtain ⟨c, rfl, _⟩ := plainElem_int_inv Try.underlying3 hv; exact ⟨c, rfl⟩) b w1.heap.size m _ _ _ rfl hrg ?_ ?_)
      | go_in)
    · intro hc0 hl0
      rcases hrow.2 with ⟨hnil, _⟩ | ⟨g, cap, cur, rfl, hbase, hb, h1, h2, h3, h4⟩
      · exact absurd hnil hnn
      have hc := hsort w.heap.size g cap cs wr hrow hC.1 (by omega)
      have hrs : rise cs = rise S := up_ext (up_rise _) (up_rise _) (fun d => by
        rw [mem_rise, mem_rise]
        constructor
        · intro hd
          have hdw := hC.2.1 d hd
          exact (hS d hdw).1 ((hC.2.2 d hdw).1 hd).1
        · intro hd
          have hdw := hw d hd
          exact (hC.2.2 d hdw).2 ⟨(hS d hdw).2 hd, hl0 _⟩)
      have hk : Hid (rise cs = rise S ∧ cs.length = (rise S).length) := hid ⟨hrs, by rw [← hrs]; exact (nodup_rise_length hC.1).symm⟩
      clear hrs hc0 hl0
      go_wp2_with (go_at_call 78; refine hc.mono ?_; rintro e w' ⟨rfl, ho', hg'⟩)
      go_ret
      obtain ⟨hrs, hcl⟩ := hk.out
      rw [hrs, hcl] at ho'
      refine ⟨g, cap, by rw [hcl]; rfl, ho', hnx.grown hg' hnx.size (fun j hj => by cases hj; exact hbase)⟩
    · intro x1 x2 c kk yd yp w2 cnt2 hkey hlk hv hat hrg2 hlt hg2 hs2 hen
      obtain ⟨x', ex, hxw, rfl⟩ := keyOf_dot_inv hkey
      obtain rfl : (x1, x2) = x' := (agg_eq (x1, x2) x').1 ex
      have hrow2 := hrow.kept hg2 (Or.inr (row_ne_iter hrow hrg).symm)
      clear hs2
      go_wp2_with (first
        | (at_builtin; refine wpList_append_own _ rfl _ _ 29 rfl w.heap.size 24 i0 (.agg #[.int .i64 0, .int .i64 0]) 2 16 Try.underlying29 hi hz0 hz1 hz2 rfl (by decide) _ _ _ rfl ((hrow2.alloc _).alloc _) ⟨w2.heap.size + 1, 0, none⟩ 1 1 [.int .i64 x1, .int .i64 x2] rfl rfl (cell_two_new1 _ _ _ _ _) (by simp [Value.oneCell']) (by unfold maxLen at *; omega) (by omega) (by have := hnx.size; have := hg2.size; simp; omega) ?_; intro v' w3 hown' hg3 hnil3; go_frame)
        | go_in)
      have hrg3 := ((hrg2.alloc _).alloc _).kept hg3 (row_ne_low hrow2 hbl) (row_ne_iter hrow2 hrg2)
      go_roundw
      case rel =>
        refine ⟨_, cnt2, cs ++ [(x1, x2)], hrg3, by simp; omega, by simpa [flat_append, flat] using hown', fun hv' => by have := (hnil3.1 hv').2; omega, hC.step hxw hlk hat, ?_⟩
        exact (((hnx.grown hg2 hnx.size (fun j hj => by cases hj; exact hg1.size)).alloc (by have := hnx.size; have := hg2.size; omega) _).alloc (by have := hnx.size; have := hg2.size; simp; omega) _).grown hg3 (by have := hnx.size; have := hg2.size; simp; omega) (fun j hj => (hrow2.lt j hj).1)
      case measure => rw [hrg3.left_eq, hrg.left_eq]; exact hlt

theorem row_any (hsort : SortSays) (b m : Nat) (f : Dt → Option Int) (S : List Dt) (w : World) (hdm : DM w b m f) (hS : ∀ d, Dw d → ((f d).isSome = true ↔ d ∈ S)) (hw : Dws S) (hm : m ≤ 1000000) :
    Calls Try.prog 57 #[.map (some b)] w fun e w' => ∃ g c, e = .returned (.slice (some ⟨g, 0, none⟩) (rise S).length c) ∧ Own w' w.heap.size g (rise S).length c (rise S) ∧ Below w.heap.size w w' := by
  obtain ⟨D, hown, hT⟩ := hdm
  exact row_has hsort b m D S w hown (fun d hd => by rw [(hT d hd).1]; exact hS d hd) hw hm

end
end Go.Proofs.Ytplcohjpchfkkaa
