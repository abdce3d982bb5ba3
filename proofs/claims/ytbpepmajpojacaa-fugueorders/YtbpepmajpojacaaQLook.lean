/- look: of each of these places whether it is ready now, or for which dot it waits. -/
import Derived.Test.YtbpepmajpojacaaMPlaces
import Derived.WalkKit
import Derived.WalkSpells
import Derived.WalkLawsBesides
import Derived.Sort.OwnSorted
import Derived.Shelf.SlSortCmp.WholeK
import Derived.Test.YtbpepmajpojacaaProg
import Derived.Test.YtbpepmajpojacaaVMerge
import Derived.Deep.RegionLaw
import Derived.Deep.CutRange
namespace Go.Proofs.Ytbpepmajpojacaa
section
open Go.RowKit Go.Sort Go.Maps

/-- The slice of n dots in block g, of this capacity, is of the call's own and holds L. -/
abbrev Own (w : World) (base g n c : Nat) (L : List Dt) : Prop := w.ownsRow base 24 2 (.slice (some ⟨g, 0, none⟩) n c) n (flat L)

theorem Own.ps {w : World} {base g n c : Nat} {L : List Dt} (h : Own w base g n c L) (hl : L.length = n) : PS w (some ⟨g, 0, none⟩) n c L := by
  have hc := h.cells (g := g) rfl
  rcases h.2 with ⟨h0, _⟩ | ⟨g', cap', cur, hv, hg, hb, hn, hcap, _, _⟩
  · cases h0
  · cases hv
    exact ⟨hl, hn, hcap, fun h => (by cases h), fun ad ha j u hj => (by cases ha; exact hc j u hj)⟩

/-- The dots that were met so far. -/
def Coll (D : DataW Unit) (left : Lit → Bool) (cs : List Dt) : Prop := cs.Nodup ∧ Dws cs ∧ ∀ d, Dw d → (d ∈ cs ↔ Maps.has D (kl d) = true ∧ left (kl d) = false)

theorem coll_start (D : DataW Unit) : Coll D (Maps.has D) [] := ⟨List.nodup_nil, fun d hd => by simp at hd, fun d _ => by cases Maps.has D (kl d) <;> simp⟩

theorem Coll.step {D : DataW Unit} {left : Lit → Bool} {cs : List Dt} (h : Coll D left cs) {x : Dt} (hx : Dw x) {y : DataW Unit} (hlk : left (kl x) = true) (hat : ∀ zd, D.atKey (kl x) zd = y) :
    Coll D (fun z => left z && !z.sameKey (kl x)) (cs ++ [x]) := by
  have hhas : Maps.has D (kl x) = true := has_true_of_atKey hat
  have hnew : x ∉ cs := fun hm => by have := ((h.2.2 x hx).1 hm).2; rw [hlk] at this; cases this
  refine ⟨List.nodup_append.2 ⟨h.1, by simp, fun a ha b hb => by simp at hb; subst hb; exact fun e => hnew (e ▸ ha)⟩, fun d hd => ?_, fun d hd => ?_⟩
  · rcases List.mem_append.1 hd with hd | hd
    · exact h.2.1 d hd
    · simp at hd; exact hd ▸ hx
  · by_cases hdx : d = x
    · subst hdx
      simp [hhas, WideAt.sameKey_self (kl_isKey d)]
    · have hs : (kl d).sameKey (kl x) = false := sameKey_ne (fun e => hdx (kl_inj hd hx e))
      simp [h.2.2 d hd, hdx, hs]

theorem cell_two_new1 (w : World) (o : Obj) (x y : Value) (T : TypeId) : ∀ j u, ([x, y] : List Value)[j]? = some u → ((w.alloc o).alloc (.cells #[x, y] T)).cell? ((⟨w.heap.size + 1, 0, none⟩ : Addr).add j) = some u := by
  have := cell_two_new (w.alloc o) x y T
  simpa using this

theorem nodup_rise_length {l : List Dt} (h : l.Nodup) : (rise l).length = l.length :=
  ((List.perm_ext_iff_of_nodup (up_nodup (up_rise l)) h).2 (fun d => mem_rise d l)).length_eq

end

section
open Go.Shelf

end

section
open Go.RowKit
open Go.Sort (grow ahead putRow putCells mapBlock onCells Holds HoldsK flatK putRowK PermIn SortedIn SWO size_flatK get_flatK heap_grow_old)

/-- A dot's two cells. -/
def encD (x : Dt) : List Value := [.int .i64 x.1, .int .i64 x.2]

theorem lt_cfd (x y : Dt) : ltOf cfd x y = dl x y := by
  unfold ltOf cfd
  by_cases h : x = y
  · subst h; simp [dl_irrefl]
  · by_cases h2 : dl x y = true
    · simp [h, h2]
    · simp [h, h2]

theorem swo_cfd : SWO (ltOf cfd) := by
  refine ⟨fun x => ?_, fun x y z h1 h2 => ?_, fun x y z h1 h2 => ?_⟩
  · rw [lt_cfd]; exact dl_irrefl x
  · rw [lt_cfd] at *; exact dl_trans h1 h2
  · rw [lt_cfd] at *
    have k1 : ¬ dl x y = true := by rw [h1]; simp
    have k2 : ¬ dl y z = true := by rw [h2]; simp
    cases hh : dl x z
    · rfl
    · rw [dl_iff] at *; omega

theorem flatK_list (d : Array Dt) : (flatK encD 2 d).toList = flat d.toList := by
  apply List.ext_getElem?
  intro t
  by_cases ht : t < d.size * 2
  · have h1 : (flatK encD 2 d)[t]! = (encD d[t / 2]!)[t % 2]! := get_flatK encD 2 d t ht
    have hi : t / 2 < d.toList.length := by simp; omega
    have hi' : t / 2 < d.size := by omega
    obtain ⟨f1, f2⟩ := flat_get d.toList (t / 2) hi
    have e0 : (flatK encD 2 d).toList[t]? = some ((flatK encD 2 d)[t]!) := by
      rw [Array.getElem?_toList, getElem!_pos _ t (by rw [size_flatK]; exact ht), Array.getElem?_eq_getElem (by rw [size_flatK]; exact ht)]
    rw [e0, h1, getElem!_pos d (t / 2) hi']
    rcases Nat.mod_two_eq_zero_or_one t with hm | hm
    · have : t = t / 2 * 2 := by omega
      rw [hm]
      conv => rhs; rw [this]
      rw [f1]
      simp [encD]
    · have : t = t / 2 * 2 + 1 := by omega
      rw [hm]
      conv => rhs; rw [this]
      rw [f2]
      simp [encD]
  · rw [List.getElem?_eq_none (by rw [Array.length_toList, size_flatK]; omega), List.getElem?_eq_none (by rw [flat_length, Array.length_toList]; omega)]

theorem holds_own {w : World} {base g c : Nat} {ds : List Dt} (h : Own w base g ds.length c ds) : HoldsK encD 2 w g 0 ds.toArray := by
  rcases h.2 with ⟨h0, _⟩ | ⟨g', cap', cur, hv, hg, hb, hn, hcap, hsz, ht⟩
  · cases h0
  · cases hv
    intro j hj
    rw [size_flatK] at hj
    have hj' : j < ds.length * 2 := by simpa using hj
    refine ⟨?_, by simp [World.frozen?, hb]⟩
    have h1 : (cur.toList.take (ds.length * 2))[j]? = (flat ds)[j]? := by rw [ht]
    rw [List.getElem?_take_of_lt hj'] at h1
    simp only [World.cell?, hb, Nat.zero_add]
    simp only [Option.isSome_none, Bool.false_eq_true, if_false]
    rw [← Array.getElem?_toList, h1]
    have e := flatK_list ds.toArray
    have e2 : ds.toArray.toList = ds := rfl
    rw [e2] at e
    rw [← e, Array.getElem?_toList, getElem!_pos _ j (by rw [size_flatK]; exact hj), Array.getElem?_eq_getElem (by rw [size_flatK]; exact hj)]
    rfl

theorem sorted_up {ts : List Dt} (hn : ts.Nodup) (h : SortedIn (ltOf cfd) 0 ts.toArray.size ts.toArray) : Up ts := by
  refine List.pairwise_iff_getElem.2 fun i j hi hj hij => ?_
  have := h i j (Nat.zero_le _) hij (by simpa using hj)
  rw [lt_cfd, getElem!_pos _ j (by simpa using hj), getElem!_pos _ i (by simpa using hi)] at this
  have hne : ts[j] ≠ ts[i] := fun e => by
    have := (List.getElem_inj hn).1 e
    omega
  exact dl_total hne (by simpa using this)

theorem heap_sortedK {w : World} {g n : Nat} {os : Array Obj} {cur : Array Value} {e : TypeId} {fr : Nat × Nat} (d : Array Dt) (hb : w.heap[g]? = some (.cells cur e fr)) :
    (sortWorldK encD 2 w g 0 n d os).heap[g]? = some (.cells (putCells id 0 (flatK encD 2 d) cur) e fr) := by
  have hg : g < w.heap.size := (Array.getElem?_eq_some_iff.1 hb).1
  unfold sortWorldK putRowK
  rw [heap_grow_old _ _ (by simpa using hg)]
  simp [putRow, mapBlock, Array.getElem?_modify, hb, onCells]

theorem grownBy_sortedK {w : World} {g n : Nat} {os : Array Obj} (d : Array Dt) : w.grownBy (sortWorldK encD 2 w g 0 n d os) (some g) := by
  unfold sortWorldK putRowK
  refine ⟨rfl, rfl, rfl, by simp, fun k hk hne => ?_⟩
  rw [heap_grow_old _ _ (by simpa using hk)]
  have : g ≠ k := fun e => hne (by rw [e])
  simp [putRow, mapBlock, Array.getElem?_modify, this]

theorem take_putK (cur : Array Value) (ts : List Dt) (h : ts.length * 2 ≤ cur.size) : (putCells id 0 (flatK encD 2 ts.toArray) cur).toList.take (ts.length * 2) = flat ts := by
  have e : (flatK encD 2 ts.toArray).toList = flat ts := flatK_list ts.toArray
  apply List.ext_getElem?
  intro j
  by_cases hj : j < ts.length * 2
  · rw [List.getElem?_take_of_lt hj, Array.getElem?_toList, ← e, Array.getElem?_toList]
    simp [putCells, hj, show j < cur.size by omega]
  · rw [List.getElem?_take_eq_none (by omega), List.getElem?_eq_none (by rw [flat_length]; omega)]

end

section
open Go.RowKit
open Go.Sort (grow ahead putRow putCells mapBlock onCells Holds HoldsK flatK putRowK PermIn SortedIn SWO size_flatK get_flatK heap_grow_old)

/-- What order answers. -/
def cfo (x y : Mo) : Int := if lo x.o y.o = true then -1 else if lo y.o x.o = true then 1 else 0

theorem lo_iff (o p : OpIn) : lo o p = true ↔ o.time < p.time ∨ (o.time = p.time ∧ (o.id0 < p.id0 ∨ (o.id0 = p.id0 ∧ o.id1 < p.id1))) := by
  unfold lo
  simp only [Bool.or_eq_true, Bool.and_eq_true, decide_eq_true_eq, beq_iff_eq, dl_iff]

theorem lo_irrefl (o : OpIn) : lo o o = false := by
  cases h : lo o o
  · rfl
  · rw [lo_iff] at h; omega

theorem lt_cfo (x y : Mo) : ltOf cfo x y = lo x.o y.o := by
  unfold ltOf cfo
  cases h : lo x.o y.o
  · cases h2 : lo y.o x.o <;> simp
  · simp

theorem swo_cfo : SWO (ltOf cfo) := by
  refine ⟨fun x => ?_, fun x y z h1 h2 => ?_, fun x y z h1 h2 => ?_⟩
  · rw [lt_cfo]; exact lo_irrefl _
  · rw [lt_cfo] at *
    rw [lo_iff] at *
    omega
  · rw [lt_cfo] at *
    have k1 : ¬ lo x.o y.o = true := by rw [h1]; simp
    have k2 : ¬ lo y.o z.o = true := by rw [h2]; simp
    cases hh : lo x.o z.o
    · rfl
    · rw [lo_iff] at *; omega

/-- Each one comes ahead of those behind it. -/
abbrev UpO (l : List Mo) : Prop := l.Pairwise (fun x y => lo x.o y.o = true)

theorem lo_total {o p : OpIn} (hne : o.id ≠ p.id) (h : ¬ lo p o = true) : lo o p = true := by
  rw [lo_iff] at *
  have : ¬ (o.id0 = p.id0 ∧ o.id1 = p.id1) := fun e => hne (Prod.ext e.1 e.2)
  omega

section
variable [Inhabited Mo]

theorem flatO_list (d : Array Mo) : (flatK Mo.cells 14 d).toList = flo d.toList := by
  apply List.ext_getElem?
  intro t
  by_cases ht : t < d.size * 14
  · have h1 : (flatK Mo.cells 14 d)[t]! = (Mo.cells d[t / 14]!)[t % 14]! := get_flatK Mo.cells 14 d t ht
    have hi : t / 14 < d.toList.length := by simp; omega
    have hi' : t / 14 < d.size := by omega
    have f := flo_get d.toList (t / 14) hi (t % 14) (by omega)
    have e0 : (flatK Mo.cells 14 d).toList[t]? = some ((flatK Mo.cells 14 d)[t]!) := by
      rw [Array.getElem?_toList, getElem!_pos _ t (by rw [size_flatK]; exact ht), Array.getElem?_eq_getElem (by rw [size_flatK]; exact ht)]
    rw [e0, h1, getElem!_pos d (t / 14) hi']
    have et : t / 14 * 14 + t % 14 = t := by omega
    rw [et] at f
    rw [f]
    have hm : t % 14 < (d.toList[t / 14]).cells.length := by simp [Mo.cells]; omega
    rw [List.getElem?_eq_getElem hm, getElem!_pos _ _ (by simpa using hm)]
    simp
  · rw [List.getElem?_eq_none (by rw [Array.length_toList, size_flatK]; omega), List.getElem?_eq_none (by rw [flo_length, Array.length_toList]; omega)]

theorem holds_owno {w : World} {base g c : Nat} {ds : List Mo} (h : OwnO w base (.slice (some ⟨g, 0, none⟩) ds.length c) ds) : HoldsK Mo.cells 14 w g 0 ds.toArray := by
  rcases h.2 with ⟨h0, _⟩ | ⟨g', cap', cur, hv, hg, hb, hn, hcap, hsz, ht⟩
  · cases h0
  · cases hv
    intro j hj
    rw [size_flatK] at hj
    have hj' : j < ds.length * 14 := by simpa using hj
    refine ⟨?_, by simp [World.frozen?, hb]⟩
    have h1 : (cur.toList.take (ds.length * 14))[j]? = (flo ds)[j]? := by rw [ht]
    rw [List.getElem?_take_of_lt hj'] at h1
    simp only [World.cell?, hb, Nat.zero_add]
    simp only [Option.isSome_none, Bool.false_eq_true, if_false]
    rw [← Array.getElem?_toList, h1]
    have e := flatO_list ds.toArray
    have e2 : ds.toArray.toList = ds := rfl
    rw [e2] at e
    rw [← e, Array.getElem?_toList, getElem!_pos _ j (by rw [size_flatK]; exact hj), Array.getElem?_eq_getElem (by rw [size_flatK]; exact hj)]
    rfl

theorem sorted_upo {ts : List Mo} (hn : (ts.map (fun x => x.o.id)).Nodup) (h : SortedIn (ltOf cfo) 0 ts.toArray.size ts.toArray) : UpO ts := by
  refine List.pairwise_iff_getElem.2 fun i j hi hj hij => ?_
  have := h i j (Nat.zero_le _) hij (by simpa using hj)
  rw [lt_cfo, getElem!_pos _ j (by simpa using hj), getElem!_pos _ i (by simpa using hi)] at this
  have hne : (ts[i]).o.id ≠ (ts[j]).o.id := fun e => by
    have := (List.getElem_inj (i := i) (j := j) (h₀ := by simpa using hi) (h₁ := by simpa using hj) hn).1 (by simpa using e)
    omega
  exact lo_total hne (by simpa using this)

theorem heap_sortedO {w : World} {g n : Nat} {os : Array Obj} {cur : Array Value} {e : TypeId} {fr : Nat × Nat} (d : Array Mo) (hb : w.heap[g]? = some (.cells cur e fr)) :
    (sortWorldK Mo.cells 14 w g 0 n d os).heap[g]? = some (.cells (putCells id 0 (flatK Mo.cells 14 d) cur) e fr) := by
  have hg : g < w.heap.size := (Array.getElem?_eq_some_iff.1 hb).1
  unfold sortWorldK putRowK
  rw [heap_grow_old _ _ (by simpa using hg)]
  simp [putRow, mapBlock, Array.getElem?_modify, hb, onCells]

theorem grownBy_sortedO {w : World} {g n : Nat} {os : Array Obj} (d : Array Mo) : w.grownBy (sortWorldK Mo.cells 14 w g 0 n d os) (some g) := by
  unfold sortWorldK putRowK
  refine ⟨rfl, rfl, rfl, by simp, fun k hk hne => ?_⟩
  rw [heap_grow_old _ _ (by simpa using hk)]
  have : g ≠ k := fun e => hne (by rw [e])
  simp [putRow, mapBlock, Array.getElem?_modify, this]

theorem take_putO (cur : Array Value) (ts : List Mo) (h : ts.length * 14 ≤ cur.size) : (putCells id 0 (flatK Mo.cells 14 ts.toArray) cur).toList.take (ts.length * 14) = flo ts := by
  have e : (flatK Mo.cells 14 ts.toArray).toList = flo ts := flatO_list ts.toArray
  apply List.ext_getElem?
  intro j
  by_cases hj : j < ts.length * 14
  · rw [List.getElem?_take_of_lt hj, Array.getElem?_toList, ← e, Array.getElem?_toList]
    simp [putCells, hj, show j < cur.size by omega]
  · rw [List.getElem?_take_eq_none (by omega), List.getElem?_eq_none (by rw [flo_length]; omega)]

end

end

section
open Go.RowKit Go.Sort Go.Maps

theorem Own.base {w : World} {b b' g n c : Nat} {L : List Dt} (h : Own w b g n c L) (hb : b' ≤ b) : Own w b' g n c L := by
  obtain ⟨h1, h2⟩ := h
  refine ⟨h1, ?_⟩
  rcases h2 with h2 | ⟨g', cap', cur, hv, hg, r⟩
  · exact .inl h2
  · exact .inr ⟨g', cap', cur, hv, Nat.le_trans hb hg, r⟩

/-- A call answers a new slice that holds L. -/
def GivesN (w : World) (L : List Dt) (e : Ending) (w' : World) : Prop :=
  ∃ g c, e = .returned (.slice (some ⟨g, 0, none⟩) L.length c) ∧ Own w' w.heap.size g L.length c L ∧ Below w.heap.size w w'

end

section
open Go.RowKit

end

section
open Go.RowKit Go.Maps
open Go.Sort (grow)

theorem opAt_of_block {w : World} {q : Nat} {o : OpIn} {v : Value} {t : TypeId} (h : w.heap[q]? = some (.cells (o.cells v) t)) : OpAt w q o v := by
  constructor <;> simp [World.cell?, h, OpIn.cells]

theorem frozen_of_block {w : World} {q : Nat} {cs : Array Value} {t : TypeId} (h : w.heap[q]? = some (.cells cs t)) (j : Nat) : w.frozen? ⟨q, j, none⟩ = false := by simp [World.frozen?, h]

theorem block_dep {w : World} {q : Nat} {o : OpIn} {v : Value} {t : TypeId} (h : w.heap[q]? = some (.cells (o.cells v) t)) (v' : Value) : (w.setCell ⟨q, 3, none⟩ v').heap[q]? = some (.cells (o.cells v') t) := by
  simp [World.setCell, Array.getElem?_modify, h, OpIn.cells]

/-- Is there one with this identity? -/
def hasId (l : List Mop) (d : Dt) : Bool := l.any (fun x => decide (x.1.id = d))

/-- One more that counts, or not. -/
def cnt1 (out : List Mop) (x : Mop) : List Mop := if hasId out x.1.id = false ∧ chk x.1 x.2 = true then out ++ [x] else out
/-- Those that count, in their order. -/
def cnt (l : List Mop) : List Mop := l.foldl cnt1 []

theorem cnt_snoc (l : List Mop) (x : Mop) : cnt (l ++ [x]) = cnt1 (cnt l) x := by simp [cnt]

theorem hasId_iff (l : List Mop) (d : Dt) : hasId l d = true ↔ d ∈ l.map (fun x => x.1.id) := by
  simp only [hasId, List.any_eq_true, decide_eq_true_eq, List.mem_map]

theorem cnt1_nodup {out : List Mop} (h : (out.map (fun x => x.1.id)).Nodup) (x : Mop) : ((cnt1 out x).map (fun x => x.1.id)).Nodup := by
  unfold cnt1
  split
  · rename_i hh
    rw [List.map_append]
    refine List.nodup_append.2 ⟨h, by simp, fun a ha b hb e => ?_⟩
    simp at hb
    subst hb
    subst e
    have := (hasId_iff out x.1.id).2 ha
    rw [hh.1] at this
    cases this
  · exact h

theorem foldl_nodup (l : List Mop) : ∀ out : List Mop, (out.map (fun x => x.1.id)).Nodup → ((l.foldl cnt1 out).map (fun x => x.1.id)).Nodup := by
  induction l with
  | nil => intro out h; exact h
  | cons x r ih => intro out h; exact ih _ (cnt1_nodup h x)

theorem cnt_nodup (l : List Mop) : ((cnt l).map (fun x => x.1.id)).Nodup := foldl_nodup l [] (by simp)

/-- What counting has so far. -/
structure CI (w wr : World) (mb : Nat) (v : Value) (L' : List Mo) (l : List Mop) (k : Nat) : Prop where
  own : OwnO wr w.heap.size v L'
  dep : ∀ x ∈ L', wr.ownsRow w.heap.size 24 2 x.dep x.V.length (flat x.V) ∧ x.o.Fits ∧ Dws x.V
  map : ∃ g, DM wr mb k g ∧ ∀ d, (g d).isSome = hasId l d
  same : L'.map Mo.m = l
  below : RowKit.Below w.heap.size w wr
  lt : w.heap.size < wr.heap.size

theorem own_ne_map {w : World} {b e z mb k : Nat} {v : Value} {n : Nat} {xs : List Value} {g : Dt → Option Int} (h : w.ownsRow b e z v n xs) (hm : DM w mb k g) : v.ownBlock = none ∨ v.ownBlock ≠ some mb := by
  rcases h.2 with ⟨rfl, _⟩ | ⟨g', cap, cur, rfl, _, hb, _⟩
  · exact .inl rfl
  · refine .inr fun e1 => ?_
    simp [Value.ownBlock] at e1
    subst e1
    obtain ⟨D, ⟨es, clock, h1, _⟩, _⟩ := hm
    rw [hb] at h1
    cases h1

theorem DM.kept {w w' : World} {b n : Nat} {g : Dt → Option Int} {r : Option Nat} (h : DM w b n g) (hg : w.grownBy w' r) (hne : some b ≠ r) : DM w' b n g := by
  obtain ⟨D, hown, hT⟩ := h
  exact ⟨D, hown.kept hg hne, hT⟩

theorem DM.mono {w : World} {b n n' : Nat} {g : Dt → Option Int} (h : DM w b n g) (hn : n ≤ n') : DM w b n' g := by
  obtain ⟨D, hown, hT⟩ := h
  exact ⟨D, hown.mono hn, hT⟩

/-- Another block turns: none of counting's. -/
theorem CI.kept {w wr wr' : World} {mb k k' : Nat} {v : Value} {L' : List Mo} {l : List Mop} {r : Option Nat} (h : CI w wr mb v L' l k) (hg : wr.grownBy wr' r) (hm : some mb ≠ r) (hv : v.ownBlock = none ∨ v.ownBlock ≠ r) (hd : ∀ x ∈ L', x.dep.ownBlock = none ∨ x.dep.ownBlock ≠ r) (hb : ∀ j, r = some j → w.heap.size ≤ j) (hk : k ≤ k') : CI w wr' mb v L' l k' := by
  obtain ⟨g, hD, hgd⟩ := h.map
  exact ⟨h.own.kept hg hv, fun x hx => ⟨(h.dep x hx).1.kept hg (hd x hx), (h.dep x hx).2⟩, ⟨g, (hD.kept hg hm).mono hk, hgd⟩, h.same, h.below.grown hg h.below.size hb, Nat.lt_of_lt_of_le h.lt hg.size⟩

theorem none_or {o : Option Nat} : o = none ∨ o ≠ none := by cases o <;> simp

theorem CI.far {w wr wr' : World} {mb k k' : Nat} {v : Value} {L' : List Mo} {l : List Mop} (h : CI w wr mb v L' l k) (hf : Far wr wr') (hk : k ≤ k') : CI w wr' mb v L' l k' :=
  h.kept (far_grown hf) (by simp) none_or (fun _ _ => none_or) (fun j hj => by cases hj) hk

theorem below_grown {w w' : World} (h : RowKit.Below w.heap.size w w') : w.grownBy w' none := ⟨h.os, h.tape, h.output, h.size, fun k hk _ => h.block k hk⟩

theorem PS.kept_map {w w' : World} {a : Option Addr} {n c mb k : Nat} {L : List Dt} {g : Dt → Option Int} (h : PS w a n c L) (hm : DM w mb k g) (hg : w.grownBy w' (some mb)) : PS w' a n c L :=
  ⟨h.len, h.cap, h.max, h.nil, fun ad ha j u hj => by
    have := h.cells ad ha j u hj
    rw [hg.cell_far _ (cell_in this) (fun e => ?_)]
    · exact this
    · obtain ⟨D, ⟨es, clock, h1, _⟩, _⟩ := hm
      have e' : (ad.add j).block = mb := by simpa using e
      simp [World.cell?, e', h1] at this⟩

theorem mo_new (w : World) (q : Nat) (u : Value) (x : Mo) : ∀ j y, x.cells[j]? = some y → ((w.setCell ⟨q, 3, none⟩ u).alloc (.cells (x.o.cells x.dep) 52)).cell? ((⟨w.heap.size, 0, none⟩ : Addr).add j) = some y := by
  have h := opAt_alloc (w.setCell ⟨q, 3, none⟩ u) x.o x.dep 52
  have e : (w.setCell ⟨q, 3, none⟩ u).heap.size = w.heap.size := by simp [World.setCell]
  rw [e] at h
  exact mo_cells _ _ _ h

theorem own_lt_ne {w : World} {b e z q : Nat} {v : Value} {n : Nat} {xs : List Value} (h : w.ownsRow b e z v n xs) (hq : w.heap.size ≤ q) : v.ownBlock = none ∨ v.ownBlock ≠ some q := by
  by_cases he : v.ownBlock = none
  · exact .inl he
  · refine .inr fun e1 => ?_
    have := (h.lt q e1).2
    omega

/-- What one more that counts goes through: a row that was there stays. -/
theorem five {w wr w2 w3 w4 : World} {mb k : Nat} {v : Value} {e z n : Nat} {xs : List Value} {u : Value} {g : Dt → Option Int} (h : wr.ownsRow w.heap.size e z v n xs) (hm : DM wr mb k g) (hF : Far wr w2) (hG3 : w2.grownBy w3 (some mb)) (hB4 : RowKit.Below w3.heap.size w3 w4) :
    (w4.setCell ⟨wr.heap.size, 3, none⟩ u).ownsRow w.heap.size e z v n xs := by
  have h2 := h.kept (far_grown hF) none_or
  have hm2 := hm.kept (far_grown hF) (by simp)
  have h3 := h2.kept hG3 (own_ne_map h2 hm2)
  have h4 := h3.kept (below_grown hB4) none_or
  exact h4.kept (grownBy_setCell w4 wr.heap.size 3 u) (own_lt_ne h (Nat.le_refl _))

theorem CI.more {w wr w2 w3 w4 w7 : World} {mb k : Nat} {v : Value} {L' : List Mo} {l : List Mop} {op : OpIn} {xV : List Dt} {a' : Option Addr} {c' g7 cap7 : Nat} {u : Value} {o : Obj} {g' : Dt → Option Int} (h : CI w wr mb v L' l k) (hF : Far wr w2) (hq : wr.heap.size < w2.heap.size)
    (hG3 : w2.grownBy w3 (some mb)) (hD3 : DM w3 mb (k + 1) g') (hg' : ∀ d, (g' d).isSome = hasId (l ++ [(op, xV)]) d) (hB4 : RowKit.Below w3.heap.size w3 w4) (hO4 : w4.ownsRow w3.heap.size 24 2 (.slice a' xV.length c') xV.length (flat xV)) (hf : op.Fits) (hd : Dws xV)
    (hG7 : ((w4.setCell ⟨wr.heap.size, 3, none⟩ u).alloc o).grownBy w7 v.ownBlock) (hO7 : OwnO w7 w.heap.size (.slice (some ⟨g7, 0, none⟩) (L'.length + 1) cap7) (L' ++ [⟨op, a', xV.length, c', xV⟩])) (hmb : w.heap.size ≤ mb) (hmb2 : mb < wr.heap.size) :
    CI w w7 mb (.slice (some ⟨g7, 0, none⟩) (L'.length + 1) cap7) (L' ++ [⟨op, a', xV.length, c', xV⟩]) (l ++ [(op, xV)]) (k + 1) := by
  obtain ⟨g, hD, hgd⟩ := h.map
  have hrow := (five (u := u) h.own hD hF hG3 hB4).alloc o
  have hD5 := ((hD3.kept (below_grown hB4) (by simp)).kept (grownBy_setCell w4 wr.heap.size 3 u) (by simp; omega)).kept (World.grownBy_alloc _ o none) (by simp)
  have s3 := hG3.size
  have s2 := hF.below.size
  have s4 := hB4.size
  have hbase : ∀ j, v.ownBlock = some j → w.heap.size ≤ j := fun j hj => (hrow.lt j hj).1
  have h1 := h.below.size
  have e5 : (w4.setCell ⟨wr.heap.size, 3, none⟩ u).heap.size = w4.heap.size := by simp [World.setCell]
  have b5 : RowKit.Below w.heap.size w ((w4.setCell ⟨wr.heap.size, 3, none⟩ u).alloc o) := by
    have b2 := h.below.grown (far_grown hF) h1 (fun j hj => by cases hj)
    have b3 := b2.grown hG3 (by omega) (fun j hj => by cases hj; exact hmb)
    have b4 := b3.grown (below_grown hB4) (by omega) (fun j hj => by cases hj)
    have b5 := b4.grown (grownBy_setCell w4 wr.heap.size 3 u) (by omega) (fun j hj => by cases hj; omega)
    exact b5.alloc (by rw [e5]; omega) o
  refine ⟨?_, fun x hx => ?_, ⟨g', hD5.kept hG7 ?_, hg'⟩, by rw [List.map_append, h.same]; rfl, b5.grown hG7 (by simp [e5]; omega) hbase, ?_⟩
  · show World.ownsRow _ _ _ _ _ (List.length _) _
    rw [List.length_append]
    have := hO7
    unfold OwnO at this
    rw [List.length_append] at this
    exact this
  · rcases List.mem_append.1 hx with hx | hx
    · obtain ⟨r1, r2⟩ := h.dep x hx
      have r5 := (five (u := u) r1 hD hF hG3 hB4).alloc o
      exact ⟨r5.kept hG7 (rows_apart r5 hrow (by decide)), r2⟩
    · simp at hx
      subst hx
      have r4 : w4.ownsRow w.heap.size 24 2 (.slice a' xV.length c') xV.length (flat xV) := sbase hO4 (by omega)
      have r5 := (r4.kept (grownBy_setCell w4 wr.heap.size 3 u) (by
        by_cases he : (Value.slice a' xV.length c').ownBlock = none
        · exact .inl he
        · refine .inr fun e1 => ?_
          have := (hO4.lt _ e1).1
          omega)).alloc o
      exact ⟨r5.kept hG7 (rows_apart r5 hrow (by decide)), hf, hd⟩
  · rcases own_ne_map hrow hD5 with hh | hh
    · rw [hh]; simp
    · exact fun e => hh e.symm
  · have := hG7.size
    simp [e5] at this
    omega

end

section
open Go.RowKit Go.Maps Go.WideElems Go.MapKept
open Go.ChangeMaps (setBlock heap_setBlock_same heap_setBlock_other)

theorem own_same {w w' : World} {b e z : Nat} {v : Value} {n : Nat} {xs : List Value} (h : w.ownsRow b e z v n xs) (hs : ∀ g, v.ownBlock = some g → w'.heap[g]? = w.heap[g]?) : w'.ownsRow b e z v n xs := by
  refine ⟨h.1, ?_⟩
  rcases h.2 with h2 | ⟨g, cap, cur, rfl, h3, h4, h5⟩
  · exact .inl h2
  · exact .inr ⟨g, cap, cur, rfl, h3, by rw [hs g rfl]; exact h4, h5⟩

theorem oi_same {w w' : World} {b : Nat} {v : Value} {zs : List Int} (h : OI w b v zs) (hs : ∀ g, v.ownBlock = some g → w'.heap[g]? = w.heap[g]?) : OI w' b v zs := ⟨own_same h.1 hs, h.2⟩

theorem dm_same {w w' : World} {b n : Nat} {g : Dt → Option Int} (h : DM w b n g) (hs : w'.heap[b]? = w.heap[b]?) : DM w' b n g := by
  obtain ⟨D, ⟨es, clock, h1, h2⟩, hT⟩ := h
  exact ⟨D, ⟨es, clock, by rw [hs]; exact h1, h2⟩, hT⟩

theorem groups_same {w w' : World} {base b n : Nat} {D : DataW Unit} (h : w.ownsGroups Try.prog 24 base 3 .i64 b n D) (hb' : w'.heap[b]? = w.heap[b]?) (hrow : ∀ es clock, w.heap[b]? = some (.map es clock) → ∀ x ∈ es.toList, ∀ g, x.val.ownBlock = some g → w'.heap[g]? = w.heap[g]?) : w'.ownsGroups Try.prog 24 base 3 .i64 b n D := by
  obtain ⟨es, clock, hb, F, hs, rfl, hbb, hlen, hap⟩ := h
  have hst : ∀ x ∈ es.toList, ∀ z, rowElem (H := Unit) w base 3 .i64 x.val = some z → rowElem w' base 3 .i64 x.val = some z := fun x hx z hz => by
    obtain ⟨zs, ho, rfl⟩ := rowElem_inv hz
    exact rowElem_mk (oi_same ho (hrow es clock hb x hx))
  obtain ⟨F1, hmap, _⟩ := F.stay hst
  refine ⟨es, clock, hb'.trans hb, F1, hs, by rw [hmap], hbb, fun x hx zs ho => ?_, hap⟩
  obtain ⟨y, hy⟩ := F.reads x hx
  obtain ⟨z, hz, _⟩ := rd_val hy
  obtain ⟨zs0, ho0, _⟩ := rowElem_inv hz
  rw [ho.unique (oi_same ho0 (hrow es clock hb x hx))]
  exact hlen x hx zs0 ho0

theorem groups_rows {w : World} {base b n : Nat} {D : DataW Unit} (h : w.ownsGroups Try.prog 24 base 3 .i64 b n D) : ∀ es clock, w.heap[b]? = some (.map es clock) → ∀ x ∈ es.toList, ∀ g, x.val.ownBlock = some g → base ≤ g ∧ g < w.heap.size := fun es clock hb x hx g hg => by
  obtain ⟨es', clock', hb', F, _⟩ := h
  obtain ⟨rfl, rfl⟩ : es' = es ∧ clock' = clock := by rw [hb'] at hb; simpa using hb
  obtain ⟨y, hy⟩ := F.reads x hx
  obtain ⟨z, hz, _⟩ := rd_val hy
  obtain ⟨zs, hoi, _⟩ := rowElem_inv hz
  exact hoi.1.lt g hg

/-- How far each was looked at; which wait for what; which are ready, in some order. -/
structure Sq where
  nx : List Nat
  W : Dt → List Int
  Z : List Int

/-- One is looked at. -/
def Sq.one (R : List (List Dt)) (th : Dt → Bool) (s : Sq) (p : Nat) : Sq :=
  match (R.getD p [])[s.nx.getD p 0 + (((R.getD p []).drop (s.nx.getD p 0)).takeWhile th).length]? with
  | some d => ⟨s.nx.set p (s.nx.getD p 0 + (((R.getD p []).drop (s.nx.getD p 0)).takeWhile th).length), fun e => if e = d then s.W d ++ [(p : Int)] else s.W e, s.Z⟩
  | none => ⟨s.nx.set p (s.nx.getD p 0 + (((R.getD p []).drop (s.nx.getD p 0)).takeWhile th).length), s.W, s.Z ++ [(p : Int)]⟩

/-- The numbers how far each was looked at, as cells. -/
def nxc (l : List Nat) : Array Value := (l.map (fun (x : Nat) => Value.int .i64 (x : Int))).toArray

section
variable {w1 : World} {ra : Option Addr} {rc : Nat} {R : List Mo} {w : World} {th : Dt → Bool} {s : Sq} {v : Value} {zs : List Int} {kt kw : Nat} {K : Option Value} {v0 : Value} {No : Nat → Prop}

end

end

section

theorem takeWhile_len {th : Dt → Bool} : ∀ (L : List Dt) (q : Nat) (hq : q < L.length), (∀ d ∈ L.take q, th d = true) → th L[q] = false → (L.takeWhile th).length = q
  | [], q, hq, _, _ => by simp at hq
  | x :: r, 0, _, _, h2 => by simp at h2; simp [List.takeWhile, h2]
  | x :: r, q + 1, hq, h1, h2 => by
    have hx : th x = true := h1 x (by simp)
    have := takeWhile_len r q (by simpa using hq) (fun d hd => h1 d (by simp [hd])) (by simpa using h2)
    simp [List.takeWhile, hx, this]

theorem takeWhile_full {th : Dt → Bool} : ∀ (L : List Dt), (∀ d ∈ L, th d = true) → (L.takeWhile th).length = L.length
  | [], _ => rfl
  | x :: r, h => by
    have hx : th x = true := h x (by simp)
    have := takeWhile_full r (fun d hd => h d (by simp [hd]))
    simp [List.takeWhile, hx, this]

theorem one_wait {R : List (List Dt)} {th : Dt → Bool} {s : Sq} {p q : Nat} {V : List Dt} {i : Nat} (hV : R.getD p [] = V) (hi : s.nx.getD p 0 = i) (hq : q < (V.drop i).length) (h1 : ∀ d ∈ (V.drop i).take q, th d = true) (h2 : th (V.drop i)[q] = false) :
    Sq.one R th s p = ⟨s.nx.set p (i + q), fun e => if e = (V.drop i)[q] then s.W (V.drop i)[q] ++ [(p : Int)] else s.W e, s.Z⟩ := by
  have ht := takeWhile_len _ q hq h1 h2
  have hg : V[i + q]? = some ((V.drop i)[q]) := by
    rw [List.getElem_drop, List.getElem?_eq_getElem]
  unfold Sq.one
  rw [hV, hi, ht, hg]

theorem one_ready {R : List (List Dt)} {th : Dt → Bool} {s : Sq} {p : Nat} {V : List Dt} {i : Nat} (hV : R.getD p [] = V) (hi : s.nx.getD p 0 = i) (hle : i ≤ V.length) (h1 : ∀ d ∈ V.drop i, th d = true) :
    Sq.one R th s p = ⟨s.nx.set p V.length, s.W, s.Z ++ [(p : Int)]⟩ := by
  have ht := takeWhile_full _ h1
  rw [List.length_drop] at ht
  unfold Sq.one
  rw [hV, hi, ht, show i + (V.length - i) = V.length by omega, List.getElem?_eq_none (Nat.le_refl _)]

/-- None was looked at beyond its end. -/
def Sq.Ok (R : List (List Dt)) (s : Sq) : Prop := ∀ p, s.nx.getD p 0 ≤ (R.getD p []).length

theorem takeWhile_le {th : Dt → Bool} : ∀ (L : List Dt), (L.takeWhile th).length ≤ L.length
  | [] => Nat.le_refl _
  | x :: r => by
    have := takeWhile_le (th := th) r
    simp only [List.takeWhile]
    split <;> simp; omega

theorem Sq.Ok.one {R : List (List Dt)} {s : Sq} (h : Sq.Ok R s) (th : Dt → Bool) (p : Nat) : Sq.Ok R (Sq.one R th s p) := by
  have hle : s.nx.getD p 0 + (((R.getD p []).drop (s.nx.getD p 0)).takeWhile th).length ≤ (R.getD p []).length := by
    have h1 := takeWhile_le (th := th) ((R.getD p []).drop (s.nx.getD p 0))
    have h2 := h p
    rw [List.length_drop] at h1
    omega
  have hs : (Sq.one R th s p).nx = s.nx.set p (s.nx.getD p 0 + (((R.getD p []).drop (s.nx.getD p 0)).takeWhile th).length) := by
    unfold Sq.one
    split <;> rfl
  intro q
  rw [hs]
  by_cases hq : q = p
  · subst hq
    by_cases hlt : q < s.nx.length
    · simp only [List.getD_eq_getElem?_getD, List.getElem?_set, hlt]
      simpa [List.getD_eq_getElem?_getD] using hle
    · simp only [List.getD_eq_getElem?_getD, List.getElem?_set, hlt]
      simp
  · have : ¬ p = q := fun e => hq e.symm
    have h0 := h q
    simp only [List.getD_eq_getElem?_getD, List.getElem?_set, this] at h0 ⊢
    simpa using h0

theorem Sq.Ok.fold {R : List (List Dt)} {th : Dt → Bool} : ∀ (ps : List Nat) {s : Sq}, Sq.Ok R s → Sq.Ok R (ps.foldl (Sq.one R th) s)
  | [], _, h => h
  | p :: r, _, h => Sq.Ok.fold r (h.one th p)

theorem one_nlen (R : List (List Dt)) (th : Dt → Bool) (s : Sq) (p : Nat) : (Sq.one R th s p).nx.length = s.nx.length := by
  unfold Sq.one
  split <;> simp
end

section
open Go.RowKit Go.Maps

end

section
open Go.RowKit Go.Maps Go.WideElems Go.MapKept
open Go.ChangeMaps (setBlock heap_setBlock_same heap_setBlock_other)

section
variable {w1 : World} {ra : Option Addr} {rc : Nat} {R : List Mo} {th : Dt → Bool} {kt : Nat} {K : Option Value} {v0 : Value} {No : Nat → Prop}

end

end
end Go.Proofs.Ytbpepmajpojacaa
