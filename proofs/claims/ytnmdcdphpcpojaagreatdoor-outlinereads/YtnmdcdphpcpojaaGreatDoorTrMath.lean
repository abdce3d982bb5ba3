/- A tree of blocks that are moved: where they lie, what is above them, which moves take effect, what comes of undoing. No function of the program. -/
import Derived.WalkKit
import Derived.ChangeSame
import Derived.ChangeArms
import Derived.ChangeMaps5
import Derived.WideShapes
import Derived.Lib.SmallJoins
import Derived.WalkSpells
import Derived.WalkLawsBesides
import Derived.Below
import Derived.Sort.Grow
import Derived.Sort.OwnSorted
import Derived.Laws.AppendOwnNone
import Derived.Shelf.SlSortCmp.QuietGrown
import Derived.BigQuiet
import Derived.Test.YtnmdcdphpcpojaaGreatDoorProg
import Derived.Sort.AtCall
import Derived.Test.YtnmdcdphpcpojaaGreatDoorRows
import Derived.DeepKeys4
import Derived.Maps.OwnSet
import Derived.Maps.RangeWalk
namespace Go.Proofs.YtnmdcdphpcpojaaGreatDoor
section
open Go.ChangeShapes Go.WideShapes

section
variable {H : Type} {enc : TypeId × Value → H} {P : Program} {w : World} {base : Nat} {spare : Nat → Bool} {held : Bool}

theorem part_one {α : Type} {l : List α} {o : Nat} {x : α} (h : (l.drop o).take 1 = [x]) : l[o]? = some x := by
  have := congrArg (fun k => k[0]?) h
  simpa using this
theorem part_two {α : Type} {l : List α} {o : Nat} {x y : α} (h : (l.drop o).take 2 = [x, y]) : l[o]? = some x ∧ l[o + 1]? = some y := by
  have h0 := congrArg (fun k => k[0]?) h
  have h1 := congrArg (fun k => k[1]?) h
  simp at h0 h1
  exact ⟨h0, h1⟩

theorem field_at {fs : Array Field} {l : List (TypeId × Nat)} (h : fs.toList.map (fun f => (f.type, f.offset)) = l) {i : Nat} {t : TypeId} {o : Nat} (hi : l[i]? = some (t, o)) : ∃ f, fs[i]? = some f ∧ f.type = t ∧ f.offset = o := by
  subst h
  simp only [List.getElem?_map, Option.map_eq_some_iff] at hi
  obtain ⟨f, h1, h2⟩ := hi
  simp only [Prod.mk.injEq] at h2
  exact ⟨f, by simpa using h1, h2.1, h2.2⟩

/-- A dot among the cells. -/
theorem dot_part {tDot tInt : TypeId} {g0 g1 : Field} {n : Nat} {c : List Value} {y : DataW H × List MemPlace} (hD : P.underlying tDot = some (.struct #[g0, g1])) (hg : g0.type = tInt ∧ g0.offset = 0 ∧ g1.type = tInt ∧ g1.offset = 1)
    (hI : P.underlying tInt = some (.int .i64)) (cI : P.cellsOf tInt = 1) (h : DataW.trod enc P w base spare held n tDot (c.take 2) = some y) : ∃ a s : Int, c.take 2 = [.int .i64 a, .int .i64 s] ∧ (Lit.int .i64 a).wf = true ∧ (Lit.int .i64 s).wf = true ∧ y.2 = [] := by
  obtain ⟨y0, y1, m, rfl, hl, h0, h1⟩ := trod_struct2 hD h
  obtain ⟨q1, q2, q3, q4⟩ := hg
  rw [q1, q2, cI] at h0
  rw [q3, q4, cI] at h1
  obtain ⟨a, e0, rfl, w0⟩ := DataW.trod_int hI h0
  obtain ⟨s, e1, rfl, w1⟩ := DataW.trod_int hI h1
  refine ⟨a, s, ?_, w0, w1, rfl⟩
  have p0 := part_one e0
  have p1 := part_one e1
  have hl2 : (c.take 2).length ≤ 2 := by rw [List.length_take]; exact Nat.min_le_left _ _
  match hc : c.take 2 with
  | [] => rw [hc] at p0; simp at p0
  | [x] => rw [hc] at p1; simp at p1
  | [x, z] =>
    rw [hc] at p0 p1
    simp at p0 p1
    rw [p0, p1]
  | x :: z :: u :: r => rw [hc] at hl2; simp at hl2

/-- An operation, as the walks are told of it. -/
structure OpIn where
  id0 : Int
  id1 : Int
  time : Int
  kind : Int
  bl0 : Int
  bl1 : Int
  at0 : Int
  at1 : Int
  side : Int
  char : Int
  pa0 : Int
  pa1 : Int
  key : ByteArray

/-- Its cells, with the value of its Deps. -/
def OpIn.cells (o : OpIn) (v : Value) : Array Value := #[.int .i64 o.id0, .int .i64 o.id1, .int .i64 o.time, v, .int .i64 o.kind, .int .i64 o.bl0, .int .i64 o.bl1, .int .i64 o.at0, .int .i64 o.at1, .int .i64 o.side, .int .i64 o.char, .int .i64 o.pa0, .int .i64 o.pa1, .string o.key]

/-- Its numbers fit, and its key isn't too long. -/
structure OpIn.Fits (o : OpIn) : Prop where
  id0 : (Lit.int .i64 o.id0).wf = true
  id1 : (Lit.int .i64 o.id1).wf = true
  time : (Lit.int .i64 o.time).wf = true
  kind : (Lit.int .i64 o.kind).wf = true
  bl0 : (Lit.int .i64 o.bl0).wf = true
  bl1 : (Lit.int .i64 o.bl1).wf = true
  at0 : (Lit.int .i64 o.at0).wf = true
  at1 : (Lit.int .i64 o.at1).wf = true
  side : (Lit.int .i64 o.side).wf = true
  char : (Lit.int .i64 o.char).wf = true
  pa0 : (Lit.int .i64 o.pa0).wf = true
  pa1 : (Lit.int .i64 o.pa1).wf = true
  key : o.key.size ≤ maxLen

/-- A field's reading. -/
theorem fld {fs : Array Field} {l : List (TypeId × Nat)} {xs : List (DataW H × List MemPlace)} {n : Nat} {L : List Value} (hF : fs.toList.map (fun f => (f.type, f.offset)) = l) (hlen : xs.length = fs.size)
    (hq : ∀ (i : Nat) (f : Field), fs[i]? = some f → DataW.trod enc P w base spare held n f.type ((L.drop f.offset).take (P.cellsOf f.type)) = xs[i]?) (i : Nat) {t : TypeId} {o : Nat} (hi : l[i]? = some (t, o)) :
    ∃ y, DataW.trod enc P w base spare held n t ((L.drop o).take (P.cellsOf t)) = some y ∧ y ∈ xs := by
  obtain ⟨f, h1, rfl, rfl⟩ := field_at hF hi
  have hlt : i < xs.length := by rw [hlen]; exact (Array.getElem?_eq_some_iff.1 h1).1
  refine ⟨xs[i], ?_, List.getElem_mem _⟩
  rw [hq i f h1, List.getElem?_eq_getElem hlt]

end
end

section

/-- A dot: its Act and its Seq. -/
abbrev Dt := Int × Int

/-- Is a ahead of b? -/
def dl (a b : Dt) : Bool := decide (a.1 < b.1) || (decide (a.1 = b.1) && decide (a.2 < b.2))

theorem dl_iff (a b : Dt) : dl a b = true ↔ a.1 < b.1 ∨ (a.1 = b.1 ∧ a.2 < b.2) := by simp [dl]

theorem dl_irrefl (a : Dt) : dl a a = false := by simp [dl]

theorem dl_trans {a b c : Dt} (h : dl a b = true) (k : dl b c = true) : dl a c = true := by
  rw [dl_iff] at *
  omega

theorem dl_total {a b : Dt} (h : a ≠ b) (k : dl a b = false) : dl b a = true := by
  have k' : ¬ dl a b = true := by rw [k]; simp
  rw [dl_iff] at *
  have : ¬ (a.1 = b.1 ∧ a.2 = b.2) := fun ⟨e1, e2⟩ => h (Prod.ext e1 e2)
  omega

/-- A row that rises. -/
def Up (l : List Dt) : Prop := l.Pairwise (fun a b => dl a b = true)

theorem up_nodup : ∀ {l : List Dt}, Up l → l.Nodup
  | [], _ => List.nodup_nil
  | x :: r, h => by
    obtain ⟨h1, h2⟩ := List.pairwise_cons.1 h
    refine List.nodup_cons.2 ⟨fun hm => ?_, up_nodup h2⟩
    have := h1 x hm
    rw [dl_irrefl] at this
    cases this

/-- A rising row with one more dot. -/
def ins : List Dt → Dt → List Dt
  | [], d => [d]
  | x :: r, d => if dl x d = true then x :: ins r d else if x = d then x :: r else d :: x :: r

theorem mem_ins (e d : Dt) : ∀ l : List Dt, e ∈ ins l d ↔ e = d ∨ e ∈ l
  | [] => by simp [ins]
  | x :: r => by
    unfold ins
    split
    · simp [mem_ins e d r]
      constructor
      · rintro (h | h | h) <;> simp [h]
      · rintro (h | h | h) <;> simp [h]
    · split
      · rename_i hx
        subst hx
        simp
      · simp

theorem up_ins (d : Dt) : ∀ {l : List Dt}, Up l → Up (ins l d)
  | [], _ => by simp [ins, Up]
  | x :: r, h => by
    obtain ⟨h1, h2⟩ := List.pairwise_cons.1 h
    unfold ins
    split
    · rename_i hx
      refine List.pairwise_cons.2 ⟨fun q hq => ?_, up_ins d h2⟩
      rcases (mem_ins q d r).1 hq with rfl | hq
      · exact hx
      · exact h1 q hq
    · rename_i hx
      split
      · exact h
      · rename_i hne
        have hdx : dl d x = true := dl_total hne (by simpa using hx)
        refine List.pairwise_cons.2 ⟨fun q hq => ?_, h⟩
        rcases List.mem_cons.1 hq with rfl | hq
        · exact hdx
        · exact dl_trans hdx (h1 q hq)

theorem ins_length (d : Dt) : ∀ l : List Dt, (ins l d).length ≤ l.length + 1
  | [] => by simp [ins]
  | x :: r => by
    have := ins_length d r
    unfold ins
    split
    · simp; omega
    · split <;> simp

/-- A row put in order. -/
def rise (l : List Dt) : List Dt := l.foldl ins []

theorem rise_snoc (l : List Dt) (d : Dt) : rise (l ++ [d]) = ins (rise l) d := by simp [rise, List.foldl_append]

theorem up_foldl (l : List Dt) : ∀ acc : List Dt, Up acc → Up (l.foldl ins acc) := by
  induction l with
  | nil => exact fun _ h => h
  | cons x r ih => exact fun acc h => ih _ (up_ins x h)

theorem mem_foldl (e : Dt) (l : List Dt) : ∀ acc : List Dt, e ∈ l.foldl ins acc ↔ e ∈ acc ∨ e ∈ l := by
  induction l with
  | nil => simp
  | cons x r ih =>
    intro acc
    rw [List.foldl_cons, ih, mem_ins]
    simp only [List.mem_cons]
    constructor
    · rintro ((h | h) | h) <;> simp [h]
    · rintro (h | h | h) <;> simp [h]

theorem up_rise (l : List Dt) : Up (rise l) := up_foldl l [] (by simp [Up])
theorem mem_rise (e : Dt) (l : List Dt) : e ∈ rise l ↔ e ∈ l := by simp [rise, mem_foldl]

theorem len_foldl (l : List Dt) : ∀ acc : List Dt, (l.foldl ins acc).length ≤ acc.length + l.length := by
  induction l with
  | nil => simp
  | cons x r ih =>
    intro acc
    have := ih (ins acc x)
    have := ins_length x acc
    simp only [List.foldl_cons, List.length_cons]
    omega

theorem rise_length (l : List Dt) : (rise l).length ≤ l.length := by
  have := len_foldl l []
  simpa [rise] using this

/-- Both numbers are int's. -/
def Dw (d : Dt) : Prop := (Lit.int .i64 d.1).wf = true ∧ (Lit.int .i64 d.2).wf = true
def Dws (l : List Dt) : Prop := ∀ d ∈ l, Dw d

theorem Dws.rise {l : List Dt} (h : Dws l) : Dws (rise l) := fun d hd => h d ((mem_rise d l).1 hd)
theorem Dws.append {l m : List Dt} (h : Dws l) (k : Dws m) : Dws (l ++ m) := fun d hd => by
  rcases List.mem_append.1 hd with hd | hd
  · exact h d hd
  · exact k d hd
/-- The cells of a row of dots. -/
def flat : List Dt → List Value
  | [] => []
  | d :: r => .int .i64 d.1 :: .int .i64 d.2 :: flat r

theorem flat_length : ∀ l : List Dt, (flat l).length = l.length * 2
  | [] => rfl
  | d :: r => by simp [flat, flat_length r]; omega

theorem flat_append : ∀ l m : List Dt, flat (l ++ m) = flat l ++ flat m
  | [], m => rfl
  | d :: r, m => by simp [flat, flat_append r m]

theorem flat_get : ∀ (l : List Dt) (i : Nat) (h : i < l.length), (flat l)[i * 2]? = some (.int .i64 (l[i]).1) ∧ (flat l)[i * 2 + 1]? = some (.int .i64 (l[i]).2)
  | [], i, h => by simp at h
  | d :: r, 0, h => by simp [flat]
  | d :: r, i + 1, h => by
    have := flat_get r i (by simpa using h)
    have e : (i + 1) * 2 = (i * 2) + 1 + 1 := by omega
    rw [e]
    simpa [flat] using this
end

section

/-- May an operation have it? -/
def mayd (d : Dt) : Bool := decide (0 ≤ d.1) && decide (d.1 < 16777216) && decide (1 ≤ d.2) && decide (d.2 ≤ 1073741824)

/-- How many operations of an actor. -/
def gt : List Dt → Int → Int
  | [], _ => 0
  | d :: r, a => if d.1 = a then d.2 else gt r a

/-- The actors of both, rising. -/
def ua (A B : List Dt) : List Int := (rise ((A ++ B).map fun d => (d.1, (0 : Int)))).map Prod.fst

/-- Of these actors, what is picked. -/
def pks (pk : Int → Int → Int) (A B : List Dt) (l : List Int) : List Dt := l.filterMap fun a => if 0 < pk (gt A a) (gt B a) then some (a, pk (gt A a) (gt B a)) else none

/-- Of each actor of both, what is picked. -/
def vj (pk : Int → Int → Int) (A B : List Dt) : List Dt := pks pk A B (ua A B)

abbrev vjoin (A B : List Dt) : List Dt := vj (fun x y => max x y) A B
/-- With an operation. -/
def vwith (A : List Dt) (d : Dt) : List Dt := if mayd d = true then vjoin A [d] else A

/-- A vector made of raw dots. -/
def made (l : List Dt) : List Dt := (l.take 50).foldl vwith []
end

section
open Go.RowKit
open Go.Sort (grow alloc_eq_grow grow_grow cell?_grow heap_grow_old)

theorem mixed : Tryz.prog.follows .mixedOrders = true := by kernel_rfl
theorem hid {p : Prop} (h : p) : Hid p := h

abbrev dv (d : Dt) : Value := .agg #[.int .i64 d.1, .int .i64 d.2]

theorem below2 {w w1 w2 : World} (h : RowKit.Below w.heap.size w w1) (k : RowKit.Below w1.heap.size w1 w2) : RowKit.Below w.heap.size w w2 := h.trans (k.mono h.size)

theorem grow_block {w : World} {b : Nat} (h : b < w.heap.size) (n : Nat) (os : Array Obj) : (grow (w.drewN n) os).heap[b]? = w.heap[b]? := by
  rw [heap_grow_old _ _ (by exact h)]
  rfl

/-- Draws and new blocks: what was there stays. -/
theorem below_class (w : World) (n : Nat) (os : Array Obj) : RowKit.Below w.heap.size w (grow (w.drewN n) os) :=
  ⟨rfl, rfl, rfl, by simp [grow], fun i hi => grow_block hi n os⟩

/-- A world that is another one behind some draws and with new blocks. -/
def Far (w wr : World) : Prop := ∃ q os, wr = grow (w.drewN q) os

theorem Far.refl (w : World) : Far w w := ⟨0, #[], by rw [Go.Sort.grow_empty]; rfl⟩
theorem Far.more {w wr : World} (h : Far w wr) (n : Nat) (os : Array Obj) : Far w (grow (wr.drewN n) os) := by
  obtain ⟨q, os', rfl⟩ := h
  exact ⟨q + n, os' ++ os, by
    show grow (grow ((w.drewN q).drewN n) os') os = _
    rw [Go.Sort.grow_grow, World.drewN_drewN]⟩
theorem Far.drewN {w wr : World} (h : Far w wr) (n : Nat) : Far w (wr.drewN n) := by
  have := h.more n #[]
  rwa [Go.Sort.grow_empty] at this
theorem Far.drew {w wr : World} (h : Far w wr) : Far w wr.drew := h.drewN 1
theorem Far.alloc {w wr : World} (h : Far w wr) (o : Obj) : Far w (wr.alloc o) := by
  have := h.more 0 #[o]
  rwa [← Go.Sort.alloc_eq_grow] at this
theorem Far.below {w wr : World} (h : Far w wr) : RowKit.Below w.heap.size w wr := by
  obtain ⟨q, os, rfl⟩ := h
  exact below_class w q os
theorem Far.trans {a b c : World} (h : Far a b) (k : Far b c) : Far a c := by
  obtain ⟨q, os, rfl⟩ := k
  exact h.more q os

/-- A call that tells something and leaves the world as it was, but for draws and new blocks. -/
abbrev Tells (f : FuncId) (args : Array Value) (w : World) (v : Value) : Prop := Calls Tryz.prog f args w fun e w' => e = .returned v ∧ Far w w'

/-- The slice (a, n, c) holds these dots. -/
structure PS (w : World) (a : Option Addr) (n c : Nat) (L : List Dt) : Prop where
  len : L.length = n
  cap : n ≤ c
  max : c ≤ maxLen
  nil : a = none → n = 0 ∧ c = 0
  cells : ∀ ad, a = some ad → ∀ j u, (flat L)[j]? = some u → w.cell? (ad.add j) = some u

theorem cell_in {w : World} {p : Addr} {v : Value} (h : w.cell? p = some v) : p.block < w.heap.size := by
  rcases Nat.lt_or_ge p.block w.heap.size with hlt | hge
  · exact hlt
  · simp [World.cell?, Array.getElem?_eq_none hge] at h

theorem PS.below {w w' : World} {a : Option Addr} {n c : Nat} {L : List Dt} (h : PS w a n c L) (hb : RowKit.Below w.heap.size w w') : PS w' a n c L :=
  ⟨h.len, h.cap, h.max, h.nil, fun ad ha j u hj => by
    have := h.cells ad ha j u hj
    rw [hb.cell (cell_in this)]
    exact this⟩

theorem PS.none (w : World) : PS w none 0 0 [] := ⟨rfl, Nat.le_refl _, Nat.zero_le _, fun _ => ⟨rfl, rfl⟩, fun _ h => by cases h⟩

/-- Where dots are, they lie at a plain address. -/
theorem PS.at {w : World} {a : Option Addr} {n c : Nat} {L : List Dt} (h : PS w a n c L) (hp : 0 < n) :
    ∃ g o, a = some ⟨g, o, Option.none⟩ ∧ g < w.heap.size ∧ ∀ i (hi : i < L.length), w.cell? ⟨g, o + i * 2, Option.none⟩ = some (.int .i64 (L[i]).1) ∧ w.cell? ⟨g, o + i * 2 + 1, Option.none⟩ = some (.int .i64 (L[i]).2) := by
  cases a with
  | none => have := (h.nil rfl).1; omega
  | some ad =>
    have hc := h.cells ad rfl
    obtain ⟨g, o, sp⟩ := ad
    have hl : 0 < L.length := by rw [h.len]; exact hp
    have h0 := hc 0 _ (by have := (flat_get L 0 hl).1; simpa using this)
    have hspot : sp = Option.none := by simpa [Addr.add] using World.cell?_spot h0
    subst hspot
    refine ⟨g, o, rfl, by have := cell_in h0; simpa [Addr.add] using this, fun i hi => ?_⟩
    obtain ⟨f1, f2⟩ := flat_get L i hi
    have e1 := hc _ _ f1
    have e2 := hc _ _ f2
    constructor
    · by_cases hi0 : i * 2 = 0
      · rw [hi0] at e1 ⊢; simpa [Addr.add] using e1
      · simpa [Addr.add, hi0] using e1
    · simpa [Addr.add, Nat.add_assoc] using e2

theorem Tryz.info24 : (Tryz.prog.info? 24).map (fun i => (i.zero, i.size, i.bytes)) = some (some (.agg #[.int .i64 0, .int .i64 0]), 2, 16) := by kernel_rfl

theorem PS.no (w : World) (ao : Option Addr) (c : Nat) (h : ao = Option.none → c = 0) (hc : c ≤ maxLen) : PS w ao 0 c [] :=
  ⟨rfl, Nat.zero_le _, hc, fun e => ⟨rfl, h e⟩, fun _ _ _ _ hj => (by simp [flat] at hj)⟩

theorem flat_drop (L : List Dt) (k : Nat) : flat (L.drop k) = (flat L).drop (k * 2) := by
  induction L generalizing k with
  | nil => simp [flat]
  | cons x r ih =>
    cases k with
    | zero => simp
    | succ k =>
      have : (k + 1) * 2 = k * 2 + 1 + 1 := by omega
      rw [this]
      simp [flat, ih]

theorem PS.take {w : World} {a : Option Addr} {n c : Nat} {L : List Dt} (h : PS w a n c L) (k : Nat) (hk : k ≤ n) : PS w a k c (L.take k) :=
  ⟨by rw [List.length_take, h.len]; omega, by have := h.cap; omega, h.max, fun e => ⟨by have := h.nil e; omega, (h.nil e).2⟩, fun ad ha j u hj => h.cells ad ha j u (by
    have e : flat L = flat (L.take k) ++ flat (L.drop k) := by rw [← flat_append, List.take_append_drop]
    rw [e, List.getElem?_append_left]
    · exact hj
    · rcases Nat.lt_or_ge j (flat (L.take k)).length with h' | h'
      · exact h'
      · rw [List.getElem?_eq_none h'] at hj; cases hj)⟩

theorem PS.drop {w : World} {g o n c : Nat} {L : List Dt} (h : PS w (some ⟨g, o, Option.none⟩) n c L) (k : Nat) (hk : k ≤ n) : PS w (some ⟨g, o + k * 2, Option.none⟩) (n - k) (c - k) (L.drop k) := by
  refine ⟨by rw [List.length_drop, h.len], by have := h.cap; omega, by have := h.max; omega, fun e => (by cases e), fun ad ha j u hj => ?_⟩
  cases ha
  rw [flat_drop, List.getElem?_drop] at hj
  have := h.cells _ rfl _ _ hj
  have e1 : ((⟨g, o + k * 2, Option.none⟩ : Addr).add j) = ((⟨g, o, Option.none⟩ : Addr).add (k * 2 + j)) := by
    by_cases hj0 : j = 0
    · subst hj0
      by_cases hk0 : k * 2 = 0
      · simp [Addr.add, hk0]
      · simp [Addr.add, hk0]
    · simp [Addr.add, hj0, Nat.add_assoc]
  rw [e1]
  exact this

theorem owned_ps {w : World} {base : Nat} {v : Value} {n : Nat} {L : List Dt} (h : w.ownsRow base 24 2 v n (flat L)) (hl : L.length = n) : ∃ a c, v = .slice a n c ∧ PS w a n c L := by
  rcases h.2 with ⟨rfl, rfl⟩ | ⟨g, cap, cur, rfl, hg, hb, hn, hcap, hsz, ht⟩
  · have : L = [] := List.eq_nil_of_length_eq_zero hl
    subst this
    exact ⟨none, 0, rfl, PS.none w⟩
  · exact ⟨_, _, rfl, hl, hn, hcap, fun h => (by cases h), fun ad ha j u hj => (by cases ha; exact h.cells (g := g) rfl j u hj)⟩

theorem flat_one (L : List Dt) : ∀ u ∈ flat L, u.oneCell' = true := by
  induction L with
  | nil => intro u hu; simp [flat] at hu
  | cons d r ih =>
    intro u hu
    simp only [flat, List.mem_cons] at hu
    rcases hu with rfl | rfl | hu
    · rfl
    · rfl
    · exact ih u hu

/-- append of a row of dots, none or not, to a slice of the call's own. -/
theorem wpList_append_dots {w : World} {ops : Array Oper} {rest : List Oper} {o : Oper} {a : Act} {Q : Exit → Act → World → Prop} (hgd : o.guard = none) (s x : Operand) (t : TypeId) (ht : Tryz.prog.underlying t = some (.slice 24))
    (ho : o.op = .call { callee := .builtin .append, args := #[s, x], argTypes := #[t, t] }) (base : Nat) (v : Value) (n : Nat) (xs : List Value) (hs : a.eval s = v) (hown : w.ownsRow base 24 2 v n xs)
    (ao : Option Addr) (m c : Nat) (L : List Dt) (hx : a.eval x = .slice ao m c) (hL : PS w ao m c L) (hb : n + m ≤ 8000000) (hbase : base ≤ w.heap.size)
    (h : ∀ v' w', w'.ownsRow base 24 2 v' (n + m) (xs ++ flat L) → w.grownBy w' v.ownBlock → wpList Tryz.prog ops Q rest (a.put o.dst v') w') : wpList Tryz.prog ops Q (o :: rest) a w := by
  obtain ⟨i0, hi, hz0, hz1, hz2⟩ := info_parts Tryz.info24
  cases ao with
  | none =>
    obtain ⟨rfl, rfl⟩ := hL.nil rfl
    have : L = [] := List.eq_nil_of_length_eq_zero hL.len
    subst this
    refine wpList_append_own_none hgd s x t ho base 24 i0 2 ht hi v n xs hs hown hx ?_
    exact h v w (by simpa [flat] using hown) (World.grownBy.refl _ _)
  | some ad =>
    exact wpList_append_own w hgd s x t ho base 24 i0 _ 2 16 ht hi hz0 hz1 hz2 rfl (by decide) v n xs hs hown ad m c (flat L) hx (by rw [flat_length, hL.len]) (hL.cells ad rfl) (flat_one L) (by unfold maxLen; omega) (by omega) hbase
      (fun v' w' h1 h2 _ => h v' w' h1 h2)

/-- A call answers a slice of its own that holds L. -/
def Gives (w : World) (L : List Dt) (e : Ending) (w' : World) : Prop := ∃ v, e = .returned v ∧ w'.ownsRow w.heap.size 24 2 v L.length (flat L) ∧ RowKit.Below w.heap.size w w'
end

section
open Go.RowKit
open Go.Sort (grow)

/-- Below 0, 0 or above 0. -/
def cmpi (x y : Int) : Int := if x < y then -1 else if y < x then 1 else 0

theorem cmp_any (x y : Int) (w : World) : Calls Tryz.prog 128 #[.int .i64 x, .int .i64 y] w fun e w' => e = .returned (.int .i64 (cmpi x y)) ∧ w' = w := by
  by_cases h : x < y
  · go_enter Tryz.func128, Tryz.ntmps128
    go_wp2
    go_ret
    exact ⟨by simp [cmpi, h], rfl⟩
  · by_cases h2 : y < x
    · go_enter Tryz.func128, Tryz.ntmps128
      go_wp2
      go_ret
      exact ⟨by simp [cmpi, h, h2], rfl⟩
    · go_enter Tryz.func128, Tryz.ntmps128
      go_wp2
      go_ret
      exact ⟨by unfold cmpi; rw [if_neg (by omega), if_neg (by omega)]; rfl, rfl⟩
end

section
open Go.RowKit
open Go.Sort (grow)

theorem PS.drewN {w : World} {a : Option Addr} {n c : Nat} {L : List Dt} (h : PS w a n c L) (q : Nat) : PS (w.drewN q) a n c L :=
  ⟨h.len, h.cap, h.max, h.nil, h.cells⟩

section
variable {a a' : Option Addr} {n c n' c' : Nat} {L M : List Dt} {w : World}
end
end

section
open Go.RowKit
open Go.Sort (grow)

abbrev OpIn.id (o : OpIn) : Dt := (o.id0, o.id1)
abbrev OpIn.blk (o : OpIn) : Dt := (o.bl0, o.bl1)
abbrev OpIn.at (o : OpIn) : Dt := (o.at0, o.at1)
abbrev OpIn.par (o : OpIn) : Dt := (o.pa0, o.pa1)

/-- What a kind has: At, Side and Char, Parent and Key. -/
def pat (k : Int) : Bool := decide (k = 1) || decide (k = 2)
def pch (k : Int) : Bool := decide (k = 1)
def ppl (k : Int) : Bool := decide (k = 3)
end

section
open Go.RowKit
open Go.Sort (grow)

/-- Which operation comes ahead. -/
def lo (o p : OpIn) : Bool := decide (o.time < p.time) || ((o.time == p.time) && dl o.id p.id)
end

section
open Go.RowKit

theorem agg_eq (a b : Dt) : ((dv a) = (dv b)) ↔ a = b := by
  constructor
  · intro h
    simp at h
    exact Prod.ext h.1 h.2
  · rintro rfl
    rfl
end

section
open Go.RowKit Go.Sort Go.Maps

theorem laidOut0 : laidOutB Tryz.prog = true := by kernel_rfl
theorem dotRow : (24 : TypeId) < Tryz.prog.types.size := of_decide_eq_true (by kernel_rfl)
theorem dotCells : Tryz.prog.cellsOf 24 = 2 := by kernel_rfl
theorem intCells : Tryz.prog.cellsOf 3 = 1 := by kernel_rfl
theorem dotKey : Tryz.prog.keyType 24 = true := by kernel_rfl
theorem dotWide : (match Tryz.prog.underlying 24 with | some (.array _ _) | some (.struct _) => true | _ => false) = true := by rw [Tryz.underlying24]
set_option maxRecDepth 100000 in
theorem law : Keyed Tryz.prog 24 := Keyed.of_law (deep_law_laid laidOut0 (m := 2) (by omega) dotRow (by kernel_rfl) dotWide)

/-- What a dot reads as, as a key. -/
def kl (d : Dt) : Lit := .string (keyBytes [.int .i64 d.1, .int .i64 d.2])

theorem dotFormed (a b : Value) : (Value.agg #[a, b]).formed Tryz.prog 24 = true := by simp [Value.formed, Tryz.underlying24, dotCells]

theorem typesNum : Tryz.prog.types.size = 277 := by kernel_rfl

theorem lits_int (n : Nat) {a : Int} (h : (Lit.int .i64 a).wf = true) : Tryz.prog.keyLits (n + 1) 3 [.int .i64 a] = some [.int .i64 a] := by
  unfold Program.keyLits
  rw [Tryz.underlying3]
  simp [h]

theorem lits_dot (n : Nat) {d : Dt} (h : Dw d) : Tryz.prog.keyLits (n + 2) 24 [.int .i64 d.1, .int .i64 d.2] = some [.int .i64 d.1, .int .i64 d.2] := by
  unfold Program.keyLits
  rw [Tryz.underlying24]
  simp [dotCells, intCells, lits_int n h.1, lits_int n h.2]

theorem keyOf_dot {d : Dt} (h : Dw d) : keyOf Tryz.prog 24 (dv d) = some (kl d) := by
  unfold keyOf
  rw [Tryz.underlying24]
  simp only [dotKey, dotFormed, Bool.and_self, if_true, typesNum]
  have : (dv d).cells.toList = [.int .i64 d.1, .int .i64 d.2] := rfl
  rw [this, lits_dot 276 h]
  rfl

set_option maxRecDepth 100000 in
theorem keyOf_dot_inv {v : Value} {l : Lit} (h : keyOf Tryz.prog 24 v = some l) : ∃ d : Dt, v = dv d ∧ Dw d ∧ l = kl d := by
  unfold keyOf at h
  rw [Tryz.underlying24] at h
  simp only [typesNum] at h
  split at h
  · rename_i hf
    obtain ⟨ls, hl, rfl⟩ := Option.map_eq_some_iff.1 h
    simp only [Bool.and_eq_true] at hf
    have hf2 := hf.2
    unfold Program.keyLits at hl
    rw [Tryz.underlying24] at hl
    cases v <;> simp [Value.formed, Tryz.underlying24, dotCells] at hf2
    rename_i cs
    obtain ⟨cs⟩ := cs
    match cs, hf2 with
    | [x, y], _ =>
      simp [dotCells, intCells, Value.cells] at hl
      obtain ⟨l0, h0⟩ : ∃ l0, Tryz.prog.keyLits 277 3 [x] = some l0 := by
        cases hh : Tryz.prog.keyLits 277 3 [x]
        · rw [hh] at hl; simp at hl
        · exact ⟨_, rfl⟩
      obtain ⟨l1, h1⟩ : ∃ l1, Tryz.prog.keyLits 277 3 [y] = some l1 := by
        cases hh : Tryz.prog.keyLits 277 3 [y]
        · rw [h0, hh] at hl; simp at hl
        · exact ⟨_, rfl⟩
      rw [h0, h1] at hl
      simp at hl
      subst hl
      obtain ⟨n0, e0, rfl⟩ := keyLits_int' Tryz.underlying3 h0
      obtain ⟨n1, e1, rfl⟩ := keyLits_int' Tryz.underlying3 h1
      simp at e0 e1
      subst e0
      subst e1
      refine ⟨(n0, n1), rfl, ⟨?_, ?_⟩, rfl⟩
      · unfold Program.keyLits at h0
        rw [Tryz.underlying3] at h0
        simpa using h0
      · unfold Program.keyLits at h1
        rw [Tryz.underlying3] at h1
        simpa using h1
  · cases h

theorem kl_inj {a b : Dt} (ha : Dw a) (hb : Dw b) (h : kl a = kl b) : a = b := by
  have := law.inj (keyOf_dot ha) (h ▸ keyOf_dot hb)
  exact (agg_eq a b).1 this

theorem kl_isKey (d : Dt) : WideAt.IsKeyLit (kl d) := trivial
end

section
set_option linter.unusedVariables false

/-- Where a block lies: under what, and its key. -/
structure Sp where
  b : Dt
  p : Dt
  k : ByteArray

/-- A move. -/
structure Mv where
  id : Dt
  time : Int
  block : Dt
  parent : Dt
  key : ByteArray

def Mv.sp (m : Mv) : Sp := ⟨m.block, m.parent, m.key⟩

abbrev Pl := Dt × ByteArray

/-- Where a block lies, if it is there. -/
def lk (S : List Sp) (b : Dt) : Option Pl := (S.find? (fun s => decide (s.b = b))).map (fun s => (s.p, s.k))

theorem lk_none {S : List Sp} {b : Dt} : lk S b = none ↔ ∀ s ∈ S, s.b ≠ b := by
  unfold lk
  rw [Option.map_eq_none_iff, List.find?_eq_none]
  constructor
  · intro h s hs e; exact h s hs (by simpa using e)
  · intro h s hs e; exact h s hs (by simpa using e)

theorem lk_some {S : List Sp} {b : Dt} {q : Pl} (h : lk S b = some q) : ∃ s ∈ S, s.b = b ∧ (s.p, s.k) = q := by
  unfold lk at h
  obtain ⟨s, hs, e⟩ := Option.map_eq_some_iff.1 h
  exact ⟨s, List.mem_of_find?_eq_some hs, by simpa using List.find?_some hs, e⟩

theorem sp_one {S : List Sp} (hn : (S.map Sp.b).Nodup) {s s' : Sp} (hs : s ∈ S) (hs' : s' ∈ S) (e : s.b = s'.b) : s = s' := by
  obtain ⟨i, hi⟩ := List.mem_iff_getElem?.1 hs
  obtain ⟨j, hj⟩ := List.mem_iff_getElem?.1 hs'
  have hil := (List.getElem?_eq_some_iff.1 hi).1
  have : i = j := by
    refine (List.getElem?_inj (l := S.map Sp.b) (by simpa using hil) hn).1 ?_
    rw [List.getElem?_map, List.getElem?_map, hi, hj]
    simp [e]
  subst this
  rw [hi] at hj
  cases hj
  rfl

theorem lk_mem {S : List Sp} (hn : (S.map Sp.b).Nodup) {s : Sp} (hs : s ∈ S) : lk S s.b = some (s.p, s.k) := by
  cases h : lk S s.b with
  | none => exact absurd rfl (lk_none.1 h s hs)
  | some q =>
    obtain ⟨s', hs', e, e2⟩ := lk_some h
    have := sp_one hn hs hs' e.symm
    subst this
    rw [e2]

theorem lk_perm {S S' : List Sp} (hn : (S.map Sp.b).Nodup) (hp : S.Perm S') (b : Dt) : lk S b = lk S' b := by
  have hn' : (S'.map Sp.b).Nodup := (hp.map _).nodup_iff.1 hn
  cases h : lk S b with
  | none => exact (lk_none.2 (fun s hs => lk_none.1 h s (hp.mem_iff.2 hs))).symm
  | some q =>
    obtain ⟨s, hs, rfl, rfl⟩ := lk_some h
    exact (lk_mem hn' (hp.mem_iff.1 hs)).symm

/-- The root, the trash. -/
def isEnd (d : Dt) : Prop := d = (0, -1) ∨ d = (0, -2)

/-- What is above a block, at most so many. -/
def up (σ : Dt → Option Pl) : Nat → Dt → List Dt
  | 0, _ => []
  | n + 1, b => match σ b with
    | none => []
    | some q => q.1 :: up σ n q.1

/-- The blocks that are passed on the way. -/
def dn (σ : Dt → Option Pl) : Nat → Dt → List Dt
  | 0, _ => []
  | n + 1, b => match σ b with
    | none => []
    | some q => b :: dn σ n q.1

theorem up_len (σ : Dt → Option Pl) : ∀ (n : Nat) (b : Dt), (up σ n b).length = (dn σ n b).length
  | 0, _ => rfl
  | n + 1, b => by
    unfold up dn
    cases h : σ b with
    | none => rfl
    | some q => simp only [List.length_cons, up_len σ n q.1]

/-- A tree: blocks once each, under the root, the trash or a block that is there; r: how deep. -/
structure Tk (S : List Sp) (r : Dt → Nat) : Prop where
  nd : (S.map Sp.b).Nodup
  nz : ∀ s ∈ S, s.b ≠ (0, 0) ∧ ¬ isEnd s.b
  par : ∀ s ∈ S, isEnd s.p ∨ ∃ s' ∈ S, s'.b = s.p
  rk : ∀ s ∈ S, r s.p < r s.b

theorem Tk.nil : Tk [] (fun _ => 0) := ⟨List.nodup_nil, by simp, by simp, by simp⟩

theorem Tk.perm {S S' : List Sp} {r : Dt → Nat} (h : Tk S r) (hp : S.Perm S') : Tk S' r :=
  ⟨(hp.map _).nodup_iff.1 h.nd, fun s hs => h.nz s (hp.mem_iff.2 hs), fun s hs => (h.par s (hp.mem_iff.2 hs)).imp id (fun ⟨s', h1, h2⟩ => ⟨s', hp.mem_iff.1 h1, h2⟩), fun s hs => h.rk s (hp.mem_iff.2 hs)⟩

theorem Tk.dn_mem {S : List Sp} {r : Dt → Nat} (h : Tk S r) : ∀ (n : Nat) (b : Dt), ∀ x ∈ dn (lk S) n b, x ∈ S.map Sp.b ∧ r x ≤ r b
  | 0, _, x, hx => by simp [dn] at hx
  | n + 1, b, x, hx => by
    unfold dn at hx
    cases e : lk S b with
    | none => rw [e] at hx; simp at hx
    | some q =>
      rw [e] at hx
      obtain ⟨s, hs, rfl, rfl⟩ := lk_some e
      rcases List.mem_cons.1 hx with rfl | hx
      · exact ⟨List.mem_map.2 ⟨s, hs, rfl⟩, Nat.le_refl _⟩
      · obtain ⟨h1, h2⟩ := h.dn_mem n s.p x hx
        have := h.rk s hs
        exact ⟨h1, by omega⟩

theorem Tk.dn_nodup {S : List Sp} {r : Dt → Nat} (h : Tk S r) : ∀ (n : Nat) (b : Dt), (dn (lk S) n b).Nodup
  | 0, _ => List.nodup_nil
  | n + 1, b => by
    unfold dn
    cases e : lk S b with
    | none => exact List.nodup_nil
    | some q =>
      obtain ⟨s, hs, rfl, rfl⟩ := lk_some e
      simp only [List.nodup_cons]
      refine ⟨fun hm => ?_, h.dn_nodup n s.p⟩
      have := (h.dn_mem n s.p s.b hm).2
      have := h.rk s hs
      omega

/-- No way up is longer than there are blocks. -/
theorem Tk.up_len {S : List Sp} {r : Dt → Nat} (h : Tk S r) (n : Nat) (b : Dt) : (up (lk S) n b).length ≤ S.length := by
  rw [Proofs.YtnmdcdphpcpojaaGreatDoor.up_len]
  have := List.Nodup.length_le_of_subset (h.dn_nodup n b) (fun x hx => (h.dn_mem n b x hx).1)
  simpa using this

/-- It ends: more steps tell no more. -/
theorem up_more (σ : Dt → Option Pl) : ∀ (n : Nat) (b : Dt), (up σ n b).length < n → ∀ m, n ≤ m → up σ m b = up σ n b
  | 0, b, h, m, hm => by omega
  | n + 1, b, h, 0, hm => by omega
  | n + 1, b, h, m + 1, hm => by
    unfold up at h ⊢
    cases e : σ b with
    | none => rfl
    | some q =>
      rw [e] at h
      simp only [List.length_cons] at h
      simp only [List.cons.injEq, true_and]
      exact up_more σ n q.1 (by omega) m (by omega)

/-- All that is above a block. -/
def pth (S : List Sp) (b : Dt) : List Dt := up (lk S) (S.length + 1) b

theorem Tk.pth_more {S : List Sp} {r : Dt → Nat} (h : Tk S r) (b : Dt) {m : Nat} (hm : S.length + 1 ≤ m) : up (lk S) m b = pth S b :=
  up_more _ _ _ (Nat.lt_succ_of_le (h.up_len _ _)) m hm

theorem Tk.pth_none {S : List Sp} {b : Dt} (h : lk S b = none) : pth S b = [] := by
  unfold pth up
  rw [h]

theorem Tk.pth_some {S : List Sp} {r : Dt → Nat} (h : Tk S r) {b : Dt} {q : Pl} (hq : lk S b = some q) : pth S b = q.1 :: pth S q.1 := by
  rw [← h.pth_more b (m := S.length + 1 + 1) (by omega)]
  show up (lk S) (S.length + 1 + 1) b = _
  unfold up
  rw [hq]
  rfl

theorem up_congr {σ τ : Dt → Option Pl} (h : ∀ b, σ b = τ b) : ∀ (n : Nat) (b : Dt), up σ n b = up τ n b
  | 0, _ => rfl
  | n + 1, b => by
    unfold up
    rw [h b]
    cases τ b with
    | none => rfl
    | some q => simp only [up_congr h n q.1]

theorem Tk.pth_perm {S S' : List Sp} {r : Dt → Nat} (h : Tk S r) (hp : S.Perm S') (b : Dt) : pth S b = pth S' b := by
  unfold pth
  rw [hp.length_eq]
  exact up_congr (lk_perm h.nd hp) _ _

/-- What is above is less deep. -/
theorem Tk.pth_rk {S : List Sp} {r : Dt → Nat} (h : Tk S r) : ∀ (n : Nat) (b : Dt), ∀ x ∈ up (lk S) n b, r x < r b
  | 0, _, x, hx => by simp [up] at hx
  | n + 1, b, x, hx => by
    unfold up at hx
    cases e : lk S b with
    | none => rw [e] at hx; simp at hx
    | some q =>
      rw [e] at hx
      obtain ⟨s, hs, rfl, rfl⟩ := lk_some e
      have h0 := h.rk s hs
      rcases List.mem_cons.1 hx with rfl | hx
      · exact h0
      · have := h.pth_rk n s.p x hx
        omega

/-- What is above is the root, the trash or there. -/
theorem Tk.pth_there {S : List Sp} {r : Dt → Nat} (h : Tk S r) : ∀ (n : Nat) (b : Dt), ∀ x ∈ up (lk S) n b, isEnd x ∨ ∃ s ∈ S, s.b = x
  | 0, _, x, hx => by simp [up] at hx
  | n + 1, b, x, hx => by
    unfold up at hx
    cases e : lk S b with
    | none => rw [e] at hx; simp at hx
    | some q =>
      rw [e] at hx
      obtain ⟨s, hs, rfl, rfl⟩ := lk_some e
      rcases List.mem_cons.1 hx with rfl | hx
      · exact h.par s hs
      · exact h.pth_there n s.p x hx

/-- Can blocks lie under it? -/
def holds (S : List Sp) (p : Dt) : Prop := isEnd p ∨ lk S p ≠ none

/-- Does a move take effect? -/
def takesP (S : List Sp) (m : Mv) : Prop := holds S m.parent ∧ (lk S m.block ≠ none ∨ m.block = m.id) ∧ m.block ≠ m.parent ∧ m.block ∉ pth S m.parent

/-- A block is laid somewhere, wherever it lay. -/
def put (S : List Sp) (s : Sp) : List Sp := S.filter (fun x => decide (x.b ≠ s.b)) ++ [s]

theorem put_mem {S : List Sp} {s x : Sp} : x ∈ put S s ↔ (x ∈ S ∧ x.b ≠ s.b) ∨ x = s := by
  unfold put
  rw [List.mem_append, List.mem_filter]
  simp

theorem put_nodup {S : List Sp} (hn : (S.map Sp.b).Nodup) (s : Sp) : ((put S s).map Sp.b).Nodup := by
  unfold put
  rw [List.map_append, List.nodup_append]
  refine ⟨(List.Sublist.map Sp.b List.filter_sublist).nodup hn, by simp, fun a ha b hb => ?_⟩
  obtain ⟨x, hx, rfl⟩ := List.mem_map.1 ha
  simp at hb
  subst hb
  have := (List.mem_filter.1 hx).2
  simpa using this

/-- What lies below a block, or is it, gets deeper. -/
theorem Tk.put {S : List Sp} {r : Dt → Nat} (h : Tk S r) {m : Mv} (hm : takesP S m) (hz : m.block ≠ (0, 0)) (he : ¬ isEnd m.block) : ∃ r', Tk (put S m.sp) r' := by
  obtain ⟨h1, h2, h3, h4⟩ := hm
  have hpth : ∀ x : Dt, (∃ s ∈ S, s.b = x) ∨ lk S x = none := fun x => by
    cases e : lk S x with
    | none => exact Or.inr rfl
    | some q => obtain ⟨s, hs, rfl, _⟩ := lk_some e; exact Or.inl ⟨s, hs, rfl⟩
  refine ⟨fun x => if x = m.block ∨ m.block ∈ pth S x then r x + r m.parent + 1 else r x, put_nodup h.nd _, fun s hs => ?_, fun s hs => ?_, fun s hs => ?_⟩
  · rcases put_mem.1 hs with ⟨hs, _⟩ | rfl
    · exact h.nz s hs
    · exact ⟨hz, he⟩
  · rcases put_mem.1 hs with ⟨hs, hne⟩ | rfl
    · rcases h.par s hs with e | ⟨s', hs', e⟩
      · exact Or.inl e
      · refine Or.inr ?_
        by_cases hb : s'.b = m.sp.b
        · exact ⟨m.sp, put_mem.2 (Or.inr rfl), hb.symm.trans e⟩
        · exact ⟨s', put_mem.2 (Or.inl ⟨hs', hb⟩), e⟩
    · rcases h1 with e | hl
      · exact Or.inl e
      · refine Or.inr ?_
        rcases hpth m.parent with ⟨s', hs', e⟩ | e
        · refine ⟨s', put_mem.2 (Or.inl ⟨hs', fun e2 => h3 ?_⟩), e⟩
          exact e2.symm.trans e
        · exact absurd e hl
  · rcases put_mem.1 hs with ⟨hs, hne⟩ | rfl
    · have hrk := h.rk s hs
      have hpp := h.pth_some (lk_mem h.nd hs)
      have hne' : ¬ s.b = m.block := hne
      by_cases hb : s.p = m.block ∨ m.block ∈ pth S s.p
      · rw [if_pos hb, if_pos (Or.inr (by rw [hpp]; rcases hb with e | e; exact List.mem_cons.2 (Or.inl e.symm); exact List.mem_cons_of_mem _ e))]
        omega
      · rw [if_neg hb, if_neg (fun e => by
          rcases e with e | e
          · exact hne' e
          · rw [hpp] at e
            rcases List.mem_cons.1 e with e | e
            · exact hb (Or.inl e.symm)
            · exact hb (Or.inr e))]
        exact hrk
    · have e1 : (if m.sp.p = m.block ∨ m.block ∈ pth S m.sp.p then r m.sp.p + r m.parent + 1 else r m.sp.p) = r m.parent := if_neg (fun e => by rcases e with e | e; exact h3 e.symm; exact h4 e)
      have e2 : (if m.sp.b = m.block ∨ m.block ∈ pth S m.sp.b then r m.sp.b + r m.parent + 1 else r m.sp.b) = r m.block + r m.parent + 1 := if_pos (Or.inl rfl)
      exact Nat.lt_of_le_of_lt (Nat.le_of_eq e1) (Nat.lt_of_lt_of_le (by omega) (Nat.le_of_eq e2.symm))

/-- Does a move take effect? As a Bool. -/
def takes (S : List Sp) (m : Mv) : Bool := (decide (m.parent = (0, -1)) || decide (m.parent = (0, -2)) || (lk S m.parent).isSome) && ((lk S m.block).isSome || decide (m.block = m.id)) && decide (m.block ≠ m.parent) && decide (m.block ∉ pth S m.parent)

theorem takes_iff {S : List Sp} {m : Mv} : takes S m = true ↔ takesP S m := by
  unfold takes takesP holds isEnd
  simp only [Bool.and_eq_true, Bool.or_eq_true, decide_eq_true_eq, Option.isSome_iff_ne_none]
  constructor
  · rintro ⟨⟨⟨h1, h2⟩, h3⟩, h4⟩; exact ⟨h1, h2, h3, h4⟩
  · rintro ⟨h1, h2, h3, h4⟩; exact ⟨⟨⟨h1, h2⟩, h3⟩, h4⟩

/-- A move is done. -/
def step (S : List Sp) (m : Mv) : List Sp := if takes S m then put S m.sp else S

/-- Moves are done one by one, from nothing. -/
def run (l : List Mv) : List Sp := l.foldl step []

theorem run_snoc (l : List Mv) (m : Mv) : run (l ++ [m]) = step (run l) m := by
  unfold run
  rw [List.foldl_append]
  rfl

/-- Moves that may be: of blocks that may be. -/
def Mvs (l : List Mv) : Prop := ∀ m ∈ l, m.block ≠ (0, 0) ∧ ¬ isEnd m.block

theorem Tk.step {S : List Sp} {r : Dt → Nat} (h : Tk S r) {m : Mv} (hz : m.block ≠ (0, 0)) (he : ¬ isEnd m.block) : ∃ r', Tk (step S m) r' := by
  unfold Proofs.YtnmdcdphpcpojaaGreatDoor.step
  split
  · rename_i ht
    exact h.put (takes_iff.1 ht) hz he
  · exact ⟨r, h⟩

theorem fold_tk : ∀ (l : List Mv) (S : List Sp) (r : Dt → Nat), Tk S r → Mvs l → ∃ r', Tk (l.foldl Proofs.YtnmdcdphpcpojaaGreatDoor.step S) r'
  | [], S, r, h, _ => ⟨r, h⟩
  | m :: l, S, r, h, hm => by
    obtain ⟨r1, h1⟩ := h.step (hm m (by simp)).1 (hm m (by simp)).2
    exact fold_tk l _ r1 h1 (fun x hx => hm x (List.mem_cons_of_mem _ hx))

theorem run_tk (l : List Mv) (h : Mvs l) : ∃ r, Tk (run l) r := fold_tk l [] _ Tk.nil h

theorem takes_perm {S S' : List Sp} {r : Dt → Nat} (h : Tk S r) (hp : S.Perm S') (m : Mv) : takes S m = takes S' m := by
  unfold takes
  rw [lk_perm h.nd hp, lk_perm h.nd hp, h.pth_perm hp]

theorem put_perm {S S' : List Sp} (hp : S.Perm S') (s : Sp) : (put S s).Perm (put S' s) := (hp.filter _).append_right _

theorem step_perm {S S' : List Sp} {r : Dt → Nat} (h : Tk S r) (hp : S.Perm S') (m : Mv) : (step S m).Perm (step S' m) := by
  unfold step
  rw [takes_perm h hp]
  split
  · exact put_perm hp _
  · exact hp

/-- A block is taken away. -/
def lift (S : List Sp) (b : Dt) : List Sp := S.filter (fun x => decide (x.b ≠ b))

/-- What was there ahead of a move is brought back. -/
def back (S : List Sp) (b : Dt) (was : Option Pl) : List Sp := match was with
  | none => lift S b
  | some q => lift S b ++ [⟨b, q.1, q.2⟩]

theorem lift_put (S : List Sp) (s : Sp) : lift (put S s) s.b = lift S s.b := by
  unfold lift put
  rw [List.filter_append, List.filter_filter]
  simp

theorem perm_lift {S : List Sp} (hn : (S.map Sp.b).Nodup) {s : Sp} (hs : s ∈ S) : S.Perm (lift S s.b ++ [s]) := by
  obtain ⟨A, B, rfl⟩ := List.append_of_mem hs
  have hA : ∀ x ∈ A, x.b ≠ s.b := fun x hx e => by
    rw [List.map_append, List.nodup_append] at hn
    exact hn.2.2 _ (List.mem_map.2 ⟨x, hx, rfl⟩) s.b (by simp) e
  have hB : ∀ x ∈ B, x.b ≠ s.b := fun x hx e => by
    rw [List.map_append, List.nodup_append] at hn
    have := hn.2.1
    rw [List.map_cons, List.nodup_cons] at this
    exact this.1 (List.mem_map.2 ⟨x, hx, e⟩)
  have e : lift (A ++ s :: B) s.b = A ++ B := by
    unfold lift
    rw [List.filter_append, List.filter_cons_of_neg (by simp), List.filter_eq_self.2 (fun x hx => by simpa using hA x hx), List.filter_eq_self.2 (fun x hx => by simpa using hB x hx)]
  rw [e]
  refine List.perm_middle.trans ?_
  exact (List.perm_append_singleton s (A ++ B)).symm

theorem lift_none {S : List Sp} {b : Dt} (h : lk S b = none) : lift S b = S := List.filter_eq_self.2 (fun x hx => by simpa using lk_none.1 h x hx)

/-- Undone is as it was. -/
theorem back_put {S : List Sp} (hn : (S.map Sp.b).Nodup) (s : Sp) : (back (put S s) s.b (lk S s.b)).Perm S := by
  unfold back
  cases e : lk S s.b with
  | none => simp only; rw [lift_put, lift_none e]
  | some q =>
    obtain ⟨x, hx, hxb, rfl⟩ := lk_some e
    simp only
    rw [lift_put]
    have hx' : (⟨s.b, x.p, x.k⟩ : Sp) = x := by cases x; simp_all
    rw [hx', ← hxb]
    exact (perm_lift hn hx).symm

theorem lift_perm {S S' : List Sp} (hp : S.Perm S') (b : Dt) : (lift S b).Perm (lift S' b) := hp.filter _

theorem back_perm {S S' : List Sp} (hp : S.Perm S') (b : Dt) (was : Option Pl) : (back S b was).Perm (back S' b was) := by
  unfold back
  cases was with
  | none => exact lift_perm hp b
  | some q => exact (lift_perm hp b).append_right _
end
end Go.Proofs.YtnmdcdphpcpojaaGreatDoor
