/- Dots as the keys of a map: what a key reads as, and back; a map of dots as a function. -/
import Derived.WalkKit
import Derived.ChangeSame
import Derived.ChangeArms
import Derived.ChangeMaps5
import Derived.WideShapes
import Derived.Lib.SmallJoins
import Derived.WalkSpells
import Derived.WalkLawsBesides
import Derived.Below
import Derived.Sort.Grow
import Derived.Sort.OwnSorted
import Derived.Laws.AppendOwnNone
import Derived.Shelf.SlSortCmp.QuietGrown
import Derived.BigQuiet
import Derived.Test.YtplcohjpchfkkaaProg
import Derived.Test.YtplcohjpchfkkaaRows
import Derived.Sort.AtCall
import Derived.DeepKeys4
import Derived.Maps.OwnSet
import Derived.Maps.RangeWalk
namespace Go.Proofs.Ytplcohjpchfkkaa
section
open Go.ChangeShapes Go.WideShapes

section
variable {H : Type} {enc : TypeId × Value → H} {P : Program} {w : World} {base : Nat} {spare : Nat → Bool} {held : Bool}

theorem part_one {α : Type} {l : List α} {o : Nat} {x : α} (h : (l.drop o).take 1 = [x]) : l[o]? = some x := by
  have := congrArg (fun k => k[0]?) h
  simpa using this
theorem part_two {α : Type} {l : List α} {o : Nat} {x y : α} (h : (l.drop o).take 2 = [x, y]) : l[o]? = some x ∧ l[o + 1]? = some y := by
  have h0 := congrArg (fun k => k[0]?) h
  have h1 := congrArg (fun k => k[1]?) h
  simp at h0 h1
  exact ⟨h0, h1⟩

theorem field_at {fs : Array Field} {l : List (TypeId × Nat)} (h : fs.toList.map (fun f => (f.type, f.offset)) = l) {i : Nat} {t : TypeId} {o : Nat} (hi : l[i]? = some (t, o)) : ∃ f, fs[i]? = some f ∧ f.type = t ∧ f.offset = o := by
  subst h
  simp only [List.getElem?_map, Option.map_eq_some_iff] at hi
  obtain ⟨f, h1, h2⟩ := hi
  simp only [Prod.mk.injEq] at h2
  exact ⟨f, by simpa using h1, h2.1, h2.2⟩

/-- A dot among the cells. -/
theorem dot_part {tDot tInt : TypeId} {g0 g1 : Field} {n : Nat} {c : List Value} {y : DataW H × List MemPlace} (hD : P.underlying tDot = some (.struct #[g0, g1])) (hg : g0.type = tInt ∧ g0.offset = 0 ∧ g1.type = tInt ∧ g1.offset = 1)
    (hI : P.underlying tInt = some (.int .i64)) (cI : P.cellsOf tInt = 1) (h : DataW.trod enc P w base spare held n tDot (c.take 2) = some y) : ∃ a s : Int, c.take 2 = [.int .i64 a, .int .i64 s] ∧ (Lit.int .i64 a).wf = true ∧ (Lit.int .i64 s).wf = true ∧ y.2 = [] := by
  obtain ⟨y0, y1, m, rfl, hl, h0, h1⟩ := trod_struct2 hD h
  obtain ⟨q1, q2, q3, q4⟩ := hg
  rw [q1, q2, cI] at h0
  rw [q3, q4, cI] at h1
  obtain ⟨a, e0, rfl, w0⟩ := DataW.trod_int hI h0
  obtain ⟨s, e1, rfl, w1⟩ := DataW.trod_int hI h1
  refine ⟨a, s, ?_, w0, w1, rfl⟩
  have p0 := part_one e0
  have p1 := part_one e1
  have hl2 : (c.take 2).length ≤ 2 := by rw [List.length_take]; exact Nat.min_le_left _ _
  match hc : c.take 2 with
  | [] => rw [hc] at p0; simp at p0
  | [x] => rw [hc] at p1; simp at p1
  | [x, z] =>
    rw [hc] at p0 p1
    simp at p0 p1
    rw [p0, p1]
  | x :: z :: u :: r => rw [hc] at hl2; simp at hl2

/-- An operation, as the walks are told of it. -/
structure OpIn where
  id0 : Int
  id1 : Int
  time : Int
  kind : Int
  bl0 : Int
  bl1 : Int
  at0 : Int
  at1 : Int
  side : Int
  char : Int
  pa0 : Int
  pa1 : Int
  key : ByteArray

/-- Its cells, with the value of its Deps. -/
def OpIn.cells (o : OpIn) (v : Value) : Array Value := #[.int .i64 o.id0, .int .i64 o.id1, .int .i64 o.time, v, .int .i64 o.kind, .int .i64 o.bl0, .int .i64 o.bl1, .int .i64 o.at0, .int .i64 o.at1, .int .i64 o.side, .int .i64 o.char, .int .i64 o.pa0, .int .i64 o.pa1, .string o.key]

/-- Its numbers fit, and its key isn't too long. -/
structure OpIn.Fits (o : OpIn) : Prop where
  id0 : (Lit.int .i64 o.id0).wf = true
  id1 : (Lit.int .i64 o.id1).wf = true
  time : (Lit.int .i64 o.time).wf = true
  kind : (Lit.int .i64 o.kind).wf = true
  bl0 : (Lit.int .i64 o.bl0).wf = true
  bl1 : (Lit.int .i64 o.bl1).wf = true
  at0 : (Lit.int .i64 o.at0).wf = true
  at1 : (Lit.int .i64 o.at1).wf = true
  side : (Lit.int .i64 o.side).wf = true
  char : (Lit.int .i64 o.char).wf = true
  pa0 : (Lit.int .i64 o.pa0).wf = true
  pa1 : (Lit.int .i64 o.pa1).wf = true
  key : o.key.size ≤ maxLen

/-- A field's reading. -/
theorem fld {fs : Array Field} {l : List (TypeId × Nat)} {xs : List (DataW H × List MemPlace)} {n : Nat} {L : List Value} (hF : fs.toList.map (fun f => (f.type, f.offset)) = l) (hlen : xs.length = fs.size)
    (hq : ∀ (i : Nat) (f : Field), fs[i]? = some f → DataW.trod enc P w base spare held n f.type ((L.drop f.offset).take (P.cellsOf f.type)) = xs[i]?) (i : Nat) {t : TypeId} {o : Nat} (hi : l[i]? = some (t, o)) :
    ∃ y, DataW.trod enc P w base spare held n t ((L.drop o).take (P.cellsOf t)) = some y ∧ y ∈ xs := by
  obtain ⟨f, h1, rfl, rfl⟩ := field_at hF hi
  have hlt : i < xs.length := by rw [hlen]; exact (Array.getElem?_eq_some_iff.1 h1).1
  refine ⟨xs[i], ?_, List.getElem_mem _⟩
  rw [hq i f h1, List.getElem?_eq_getElem hlt]

end
end

section

/-- A dot: its Act and its Seq. -/
abbrev Dt := Int × Int

/-- Is a ahead of b? -/
def dl (a b : Dt) : Bool := decide (a.1 < b.1) || (decide (a.1 = b.1) && decide (a.2 < b.2))

theorem dl_iff (a b : Dt) : dl a b = true ↔ a.1 < b.1 ∨ (a.1 = b.1 ∧ a.2 < b.2) := by simp [dl]

theorem dl_irrefl (a : Dt) : dl a a = false := by simp [dl]

theorem dl_trans {a b c : Dt} (h : dl a b = true) (k : dl b c = true) : dl a c = true := by
  rw [dl_iff] at *
  omega

theorem dl_total {a b : Dt} (h : a ≠ b) (k : dl a b = false) : dl b a = true := by
  have k' : ¬ dl a b = true := by rw [k]; simp
  rw [dl_iff] at *
  have : ¬ (a.1 = b.1 ∧ a.2 = b.2) := fun ⟨e1, e2⟩ => h (Prod.ext e1 e2)
  omega

/-- A row that rises. -/
def Up (l : List Dt) : Prop := l.Pairwise (fun a b => dl a b = true)

/-- Rising rows with the same dots are one row. -/
theorem up_ext : ∀ {l l' : List Dt}, Up l → Up l' → (∀ d, d ∈ l ↔ d ∈ l') → l = l'
  | [], [], _, _, _ => rfl
  | [], b :: s, _, _, h => by have := (h b).2 (by simp); simp at this
  | a :: r, [], _, _, h => by have := (h a).1 (by simp); simp at this
  | a :: r, b :: s, h1, h2, h => by
    obtain ⟨a1, a2⟩ := List.pairwise_cons.1 h1
    obtain ⟨b1, b2⟩ := List.pairwise_cons.1 h2
    have hab : a = b := by
      rcases List.mem_cons.1 ((h a).1 (by simp)) with e | ha
      · exact e
      · rcases List.mem_cons.1 ((h b).2 (by simp)) with e | hb
        · exact e.symm
        · have := dl_trans (a1 b hb) (b1 a ha)
          rw [dl_irrefl] at this
          cases this
    subst hab
    rw [up_ext a2 b2 (fun p => ⟨fun hp => by
      rcases List.mem_cons.1 ((h p).1 (by simp [hp])) with e | hp'
      · have := a1 p hp
        rw [e, dl_irrefl] at this
        cases this
      · exact hp', fun hp => by
      rcases List.mem_cons.1 ((h p).2 (by simp [hp])) with e | hp'
      · have := b1 p hp
        rw [e, dl_irrefl] at this
        cases this
      · exact hp'⟩)]

theorem up_nodup : ∀ {l : List Dt}, Up l → l.Nodup
  | [], _ => List.nodup_nil
  | x :: r, h => by
    obtain ⟨h1, h2⟩ := List.pairwise_cons.1 h
    refine List.nodup_cons.2 ⟨fun hm => ?_, up_nodup h2⟩
    have := h1 x hm
    rw [dl_irrefl] at this
    cases this

/-- A rising row with one more dot. -/
def ins : List Dt → Dt → List Dt
  | [], d => [d]
  | x :: r, d => if dl x d = true then x :: ins r d else if x = d then x :: r else d :: x :: r

theorem mem_ins (e d : Dt) : ∀ l : List Dt, e ∈ ins l d ↔ e = d ∨ e ∈ l
  | [] => by simp [ins]
  | x :: r => by
    unfold ins
    split
    · simp [mem_ins e d r]
      constructor
      · rintro (h | h | h) <;> simp [h]
      · rintro (h | h | h) <;> simp [h]
    · split
      · rename_i hx
        subst hx
        simp
      · simp

theorem up_ins (d : Dt) : ∀ {l : List Dt}, Up l → Up (ins l d)
  | [], _ => by simp [ins, Up]
  | x :: r, h => by
    obtain ⟨h1, h2⟩ := List.pairwise_cons.1 h
    unfold ins
    split
    · rename_i hx
      refine List.pairwise_cons.2 ⟨fun q hq => ?_, up_ins d h2⟩
      rcases (mem_ins q d r).1 hq with rfl | hq
      · exact hx
      · exact h1 q hq
    · rename_i hx
      split
      · exact h
      · rename_i hne
        have hdx : dl d x = true := dl_total hne (by simpa using hx)
        refine List.pairwise_cons.2 ⟨fun q hq => ?_, h⟩
        rcases List.mem_cons.1 hq with rfl | hq
        · exact hdx
        · exact dl_trans hdx (h1 q hq)

theorem ins_length (d : Dt) : ∀ l : List Dt, (ins l d).length ≤ l.length + 1
  | [] => by simp [ins]
  | x :: r => by
    have := ins_length d r
    unfold ins
    split
    · simp; omega
    · split <;> simp

/-- A row put in order. -/
def rise (l : List Dt) : List Dt := l.foldl ins []

theorem rise_snoc (l : List Dt) (d : Dt) : rise (l ++ [d]) = ins (rise l) d := by simp [rise, List.foldl_append]

theorem up_foldl (l : List Dt) : ∀ acc : List Dt, Up acc → Up (l.foldl ins acc) := by
  induction l with
  | nil => exact fun _ h => h
  | cons x r ih => exact fun acc h => ih _ (up_ins x h)

theorem mem_foldl (e : Dt) (l : List Dt) : ∀ acc : List Dt, e ∈ l.foldl ins acc ↔ e ∈ acc ∨ e ∈ l := by
  induction l with
  | nil => simp
  | cons x r ih =>
    intro acc
    rw [List.foldl_cons, ih, mem_ins]
    simp only [List.mem_cons]
    constructor
    · rintro ((h | h) | h) <;> simp [h]
    · rintro (h | h | h) <;> simp [h]

theorem up_rise (l : List Dt) : Up (rise l) := up_foldl l [] (by simp [Up])
theorem mem_rise (e : Dt) (l : List Dt) : e ∈ rise l ↔ e ∈ l := by simp [rise, mem_foldl]

theorem len_foldl (l : List Dt) : ∀ acc : List Dt, (l.foldl ins acc).length ≤ acc.length + l.length := by
  induction l with
  | nil => simp
  | cons x r ih =>
    intro acc
    have := ih (ins acc x)
    have := ins_length x acc
    simp only [List.foldl_cons, List.length_cons]
    omega

theorem rise_length (l : List Dt) : (rise l).length ≤ l.length := by
  have := len_foldl l []
  simpa [rise] using this

/-- What rises and has just a row's dots is that row put in order. -/
theorem eq_rise {s l : List Dt} (h : Up s) (k : ∀ d, d ∈ s ↔ d ∈ l) : s = rise l := up_ext h (up_rise l) (fun d => by rw [k, mem_rise])

/-- Both numbers are int's. -/
def Dw (d : Dt) : Prop := (Lit.int .i64 d.1).wf = true ∧ (Lit.int .i64 d.2).wf = true
def Dws (l : List Dt) : Prop := ∀ d ∈ l, Dw d

theorem Dws.rise {l : List Dt} (h : Dws l) : Dws (rise l) := fun d hd => h d ((mem_rise d l).1 hd)
theorem Dws.append {l m : List Dt} (h : Dws l) (k : Dws m) : Dws (l ++ m) := fun d hd => by
  rcases List.mem_append.1 hd with hd | hd
  · exact h d hd
  · exact k d hd
/-- The cells of a row of dots. -/
def flat : List Dt → List Value
  | [] => []
  | d :: r => .int .i64 d.1 :: .int .i64 d.2 :: flat r

theorem flat_length : ∀ l : List Dt, (flat l).length = l.length * 2
  | [] => rfl
  | d :: r => by simp [flat, flat_length r]; omega

theorem flat_append : ∀ l m : List Dt, flat (l ++ m) = flat l ++ flat m
  | [], m => rfl
  | d :: r, m => by simp [flat, flat_append r m]

theorem flat_get : ∀ (l : List Dt) (i : Nat) (h : i < l.length), (flat l)[i * 2]? = some (.int .i64 (l[i]).1) ∧ (flat l)[i * 2 + 1]? = some (.int .i64 (l[i]).2)
  | [], i, h => by simp at h
  | d :: r, 0, h => by simp [flat]
  | d :: r, i + 1, h => by
    have := flat_get r i (by simpa using h)
    have e : (i + 1) * 2 = (i * 2) + 1 + 1 := by omega
    rw [e]
    simpa [flat] using this
end

section

/-- May an operation have it? -/
def mayd (d : Dt) : Bool := decide (0 ≤ d.1) && decide (d.1 < 16777216) && decide (1 ≤ d.2) && decide (d.2 ≤ 1073741824)

theorem wf_i64 {n : Int} (h0 : -9223372036854775808 ≤ n) (h1 : n ≤ 9223372036854775807) : (Lit.int .i64 n).wf = true := by
  show (decide (IntKind.min .i64 ≤ n) && decide (n ≤ IntKind.max .i64)) = true
  rw [show IntKind.min .i64 = -9223372036854775808 from rfl, show IntKind.max .i64 = 9223372036854775807 from rfl]
  simp [h0, h1]

/-- How many operations of an actor. -/
def gt : List Dt → Int → Int
  | [], _ => 0
  | d :: r, a => if d.1 = a then d.2 else gt r a

/-- The actors of both, rising. -/
def ua (A B : List Dt) : List Int := (rise ((A ++ B).map fun d => (d.1, (0 : Int)))).map Prod.fst

/-- Of these actors, what is picked. -/
def pks (pk : Int → Int → Int) (A B : List Dt) (l : List Int) : List Dt := l.filterMap fun a => if 0 < pk (gt A a) (gt B a) then some (a, pk (gt A a) (gt B a)) else none

/-- Of each actor of both, what is picked. -/
def vj (pk : Int → Int → Int) (A B : List Dt) : List Dt := pks pk A B (ua A B)

abbrev vjoin (A B : List Dt) : List Dt := vj (fun x y => max x y) A B
/-- With an operation. -/
def vwith (A : List Dt) (d : Dt) : List Dt := if mayd d = true then vjoin A [d] else A

/-- A vector made of raw dots. -/
def made (l : List Dt) : List Dt := (l.take 50).foldl vwith []
end

section
open Go.RowKit
open Go.Sort (grow alloc_eq_grow grow_grow cell?_grow heap_grow_old)

theorem mixed : Try.prog.follows .mixedOrders = true := by kernel_rfl
theorem hid {p : Prop} (h : p) : Hid p := h

abbrev dv (d : Dt) : Value := .agg #[.int .i64 d.1, .int .i64 d.2]

theorem below2 {w w1 w2 : World} (h : RowKit.Below w.heap.size w w1) (k : RowKit.Below w1.heap.size w1 w2) : RowKit.Below w.heap.size w w2 := h.trans (k.mono h.size)

theorem grow_block {w : World} {b : Nat} (h : b < w.heap.size) (n : Nat) (os : Array Obj) : (grow (w.drewN n) os).heap[b]? = w.heap[b]? := by
  rw [heap_grow_old _ _ (by exact h)]
  rfl

/-- Draws and new blocks: what was there stays. -/
theorem below_class (w : World) (n : Nat) (os : Array Obj) : RowKit.Below w.heap.size w (grow (w.drewN n) os) :=
  ⟨rfl, rfl, rfl, by simp [grow], fun i hi => grow_block hi n os⟩

/-- A world that is another one behind some draws and with new blocks. -/
def Far (w wr : World) : Prop := ∃ q os, wr = grow (w.drewN q) os

theorem Far.refl (w : World) : Far w w := ⟨0, #[], by rw [Go.Sort.grow_empty]; rfl⟩
theorem Far.more {w wr : World} (h : Far w wr) (n : Nat) (os : Array Obj) : Far w (grow (wr.drewN n) os) := by
  obtain ⟨q, os', rfl⟩ := h
  exact ⟨q + n, os' ++ os, by
    show grow (grow ((w.drewN q).drewN n) os') os = _
    rw [Go.Sort.grow_grow, World.drewN_drewN]⟩
theorem Far.drewN {w wr : World} (h : Far w wr) (n : Nat) : Far w (wr.drewN n) := by
  have := h.more n #[]
  rwa [Go.Sort.grow_empty] at this
theorem Far.drew {w wr : World} (h : Far w wr) : Far w wr.drew := h.drewN 1
theorem Far.alloc {w wr : World} (h : Far w wr) (o : Obj) : Far w (wr.alloc o) := by
  have := h.more 0 #[o]
  rwa [← Go.Sort.alloc_eq_grow] at this
theorem Far.below {w wr : World} (h : Far w wr) : RowKit.Below w.heap.size w wr := by
  obtain ⟨q, os, rfl⟩ := h
  exact below_class w q os
theorem Far.trans {a b c : World} (h : Far a b) (k : Far b c) : Far a c := by
  obtain ⟨q, os, rfl⟩ := k
  exact h.more q os

/-- A call that tells something and leaves the world as it was, but for draws and new blocks. -/
abbrev Tells (f : FuncId) (args : Array Value) (w : World) (v : Value) : Prop := Calls Try.prog f args w fun e w' => e = .returned v ∧ Far w w'

set_option maxHeartbeats 1000000 in
theorem rless_any (a b : Dt) (w : World) : Tells 24 #[dv a, dv b] w (.bool (dl a b)) := by
  obtain ⟨a1, a2⟩ := a
  obtain ⟨b1, b2⟩ := b
  by_cases h : a1 = b1
  · subst h
    go_enter Try.func24, Try.ntmps24
    go_wp2
    go_ret
    exact ⟨by simp [dl], ((Far.refl w).alloc _).alloc _⟩
  · go_enter Try.func24, Try.ntmps24
    go_wp2
    go_ret
    exact ⟨by simp [dl, h], ((Far.refl w).alloc _).alloc _⟩

/-- The slice (a, n, c) holds these dots. -/
structure PS (w : World) (a : Option Addr) (n c : Nat) (L : List Dt) : Prop where
  len : L.length = n
  cap : n ≤ c
  max : c ≤ maxLen
  nil : a = none → n = 0 ∧ c = 0
  cells : ∀ ad, a = some ad → ∀ j u, (flat L)[j]? = some u → w.cell? (ad.add j) = some u

theorem cell_in {w : World} {p : Addr} {v : Value} (h : w.cell? p = some v) : p.block < w.heap.size := by
  rcases Nat.lt_or_ge p.block w.heap.size with hlt | hge
  · exact hlt
  · simp [World.cell?, Array.getElem?_eq_none hge] at h

theorem PS.below {w w' : World} {a : Option Addr} {n c : Nat} {L : List Dt} (h : PS w a n c L) (hb : RowKit.Below w.heap.size w w') : PS w' a n c L :=
  ⟨h.len, h.cap, h.max, h.nil, fun ad ha j u hj => by
    have := h.cells ad ha j u hj
    rw [hb.cell (cell_in this)]
    exact this⟩

theorem PS.none (w : World) : PS w none 0 0 [] := ⟨rfl, Nat.le_refl _, Nat.zero_le _, fun _ => ⟨rfl, rfl⟩, fun _ h => by cases h⟩

/-- Where dots are, they lie at a plain address. -/
theorem PS.at {w : World} {a : Option Addr} {n c : Nat} {L : List Dt} (h : PS w a n c L) (hp : 0 < n) :
    ∃ g o, a = some ⟨g, o, Option.none⟩ ∧ g < w.heap.size ∧ ∀ i (hi : i < L.length), w.cell? ⟨g, o + i * 2, Option.none⟩ = some (.int .i64 (L[i]).1) ∧ w.cell? ⟨g, o + i * 2 + 1, Option.none⟩ = some (.int .i64 (L[i]).2) := by
  cases a with
  | none => have := (h.nil rfl).1; omega
  | some ad =>
    have hc := h.cells ad rfl
    obtain ⟨g, o, sp⟩ := ad
    have hl : 0 < L.length := by rw [h.len]; exact hp
    have h0 := hc 0 _ (by have := (flat_get L 0 hl).1; simpa using this)
    have hspot : sp = Option.none := by simpa [Addr.add] using World.cell?_spot h0
    subst hspot
    refine ⟨g, o, rfl, by have := cell_in h0; simpa [Addr.add] using this, fun i hi => ?_⟩
    obtain ⟨f1, f2⟩ := flat_get L i hi
    have e1 := hc _ _ f1
    have e2 := hc _ _ f2
    constructor
    · by_cases hi0 : i * 2 = 0
      · rw [hi0] at e1 ⊢; simpa [Addr.add] using e1
      · simpa [Addr.add, hi0] using e1
    · simpa [Addr.add, Nat.add_assoc] using e2

theorem take_snoc {L : List Dt} {k : Nat} (h : k < L.length) : L.take (k + 1) = L.take k ++ [L[k]] := by
  rw [List.take_succ_eq_append_getElem h]

theorem Try.info24 : (Try.prog.info? 24).map (fun i => (i.zero, i.size, i.bytes)) = some (some (.agg #[.int .i64 0, .int .i64 0]), 2, 16) := by kernel_rfl

theorem cell_two_new (w : World) (x y : Value) (T : TypeId) : ∀ j u, ([x, y] : List Value)[j]? = some u → (w.alloc (.cells #[x, y] T)).cell? ((⟨w.heap.size, 0, none⟩ : Addr).add j) = some u := by
  intro j u hj
  match j, hj with
  | 0, hj => simp at hj; subst hj; simp [Addr.add]
  | 1, hj => simp at hj; subst hj; simp [Addr.add]

theorem ps_one (w : World) (d : Dt) : PS (w.alloc (.cells #[.int .i64 d.1, .int .i64 d.2] 24)) (some ⟨w.heap.size, 0, none⟩) 1 1 [d] :=
  ⟨rfl, Nat.le_refl _, by decide, fun h => (by cases h), fun ad ha j u hj => (by cases ha; exact cell_two_new w _ _ 24 j u hj)⟩

theorem PS.no (w : World) (ao : Option Addr) (c : Nat) (h : ao = Option.none → c = 0) (hc : c ≤ maxLen) : PS w ao 0 c [] :=
  ⟨rfl, Nat.zero_le _, hc, fun e => ⟨rfl, h e⟩, fun _ _ _ _ hj => (by simp [flat] at hj)⟩

theorem flat_drop (L : List Dt) (k : Nat) : flat (L.drop k) = (flat L).drop (k * 2) := by
  induction L generalizing k with
  | nil => simp [flat]
  | cons x r ih =>
    cases k with
    | zero => simp
    | succ k =>
      have : (k + 1) * 2 = k * 2 + 1 + 1 := by omega
      rw [this]
      simp [flat, ih]

theorem PS.take {w : World} {a : Option Addr} {n c : Nat} {L : List Dt} (h : PS w a n c L) (k : Nat) (hk : k ≤ n) : PS w a k c (L.take k) :=
  ⟨by rw [List.length_take, h.len]; omega, by have := h.cap; omega, h.max, fun e => ⟨by have := h.nil e; omega, (h.nil e).2⟩, fun ad ha j u hj => h.cells ad ha j u (by
    have e : flat L = flat (L.take k) ++ flat (L.drop k) := by rw [← flat_append, List.take_append_drop]
    rw [e, List.getElem?_append_left]
    · exact hj
    · rcases Nat.lt_or_ge j (flat (L.take k)).length with h' | h'
      · exact h'
      · rw [List.getElem?_eq_none h'] at hj; cases hj)⟩

theorem PS.drop {w : World} {g o n c : Nat} {L : List Dt} (h : PS w (some ⟨g, o, Option.none⟩) n c L) (k : Nat) (hk : k ≤ n) : PS w (some ⟨g, o + k * 2, Option.none⟩) (n - k) (c - k) (L.drop k) := by
  refine ⟨by rw [List.length_drop, h.len], by have := h.cap; omega, by have := h.max; omega, fun e => (by cases e), fun ad ha j u hj => ?_⟩
  cases ha
  rw [flat_drop, List.getElem?_drop] at hj
  have := h.cells _ rfl _ _ hj
  have e1 : ((⟨g, o + k * 2, Option.none⟩ : Addr).add j) = ((⟨g, o, Option.none⟩ : Addr).add (k * 2 + j)) := by
    by_cases hj0 : j = 0
    · subst hj0
      by_cases hk0 : k * 2 = 0
      · simp [Addr.add, hk0]
      · simp [Addr.add, hk0]
    · simp [Addr.add, hj0, Nat.add_assoc]
  rw [e1]
  exact this

theorem owned_ps {w : World} {base : Nat} {v : Value} {n : Nat} {L : List Dt} (h : w.ownsRow base 24 2 v n (flat L)) (hl : L.length = n) : ∃ a c, v = .slice a n c ∧ PS w a n c L := by
  rcases h.2 with ⟨rfl, rfl⟩ | ⟨g, cap, cur, rfl, hg, hb, hn, hcap, hsz, ht⟩
  · have : L = [] := List.eq_nil_of_length_eq_zero hl
    subst this
    exact ⟨none, 0, rfl, PS.none w⟩
  · exact ⟨_, _, rfl, hl, hn, hcap, fun h => (by cases h), fun ad ha j u hj => (by cases ha; exact h.cells (g := g) rfl j u hj)⟩

theorem flat_one (L : List Dt) : ∀ u ∈ flat L, u.oneCell' = true := by
  induction L with
  | nil => intro u hu; simp [flat] at hu
  | cons d r ih =>
    intro u hu
    simp only [flat, List.mem_cons] at hu
    rcases hu with rfl | rfl | hu
    · rfl
    · rfl
    · exact ih u hu

/-- append of a row of dots, none or not, to a slice of the call's own. -/
theorem wpList_append_dots {w : World} {ops : Array Oper} {rest : List Oper} {o : Oper} {a : Act} {Q : Exit → Act → World → Prop} (hgd : o.guard = none) (s x : Operand) (t : TypeId) (ht : Try.prog.underlying t = some (.slice 24))
    (ho : o.op = .call { callee := .builtin .append, args := #[s, x], argTypes := #[t, t] }) (base : Nat) (v : Value) (n : Nat) (xs : List Value) (hs : a.eval s = v) (hown : w.ownsRow base 24 2 v n xs)
    (ao : Option Addr) (m c : Nat) (L : List Dt) (hx : a.eval x = .slice ao m c) (hL : PS w ao m c L) (hb : n + m ≤ 8000000) (hbase : base ≤ w.heap.size)
    (h : ∀ v' w', w'.ownsRow base 24 2 v' (n + m) (xs ++ flat L) → w.grownBy w' v.ownBlock → wpList Try.prog ops Q rest (a.put o.dst v') w') : wpList Try.prog ops Q (o :: rest) a w := by
  obtain ⟨i0, hi, hz0, hz1, hz2⟩ := info_parts Try.info24
  cases ao with
  | none =>
    obtain ⟨rfl, rfl⟩ := hL.nil rfl
    have : L = [] := List.eq_nil_of_length_eq_zero hL.len
    subst this
    refine wpList_append_own_none hgd s x t ho base 24 i0 2 ht hi v n xs hs hown hx ?_
    exact h v w (by simpa [flat] using hown) (World.grownBy.refl _ _)
  | some ad =>
    exact wpList_append_own w hgd s x t ho base 24 i0 _ 2 16 ht hi hz0 hz1 hz2 rfl (by decide) v n xs hs hown ad m c (flat L) hx (by rw [flat_length, hL.len]) (hL.cells ad rfl) (flat_one L) (by unfold maxLen; omega) (by omega) hbase
      (fun v' w' h1 h2 _ => h v' w' h1 h2)

/-- A call answers a slice of its own that holds L. -/
def Gives (w : World) (L : List Dt) (e : Ending) (w' : World) : Prop := ∃ v, e = .returned v ∧ w'.ownsRow w.heap.size 24 2 v L.length (flat L) ∧ RowKit.Below w.heap.size w w'
end

section
open Go.RowKit

abbrev Bs := List UInt8
end

section
open Go.RowKit
open Go.Sort (grow)

/-- Below 0, 0 or above 0. -/
def cmpi (x y : Int) : Int := if x < y then -1 else if y < x then 1 else 0

theorem cmp_any (x y : Int) (w : World) : Calls Try.prog 72 #[.int .i64 x, .int .i64 y] w fun e w' => e = .returned (.int .i64 (cmpi x y)) ∧ w' = w := by
  by_cases h : x < y
  · go_enter Try.func72, Try.ntmps72
    go_wp2
    go_ret
    exact ⟨by simp [cmpi, h], rfl⟩
  · by_cases h2 : y < x
    · go_enter Try.func72, Try.ntmps72
      go_wp2
      go_ret
      exact ⟨by simp [cmpi, h, h2], rfl⟩
    · go_enter Try.func72, Try.ntmps72
      go_wp2
      go_ret
      exact ⟨by unfold cmpi; rw [if_neg (by omega), if_neg (by omega)]; rfl, rfl⟩
end

section
open Go.RowKit
open Go.Sort (grow)

theorem PS.drewN {w : World} {a : Option Addr} {n c : Nat} {L : List Dt} (h : PS w a n c L) (q : Nat) : PS (w.drewN q) a n c L :=
  ⟨h.len, h.cap, h.max, h.nil, h.cells⟩

theorem drew_more {w wr : World} (h : ∃ q, wr = w.drewN q) (n : Nat) : ∃ q, wr.drewN n = w.drewN q := by
  obtain ⟨q, rfl⟩ := h
  exact ⟨_, World.drewN_drewN _ _ _⟩

theorem far_of_drew {w w' : World} (h : ∃ q, w' = w.drewN q) : Far w w' := by
  obtain ⟨q, rfl⟩ := h
  exact (Far.refl w).drewN q

section
variable {a a' : Option Addr} {n c n' c' : Nat} {L M : List Dt} {w : World}
end
end

section
open Go.RowKit
open Go.Sort (grow)

abbrev OpIn.id (o : OpIn) : Dt := (o.id0, o.id1)
abbrev OpIn.blk (o : OpIn) : Dt := (o.bl0, o.bl1)
abbrev OpIn.at (o : OpIn) : Dt := (o.at0, o.at1)
abbrev OpIn.par (o : OpIn) : Dt := (o.pa0, o.pa1)
end

section
open Go.RowKit
open Go.Sort (grow)

set_option maxHeartbeats 1000000 in
theorem less_any (a b : Dt) (w : World) : Tells 83 #[dv a, dv b] w (.bool (dl a b)) := by
  obtain ⟨a1, a2⟩ := a
  obtain ⟨b1, b2⟩ := b
  by_cases h : a1 = b1
  · subst h
    go_enter Try.func83, Try.ntmps83
    go_wp2
    go_ret
    exact ⟨by simp [dl], ((Far.refl w).alloc _).alloc _⟩
  · go_enter Try.func83, Try.ntmps83
    go_wp2
    go_ret
    exact ⟨by simp [dl, h], ((Far.refl w).alloc _).alloc _⟩

/-- Which operation comes ahead. -/
def lo (o p : OpIn) : Bool := decide (o.time < p.time) || ((o.time == p.time) && dl o.id p.id)
end

section
open Go.RowKit

theorem agg_eq (a b : Dt) : ((dv a) = (dv b)) ↔ a = b := by
  constructor
  · intro h
    simp at h
    exact Prod.ext h.1 h.2
  · rintro rfl
    rfl

/-- What order answers. -/
def cfd (a b : Dt) : Int := if a = b then 0 else if dl a b = true then -1 else 1

theorem dorder_any (a b : Dt) (w : World) : Tells 79 #[dv a, dv b] w (.int .i64 (cfd a b)) := by
  obtain ⟨a1, a2⟩ := a
  obtain ⟨b1, b2⟩ := b
  by_cases h : a1 = b1 ∧ a2 = b2
  · obtain ⟨rfl, rfl⟩ := h
    go_enter Try.func79, Try.ntmps79
    go_wp2
    go_ret
    exact ⟨by simp [cfd], ((Far.refl w).alloc _).alloc _⟩
  · have hne : ((a1, a2) : Dt) ≠ (b1, b2) := fun e => h (by simpa using e)
    by_cases h1 : a1 = b1
    · subst h1
      have h2 : ¬ a2 = b2 := fun e => h ⟨rfl, e⟩
      have hL := fun w => less_any (a1, a2) (a1, b2) w
      have hc : cfd (a1, a2) (a1, b2) = if dl (a1, a2) (a1, b2) = true then -1 else 1 := by simp [cfd, h2]
      generalize dl (a1, a2) (a1, b2) = r at hL hc
      rw [hc]
      clear h hne hc
      cases r
      all_goals
        go_enter Try.func79, Try.ntmps79
        go_wp2_with (go_at_call 83; refine (hL _).mono ?_; rintro e w1 ⟨rfl, hF1⟩)
        go_ret
        exact ⟨rfl, (((Far.refl w).alloc _).alloc _).trans hF1⟩
    · have hL := fun w => less_any (a1, a2) (b1, b2) w
      have hc : cfd (a1, a2) (b1, b2) = if dl (a1, a2) (b1, b2) = true then -1 else 1 := by simp [cfd, h1]
      generalize dl (a1, a2) (b1, b2) = r at hL hc
      rw [hc]
      clear h hne hc
      cases r
      all_goals
        go_enter Try.func79, Try.ntmps79
        go_wp2_with (go_at_call 83; refine (hL _).mono ?_; rintro e w1 ⟨rfl, hF1⟩)
        go_ret
        exact ⟨rfl, (((Far.refl w).alloc _).alloc _).trans hF1⟩
end

section
open Go.RowKit Go.Sort Go.Maps

theorem laidOut0 : laidOutB Try.prog = true := by kernel_rfl
theorem dotRow : (24 : TypeId) < Try.prog.types.size := of_decide_eq_true (by kernel_rfl)
theorem dotCells : Try.prog.cellsOf 24 = 2 := by kernel_rfl
theorem intCells : Try.prog.cellsOf 3 = 1 := by kernel_rfl
theorem dotKey : Try.prog.keyType 24 = true := by kernel_rfl
theorem dotWide : (match Try.prog.underlying 24 with | some (.array _ _) | some (.struct _) => true | _ => false) = true := by rw [Try.underlying24]
set_option maxRecDepth 100000 in
theorem law : Keyed Try.prog 24 := Keyed.of_law (deep_law_laid laidOut0 (m := 2) (by omega) dotRow (by kernel_rfl) dotWide)

/-- What a dot reads as, as a key. -/
def kl (d : Dt) : Lit := .string (keyBytes [.int .i64 d.1, .int .i64 d.2])

theorem dotFormed (a b : Value) : (Value.agg #[a, b]).formed Try.prog 24 = true := by simp [Value.formed, Try.underlying24, dotCells]

theorem typesNum : Try.prog.types.size = 174 := by kernel_rfl

theorem lits_int (n : Nat) {a : Int} (h : (Lit.int .i64 a).wf = true) : Try.prog.keyLits (n + 1) 3 [.int .i64 a] = some [.int .i64 a] := by
  unfold Program.keyLits
  rw [Try.underlying3]
  simp [h]

theorem lits_dot (n : Nat) {d : Dt} (h : Dw d) : Try.prog.keyLits (n + 2) 24 [.int .i64 d.1, .int .i64 d.2] = some [.int .i64 d.1, .int .i64 d.2] := by
  unfold Program.keyLits
  rw [Try.underlying24]
  simp [dotCells, intCells, lits_int n h.1, lits_int n h.2]

theorem keyOf_dot {d : Dt} (h : Dw d) : keyOf Try.prog 24 (dv d) = some (kl d) := by
  unfold keyOf
  rw [Try.underlying24]
  simp only [dotKey, dotFormed, Bool.and_self, if_true, typesNum]
  have : (dv d).cells.toList = [.int .i64 d.1, .int .i64 d.2] := rfl
  rw [this, lits_dot 173 h]
  rfl

set_option maxRecDepth 100000 in
theorem keyOf_dot_inv {v : Value} {l : Lit} (h : keyOf Try.prog 24 v = some l) : ∃ d : Dt, v = dv d ∧ Dw d ∧ l = kl d := by
  unfold keyOf at h
  rw [Try.underlying24] at h
  simp only [typesNum] at h
  split at h
  · rename_i hf
    obtain ⟨ls, hl, rfl⟩ := Option.map_eq_some_iff.1 h
    simp only [Bool.and_eq_true] at hf
    have hf2 := hf.2
    unfold Program.keyLits at hl
    rw [Try.underlying24] at hl
    cases v <;> simp [Value.formed, Try.underlying24, dotCells] at hf2
    rename_i cs
    obtain ⟨cs⟩ := cs
    match cs, hf2 with
    | [x, y], _ =>
      simp [dotCells, intCells, Value.cells] at hl
      obtain ⟨l0, h0⟩ : ∃ l0, Try.prog.keyLits 174 3 [x] = some l0 := by
        cases hh : Try.prog.keyLits 174 3 [x]
        · rw [hh] at hl; simp at hl
        · exact ⟨_, rfl⟩
      obtain ⟨l1, h1⟩ : ∃ l1, Try.prog.keyLits 174 3 [y] = some l1 := by
        cases hh : Try.prog.keyLits 174 3 [y]
        · rw [h0, hh] at hl; simp at hl
        · exact ⟨_, rfl⟩
      rw [h0, h1] at hl
      simp at hl
      subst hl
      obtain ⟨n0, e0, rfl⟩ := keyLits_int' Try.underlying3 h0
      obtain ⟨n1, e1, rfl⟩ := keyLits_int' Try.underlying3 h1
      simp at e0 e1
      subst e0
      subst e1
      refine ⟨(n0, n1), rfl, ⟨?_, ?_⟩, rfl⟩
      · unfold Program.keyLits at h0
        rw [Try.underlying3] at h0
        simpa using h0
      · unfold Program.keyLits at h1
        rw [Try.underlying3] at h1
        simpa using h1
  · cases h

theorem kl_inj {a b : Dt} (ha : Dw a) (hb : Dw b) (h : kl a = kl b) : a = b := by
  have := law.inj (keyOf_dot ha) (h ▸ keyOf_dot hb)
  exact (agg_eq a b).1 this

theorem kl_isKey (d : Dt) : WideAt.IsKeyLit (kl d) := trivial

theorem zero3 (w : World) : (zeroValue 3).run Try.prog w = .ok (.int .i64 0) w := Try.zeroValue3 w
end
end Go.Proofs.Ytplcohjpchfkkaa
