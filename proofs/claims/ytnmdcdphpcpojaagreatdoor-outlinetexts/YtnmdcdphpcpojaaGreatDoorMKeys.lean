/- Dots as the keys of a map: what a key reads as, and back; a map of dots as a function. -/
import Derived.WalkKit
import Derived.ChangeSame
import Derived.ChangeArms
import Derived.ChangeMaps5
import Derived.WideShapes
import Derived.Lib.SmallJoins
import Derived.WalkSpells
import Derived.WalkLawsBesides
import Derived.Below
import Derived.Sort.Grow
import Derived.Sort.OwnSorted
import Derived.Laws.AppendOwnNone
import Derived.Shelf.SlSortCmp.QuietGrown
import Derived.BigQuiet
import Derived.Test.YtnmdcdphpcpojaaGreatDoorProg
import Derived.Sort.AtCall
import Derived.Test.YtnmdcdphpcpojaaGreatDoorRows
import Derived.DeepKeys4
import Derived.Maps.OwnSet
import Derived.Maps.RangeWalk
namespace Go.Proofs.YtnmdcdphpcpojaaGreatDoor
section

/-- A dot: its Act and its Seq. -/
abbrev Dt := Int × Int

/-- Is a ahead of b? -/
def dl (a b : Dt) : Bool := decide (a.1 < b.1) || (decide (a.1 = b.1) && decide (a.2 < b.2))

theorem dl_iff (a b : Dt) : dl a b = true ↔ a.1 < b.1 ∨ (a.1 = b.1 ∧ a.2 < b.2) := by simp [dl]

theorem dl_irrefl (a : Dt) : dl a a = false := by simp [dl]

theorem dl_trans {a b c : Dt} (h : dl a b = true) (k : dl b c = true) : dl a c = true := by
  rw [dl_iff] at *
  omega

theorem dl_total {a b : Dt} (h : a ≠ b) (k : dl a b = false) : dl b a = true := by
  have k' : ¬ dl a b = true := by rw [k]; simp
  rw [dl_iff] at *
  have : ¬ (a.1 = b.1 ∧ a.2 = b.2) := fun ⟨e1, e2⟩ => h (Prod.ext e1 e2)
  omega

/-- A row that rises. -/
def Up (l : List Dt) : Prop := l.Pairwise (fun a b => dl a b = true)

theorem up_nodup : ∀ {l : List Dt}, Up l → l.Nodup
  | [], _ => List.nodup_nil
  | x :: r, h => by
    obtain ⟨h1, h2⟩ := List.pairwise_cons.1 h
    refine List.nodup_cons.2 ⟨fun hm => ?_, up_nodup h2⟩
    have := h1 x hm
    rw [dl_irrefl] at this
    cases this

/-- A rising row with one more dot. -/
def ins : List Dt → Dt → List Dt
  | [], d => [d]
  | x :: r, d => if dl x d = true then x :: ins r d else if x = d then x :: r else d :: x :: r

theorem mem_ins (e d : Dt) : ∀ l : List Dt, e ∈ ins l d ↔ e = d ∨ e ∈ l
  | [] => by simp [ins]
  | x :: r => by
    unfold ins
    split
    · simp [mem_ins e d r]
      constructor
      · rintro (h | h | h) <;> simp [h]
      · rintro (h | h | h) <;> simp [h]
    · split
      · rename_i hx
        subst hx
        simp
      · simp

theorem up_ins (d : Dt) : ∀ {l : List Dt}, Up l → Up (ins l d)
  | [], _ => by simp [ins, Up]
  | x :: r, h => by
    obtain ⟨h1, h2⟩ := List.pairwise_cons.1 h
    unfold ins
    split
    · rename_i hx
      refine List.pairwise_cons.2 ⟨fun q hq => ?_, up_ins d h2⟩
      rcases (mem_ins q d r).1 hq with rfl | hq
      · exact hx
      · exact h1 q hq
    · rename_i hx
      split
      · exact h
      · rename_i hne
        have hdx : dl d x = true := dl_total hne (by simpa using hx)
        refine List.pairwise_cons.2 ⟨fun q hq => ?_, h⟩
        rcases List.mem_cons.1 hq with rfl | hq
        · exact hdx
        · exact dl_trans hdx (h1 q hq)

theorem ins_length (d : Dt) : ∀ l : List Dt, (ins l d).length ≤ l.length + 1
  | [] => by simp [ins]
  | x :: r => by
    have := ins_length d r
    unfold ins
    split
    · simp; omega
    · split <;> simp

/-- A row put in order. -/
def rise (l : List Dt) : List Dt := l.foldl ins []

theorem rise_snoc (l : List Dt) (d : Dt) : rise (l ++ [d]) = ins (rise l) d := by simp [rise, List.foldl_append]

theorem up_foldl (l : List Dt) : ∀ acc : List Dt, Up acc → Up (l.foldl ins acc) := by
  induction l with
  | nil => exact fun _ h => h
  | cons x r ih => exact fun acc h => ih _ (up_ins x h)

theorem mem_foldl (e : Dt) (l : List Dt) : ∀ acc : List Dt, e ∈ l.foldl ins acc ↔ e ∈ acc ∨ e ∈ l := by
  induction l with
  | nil => simp
  | cons x r ih =>
    intro acc
    rw [List.foldl_cons, ih, mem_ins]
    simp only [List.mem_cons]
    constructor
    · rintro ((h | h) | h) <;> simp [h]
    · rintro (h | h | h) <;> simp [h]

theorem up_rise (l : List Dt) : Up (rise l) := up_foldl l [] (by simp [Up])
theorem mem_rise (e : Dt) (l : List Dt) : e ∈ rise l ↔ e ∈ l := by simp [rise, mem_foldl]

theorem len_foldl (l : List Dt) : ∀ acc : List Dt, (l.foldl ins acc).length ≤ acc.length + l.length := by
  induction l with
  | nil => simp
  | cons x r ih =>
    intro acc
    have := ih (ins acc x)
    have := ins_length x acc
    simp only [List.foldl_cons, List.length_cons]
    omega

theorem rise_length (l : List Dt) : (rise l).length ≤ l.length := by
  have := len_foldl l []
  simpa [rise] using this

/-- Both numbers are int's. -/
def Dw (d : Dt) : Prop := (Lit.int .i64 d.1).wf = true ∧ (Lit.int .i64 d.2).wf = true
def Dws (l : List Dt) : Prop := ∀ d ∈ l, Dw d

theorem Dws.rise {l : List Dt} (h : Dws l) : Dws (rise l) := fun d hd => h d ((mem_rise d l).1 hd)
theorem Dws.append {l m : List Dt} (h : Dws l) (k : Dws m) : Dws (l ++ m) := fun d hd => by
  rcases List.mem_append.1 hd with hd | hd
  · exact h d hd
  · exact k d hd
/-- The cells of a row of dots. -/
def flat : List Dt → List Value
  | [] => []
  | d :: r => .int .i64 d.1 :: .int .i64 d.2 :: flat r

theorem flat_length : ∀ l : List Dt, (flat l).length = l.length * 2
  | [] => rfl
  | d :: r => by simp [flat, flat_length r]; omega

theorem flat_append : ∀ l m : List Dt, flat (l ++ m) = flat l ++ flat m
  | [], m => rfl
  | d :: r, m => by simp [flat, flat_append r m]

theorem flat_get : ∀ (l : List Dt) (i : Nat) (h : i < l.length), (flat l)[i * 2]? = some (.int .i64 (l[i]).1) ∧ (flat l)[i * 2 + 1]? = some (.int .i64 (l[i]).2)
  | [], i, h => by simp at h
  | d :: r, 0, h => by simp [flat]
  | d :: r, i + 1, h => by
    have := flat_get r i (by simpa using h)
    have e : (i + 1) * 2 = (i * 2) + 1 + 1 := by omega
    rw [e]
    simpa [flat] using this
end

section

/-- A character: its identity, under which one it lies and at which side (true: the right one), its char, whether it is seen. -/
structure Cr where
  id : Dt
  at_ : Dt
  sd : Bool
  ch : Int
  seen : Bool

/-- Those at a side of one, in order. -/
def kids (T : List Cr) (d : Dt) (s : Bool) : List Dt := rise ((T.filter (fun c => decide (c.at_ = d) && (c.sd == s))).map Cr.id)

theorem kids_up (T : List Cr) (d : Dt) (s : Bool) : Up (kids T d s) := up_rise _

theorem mem_kids {T : List Cr} {d : Dt} {s : Bool} {k : Dt} : k ∈ kids T d s ↔ ∃ c ∈ T, c.at_ = d ∧ c.sd = s ∧ c.id = k := by
  unfold kids
  rw [mem_rise, List.mem_map]
  constructor
  · rintro ⟨c, hc, rfl⟩
    obtain ⟨h1, h2⟩ := List.mem_filter.1 hc
    simp only [Bool.and_eq_true, decide_eq_true_eq, beq_iff_eq] at h2
    exact ⟨c, h1, h2.1, h2.2, rfl⟩
  · rintro ⟨c, hc, h1, h2, rfl⟩
    exact ⟨c, List.mem_filter.2 ⟨hc, by simp [h1, h2]⟩, rfl⟩

theorem kids_snoc (T : List Cr) (c : Cr) (d : Dt) (s : Bool) : kids (T ++ [c]) d s = if c.at_ = d ∧ c.sd = s then ins (kids T d s) c.id else kids T d s := by
  unfold kids
  rw [List.filter_append, List.map_append]
  by_cases h : c.at_ = d ∧ c.sd = s
  · rw [if_pos h, List.filter_cons_of_pos (by simp [h.1, h.2]), List.filter_nil, List.map_cons, List.map_nil, rise_snoc]
  · rw [if_neg h, List.filter_cons_of_neg (by simp only [Bool.and_eq_true, decide_eq_true_eq, beq_iff_eq]; exact h), List.filter_nil, List.map_nil, List.append_nil]

theorem kids_len (T : List Cr) (d : Dt) (s : Bool) : (kids T d s).length ≤ T.length := by
  unfold kids
  refine Nat.le_trans (rise_length _) ?_
  rw [List.length_map]
  exact List.length_filter_le _ _

/-- The root, or a character. -/
def nodes (T : List Cr) (d : Dt) : Prop := d = (0, 0) ∨ ∃ c ∈ T, c.id = d

theorem nodes_snoc {T : List Cr} {c : Cr} {d : Dt} : nodes (T ++ [c]) d ↔ nodes T d ∨ c.id = d := by
  unfold nodes
  constructor
  · rintro (h | ⟨x, hx, e⟩)
    · exact Or.inl (Or.inl h)
    · rcases List.mem_append.1 hx with hx | hx
      · exact Or.inl (Or.inr ⟨x, hx, e⟩)
      · simp at hx; rw [hx] at e; exact Or.inr e
  · rintro ((h | ⟨x, hx, e⟩) | h)
    · exact Or.inl h
    · exact Or.inr ⟨x, List.mem_append_left _ hx, e⟩
    · exact Or.inr ⟨c, by simp, h⟩

/-- Characters as they may have come. -/
structure WT (T : List Cr) : Prop where
  ids : (T.map Cr.id).Nodup
  nz : ∀ c ∈ T, c.id ≠ (0, 0)
  dw : ∀ c ∈ T, Dw c.id
  under : ∀ (i : Nat) (c : Cr), T[i]? = some c → nodes (T.take i) c.at_
  root : ∀ c ∈ T, c.at_ = (0, 0) → c.sd = true

theorem WT.nil : WT [] := ⟨List.nodup_nil, by simp, by simp, by simp, by simp⟩

theorem WT.node {T : List Cr} (h : WT T) {c : Cr} (hc : c ∈ T) : nodes T c.at_ := by
  obtain ⟨i, hi⟩ := List.mem_iff_getElem?.1 hc
  rcases h.under i c hi with e | ⟨x, hx, e⟩
  · exact Or.inl e
  · exact Or.inr ⟨x, List.mem_of_mem_take hx, e⟩

theorem WT.snoc {T : List Cr} {c : Cr} (h : WT T) (hn : c.id ≠ (0, 0)) (hd : Dw c.id) (hf : ∀ x ∈ T, x.id ≠ c.id) (hu : nodes T c.at_) (hr : c.at_ = (0, 0) → c.sd = true) : WT (T ++ [c]) := by
  refine ⟨?_, fun x hx => ?_, fun x hx => ?_, fun i x hx => ?_, fun x hx => ?_⟩
  · rw [List.map_append, List.nodup_append]
    refine ⟨h.ids, by simp, fun a ha b hb e => ?_⟩
    obtain ⟨x, hx, rfl⟩ := List.mem_map.1 ha
    simp at hb
    exact hf x hx (by rw [e, hb])
  · rcases List.mem_append.1 hx with hx | hx
    · exact h.nz x hx
    · simp at hx; rw [hx]; exact hn
  · rcases List.mem_append.1 hx with hx | hx
    · exact h.dw x hx
    · simp at hx; rw [hx]; exact hd
  · by_cases hi : i < T.length
    · rw [List.getElem?_append_left hi] at hx
      rw [List.take_append_of_le_length (by omega)]
      exact h.under i x hx
    · rw [List.getElem?_append_right (by omega)] at hx
      have hkk : i - T.length = 0 := by
        have := (List.getElem?_eq_some_iff.1 hx).1
        simp at this
        omega
      rw [hkk] at hx
      simp at hx
      subst hx
      have : i = T.length := by omega
      subst this
      rw [List.take_append_of_le_length (Nat.le_refl _), List.take_length]
      exact hu
  · rcases List.mem_append.1 hx with hx | hx
    · exact h.root x hx
    · simp at hx; rw [hx]; exact hr

/-- Nothing lies under one that is new. -/
theorem WT.fresh {T : List Cr} (h : WT T) {d : Dt} (hf : ∀ x ∈ T, x.id ≠ d) (hz : d ≠ (0, 0)) (s : Bool) : kids T d s = [] := by
  apply List.eq_nil_iff_forall_not_mem.2
  intro k hk
  obtain ⟨c, hc, h1, _, _⟩ := mem_kids.1 hk
  rcases h.node hc with e | ⟨x, hx, e⟩
  · exact hz (by rw [← h1, e])
  · exact hf x hx (by rw [e, h1])

theorem ids_one {T : List Cr} (h : (T.map Cr.id).Nodup) {a b : Cr} (ha : a ∈ T) (hb : b ∈ T) (e : a.id = b.id) : a = b := by
  obtain ⟨i, hi⟩ := List.mem_iff_getElem?.1 ha
  obtain ⟨j, hj⟩ := List.mem_iff_getElem?.1 hb
  have h1 : (T.map Cr.id)[i]? = (T.map Cr.id)[j]? := by rw [List.getElem?_map, List.getElem?_map, hi, hj]; simp [e]
  have hil : i < (T.map Cr.id).length := by simpa using (List.getElem?_eq_some_iff.1 hi).1
  have := (List.getElem?_inj hil h).1 h1
  subst this
  rw [hi] at hj
  cases hj
  rfl
end

section
open Go.ChangeShapes Go.WideShapes

section
variable {H : Type} {enc : TypeId × Value → H} {P : Program} {w : World} {base : Nat} {spare : Nat → Bool} {held : Bool}

/-- An operation, as the walks are told of it. -/
structure OpIn where
  id0 : Int
  id1 : Int
  time : Int
  kind : Int
  bl0 : Int
  bl1 : Int
  at0 : Int
  at1 : Int
  side : Int
  char : Int
  pa0 : Int
  pa1 : Int
  key : ByteArray

/-- Its cells, with the value of its Deps. -/
def OpIn.cells (o : OpIn) (v : Value) : Array Value := #[.int .i64 o.id0, .int .i64 o.id1, .int .i64 o.time, v, .int .i64 o.kind, .int .i64 o.bl0, .int .i64 o.bl1, .int .i64 o.at0, .int .i64 o.at1, .int .i64 o.side, .int .i64 o.char, .int .i64 o.pa0, .int .i64 o.pa1, .string o.key]

end
end

section

/-- May an operation have it? -/
def mayd (d : Dt) : Bool := decide (0 ≤ d.1) && decide (d.1 < 16777216) && decide (1 ≤ d.2) && decide (d.2 ≤ 1073741824)

theorem wf_i64 {n : Int} (h0 : -9223372036854775808 ≤ n) (h1 : n ≤ 9223372036854775807) : (Lit.int .i64 n).wf = true := by
  show (decide (IntKind.min .i64 ≤ n) && decide (n ≤ IntKind.max .i64)) = true
  rw [show IntKind.min .i64 = -9223372036854775808 from rfl, show IntKind.max .i64 = 9223372036854775807 from rfl]
  simp [h0, h1]

/-- How many operations of an actor. -/
def gt : List Dt → Int → Int
  | [], _ => 0
  | d :: r, a => if d.1 = a then d.2 else gt r a

/-- The actors of both, rising. -/
def ua (A B : List Dt) : List Int := (rise ((A ++ B).map fun d => (d.1, (0 : Int)))).map Prod.fst

/-- Of these actors, what is picked. -/
def pks (pk : Int → Int → Int) (A B : List Dt) (l : List Int) : List Dt := l.filterMap fun a => if 0 < pk (gt A a) (gt B a) then some (a, pk (gt A a) (gt B a)) else none

/-- Of each actor of both, what is picked. -/
def vj (pk : Int → Int → Int) (A B : List Dt) : List Dt := pks pk A B (ua A B)

abbrev vjoin (A B : List Dt) : List Dt := vj (fun x y => max x y) A B
/-- With an operation. -/
def vwith (A : List Dt) (d : Dt) : List Dt := if mayd d = true then vjoin A [d] else A

/-- A vector made of raw dots. -/
def made (l : List Dt) : List Dt := (l.take 50).foldl vwith []
end

section
open Go.RowKit
open Go.Sort (grow alloc_eq_grow grow_grow cell?_grow heap_grow_old)

theorem mixed : Tryz.prog.follows .mixedOrders = true := by kernel_rfl
theorem hid {p : Prop} (h : p) : Hid p := h

abbrev dv (d : Dt) : Value := .agg #[.int .i64 d.1, .int .i64 d.2]

theorem below2 {w w1 w2 : World} (h : RowKit.Below w.heap.size w w1) (k : RowKit.Below w1.heap.size w1 w2) : RowKit.Below w.heap.size w w2 := h.trans (k.mono h.size)

theorem grow_block {w : World} {b : Nat} (h : b < w.heap.size) (n : Nat) (os : Array Obj) : (grow (w.drewN n) os).heap[b]? = w.heap[b]? := by
  rw [heap_grow_old _ _ (by exact h)]
  rfl

/-- Draws and new blocks: what was there stays. -/
theorem below_class (w : World) (n : Nat) (os : Array Obj) : RowKit.Below w.heap.size w (grow (w.drewN n) os) :=
  ⟨rfl, rfl, rfl, by simp [grow], fun i hi => grow_block hi n os⟩

/-- A world that is another one behind some draws and with new blocks. -/
def Far (w wr : World) : Prop := ∃ q os, wr = grow (w.drewN q) os

theorem Far.refl (w : World) : Far w w := ⟨0, #[], by rw [Go.Sort.grow_empty]; rfl⟩
theorem Far.more {w wr : World} (h : Far w wr) (n : Nat) (os : Array Obj) : Far w (grow (wr.drewN n) os) := by
  obtain ⟨q, os', rfl⟩ := h
  exact ⟨q + n, os' ++ os, by
    show grow (grow ((w.drewN q).drewN n) os') os = _
    rw [Go.Sort.grow_grow, World.drewN_drewN]⟩
theorem Far.drewN {w wr : World} (h : Far w wr) (n : Nat) : Far w (wr.drewN n) := by
  have := h.more n #[]
  rwa [Go.Sort.grow_empty] at this
theorem Far.drew {w wr : World} (h : Far w wr) : Far w wr.drew := h.drewN 1
theorem Far.alloc {w wr : World} (h : Far w wr) (o : Obj) : Far w (wr.alloc o) := by
  have := h.more 0 #[o]
  rwa [← Go.Sort.alloc_eq_grow] at this
theorem Far.below {w wr : World} (h : Far w wr) : RowKit.Below w.heap.size w wr := by
  obtain ⟨q, os, rfl⟩ := h
  exact below_class w q os
theorem Far.trans {a b c : World} (h : Far a b) (k : Far b c) : Far a c := by
  obtain ⟨q, os, rfl⟩ := k
  exact h.more q os

/-- A call that tells something and leaves the world as it was, but for draws and new blocks. -/
abbrev Tells (f : FuncId) (args : Array Value) (w : World) (v : Value) : Prop := Calls Tryz.prog f args w fun e w' => e = .returned v ∧ Far w w'

set_option maxHeartbeats 1000000 in
theorem rless_any (a b : Dt) (w : World) : Tells 78 #[dv a, dv b] w (.bool (dl a b)) := by
  obtain ⟨a1, a2⟩ := a
  obtain ⟨b1, b2⟩ := b
  by_cases h : a1 = b1
  · subst h
    go_enter Tryz.func78, Tryz.ntmps78
    go_wp2
    go_ret
    exact ⟨by simp [dl], ((Far.refl w).alloc _).alloc _⟩
  · go_enter Tryz.func78, Tryz.ntmps78
    go_wp2
    go_ret
    exact ⟨by simp [dl, h], ((Far.refl w).alloc _).alloc _⟩

/-- The slice (a, n, c) holds these dots. -/
structure PS (w : World) (a : Option Addr) (n c : Nat) (L : List Dt) : Prop where
  len : L.length = n
  cap : n ≤ c
  max : c ≤ maxLen
  nil : a = none → n = 0 ∧ c = 0
  cells : ∀ ad, a = some ad → ∀ j u, (flat L)[j]? = some u → w.cell? (ad.add j) = some u

theorem cell_in {w : World} {p : Addr} {v : Value} (h : w.cell? p = some v) : p.block < w.heap.size := by
  rcases Nat.lt_or_ge p.block w.heap.size with hlt | hge
  · exact hlt
  · simp [World.cell?, Array.getElem?_eq_none hge] at h

theorem PS.below {w w' : World} {a : Option Addr} {n c : Nat} {L : List Dt} (h : PS w a n c L) (hb : RowKit.Below w.heap.size w w') : PS w' a n c L :=
  ⟨h.len, h.cap, h.max, h.nil, fun ad ha j u hj => by
    have := h.cells ad ha j u hj
    rw [hb.cell (cell_in this)]
    exact this⟩

theorem PS.far {w w' : World} {a : Option Addr} {n c : Nat} {L : List Dt} (h : PS w a n c L) (hb : Far w w') : PS w' a n c L := h.below hb.below

theorem PS.none (w : World) : PS w none 0 0 [] := ⟨rfl, Nat.le_refl _, Nat.zero_le _, fun _ => ⟨rfl, rfl⟩, fun _ h => by cases h⟩

/-- Where dots are, they lie at a plain address. -/
theorem PS.at {w : World} {a : Option Addr} {n c : Nat} {L : List Dt} (h : PS w a n c L) (hp : 0 < n) :
    ∃ g o, a = some ⟨g, o, Option.none⟩ ∧ g < w.heap.size ∧ ∀ i (hi : i < L.length), w.cell? ⟨g, o + i * 2, Option.none⟩ = some (.int .i64 (L[i]).1) ∧ w.cell? ⟨g, o + i * 2 + 1, Option.none⟩ = some (.int .i64 (L[i]).2) := by
  cases a with
  | none => have := (h.nil rfl).1; omega
  | some ad =>
    have hc := h.cells ad rfl
    obtain ⟨g, o, sp⟩ := ad
    have hl : 0 < L.length := by rw [h.len]; exact hp
    have h0 := hc 0 _ (by have := (flat_get L 0 hl).1; simpa using this)
    have hspot : sp = Option.none := by simpa [Addr.add] using World.cell?_spot h0
    subst hspot
    refine ⟨g, o, rfl, by have := cell_in h0; simpa [Addr.add] using this, fun i hi => ?_⟩
    obtain ⟨f1, f2⟩ := flat_get L i hi
    have e1 := hc _ _ f1
    have e2 := hc _ _ f2
    constructor
    · by_cases hi0 : i * 2 = 0
      · rw [hi0] at e1 ⊢; simpa [Addr.add] using e1
      · simpa [Addr.add, hi0] using e1
    · simpa [Addr.add, Nat.add_assoc] using e2

theorem take_snoc {L : List Dt} {k : Nat} (h : k < L.length) : L.take (k + 1) = L.take k ++ [L[k]] := by
  rw [List.take_succ_eq_append_getElem h]

theorem Tryz.info24 : (Tryz.prog.info? 24).map (fun i => (i.zero, i.size, i.bytes)) = some (some (.agg #[.int .i64 0, .int .i64 0]), 2, 16) := by kernel_rfl

theorem cell_two_new (w : World) (x y : Value) (T : TypeId) : ∀ j u, ([x, y] : List Value)[j]? = some u → (w.alloc (.cells #[x, y] T)).cell? ((⟨w.heap.size, 0, none⟩ : Addr).add j) = some u := by
  intro j u hj
  match j, hj with
  | 0, hj => simp at hj; subst hj; simp [Addr.add]
  | 1, hj => simp at hj; subst hj; simp [Addr.add]

theorem ps_one (w : World) (d : Dt) : PS (w.alloc (.cells #[.int .i64 d.1, .int .i64 d.2] 24)) (some ⟨w.heap.size, 0, none⟩) 1 1 [d] :=
  ⟨rfl, Nat.le_refl _, by decide, fun h => (by cases h), fun ad ha j u hj => (by cases ha; exact cell_two_new w _ _ 24 j u hj)⟩

theorem PS.no (w : World) (ao : Option Addr) (c : Nat) (h : ao = Option.none → c = 0) (hc : c ≤ maxLen) : PS w ao 0 c [] :=
  ⟨rfl, Nat.zero_le _, hc, fun e => ⟨rfl, h e⟩, fun _ _ _ _ hj => (by simp [flat] at hj)⟩

theorem flat_drop (L : List Dt) (k : Nat) : flat (L.drop k) = (flat L).drop (k * 2) := by
  induction L generalizing k with
  | nil => simp [flat]
  | cons x r ih =>
    cases k with
    | zero => simp
    | succ k =>
      have : (k + 1) * 2 = k * 2 + 1 + 1 := by omega
      rw [this]
      simp [flat, ih]

theorem PS.take {w : World} {a : Option Addr} {n c : Nat} {L : List Dt} (h : PS w a n c L) (k : Nat) (hk : k ≤ n) : PS w a k c (L.take k) :=
  ⟨by rw [List.length_take, h.len]; omega, by have := h.cap; omega, h.max, fun e => ⟨by have := h.nil e; omega, (h.nil e).2⟩, fun ad ha j u hj => h.cells ad ha j u (by
    have e : flat L = flat (L.take k) ++ flat (L.drop k) := by rw [← flat_append, List.take_append_drop]
    rw [e, List.getElem?_append_left]
    · exact hj
    · rcases Nat.lt_or_ge j (flat (L.take k)).length with h' | h'
      · exact h'
      · rw [List.getElem?_eq_none h'] at hj; cases hj)⟩

theorem PS.drop {w : World} {g o n c : Nat} {L : List Dt} (h : PS w (some ⟨g, o, Option.none⟩) n c L) (k : Nat) (hk : k ≤ n) : PS w (some ⟨g, o + k * 2, Option.none⟩) (n - k) (c - k) (L.drop k) := by
  refine ⟨by rw [List.length_drop, h.len], by have := h.cap; omega, by have := h.max; omega, fun e => (by cases e), fun ad ha j u hj => ?_⟩
  cases ha
  rw [flat_drop, List.getElem?_drop] at hj
  have := h.cells _ rfl _ _ hj
  have e1 : ((⟨g, o + k * 2, Option.none⟩ : Addr).add j) = ((⟨g, o, Option.none⟩ : Addr).add (k * 2 + j)) := by
    by_cases hj0 : j = 0
    · subst hj0
      by_cases hk0 : k * 2 = 0
      · simp [Addr.add, hk0]
      · simp [Addr.add, hk0]
    · simp [Addr.add, hj0, Nat.add_assoc]
  rw [e1]
  exact this

theorem owned_ps {w : World} {base : Nat} {v : Value} {n : Nat} {L : List Dt} (h : w.ownsRow base 24 2 v n (flat L)) (hl : L.length = n) : ∃ a c, v = .slice a n c ∧ PS w a n c L := by
  rcases h.2 with ⟨rfl, rfl⟩ | ⟨g, cap, cur, rfl, hg, hb, hn, hcap, hsz, ht⟩
  · have : L = [] := List.eq_nil_of_length_eq_zero hl
    subst this
    exact ⟨none, 0, rfl, PS.none w⟩
  · exact ⟨_, _, rfl, hl, hn, hcap, fun h => (by cases h), fun ad ha j u hj => (by cases ha; exact h.cells (g := g) rfl j u hj)⟩

theorem flat_one (L : List Dt) : ∀ u ∈ flat L, u.oneCell' = true := by
  induction L with
  | nil => intro u hu; simp [flat] at hu
  | cons d r ih =>
    intro u hu
    simp only [flat, List.mem_cons] at hu
    rcases hu with rfl | rfl | hu
    · rfl
    · rfl
    · exact ih u hu

/-- append of a row of dots, none or not, to a slice of the call's own. -/
theorem wpList_append_dots {w : World} {ops : Array Oper} {rest : List Oper} {o : Oper} {a : Act} {Q : Exit → Act → World → Prop} (hgd : o.guard = none) (s x : Operand) (t : TypeId) (ht : Tryz.prog.underlying t = some (.slice 24))
    (ho : o.op = .call { callee := .builtin .append, args := #[s, x], argTypes := #[t, t] }) (base : Nat) (v : Value) (n : Nat) (xs : List Value) (hs : a.eval s = v) (hown : w.ownsRow base 24 2 v n xs)
    (ao : Option Addr) (m c : Nat) (L : List Dt) (hx : a.eval x = .slice ao m c) (hL : PS w ao m c L) (hb : n + m ≤ 8000000) (hbase : base ≤ w.heap.size)
    (h : ∀ v' w', w'.ownsRow base 24 2 v' (n + m) (xs ++ flat L) → w.grownBy w' v.ownBlock → wpList Tryz.prog ops Q rest (a.put o.dst v') w') : wpList Tryz.prog ops Q (o :: rest) a w := by
  obtain ⟨i0, hi, hz0, hz1, hz2⟩ := info_parts Tryz.info24
  cases ao with
  | none =>
    obtain ⟨rfl, rfl⟩ := hL.nil rfl
    have : L = [] := List.eq_nil_of_length_eq_zero hL.len
    subst this
    refine wpList_append_own_none hgd s x t ho base 24 i0 2 ht hi v n xs hs hown hx ?_
    exact h v w (by simpa [flat] using hown) (World.grownBy.refl _ _)
  | some ad =>
    exact wpList_append_own w hgd s x t ho base 24 i0 _ 2 16 ht hi hz0 hz1 hz2 rfl (by decide) v n xs hs hown ad m c (flat L) hx (by rw [flat_length, hL.len]) (hL.cells ad rfl) (flat_one L) (by unfold maxLen; omega) (by omega) hbase
      (fun v' w' h1 h2 _ => h v' w' h1 h2)

/-- A call answers a slice that holds L, in new memory or not; what was there stays. -/
def Ans (w : World) (L : List Dt) (e : Ending) (w' : World) : Prop := ∃ a c, e = .returned (.slice a L.length c) ∧ PS w' a L.length c L ∧ RowKit.Below w.heap.size w w'

/-- A call answers a slice of its own that holds L. -/
def Gives (w : World) (L : List Dt) (e : Ending) (w' : World) : Prop := ∃ v, e = .returned v ∧ w'.ownsRow w.heap.size 24 2 v L.length (flat L) ∧ RowKit.Below w.heap.size w w'

theorem Gives.ans {w : World} {L : List Dt} {e : Ending} {w' : World} (h : Gives w L e w') : Ans w L e w' := by
  obtain ⟨v, he, ho, hb⟩ := h
  obtain ⟨a, c, rfl, hp⟩ := owned_ps ho rfl
  exact ⟨a, c, he, hp, hb⟩
end

section
open Go.RowKit
open Go.Sort (grow)

/-- Below 0, 0 or above 0. -/
def cmpi (x y : Int) : Int := if x < y then -1 else if y < x then 1 else 0

theorem cmp_any (x y : Int) (w : World) : Calls Tryz.prog 128 #[.int .i64 x, .int .i64 y] w fun e w' => e = .returned (.int .i64 (cmpi x y)) ∧ w' = w := by
  by_cases h : x < y
  · go_enter Tryz.func128, Tryz.ntmps128
    go_wp2
    go_ret
    exact ⟨by simp [cmpi, h], rfl⟩
  · by_cases h2 : y < x
    · go_enter Tryz.func128, Tryz.ntmps128
      go_wp2
      go_ret
      exact ⟨by simp [cmpi, h, h2], rfl⟩
    · go_enter Tryz.func128, Tryz.ntmps128
      go_wp2
      go_ret
      exact ⟨by unfold cmpi; rw [if_neg (by omega), if_neg (by omega)]; rfl, rfl⟩
end

section
open Go.RowKit
open Go.Sort (grow)

theorem PS.drewN {w : World} {a : Option Addr} {n c : Nat} {L : List Dt} (h : PS w a n c L) (q : Nat) : PS (w.drewN q) a n c L :=
  ⟨h.len, h.cap, h.max, h.nil, h.cells⟩

theorem drew_more {w wr : World} (h : ∃ q, wr = w.drewN q) (n : Nat) : ∃ q, wr.drewN n = w.drewN q := by
  obtain ⟨q, rfl⟩ := h
  exact ⟨_, World.drewN_drewN _ _ _⟩

section
variable {a a' : Option Addr} {n c n' c' : Nat} {L M : List Dt} {w : World}
end
end

section
open Go.RowKit
open Go.Sort (grow)

abbrev OpIn.id (o : OpIn) : Dt := (o.id0, o.id1)
abbrev OpIn.at (o : OpIn) : Dt := (o.at0, o.at1)
abbrev OpIn.par (o : OpIn) : Dt := (o.pa0, o.pa1)

/-- What a kind has: At, Side and Char, Parent and Key. -/
def pat (k : Int) : Bool := decide (k = 1) || decide (k = 2)
def pch (k : Int) : Bool := decide (k = 1)
def ppl (k : Int) : Bool := decide (k = 3)
end

section
open Go.RowKit
open Go.Sort (grow)

/-- Which operation comes ahead. -/
def lo (o p : OpIn) : Bool := decide (o.time < p.time) || ((o.time == p.time) && dl o.id p.id)
end

section
open Go.RowKit

theorem agg_eq (a b : Dt) : ((dv a) = (dv b)) ↔ a = b := by
  constructor
  · intro h
    simp at h
    exact Prod.ext h.1 h.2
  · rintro rfl
    rfl
end

section
open Go.RowKit Go.Sort Go.Maps

theorem laidOut0 : laidOutB Tryz.prog = true := by kernel_rfl
theorem dotRow : (24 : TypeId) < Tryz.prog.types.size := of_decide_eq_true (by kernel_rfl)
theorem dotCells : Tryz.prog.cellsOf 24 = 2 := by kernel_rfl
theorem intCells : Tryz.prog.cellsOf 3 = 1 := by kernel_rfl
theorem dotKey : Tryz.prog.keyType 24 = true := by kernel_rfl
theorem dotWide : (match Tryz.prog.underlying 24 with | some (.array _ _) | some (.struct _) => true | _ => false) = true := by rw [Tryz.underlying24]
set_option maxRecDepth 100000 in
theorem law : Keyed Tryz.prog 24 := Keyed.of_law (deep_law_laid laidOut0 (m := 2) (by omega) dotRow (by kernel_rfl) dotWide)

/-- What a dot reads as, as a key. -/
def kl (d : Dt) : Lit := .string (keyBytes [.int .i64 d.1, .int .i64 d.2])

theorem dotFormed (a b : Value) : (Value.agg #[a, b]).formed Tryz.prog 24 = true := by simp [Value.formed, Tryz.underlying24, dotCells]

theorem typesNum : Tryz.prog.types.size = 277 := by kernel_rfl

theorem lits_int (n : Nat) {a : Int} (h : (Lit.int .i64 a).wf = true) : Tryz.prog.keyLits (n + 1) 3 [.int .i64 a] = some [.int .i64 a] := by
  unfold Program.keyLits
  rw [Tryz.underlying3]
  simp [h]

theorem lits_dot (n : Nat) {d : Dt} (h : Dw d) : Tryz.prog.keyLits (n + 2) 24 [.int .i64 d.1, .int .i64 d.2] = some [.int .i64 d.1, .int .i64 d.2] := by
  unfold Program.keyLits
  rw [Tryz.underlying24]
  simp [dotCells, intCells, lits_int n h.1, lits_int n h.2]

theorem keyOf_dot {d : Dt} (h : Dw d) : keyOf Tryz.prog 24 (dv d) = some (kl d) := by
  unfold keyOf
  rw [Tryz.underlying24]
  simp only [dotKey, dotFormed, Bool.and_self, if_true, typesNum]
  have : (dv d).cells.toList = [.int .i64 d.1, .int .i64 d.2] := rfl
  rw [this, lits_dot 276 h]
  rfl

set_option maxRecDepth 100000 in
theorem keyOf_dot_inv {v : Value} {l : Lit} (h : keyOf Tryz.prog 24 v = some l) : ∃ d : Dt, v = dv d ∧ Dw d ∧ l = kl d := by
  unfold keyOf at h
  rw [Tryz.underlying24] at h
  simp only [typesNum] at h
  split at h
  · rename_i hf
    obtain ⟨ls, hl, rfl⟩ := Option.map_eq_some_iff.1 h
    simp only [Bool.and_eq_true] at hf
    have hf2 := hf.2
    unfold Program.keyLits at hl
    rw [Tryz.underlying24] at hl
    cases v <;> simp [Value.formed, Tryz.underlying24, dotCells] at hf2
    rename_i cs
    obtain ⟨cs⟩ := cs
    match cs, hf2 with
    | [x, y], _ =>
      simp [dotCells, intCells, Value.cells] at hl
      obtain ⟨l0, h0⟩ : ∃ l0, Tryz.prog.keyLits 277 3 [x] = some l0 := by
        cases hh : Tryz.prog.keyLits 277 3 [x]
        · rw [hh] at hl; simp at hl
        · exact ⟨_, rfl⟩
      obtain ⟨l1, h1⟩ : ∃ l1, Tryz.prog.keyLits 277 3 [y] = some l1 := by
        cases hh : Tryz.prog.keyLits 277 3 [y]
        · rw [h0, hh] at hl; simp at hl
        · exact ⟨_, rfl⟩
      rw [h0, h1] at hl
      simp at hl
      subst hl
      obtain ⟨n0, e0, rfl⟩ := keyLits_int' Tryz.underlying3 h0
      obtain ⟨n1, e1, rfl⟩ := keyLits_int' Tryz.underlying3 h1
      simp at e0 e1
      subst e0
      subst e1
      refine ⟨(n0, n1), rfl, ⟨?_, ?_⟩, rfl⟩
      · unfold Program.keyLits at h0
        rw [Tryz.underlying3] at h0
        simpa using h0
      · unfold Program.keyLits at h1
        rw [Tryz.underlying3] at h1
        simpa using h1
  · cases h

theorem kl_inj {a b : Dt} (ha : Dw a) (hb : Dw b) (h : kl a = kl b) : a = b := by
  have := law.inj (keyOf_dot ha) (h ▸ keyOf_dot hb)
  exact (agg_eq a b).1 this

theorem kl_isKey (d : Dt) : WideAt.IsKeyLit (kl d) := trivial
end
end Go.Proofs.YtnmdcdphpcpojaaGreatDoor
