/- Operations, as plain data and as cells in memory: whether one may be, which comes ahead. -/
import Derived.Test.YtboaofaileafdaaOStruct
import Derived.Test.YtboaofaileafdaaOKey
import Derived.Test.YtboaofaileafdaaVSame
import Derived.Sort.AtCall
namespace Go.Proofs.Ytboaofaileafdaa
open Go.RowKit
open Go.Sort (grow)

abbrev OpIn.id (o : OpIn) : Dt := (o.id0, o.id1)
abbrev OpIn.blk (o : OpIn) : Dt := (o.bl0, o.bl1)
abbrev OpIn.at (o : OpIn) : Dt := (o.at0, o.at1)
abbrev OpIn.par (o : OpIn) : Dt := (o.pa0, o.pa1)

/-- The head. -/
def headb (o : OpIn) (V : List Dt) : Bool := mayd o.id && decide (1 ≤ o.time) && decide (o.time ≤ 1099511627776) && vmb V && decide (gt V o.id0 = o.id1 - 1)

/-- What a kind has: At, Side and Char, Parent and Key. -/
def pat (k : Int) : Bool := decide (k = 1) || decide (k = 2)
def pch (k : Int) : Bool := decide (k = 1)
def ppl (k : Int) : Bool := decide (k = 3)

/-- Empty where the kind has no parts. -/
def barb (o : OpIn) : Bool := (pat o.kind || ((o.at0 == 0) && (o.at1 == 0))) && (pch o.kind || ((o.side == 0) && (o.char == 0))) && (ppl o.kind || ((o.pa0 == 0) && (o.pa1 == 0) && o.key.toList.isEmpty))

def besb (o : OpIn) (V : List Dt) : Bool := if o.at0 = 0 ∧ o.at1 = 0 then (o.side == 1) else hasv V o.at && ((o.side == 0) || (o.side == 1))
def charb (c : Int) : Bool := decide (0 ≤ c) && decide (c ≤ 1114111) && (decide (c < 55296) || decide (57343 < c))
def parb (o : OpIn) (V : List Dt) : Bool := (((o.pa0 == 0) && (o.pa1 == -1)) || ((o.pa0 == 0) && (o.pa1 == -2)) || hasv V o.par) && !((o.pa0 == o.bl0) && (o.pa1 == o.bl1))

/-- What a kind has may be. -/
def partb (o : OpIn) (V : List Dt) : Bool :=
  if o.kind = 1 then hasv V o.blk && besb o V && charb o.char
  else if o.kind = 2 then hasv V o.blk && hasv V o.at
  else if o.kind = 3 then (((o.bl0 == o.id0) && (o.bl1 == o.id1)) || hasv V o.blk) && parb o V && kyb o.key.toList
  else false

/-- May it be? -/
def chk (o : OpIn) (V : List Dt) : Bool := headb o V && barb o && partb o V

/-- The cells of an operation lie in block q. -/
structure OpAt (w : World) (q : Nat) (o : OpIn) (v : Value) : Prop where
  c0 : w.cell? ⟨q, 0, none⟩ = some (.int .i64 o.id0)
  c1 : w.cell? ⟨q, 1, none⟩ = some (.int .i64 o.id1)
  c2 : w.cell? ⟨q, 2, none⟩ = some (.int .i64 o.time)
  c3 : w.cell? ⟨q, 3, none⟩ = some v
  c4 : w.cell? ⟨q, 4, none⟩ = some (.int .i64 o.kind)
  c5 : w.cell? ⟨q, 5, none⟩ = some (.int .i64 o.bl0)
  c6 : w.cell? ⟨q, 6, none⟩ = some (.int .i64 o.bl1)
  c7 : w.cell? ⟨q, 7, none⟩ = some (.int .i64 o.at0)
  c8 : w.cell? ⟨q, 8, none⟩ = some (.int .i64 o.at1)
  c9 : w.cell? ⟨q, 9, none⟩ = some (.int .i64 o.side)
  c10 : w.cell? ⟨q, 10, none⟩ = some (.int .i64 o.char)
  c11 : w.cell? ⟨q, 11, none⟩ = some (.int .i64 o.pa0)
  c12 : w.cell? ⟨q, 12, none⟩ = some (.int .i64 o.pa1)
  c13 : w.cell? ⟨q, 13, none⟩ = some (.string o.key)

theorem OpAt.lt {w : World} {q : Nat} {o : OpIn} {v : Value} (h : OpAt w q o v) : q < w.heap.size := cell_in h.c0

theorem OpAt.below {w w' : World} {q : Nat} {o : OpIn} {v : Value} (h : OpAt w q o v) (hb : RowKit.Below w.heap.size w w') : OpAt w' q o v := by
  have hl := h.lt
  exact ⟨(hb.cell hl).trans h.c0, (hb.cell hl).trans h.c1, (hb.cell hl).trans h.c2, (hb.cell hl).trans h.c3, (hb.cell hl).trans h.c4, (hb.cell hl).trans h.c5, (hb.cell hl).trans h.c6,
    (hb.cell hl).trans h.c7, (hb.cell hl).trans h.c8, (hb.cell hl).trans h.c9, (hb.cell hl).trans h.c10, (hb.cell hl).trans h.c11, (hb.cell hl).trans h.c12, (hb.cell hl).trans h.c13⟩

theorem OpAt.far {w w' : World} {q : Nat} {o : OpIn} {v : Value} (h : OpAt w q o v) (hf : Far w w') : OpAt w' q o v := h.below hf.below

theorem OpAt.grow {w : World} {q : Nat} {o : OpIn} {v : Value} (h : OpAt w q o v) (m : Nat) (os : Array Obj) : OpAt (grow (w.drewN m) os) q o v := h.far ⟨m, os, rfl⟩

theorem opAt_alloc (w : World) (o : OpIn) (v : Value) (t : TypeId) : OpAt (w.alloc (.cells (o.cells v) t)) w.heap.size o v := by
  constructor <;> (unfold OpIn.cells; go_simp)

/-- An operation as a value. -/
abbrev ov (o : OpIn) (v : Value) : Value := .agg (o.cells v)

theorem bool_and {a b : Bool} : (a && b) = true ↔ a = true ∧ b = true := by simp
end Go.Proofs.Ytboaofaileafdaa
