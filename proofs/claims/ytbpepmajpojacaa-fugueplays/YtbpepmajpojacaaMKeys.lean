/- Dots as the keys of a map: what a key reads as, and back; a map of dots as a function. -/
import Derived.Test.YtbpepmajpojacaaRows
import Derived.Test.YtbpepmajpojacaaVBase
import Derived.WalkKit
import Derived.WalkSpells
import Derived.WalkLawsBesides
import Derived.Test.YtbpepmajpojacaaOStruct
import Derived.Test.YtbpepmajpojacaaVSame
import Derived.Sort.AtCall
import Derived.Test.YtbpepmajpojacaaProg
import Derived.Below
import Derived.DeepKeys4
import Derived.Maps.OwnSet
import Derived.Maps.RangeWalk
namespace Go.Proofs.Ytbpepmajpojacaa
section
open Go.RowKit

abbrev Bs := List UInt8

/-- A key. -/
structure Ky (k : Bs) : Prop where
  ne : k ≠ []
  len : k.length ≤ 200
  rng : ∀ c ∈ k, 97 ≤ c.toNat ∧ c.toNat ≤ 122
  last : ∀ i (h : i < k.length), i + 1 = k.length → k[i].toNat ≠ 97

/-- Whether a row of bytes is a key. -/
def kyb (k : Bs) : Bool := !(k == []) && decide (k.length ≤ 200) && k.all (fun c => decide (97 ≤ c.toNat) && decide (c.toNat ≤ 122)) && !(k.getLast? == some 97)

theorem kyb_iff (k : Bs) : kyb k = true ↔ Ky k := by
  unfold kyb
  simp only [Bool.and_eq_true, Bool.not_eq_true', beq_eq_false_iff_ne, decide_eq_true_eq, List.all_eq_true]
  constructor
  · rintro ⟨⟨⟨h1, h2⟩, h3⟩, h4⟩
    refine ⟨h1, h2, h3, fun i hi he hc => h4 ?_⟩
    rw [List.getLast?_eq_getElem?, show k.length - 1 = i by omega, List.getElem?_eq_getElem hi]
    congr 1
    exact UInt8.toNat_inj.1 hc
  · intro h
    refine ⟨⟨⟨h.ne, h.len⟩, h.rng⟩, fun hc => ?_⟩
    have hp : 0 < k.length := by
      rcases Nat.eq_zero_or_pos k.length with h0 | h0
      · exact absurd (List.eq_nil_of_length_eq_zero h0) h.ne
      · exact h0
    rw [List.getLast?_eq_getElem?, List.getElem?_eq_getElem (by omega : k.length - 1 < k.length)] at hc
    have := h.last (k.length - 1) (by omega) (by omega)
    rw [Option.some.inj hc] at this
    exact this rfl

theorem kyb_false {k : Bs} (h : ¬ Ky k) : kyb k = false := by
  cases hk : kyb k with
  | false => rfl
  | true => exact absurd ((kyb_iff k).1 hk) h

theorem tl_length (s : ByteArray) : s.toList.length = s.size := by rw [ByteArray.toList_eq]; rfl
theorem tl_get (s : ByteArray) (i : Nat) (h : i < s.size) : s.toList[i]'(by rw [tl_length]; exact h) = s[i] := by
  have e := ByteArray.toList_eq s
  simp only [e]
  rfl
theorem tl_mem (s : ByteArray) (i : Nat) (h : i < s.size) : s[i] ∈ s.toList := by
  rw [← tl_get s i h]; exact List.getElem_mem _
theorem tl_nil (s : ByteArray) : s.toList = [] ↔ s.size = 0 := by
  rw [← tl_length, List.length_eq_zero_iff]
theorem ret_bool {a b : Bool} (h : a = b) : Ending.returned (.bool a) = .returned (.bool b) := by rw [h]

theorem ky_short (s : ByteArray) (h : s.size = 0) : kyb s.toList = false := kyb_false fun k => k.ne ((tl_nil s).2 h)
theorem ky_long (s : ByteArray) (h : 200 < s.size) : kyb s.toList = false := kyb_false fun k => by have := k.len; rw [tl_length] at this; omega
theorem ky_out (s : ByteArray) (i : Nat) (h : i < s.size) (ho : s[i].toNat < 97 ∨ 122 < s[i].toNat) : kyb s.toList = false :=
  kyb_false fun k => by have := k.rng _ (tl_mem s i h); omega
theorem ky_last (s : ByteArray) (i : Nat) (h : i < s.size) (hi : i + 1 = s.size) (h97 : s[i].toNat = 97) : kyb s.toList = false :=
  kyb_false fun k => k.last i (by rw [tl_length]; exact h) (by rw [tl_length]; exact hi) (by rw [tl_get s i h]; exact h97)
theorem ky_all (s : ByteArray) (i : Nat) (h : i < s.size) (hi : i + 1 = s.size) (h200 : s.size ≤ 200) (hr : ∀ j (hj : j < s.size), 97 ≤ s[j].toNat ∧ s[j].toNat ≤ 122) (h97 : s[i].toNat ≠ 97) : kyb s.toList = true := by
  rw [kyb_iff]
  refine ⟨fun e => by rw [tl_nil] at e; omega, by rw [tl_length]; exact h200, fun c hc => ?_, fun j hj he => ?_⟩
  · obtain ⟨j, hj, rfl⟩ := List.mem_iff_getElem.1 hc
    have hj' : j < s.size := by rw [tl_length] at hj; exact hj
    rw [tl_get s j hj']; exact hr j hj'
  · have hj' : j < s.size := by rw [tl_length] at hj; exact hj
    obtain rfl : j = i := by rw [tl_length] at he; omega
    rw [tl_get s j hj']; exact h97

set_option maxHeartbeats 400000 in
theorem rkmay_any (s : ByteArray) (w : World) (hs : s.size ≤ maxLen) :
    Calls Try.prog 66 #[.string s] w fun e w' => e = .returned (.bool (kyb s.toList)) ∧ w = w' := by
  unfold maxLen at hs
  by_cases h0 : s.size = 0
  · rw [ky_short s h0]
    have hz : ((s.size : Int) == 0) = true := by rw [h0]; rfl
    clear h0
    go_enter Try.func66, Try.ntmps66
    go_wp2
    go_ret
    exact ⟨rfl, rfl⟩
  by_cases h2 : 200 < s.size
  · rw [ky_long s h2]
    have hz : ((s.size : Int) == 0) = false := beq_eq_false_iff_ne.2 (by omega)
    have hd : decide ((200 : Int) < (s.size : Int)) = true := decide_eq_true (by omega)
    go_enter Try.func66, Try.ntmps66
    go_wp2
    go_ret
    exact ⟨rfl, rfl⟩
  have hp : 0 < s.size := by omega
  have hz : ((s.size : Int) == 0) = false := beq_eq_false_iff_ne.2 (by omega)
  have hd : decide ((200 : Int) < (s.size : Int)) = false := decide_eq_false (by omega)
  clear h0
  obtain ⟨m, hm⟩ : ∃ m, m + 1 = s.size := ⟨s.size - 1, by omega⟩
  have hml : m < s.size := by omega
  have e1 : (s.size : Int) - 1 = m := by omega
  by_cases h97 : s[m].toNat = 97
  · rw [ky_last s m hml hm h97]
    have H97 : ((s[m].toNat : Int) == 97) = true := by rw [h97]; rfl
    clear hm
    go_enter Try.func66, Try.ntmps66
    go_wp2
    go_ret
    exact ⟨rfl, rfl⟩
  have H97 : ((s[m].toNat : Int) == 97) = false := beq_eq_false_iff_ne.2 (by omega)
  have Hm := hid hm
  clear hm
  go_enter Try.func66, Try.ntmps66
  go_wp2
  clear e1
  go_loop [3] (fun i => ∃ k : Nat, k ≤ s.size ∧ i = .int .i64 k ∧ Hid (∀ j (hj : j < s.size), j < k → 97 ≤ s[j].toNat ∧ s[j].toNat ≤ 122)) (fun i => s.size - (intOf i).toNat)
  case atStart => exact ⟨0, Nat.zero_le _, rfl, hid (fun j _ h => by omega)⟩
  case round =>
    obtain ⟨k, hk, rfl, HH⟩ := hrel
    by_cases hlt : k < s.size
    · by_cases h1 : s[k].toNat < 97
      · have e := hid (ky_out s k hlt (.inl h1))
        go_wp2
        go_ret
        rw [e.out]
        exact ⟨rfl, rfl⟩
      by_cases h3 : 122 < s[k].toNat
      · have e := hid (ky_out s k hlt (.inr h3))
        go_wp2
        go_ret
        rw [e.out]
        exact ⟨rfl, rfl⟩
      go_wp2
      go_round
      case rel => exact ⟨k + 1, by omega, by go_num, hid (fun j hj h => by
        by_cases hjk : j = k
        · subst hjk; omega
        · exact HH.out j hj (by omega))⟩
      case measure => simp [intOf]; omega
    · have e := hid (ky_all s m hml Hm.out (by omega) (fun j hj => HH.out j hj (by omega)) h97)
      go_wp2
      go_ret
      rw [e.out]
      exact ⟨rfl, rfl⟩

end

section
open Go.RowKit
open Go.Sort (grow)

abbrev OpIn.id (o : OpIn) : Dt := (o.id0, o.id1)
abbrev OpIn.blk (o : OpIn) : Dt := (o.bl0, o.bl1)
abbrev OpIn.at (o : OpIn) : Dt := (o.at0, o.at1)
abbrev OpIn.par (o : OpIn) : Dt := (o.pa0, o.pa1)

/-- The head. -/
def headb (o : OpIn) (V : List Dt) : Bool := mayd o.id && decide (1 ≤ o.time) && decide (o.time ≤ 1099511627776) && vmb V && decide (gt V o.id0 = o.id1 - 1)

/-- What a kind has: At, Side and Char, Parent and Key. -/
def pat (k : Int) : Bool := decide (k = 1) || decide (k = 2)
def pch (k : Int) : Bool := decide (k = 1)
def ppl (k : Int) : Bool := decide (k = 3)

/-- Empty where the kind has no parts. -/
def barb (o : OpIn) : Bool := (pat o.kind || ((o.at0 == 0) && (o.at1 == 0))) && (pch o.kind || ((o.side == 0) && (o.char == 0))) && (ppl o.kind || ((o.pa0 == 0) && (o.pa1 == 0) && o.key.toList.isEmpty))

def besb (o : OpIn) (V : List Dt) : Bool := if o.at0 = 0 ∧ o.at1 = 0 then (o.side == 1) else hasv V o.at && ((o.side == 0) || (o.side == 1))
def charb (c : Int) : Bool := decide (0 ≤ c) && decide (c ≤ 1114111) && (decide (c < 55296) || decide (57343 < c))
def parb (o : OpIn) (V : List Dt) : Bool := (((o.pa0 == 0) && (o.pa1 == -1)) || ((o.pa0 == 0) && (o.pa1 == -2)) || hasv V o.par) && !((o.pa0 == o.bl0) && (o.pa1 == o.bl1))

/-- What a kind has may be. -/
def partb (o : OpIn) (V : List Dt) : Bool :=
  if o.kind = 1 then hasv V o.blk && besb o V && charb o.char
  else if o.kind = 2 then hasv V o.blk && hasv V o.at
  else if o.kind = 3 then (((o.bl0 == o.id0) && (o.bl1 == o.id1)) || hasv V o.blk) && parb o V && kyb o.key.toList
  else false

/-- May it be? -/
def chk (o : OpIn) (V : List Dt) : Bool := headb o V && barb o && partb o V

/-- The cells of an operation lie in block q. -/
structure OpAt (w : World) (q : Nat) (o : OpIn) (v : Value) : Prop where
  c0 : w.cell? ⟨q, 0, none⟩ = some (.int .i64 o.id0)
  c1 : w.cell? ⟨q, 1, none⟩ = some (.int .i64 o.id1)
  c2 : w.cell? ⟨q, 2, none⟩ = some (.int .i64 o.time)
  c3 : w.cell? ⟨q, 3, none⟩ = some v
  c4 : w.cell? ⟨q, 4, none⟩ = some (.int .i64 o.kind)
  c5 : w.cell? ⟨q, 5, none⟩ = some (.int .i64 o.bl0)
  c6 : w.cell? ⟨q, 6, none⟩ = some (.int .i64 o.bl1)
  c7 : w.cell? ⟨q, 7, none⟩ = some (.int .i64 o.at0)
  c8 : w.cell? ⟨q, 8, none⟩ = some (.int .i64 o.at1)
  c9 : w.cell? ⟨q, 9, none⟩ = some (.int .i64 o.side)
  c10 : w.cell? ⟨q, 10, none⟩ = some (.int .i64 o.char)
  c11 : w.cell? ⟨q, 11, none⟩ = some (.int .i64 o.pa0)
  c12 : w.cell? ⟨q, 12, none⟩ = some (.int .i64 o.pa1)
  c13 : w.cell? ⟨q, 13, none⟩ = some (.string o.key)

theorem OpAt.lt {w : World} {q : Nat} {o : OpIn} {v : Value} (h : OpAt w q o v) : q < w.heap.size := cell_in h.c0

theorem OpAt.below {w w' : World} {q : Nat} {o : OpIn} {v : Value} (h : OpAt w q o v) (hb : RowKit.Below w.heap.size w w') : OpAt w' q o v := by
  have hl := h.lt
  exact ⟨(hb.cell hl).trans h.c0, (hb.cell hl).trans h.c1, (hb.cell hl).trans h.c2, (hb.cell hl).trans h.c3, (hb.cell hl).trans h.c4, (hb.cell hl).trans h.c5, (hb.cell hl).trans h.c6,
    (hb.cell hl).trans h.c7, (hb.cell hl).trans h.c8, (hb.cell hl).trans h.c9, (hb.cell hl).trans h.c10, (hb.cell hl).trans h.c11, (hb.cell hl).trans h.c12, (hb.cell hl).trans h.c13⟩

theorem OpAt.far {w w' : World} {q : Nat} {o : OpIn} {v : Value} (h : OpAt w q o v) (hf : Far w w') : OpAt w' q o v := h.below hf.below

theorem OpAt.grow {w : World} {q : Nat} {o : OpIn} {v : Value} (h : OpAt w q o v) (m : Nat) (os : Array Obj) : OpAt (grow (w.drewN m) os) q o v := h.far ⟨m, os, rfl⟩

theorem opAt_alloc (w : World) (o : OpIn) (v : Value) (t : TypeId) : OpAt (w.alloc (.cells (o.cells v) t)) w.heap.size o v := by
  constructor <;> (unfold OpIn.cells; go_simp)

/-- An operation as a value. -/
abbrev ov (o : OpIn) (v : Value) : Value := .agg (o.cells v)

theorem bool_and {a b : Bool} : (a && b) = true ↔ a = true ∧ b = true := by simp
end

section
open Go.RowKit
open Go.Sort (grow)

set_option maxHeartbeats 1000000 in
theorem less_any (a b : Dt) (w : World) : Tells 69 #[dv a, dv b] w (.bool (dl a b)) := by
  obtain ⟨a1, a2⟩ := a
  obtain ⟨b1, b2⟩ := b
  by_cases h : a1 = b1
  · subst h
    go_enter Try.func69, Try.ntmps69
    go_wp2
    go_ret
    exact ⟨by simp [dl], ((Far.refl w).alloc _).alloc _⟩
  · go_enter Try.func69, Try.ntmps69
    go_wp2
    go_ret
    exact ⟨by simp [dl, h], ((Far.refl w).alloc _).alloc _⟩

/-- Which operation comes ahead. -/
def lo (o p : OpIn) : Bool := decide (o.time < p.time) || ((o.time == p.time) && dl o.id p.id)

theorem lo_same {o p : OpIn} (h : o.time = p.time) : lo o p = dl o.id p.id := by simp [lo, h]
theorem lo_other {o p : OpIn} (h : o.time ≠ p.time) : lo o p = decide (o.time < p.time) := by simp [lo, h]

/-- Are two operations the same? -/
def so (o p : OpIn) (V U : List Dt) : Bool := (o.id0 == p.id0) && (o.id1 == p.id1) && (o.time == p.time) && decide (V = U) && (o.kind == p.kind) && (o.bl0 == p.bl0) && (o.bl1 == p.bl1) && (o.at0 == p.at0) && (o.at1 == p.at1) && (o.side == p.side) && (o.char == p.char) && (o.pa0 == p.pa0) && (o.pa1 == p.pa1) && (o.key.toList == p.key.toList)

/-- Two operations in two new blocks. -/
theorem two_ops (w : World) (o p : OpIn) (u v : Value) : OpAt ((w.alloc (.cells (o.cells u) 52)).alloc (.cells (p.cells v) 52)) w.heap.size o u ∧ OpAt ((w.alloc (.cells (o.cells u) 52)).alloc (.cells (p.cells v) 52)) (w.heap.size + 1) p v ∧ Far w ((w.alloc (.cells (o.cells u) 52)).alloc (.cells (p.cells v) 52)) := by
  refine ⟨(opAt_alloc w o u _).far ((Far.refl _).alloc _), ?_, ((Far.refl w).alloc _).alloc _⟩
  have h := opAt_alloc (w.alloc (.cells (o.cells u) 52)) p v 52
  rw [World.size_alloc] at h
  exact h

end

section
open Go.RowKit

theorem agg_eq (a b : Dt) : ((dv a) = (dv b)) ↔ a = b := by
  constructor
  · intro h
    simp at h
    exact Prod.ext h.1 h.2
  · rintro rfl
    rfl

/-- What order answers. -/
def cfd (a b : Dt) : Int := if a = b then 0 else if dl a b = true then -1 else 1

end

section
open Go.RowKit Go.Sort Go.Maps

theorem laidOut0 : laidOutB Try.prog = true := by kernel_rfl
theorem dotRow : (24 : TypeId) < Try.prog.types.size := of_decide_eq_true (by kernel_rfl)
theorem dotCells : Try.prog.cellsOf 24 = 2 := by kernel_rfl
theorem intCells : Try.prog.cellsOf 3 = 1 := by kernel_rfl
theorem dotKey : Try.prog.keyType 24 = true := by kernel_rfl
theorem dotWide : (match Try.prog.underlying 24 with | some (.array _ _) | some (.struct _) => true | _ => false) = true := by rw [Try.underlying24]
set_option maxRecDepth 100000 in
theorem law : Keyed Try.prog 24 := Keyed.of_law (deep_law_laid laidOut0 (m := 2) (by omega) dotRow (by kernel_rfl) dotWide)

/-- What a dot reads as, as a key. -/
def kl (d : Dt) : Lit := .string (keyBytes [.int .i64 d.1, .int .i64 d.2])

theorem dotFormed (a b : Value) : (Value.agg #[a, b]).formed Try.prog 24 = true := by simp [Value.formed, Try.underlying24, dotCells]

theorem typesNum : Try.prog.types.size = 139 := by kernel_rfl

theorem lits_int (n : Nat) {a : Int} (h : (Lit.int .i64 a).wf = true) : Try.prog.keyLits (n + 1) 3 [.int .i64 a] = some [.int .i64 a] := by
  unfold Program.keyLits
  rw [Try.underlying3]
  simp [h]

theorem lits_dot (n : Nat) {d : Dt} (h : Dw d) : Try.prog.keyLits (n + 2) 24 [.int .i64 d.1, .int .i64 d.2] = some [.int .i64 d.1, .int .i64 d.2] := by
  unfold Program.keyLits
  rw [Try.underlying24]
  simp [dotCells, intCells, lits_int n h.1, lits_int n h.2]

theorem keyOf_dot {d : Dt} (h : Dw d) : keyOf Try.prog 24 (dv d) = some (kl d) := by
  unfold keyOf
  rw [Try.underlying24]
  simp only [dotKey, dotFormed, Bool.and_self, if_true, typesNum]
  have : (dv d).cells.toList = [.int .i64 d.1, .int .i64 d.2] := rfl
  rw [this, lits_dot 138 h]
  rfl

set_option maxRecDepth 100000 in
theorem keyOf_dot_inv {v : Value} {l : Lit} (h : keyOf Try.prog 24 v = some l) : ∃ d : Dt, v = dv d ∧ Dw d ∧ l = kl d := by
  unfold keyOf at h
  rw [Try.underlying24] at h
  simp only [typesNum] at h
  split at h
  · rename_i hf
    obtain ⟨ls, hl, rfl⟩ := Option.map_eq_some_iff.1 h
    simp only [Bool.and_eq_true] at hf
    have hf2 := hf.2
    unfold Program.keyLits at hl
    rw [Try.underlying24] at hl
    cases v <;> simp [Value.formed, Try.underlying24, dotCells] at hf2
    rename_i cs
    obtain ⟨cs⟩ := cs
    match cs, hf2 with
    | [x, y], _ =>
      simp [dotCells, intCells, Value.cells] at hl
      obtain ⟨l0, h0⟩ : ∃ l0, Try.prog.keyLits 139 3 [x] = some l0 := by
        cases hh : Try.prog.keyLits 139 3 [x]
        · rw [hh] at hl; simp at hl
        · exact ⟨_, rfl⟩
      obtain ⟨l1, h1⟩ : ∃ l1, Try.prog.keyLits 139 3 [y] = some l1 := by
        cases hh : Try.prog.keyLits 139 3 [y]
        · rw [h0, hh] at hl; simp at hl
        · exact ⟨_, rfl⟩
      rw [h0, h1] at hl
      simp at hl
      subst hl
      obtain ⟨n0, e0, rfl⟩ := keyLits_int' Try.underlying3 h0
      obtain ⟨n1, e1, rfl⟩ := keyLits_int' Try.underlying3 h1
      simp at e0 e1
      subst e0
      subst e1
      refine ⟨(n0, n1), rfl, ⟨?_, ?_⟩, rfl⟩
      · unfold Program.keyLits at h0
        rw [Try.underlying3] at h0
        simpa using h0
      · unfold Program.keyLits at h1
        rw [Try.underlying3] at h1
        simpa using h1
  · cases h

theorem kl_inj {a b : Dt} (ha : Dw a) (hb : Dw b) (h : kl a = kl b) : a = b := by
  have := law.inj (keyOf_dot ha) (h ▸ keyOf_dot hb)
  exact (agg_eq a b).1 this

theorem kl_isKey (d : Dt) : WideAt.IsKeyLit (kl d) := trivial

theorem zero3 (w : World) : (zeroValue 3).run Try.prog w = .ok (.int .i64 0) w := Try.zeroValue3 w

end
end Go.Proofs.Ytbpepmajpojacaa
