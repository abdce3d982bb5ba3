/- Rows of bytes: which comes ahead. No function of the program. -/
import Derived.Test.YtplcohjpchfkkaaVMay
import Derived.Sort.AtCall
import Derived.WalkKit
import Derived.Below
import Derived.DeepKeys4
import Derived.Maps.OwnSet
import Derived.Maps.RangeWalk
import Derived.Test.YtplcohjpchfkkaaProg
namespace Go.Proofs.Ytplcohjpchfkkaa
section
open Go.RowKit
open Go.Sort (grow)

/-- Below 0, 0 or above 0. -/
def cmpi (x y : Int) : Int := if x < y then -1 else if y < x then 1 else 0

theorem cmp_any (x y : Int) (w : World) : Calls Try.prog 72 #[.int .i64 x, .int .i64 y] w fun e w' => e = .returned (.int .i64 (cmpi x y)) ∧ w' = w := by
  by_cases h : x < y
  · go_enter Try.func72, Try.ntmps72
    go_wp2
    go_ret
    exact ⟨by simp [cmpi, h], rfl⟩
  · by_cases h2 : y < x
    · go_enter Try.func72, Try.ntmps72
      go_wp2
      go_ret
      exact ⟨by simp [cmpi, h, h2], rfl⟩
    · go_enter Try.func72, Try.ntmps72
      go_wp2
      go_ret
      exact ⟨by unfold cmpi; rw [if_neg (by omega), if_neg (by omega)]; rfl, rfl⟩

set_option maxHeartbeats 140737488355328 in
theorem rget_any (a : Option Addr) (n c : Nat) (L : List Dt) (y : Int) (w : World) (hs : PS w a n c L) (hn : n ≤ 9223372036854775807) : Calls Try.prog 63 #[.slice a n c, .int .i64 y] w fun e w' => e = .returned (.int .i64 (gt L y)) ∧ w' = w := by
  have HL := hid hs.len
  go_enter Try.func63, Try.ntmps63
  go_wp2
  go_loopw [5] (fun i wr => ∃ k : Nat, k ≤ n ∧ i = .int .i64 k ∧ Hid (gt L y = gt (L.drop k) y) ∧ wr = w) (fun i _ => n - (intOf i).toNat)
  case atStart => exact ⟨0, by omega, rfl, hid (by simp), rfl⟩
  case round =>
    obtain ⟨k, hk, rfl, hgt, hw⟩ := hrel
    have hw2 := hw.symm
    subst hw2
    clear hw
    by_cases hlt : k < n
    · have hl := HL.out
      obtain ⟨g, o, rfl, hg, hcell⟩ := hs.at (by omega)
      obtain ⟨hc0, hc1⟩ := hcell k (by omega)
      have hdr : Hid _ := hid (List.drop_eq_getElem_cons (l := L) (i := k) (by omega))
      generalize (L[k]'(by omega)) = d at hc0 hc1 hdr
      obtain ⟨d1, d2⟩ := d
      clear hcell hl hs
      by_cases hd : d1 = y
      · go_wp2
        go_ret
        exact ⟨by rw [hgt.out, hdr.out]; simp [gt, hd], rfl⟩
      · go_wp2
        go_roundw
        case rel => exact ⟨k + 1, by omega, by go_num, hid (by rw [hgt.out, hdr.out]; simp [gt, hd]), by first | exact trivial | rfl⟩
        case measure => simp [intOf]; omega
    · obtain rfl : k = n := by omega
      go_wp2
      go_ret
      exact ⟨by rw [hgt.out, List.drop_of_length_le (by rw [HL.out]; exact Nat.le_refl _)]; rfl, rfl⟩

theorem rget_far {a : Option Addr} {n c : Nat} {L : List Dt} {y : Int} {w : World} (hs : PS w a n c L) (hn : n ≤ 9223372036854775807) : Tells 63 #[.slice a n c, .int .i64 y] w (.int .i64 (gt L y)) :=
  (rget_any a n c L y w hs hn).mono fun _ _ ⟨he, hw⟩ => ⟨he, by rw [hw]; exact Far.refl _⟩

set_option maxRecDepth 100000 in
set_option maxHeartbeats 140737488355328 in
theorem rhas_any (a : Option Addr) (n c : Nat) (L : List Dt) (d : Dt) (w : World) (hs : PS w a n c L) (hn : n ≤ 9223372036854775807) : Tells 67 #[.slice a n c, dv d] w (.bool (hasv L d)) := by
  have mixed := mixed
  obtain ⟨d1, d2⟩ := d
  have HW := (Far.refl w).alloc (.cells #[.int .i64 d1, .int .i64 d2] 24)
  have hb0 : (w.alloc (.cells #[.int .i64 d1, .int .i64 d2] 24)).cell? ⟨w.heap.size, 0, none⟩ = some (.int .i64 d1) := by go_simp
  have hb1 : (w.alloc (.cells #[.int .i64 d1, .int .i64 d2] 24)).cell? ⟨w.heap.size, 1, none⟩ = some (.int .i64 d2) := by go_simp
  have hh : Hid (hasv L (d1, d2) = (mayd (d1, d2) && decide (d2 ≤ gt L d1))) := hid rfl
  have hM := rmay_any (d1, d2) (w.alloc (.cells #[.int .i64 d1, .int .i64 d2] 24))
  generalize hr : mayd (d1, d2) = r at hM hh
  go_enter Try.func67, Try.ntmps67
  go_wp2_with (first | (go_at_call 64; refine hM.mono ?_; rintro e w1 ⟨rfl, hF1⟩))
  replace HW := HW.trans hF1
  have b0 := (hF1.below.cell (p := ⟨w.heap.size, 0, none⟩) (cell_in hb0)).trans hb0
  have b1 := (hF1.below.cell (p := ⟨w.heap.size, 1, none⟩) (cell_in hb1)).trans hb1
  have hs1 := hs.far HW
  clear hb0 hb1 hM hF1
  generalize w.heap.size = q at b0 b1 ⊢
  have E0 := fun m os => cell_grown (cell_in b0) b0 m os
  have E1 := fun m os => cell_grown (cell_in b1) b1 m os
  have hG := fun m os => tells_q (rget_far (y := d1) (hs1.far ((Far.refl w1).more m os)) hn)
  generalize gt L d1 = z at hG hh
  clear hr b0 b1 hs hs1
  cases r
  all_goals
    refine wp_region_quiet_grown mixed (by kernel_rfl) ?_
    repeat (go_big_quiet_step ((first | (go_at_call 63; exact hG _ _))))
    refine wpQuiet_nil ?_
    intro _ hw'
    obtain ⟨⟨nq, osq⟩, hw''⟩ := hw'
    subst hw''
    simp only []
    go_wp2
    go_ret
    exact ⟨by rw [hh.out]; simp, HW.more nq osq⟩
end

section
open Go.RowKit
open Go.Sort (grow)

theorem PS.drewN {w : World} {a : Option Addr} {n c : Nat} {L : List Dt} (h : PS w a n c L) (q : Nat) : PS (w.drewN q) a n c L :=
  ⟨h.len, h.cap, h.max, h.nil, h.cells⟩

section
variable {a a' : Option Addr} {n c n' c' : Nat} {L M : List Dt} {w : World}
end

theorem VM.take {L : List Dt} (h : VM L) (k : Nat) : VM (L.take k) := ⟨h.ac.sublist (List.take_sublist k L), fun d hd => h.may d (List.mem_of_mem_take hd)⟩
end

section
open Go.RowKit
open Go.Sort (grow)

abbrev OpIn.id (o : OpIn) : Dt := (o.id0, o.id1)
abbrev OpIn.blk (o : OpIn) : Dt := (o.bl0, o.bl1)
abbrev OpIn.at (o : OpIn) : Dt := (o.at0, o.at1)
abbrev OpIn.par (o : OpIn) : Dt := (o.pa0, o.pa1)

/-- The head. -/
def headb (o : OpIn) (V : List Dt) : Bool := mayd o.id && decide (1 ≤ o.time) && decide (o.time ≤ 1099511627776) && vmb V && decide (gt V o.id0 = o.id1 - 1)

/-- What a kind has: At, Side and Char, Parent and Key. -/
def pat (k : Int) : Bool := decide (k = 1) || decide (k = 2)
def pch (k : Int) : Bool := decide (k = 1)
def ppl (k : Int) : Bool := decide (k = 3)

/-- Empty where the kind has no parts. -/
def barb (o : OpIn) : Bool := (pat o.kind || ((o.at0 == 0) && (o.at1 == 0))) && (pch o.kind || ((o.side == 0) && (o.char == 0))) && (ppl o.kind || ((o.pa0 == 0) && (o.pa1 == 0) && o.key.toList.isEmpty))

def besb (o : OpIn) (V : List Dt) : Bool := if o.at0 = 0 ∧ o.at1 = 0 then (o.side == 1) else hasv V o.at && ((o.side == 0) || (o.side == 1))
def charb (c : Int) : Bool := decide (0 ≤ c) && decide (c ≤ 1114111) && (decide (c < 55296) || decide (57343 < c))
def parb (o : OpIn) (V : List Dt) : Bool := (((o.pa0 == 0) && (o.pa1 == -1)) || ((o.pa0 == 0) && (o.pa1 == -2)) || hasv V o.par) && !((o.pa0 == o.bl0) && (o.pa1 == o.bl1))

/-- What a kind has may be. -/
def partb (o : OpIn) (V : List Dt) : Bool :=
  if o.kind = 1 then hasv V o.blk && besb o V && charb o.char
  else if o.kind = 2 then hasv V o.blk && hasv V o.at
  else if o.kind = 3 then (((o.bl0 == o.id0) && (o.bl1 == o.id1)) || hasv V o.blk) && parb o V && kyb o.key.toList
  else false

/-- May it be? -/
def chk (o : OpIn) (V : List Dt) : Bool := headb o V && barb o && partb o V

/-- The cells of an operation lie in block q. -/
structure OpAt (w : World) (q : Nat) (o : OpIn) (v : Value) : Prop where
  c0 : w.cell? ⟨q, 0, none⟩ = some (.int .i64 o.id0)
  c1 : w.cell? ⟨q, 1, none⟩ = some (.int .i64 o.id1)
  c2 : w.cell? ⟨q, 2, none⟩ = some (.int .i64 o.time)
  c3 : w.cell? ⟨q, 3, none⟩ = some v
  c4 : w.cell? ⟨q, 4, none⟩ = some (.int .i64 o.kind)
  c5 : w.cell? ⟨q, 5, none⟩ = some (.int .i64 o.bl0)
  c6 : w.cell? ⟨q, 6, none⟩ = some (.int .i64 o.bl1)
  c7 : w.cell? ⟨q, 7, none⟩ = some (.int .i64 o.at0)
  c8 : w.cell? ⟨q, 8, none⟩ = some (.int .i64 o.at1)
  c9 : w.cell? ⟨q, 9, none⟩ = some (.int .i64 o.side)
  c10 : w.cell? ⟨q, 10, none⟩ = some (.int .i64 o.char)
  c11 : w.cell? ⟨q, 11, none⟩ = some (.int .i64 o.pa0)
  c12 : w.cell? ⟨q, 12, none⟩ = some (.int .i64 o.pa1)
  c13 : w.cell? ⟨q, 13, none⟩ = some (.string o.key)

theorem OpAt.lt {w : World} {q : Nat} {o : OpIn} {v : Value} (h : OpAt w q o v) : q < w.heap.size := cell_in h.c0

theorem OpAt.below {w w' : World} {q : Nat} {o : OpIn} {v : Value} (h : OpAt w q o v) (hb : RowKit.Below w.heap.size w w') : OpAt w' q o v := by
  have hl := h.lt
  exact ⟨(hb.cell hl).trans h.c0, (hb.cell hl).trans h.c1, (hb.cell hl).trans h.c2, (hb.cell hl).trans h.c3, (hb.cell hl).trans h.c4, (hb.cell hl).trans h.c5, (hb.cell hl).trans h.c6,
    (hb.cell hl).trans h.c7, (hb.cell hl).trans h.c8, (hb.cell hl).trans h.c9, (hb.cell hl).trans h.c10, (hb.cell hl).trans h.c11, (hb.cell hl).trans h.c12, (hb.cell hl).trans h.c13⟩

theorem OpAt.far {w w' : World} {q : Nat} {o : OpIn} {v : Value} (h : OpAt w q o v) (hf : Far w w') : OpAt w' q o v := h.below hf.below

theorem OpAt.grow {w : World} {q : Nat} {o : OpIn} {v : Value} (h : OpAt w q o v) (m : Nat) (os : Array Obj) : OpAt (grow (w.drewN m) os) q o v := h.far ⟨m, os, rfl⟩

theorem opAt_alloc (w : World) (o : OpIn) (v : Value) (t : TypeId) : OpAt (w.alloc (.cells (o.cells v) t)) w.heap.size o v := by
  constructor <;> (unfold OpIn.cells; go_simp)

/-- An operation as a value. -/
abbrev ov (o : OpIn) (v : Value) : Value := .agg (o.cells v)
end

section
open Go.RowKit
open Go.Sort (grow)

set_option maxHeartbeats 1000000 in
theorem less_any (a b : Dt) (w : World) : Tells 83 #[dv a, dv b] w (.bool (dl a b)) := by
  obtain ⟨a1, a2⟩ := a
  obtain ⟨b1, b2⟩ := b
  by_cases h : a1 = b1
  · subst h
    go_enter Try.func83, Try.ntmps83
    go_wp2
    go_ret
    exact ⟨by simp [dl], ((Far.refl w).alloc _).alloc _⟩
  · go_enter Try.func83, Try.ntmps83
    go_wp2
    go_ret
    exact ⟨by simp [dl, h], ((Far.refl w).alloc _).alloc _⟩

/-- Which operation comes ahead. -/
def lo (o p : OpIn) : Bool := decide (o.time < p.time) || ((o.time == p.time) && dl o.id p.id)
end

section
open Go.RowKit

theorem agg_eq (a b : Dt) : ((dv a) = (dv b)) ↔ a = b := by
  constructor
  · intro h
    simp at h
    exact Prod.ext h.1 h.2
  · rintro rfl
    rfl

/-- What order answers. -/
def cfd (a b : Dt) : Int := if a = b then 0 else if dl a b = true then -1 else 1

theorem dorder_any (a b : Dt) (w : World) : Tells 79 #[dv a, dv b] w (.int .i64 (cfd a b)) := by
  obtain ⟨a1, a2⟩ := a
  obtain ⟨b1, b2⟩ := b
  by_cases h : a1 = b1 ∧ a2 = b2
  · obtain ⟨rfl, rfl⟩ := h
    go_enter Try.func79, Try.ntmps79
    go_wp2
    go_ret
    exact ⟨by simp [cfd], ((Far.refl w).alloc _).alloc _⟩
  · have hne : ((a1, a2) : Dt) ≠ (b1, b2) := fun e => h (by simpa using e)
    by_cases h1 : a1 = b1
    · subst h1
      have h2 : ¬ a2 = b2 := fun e => h ⟨rfl, e⟩
      have hL := fun w => less_any (a1, a2) (a1, b2) w
      have hc : cfd (a1, a2) (a1, b2) = if dl (a1, a2) (a1, b2) = true then -1 else 1 := by simp [cfd, h2]
      generalize dl (a1, a2) (a1, b2) = r at hL hc
      rw [hc]
      clear h hne hc
      cases r
      all_goals
        go_enter Try.func79, Try.ntmps79
        go_wp2_with (go_at_call 83; refine (hL _).mono ?_; rintro e w1 ⟨rfl, hF1⟩)
        go_ret
        exact ⟨rfl, (((Far.refl w).alloc _).alloc _).trans hF1⟩
    · have hL := fun w => less_any (a1, a2) (b1, b2) w
      have hc : cfd (a1, a2) (b1, b2) = if dl (a1, a2) (b1, b2) = true then -1 else 1 := by simp [cfd, h1]
      generalize dl (a1, a2) (b1, b2) = r at hL hc
      rw [hc]
      clear h hne hc
      cases r
      all_goals
        go_enter Try.func79, Try.ntmps79
        go_wp2_with (go_at_call 83; refine (hL _).mono ?_; rintro e w1 ⟨rfl, hF1⟩)
        go_ret
        exact ⟨rfl, (((Far.refl w).alloc _).alloc _).trans hF1⟩
end

section
open Go.RowKit Go.Sort Go.Maps

theorem laidOut0 : laidOutB Try.prog = true := by kernel_rfl
theorem dotRow : (24 : TypeId) < Try.prog.types.size := of_decide_eq_true (by kernel_rfl)
theorem dotCells : Try.prog.cellsOf 24 = 2 := by kernel_rfl
theorem intCells : Try.prog.cellsOf 3 = 1 := by kernel_rfl
theorem dotKey : Try.prog.keyType 24 = true := by kernel_rfl
theorem dotWide : (match Try.prog.underlying 24 with | some (.array _ _) | some (.struct _) => true | _ => false) = true := by rw [Try.underlying24]
set_option maxRecDepth 100000 in
theorem law : Keyed Try.prog 24 := Keyed.of_law (deep_law_laid laidOut0 (m := 2) (by omega) dotRow (by kernel_rfl) dotWide)

/-- What a dot reads as, as a key. -/
def kl (d : Dt) : Lit := .string (keyBytes [.int .i64 d.1, .int .i64 d.2])

theorem dotFormed (a b : Value) : (Value.agg #[a, b]).formed Try.prog 24 = true := by simp [Value.formed, Try.underlying24, dotCells]

theorem typesNum : Try.prog.types.size = 174 := by kernel_rfl

theorem lits_int (n : Nat) {a : Int} (h : (Lit.int .i64 a).wf = true) : Try.prog.keyLits (n + 1) 3 [.int .i64 a] = some [.int .i64 a] := by
  unfold Program.keyLits
  rw [Try.underlying3]
  simp [h]

theorem lits_dot (n : Nat) {d : Dt} (h : Dw d) : Try.prog.keyLits (n + 2) 24 [.int .i64 d.1, .int .i64 d.2] = some [.int .i64 d.1, .int .i64 d.2] := by
  unfold Program.keyLits
  rw [Try.underlying24]
  simp [dotCells, intCells, lits_int n h.1, lits_int n h.2]

theorem keyOf_dot {d : Dt} (h : Dw d) : keyOf Try.prog 24 (dv d) = some (kl d) := by
  unfold keyOf
  rw [Try.underlying24]
  simp only [dotKey, dotFormed, Bool.and_self, if_true, typesNum]
  have : (dv d).cells.toList = [.int .i64 d.1, .int .i64 d.2] := rfl
  rw [this, lits_dot 173 h]
  rfl

set_option maxRecDepth 100000 in
theorem keyOf_dot_inv {v : Value} {l : Lit} (h : keyOf Try.prog 24 v = some l) : ∃ d : Dt, v = dv d ∧ Dw d ∧ l = kl d := by
  unfold keyOf at h
  rw [Try.underlying24] at h
  simp only [typesNum] at h
  split at h
  · rename_i hf
    obtain ⟨ls, hl, rfl⟩ := Option.map_eq_some_iff.1 h
    simp only [Bool.and_eq_true] at hf
    have hf2 := hf.2
    unfold Program.keyLits at hl
    rw [Try.underlying24] at hl
    cases v <;> simp [Value.formed, Try.underlying24, dotCells] at hf2
    rename_i cs
    obtain ⟨cs⟩ := cs
    match cs, hf2 with
    | [x, y], _ =>
      simp [dotCells, intCells, Value.cells] at hl
      obtain ⟨l0, h0⟩ : ∃ l0, Try.prog.keyLits 174 3 [x] = some l0 := by
        cases hh : Try.prog.keyLits 174 3 [x]
        · rw [hh] at hl; simp at hl
        · exact ⟨_, rfl⟩
      obtain ⟨l1, h1⟩ : ∃ l1, Try.prog.keyLits 174 3 [y] = some l1 := by
        cases hh : Try.prog.keyLits 174 3 [y]
        · rw [h0, hh] at hl; simp at hl
        · exact ⟨_, rfl⟩
      rw [h0, h1] at hl
      simp at hl
      subst hl
      obtain ⟨n0, e0, rfl⟩ := keyLits_int' Try.underlying3 h0
      obtain ⟨n1, e1, rfl⟩ := keyLits_int' Try.underlying3 h1
      simp at e0 e1
      subst e0
      subst e1
      refine ⟨(n0, n1), rfl, ⟨?_, ?_⟩, rfl⟩
      · unfold Program.keyLits at h0
        rw [Try.underlying3] at h0
        simpa using h0
      · unfold Program.keyLits at h1
        rw [Try.underlying3] at h1
        simpa using h1
  · cases h

theorem kl_inj {a b : Dt} (ha : Dw a) (hb : Dw b) (h : kl a = kl b) : a = b := by
  have := law.inj (keyOf_dot ha) (h ▸ keyOf_dot hb)
  exact (agg_eq a b).1 this

theorem kl_isKey (d : Dt) : WideAt.IsKeyLit (kl d) := trivial

theorem zero3 (w : World) : (zeroValue 3).run Try.prog w = .ok (.int .i64 0) w := Try.zeroValue3 w
end

section
set_option linter.unusedVariables false

/-- Where a block lies: under what, and its key. -/
structure Sp where
  b : Dt
  p : Dt
  k : ByteArray

/-- A move. -/
structure Mv where
  id : Dt
  time : Int
  block : Dt
  parent : Dt
  key : ByteArray

def Mv.sp (m : Mv) : Sp := ⟨m.block, m.parent, m.key⟩

abbrev Pl := Dt × ByteArray

/-- Where a block lies, if it is there. -/
def lk (S : List Sp) (b : Dt) : Option Pl := (S.find? (fun s => decide (s.b = b))).map (fun s => (s.p, s.k))

theorem lk_none {S : List Sp} {b : Dt} : lk S b = none ↔ ∀ s ∈ S, s.b ≠ b := by
  unfold lk
  rw [Option.map_eq_none_iff, List.find?_eq_none]
  constructor
  · intro h s hs e; exact h s hs (by simpa using e)
  · intro h s hs e; exact h s hs (by simpa using e)

theorem lk_some {S : List Sp} {b : Dt} {q : Pl} (h : lk S b = some q) : ∃ s ∈ S, s.b = b ∧ (s.p, s.k) = q := by
  unfold lk at h
  obtain ⟨s, hs, e⟩ := Option.map_eq_some_iff.1 h
  exact ⟨s, List.mem_of_find?_eq_some hs, by simpa using List.find?_some hs, e⟩

theorem sp_one {S : List Sp} (hn : (S.map Sp.b).Nodup) {s s' : Sp} (hs : s ∈ S) (hs' : s' ∈ S) (e : s.b = s'.b) : s = s' := by
  obtain ⟨i, hi⟩ := List.mem_iff_getElem?.1 hs
  obtain ⟨j, hj⟩ := List.mem_iff_getElem?.1 hs'
  have hil := (List.getElem?_eq_some_iff.1 hi).1
  have : i = j := by
    refine (List.getElem?_inj (l := S.map Sp.b) (by simpa using hil) hn).1 ?_
    rw [List.getElem?_map, List.getElem?_map, hi, hj]
    simp [e]
  subst this
  rw [hi] at hj
  cases hj
  rfl

theorem lk_mem {S : List Sp} (hn : (S.map Sp.b).Nodup) {s : Sp} (hs : s ∈ S) : lk S s.b = some (s.p, s.k) := by
  cases h : lk S s.b with
  | none => exact absurd rfl (lk_none.1 h s hs)
  | some q =>
    obtain ⟨s', hs', e, e2⟩ := lk_some h
    have := sp_one hn hs hs' e.symm
    subst this
    rw [e2]

theorem lk_perm {S S' : List Sp} (hn : (S.map Sp.b).Nodup) (hp : S.Perm S') (b : Dt) : lk S b = lk S' b := by
  have hn' : (S'.map Sp.b).Nodup := (hp.map _).nodup_iff.1 hn
  cases h : lk S b with
  | none => exact (lk_none.2 (fun s hs => lk_none.1 h s (hp.mem_iff.2 hs))).symm
  | some q =>
    obtain ⟨s, hs, rfl, rfl⟩ := lk_some h
    exact (lk_mem hn' (hp.mem_iff.1 hs)).symm

/-- The root, the trash. -/
def isEnd (d : Dt) : Prop := d = (0, -1) ∨ d = (0, -2)

/-- What is above a block, at most so many. -/
def up (σ : Dt → Option Pl) : Nat → Dt → List Dt
  | 0, _ => []
  | n + 1, b => match σ b with
    | none => []
    | some q => q.1 :: up σ n q.1

/-- The blocks that are passed on the way. -/
def dn (σ : Dt → Option Pl) : Nat → Dt → List Dt
  | 0, _ => []
  | n + 1, b => match σ b with
    | none => []
    | some q => b :: dn σ n q.1

theorem up_len (σ : Dt → Option Pl) : ∀ (n : Nat) (b : Dt), (up σ n b).length = (dn σ n b).length
  | 0, _ => rfl
  | n + 1, b => by
    unfold up dn
    cases h : σ b with
    | none => rfl
    | some q => simp only [List.length_cons, up_len σ n q.1]

/-- A tree: blocks once each, under the root, the trash or a block that is there; r: how deep. -/
structure Tk (S : List Sp) (r : Dt → Nat) : Prop where
  nd : (S.map Sp.b).Nodup
  nz : ∀ s ∈ S, s.b ≠ (0, 0) ∧ ¬ isEnd s.b
  par : ∀ s ∈ S, isEnd s.p ∨ ∃ s' ∈ S, s'.b = s.p
  rk : ∀ s ∈ S, r s.p < r s.b

theorem Tk.nil : Tk [] (fun _ => 0) := ⟨List.nodup_nil, by simp, by simp, by simp⟩

theorem Tk.perm {S S' : List Sp} {r : Dt → Nat} (h : Tk S r) (hp : S.Perm S') : Tk S' r :=
  ⟨(hp.map _).nodup_iff.1 h.nd, fun s hs => h.nz s (hp.mem_iff.2 hs), fun s hs => (h.par s (hp.mem_iff.2 hs)).imp id (fun ⟨s', h1, h2⟩ => ⟨s', hp.mem_iff.1 h1, h2⟩), fun s hs => h.rk s (hp.mem_iff.2 hs)⟩

theorem Tk.dn_mem {S : List Sp} {r : Dt → Nat} (h : Tk S r) : ∀ (n : Nat) (b : Dt), ∀ x ∈ dn (lk S) n b, x ∈ S.map Sp.b ∧ r x ≤ r b
  | 0, _, x, hx => by simp [dn] at hx
  | n + 1, b, x, hx => by
    unfold dn at hx
    cases e : lk S b with
    | none => rw [e] at hx; simp at hx
    | some q =>
      rw [e] at hx
      obtain ⟨s, hs, rfl, rfl⟩ := lk_some e
      rcases List.mem_cons.1 hx with rfl | hx
      · exact ⟨List.mem_map.2 ⟨s, hs, rfl⟩, Nat.le_refl _⟩
      · obtain ⟨h1, h2⟩ := h.dn_mem n s.p x hx
        have := h.rk s hs
        exact ⟨h1, by omega⟩

theorem Tk.dn_nodup {S : List Sp} {r : Dt → Nat} (h : Tk S r) : ∀ (n : Nat) (b : Dt), (dn (lk S) n b).Nodup
  | 0, _ => List.nodup_nil
  | n + 1, b => by
    unfold dn
    cases e : lk S b with
    | none => exact List.nodup_nil
    | some q =>
      obtain ⟨s, hs, rfl, rfl⟩ := lk_some e
      simp only [List.nodup_cons]
      refine ⟨fun hm => ?_, h.dn_nodup n s.p⟩
      have := (h.dn_mem n s.p s.b hm).2
      have := h.rk s hs
      omega

/-- No way up is longer than there are blocks. -/
theorem Tk.up_len {S : List Sp} {r : Dt → Nat} (h : Tk S r) (n : Nat) (b : Dt) : (up (lk S) n b).length ≤ S.length := by
  rw [Proofs.Ytplcohjpchfkkaa.up_len]
  have := List.Nodup.length_le_of_subset (h.dn_nodup n b) (fun x hx => (h.dn_mem n b x hx).1)
  simpa using this

/-- It ends: more steps tell no more. -/
theorem up_more (σ : Dt → Option Pl) : ∀ (n : Nat) (b : Dt), (up σ n b).length < n → ∀ m, n ≤ m → up σ m b = up σ n b
  | 0, b, h, m, hm => by omega
  | n + 1, b, h, 0, hm => by omega
  | n + 1, b, h, m + 1, hm => by
    unfold up at h ⊢
    cases e : σ b with
    | none => rfl
    | some q =>
      rw [e] at h
      simp only [List.length_cons] at h
      simp only [List.cons.injEq, true_and]
      exact up_more σ n q.1 (by omega) m (by omega)

/-- All that is above a block. -/
def pth (S : List Sp) (b : Dt) : List Dt := up (lk S) (S.length + 1) b

theorem Tk.pth_more {S : List Sp} {r : Dt → Nat} (h : Tk S r) (b : Dt) {m : Nat} (hm : S.length + 1 ≤ m) : up (lk S) m b = pth S b :=
  up_more _ _ _ (Nat.lt_succ_of_le (h.up_len _ _)) m hm

theorem Tk.pth_none {S : List Sp} {b : Dt} (h : lk S b = none) : pth S b = [] := by
  unfold pth up
  rw [h]

theorem Tk.pth_some {S : List Sp} {r : Dt → Nat} (h : Tk S r) {b : Dt} {q : Pl} (hq : lk S b = some q) : pth S b = q.1 :: pth S q.1 := by
  rw [← h.pth_more b (m := S.length + 1 + 1) (by omega)]
  show up (lk S) (S.length + 1 + 1) b = _
  unfold up
  rw [hq]
  rfl

theorem up_congr {σ τ : Dt → Option Pl} (h : ∀ b, σ b = τ b) : ∀ (n : Nat) (b : Dt), up σ n b = up τ n b
  | 0, _ => rfl
  | n + 1, b => by
    unfold up
    rw [h b]
    cases τ b with
    | none => rfl
    | some q => simp only [up_congr h n q.1]

theorem Tk.pth_perm {S S' : List Sp} {r : Dt → Nat} (h : Tk S r) (hp : S.Perm S') (b : Dt) : pth S b = pth S' b := by
  unfold pth
  rw [hp.length_eq]
  exact up_congr (lk_perm h.nd hp) _ _

/-- What is above is the root, the trash or there. -/
theorem Tk.pth_there {S : List Sp} {r : Dt → Nat} (h : Tk S r) : ∀ (n : Nat) (b : Dt), ∀ x ∈ up (lk S) n b, isEnd x ∨ ∃ s ∈ S, s.b = x
  | 0, _, x, hx => by simp [up] at hx
  | n + 1, b, x, hx => by
    unfold up at hx
    cases e : lk S b with
    | none => rw [e] at hx; simp at hx
    | some q =>
      rw [e] at hx
      obtain ⟨s, hs, rfl, rfl⟩ := lk_some e
      rcases List.mem_cons.1 hx with rfl | hx
      · exact h.par s hs
      · exact h.pth_there n s.p x hx

/-- Can blocks lie under it? -/
def holds (S : List Sp) (p : Dt) : Prop := isEnd p ∨ lk S p ≠ none

/-- Does a move take effect? -/
def takesP (S : List Sp) (m : Mv) : Prop := holds S m.parent ∧ (lk S m.block ≠ none ∨ m.block = m.id) ∧ m.block ≠ m.parent ∧ m.block ∉ pth S m.parent

/-- A block is laid somewhere, wherever it lay. -/
def put (S : List Sp) (s : Sp) : List Sp := S.filter (fun x => decide (x.b ≠ s.b)) ++ [s]

theorem put_mem {S : List Sp} {s x : Sp} : x ∈ put S s ↔ (x ∈ S ∧ x.b ≠ s.b) ∨ x = s := by
  unfold put
  rw [List.mem_append, List.mem_filter]
  simp

theorem put_nodup {S : List Sp} (hn : (S.map Sp.b).Nodup) (s : Sp) : ((put S s).map Sp.b).Nodup := by
  unfold put
  rw [List.map_append, List.nodup_append]
  refine ⟨(List.Sublist.map Sp.b List.filter_sublist).nodup hn, by simp, fun a ha b hb => ?_⟩
  obtain ⟨x, hx, rfl⟩ := List.mem_map.1 ha
  simp at hb
  subst hb
  have := (List.mem_filter.1 hx).2
  simpa using this

theorem put_lk {S : List Sp} (hn : (S.map Sp.b).Nodup) (s : Sp) (d : Dt) : lk (put S s) d = if d = s.b then some (s.p, s.k) else lk S d := by
  have hn' := put_nodup hn s
  split
  · rename_i e
    subst e
    exact lk_mem hn' (put_mem.2 (Or.inr rfl))
  · rename_i e
    cases h : lk S d with
    | none =>
      refine lk_none.2 (fun x hx => ?_)
      rcases put_mem.1 hx with ⟨h1, _⟩ | rfl
      · exact lk_none.1 h x h1
      · exact fun e' => e e'.symm
    | some q =>
      obtain ⟨x, hx, rfl, rfl⟩ := lk_some h
      exact lk_mem hn' (put_mem.2 (Or.inl ⟨hx, e⟩))

/-- What lies below a block, or is it, gets deeper. -/
theorem Tk.put {S : List Sp} {r : Dt → Nat} (h : Tk S r) {m : Mv} (hm : takesP S m) (hz : m.block ≠ (0, 0)) (he : ¬ isEnd m.block) : ∃ r', Tk (put S m.sp) r' := by
  obtain ⟨h1, h2, h3, h4⟩ := hm
  have hpth : ∀ x : Dt, (∃ s ∈ S, s.b = x) ∨ lk S x = none := fun x => by
    cases e : lk S x with
    | none => exact Or.inr rfl
    | some q => obtain ⟨s, hs, rfl, _⟩ := lk_some e; exact Or.inl ⟨s, hs, rfl⟩
  refine ⟨fun x => if x = m.block ∨ m.block ∈ pth S x then r x + r m.parent + 1 else r x, put_nodup h.nd _, fun s hs => ?_, fun s hs => ?_, fun s hs => ?_⟩
  · rcases put_mem.1 hs with ⟨hs, _⟩ | rfl
    · exact h.nz s hs
    · exact ⟨hz, he⟩
  · rcases put_mem.1 hs with ⟨hs, hne⟩ | rfl
    · rcases h.par s hs with e | ⟨s', hs', e⟩
      · exact Or.inl e
      · refine Or.inr ?_
        by_cases hb : s'.b = m.sp.b
        · exact ⟨m.sp, put_mem.2 (Or.inr rfl), hb.symm.trans e⟩
        · exact ⟨s', put_mem.2 (Or.inl ⟨hs', hb⟩), e⟩
    · rcases h1 with e | hl
      · exact Or.inl e
      · refine Or.inr ?_
        rcases hpth m.parent with ⟨s', hs', e⟩ | e
        · refine ⟨s', put_mem.2 (Or.inl ⟨hs', fun e2 => h3 ?_⟩), e⟩
          exact e2.symm.trans e
        · exact absurd e hl
  · rcases put_mem.1 hs with ⟨hs, hne⟩ | rfl
    · have hrk := h.rk s hs
      have hpp := h.pth_some (lk_mem h.nd hs)
      have hne' : ¬ s.b = m.block := hne
      by_cases hb : s.p = m.block ∨ m.block ∈ pth S s.p
      · rw [if_pos hb, if_pos (Or.inr (by rw [hpp]; rcases hb with e | e; exact List.mem_cons.2 (Or.inl e.symm); exact List.mem_cons_of_mem _ e))]
        omega
      · rw [if_neg hb, if_neg (fun e => by
          rcases e with e | e
          · exact hne' e
          · rw [hpp] at e
            rcases List.mem_cons.1 e with e | e
            · exact hb (Or.inl e.symm)
            · exact hb (Or.inr e))]
        exact hrk
    · have e1 : (if m.sp.p = m.block ∨ m.block ∈ pth S m.sp.p then r m.sp.p + r m.parent + 1 else r m.sp.p) = r m.parent := if_neg (fun e => by rcases e with e | e; exact h3 e.symm; exact h4 e)
      have e2 : (if m.sp.b = m.block ∨ m.block ∈ pth S m.sp.b then r m.sp.b + r m.parent + 1 else r m.sp.b) = r m.block + r m.parent + 1 := if_pos (Or.inl rfl)
      exact Nat.lt_of_le_of_lt (Nat.le_of_eq e1) (Nat.lt_of_lt_of_le (by omega) (Nat.le_of_eq e2.symm))

/-- Does a move take effect? As a Bool. -/
def takes (S : List Sp) (m : Mv) : Bool := (decide (m.parent = (0, -1)) || decide (m.parent = (0, -2)) || (lk S m.parent).isSome) && ((lk S m.block).isSome || decide (m.block = m.id)) && decide (m.block ≠ m.parent) && decide (m.block ∉ pth S m.parent)

theorem takes_iff {S : List Sp} {m : Mv} : takes S m = true ↔ takesP S m := by
  unfold takes takesP holds isEnd
  simp only [Bool.and_eq_true, Bool.or_eq_true, decide_eq_true_eq, Option.isSome_iff_ne_none]
  constructor
  · rintro ⟨⟨⟨h1, h2⟩, h3⟩, h4⟩; exact ⟨h1, h2, h3, h4⟩
  · rintro ⟨h1, h2, h3, h4⟩; exact ⟨⟨⟨h1, h2⟩, h3⟩, h4⟩

/-- A move is done. -/
def step (S : List Sp) (m : Mv) : List Sp := if takes S m then put S m.sp else S

/-- Moves are done one by one, from nothing. -/
def run (l : List Mv) : List Sp := l.foldl step []

theorem run_snoc (l : List Mv) (m : Mv) : run (l ++ [m]) = step (run l) m := by
  unfold run
  rw [List.foldl_append]
  rfl

/-- Moves that may be: of blocks that may be. -/
def Mvs (l : List Mv) : Prop := ∀ m ∈ l, m.block ≠ (0, 0) ∧ ¬ isEnd m.block

theorem Tk.step {S : List Sp} {r : Dt → Nat} (h : Tk S r) {m : Mv} (hz : m.block ≠ (0, 0)) (he : ¬ isEnd m.block) : ∃ r', Tk (step S m) r' := by
  unfold Proofs.Ytplcohjpchfkkaa.step
  split
  · rename_i ht
    exact h.put (takes_iff.1 ht) hz he
  · exact ⟨r, h⟩

theorem fold_tk : ∀ (l : List Mv) (S : List Sp) (r : Dt → Nat), Tk S r → Mvs l → ∃ r', Tk (l.foldl Proofs.Ytplcohjpchfkkaa.step S) r'
  | [], S, r, h, _ => ⟨r, h⟩
  | m :: l, S, r, h, hm => by
    obtain ⟨r1, h1⟩ := h.step (hm m (by simp)).1 (hm m (by simp)).2
    exact fold_tk l _ r1 h1 (fun x hx => hm x (List.mem_cons_of_mem _ hx))

theorem run_tk (l : List Mv) (h : Mvs l) : ∃ r, Tk (run l) r := fold_tk l [] _ Tk.nil h

theorem takes_perm {S S' : List Sp} {r : Dt → Nat} (h : Tk S r) (hp : S.Perm S') (m : Mv) : takes S m = takes S' m := by
  unfold takes
  rw [lk_perm h.nd hp, lk_perm h.nd hp, h.pth_perm hp]

theorem put_perm {S S' : List Sp} (hp : S.Perm S') (s : Sp) : (put S s).Perm (put S' s) := (hp.filter _).append_right _

theorem step_perm {S S' : List Sp} {r : Dt → Nat} (h : Tk S r) (hp : S.Perm S') (m : Mv) : (step S m).Perm (step S' m) := by
  unfold step
  rw [takes_perm h hp]
  split
  · exact put_perm hp _
  · exact hp

/-- A block is taken away. -/
def lift (S : List Sp) (b : Dt) : List Sp := S.filter (fun x => decide (x.b ≠ b))

/-- What was there ahead of a move is brought back. -/
def back (S : List Sp) (b : Dt) (was : Option Pl) : List Sp := match was with
  | none => lift S b
  | some q => lift S b ++ [⟨b, q.1, q.2⟩]

theorem lift_put (S : List Sp) (s : Sp) : lift (put S s) s.b = lift S s.b := by
  unfold lift put
  rw [List.filter_append, List.filter_filter]
  simp

theorem perm_lift {S : List Sp} (hn : (S.map Sp.b).Nodup) {s : Sp} (hs : s ∈ S) : S.Perm (lift S s.b ++ [s]) := by
  obtain ⟨A, B, rfl⟩ := List.append_of_mem hs
  have hA : ∀ x ∈ A, x.b ≠ s.b := fun x hx e => by
    rw [List.map_append, List.nodup_append] at hn
    exact hn.2.2 _ (List.mem_map.2 ⟨x, hx, rfl⟩) s.b (by simp) e
  have hB : ∀ x ∈ B, x.b ≠ s.b := fun x hx e => by
    rw [List.map_append, List.nodup_append] at hn
    have := hn.2.1
    rw [List.map_cons, List.nodup_cons] at this
    exact this.1 (List.mem_map.2 ⟨x, hx, e⟩)
  have e : lift (A ++ s :: B) s.b = A ++ B := by
    unfold lift
    rw [List.filter_append, List.filter_cons_of_neg (by simp), List.filter_eq_self.2 (fun x hx => by simpa using hA x hx), List.filter_eq_self.2 (fun x hx => by simpa using hB x hx)]
  rw [e]
  refine List.perm_middle.trans ?_
  exact (List.perm_append_singleton s (A ++ B)).symm

theorem lift_none {S : List Sp} {b : Dt} (h : lk S b = none) : lift S b = S := List.filter_eq_self.2 (fun x hx => by simpa using lk_none.1 h x hx)

/-- Undone is as it was. -/
theorem back_put {S : List Sp} (hn : (S.map Sp.b).Nodup) (s : Sp) : (back (put S s) s.b (lk S s.b)).Perm S := by
  unfold back
  cases e : lk S s.b with
  | none => simp only; rw [lift_put, lift_none e]
  | some q =>
    obtain ⟨x, hx, hxb, rfl⟩ := lk_some e
    simp only
    rw [lift_put]
    have hx' : (⟨s.b, x.p, x.k⟩ : Sp) = x := by cases x; simp_all
    rw [hx', ← hxb]
    exact (perm_lift hn hx).symm

theorem lift_perm {S S' : List Sp} (hp : S.Perm S') (b : Dt) : (lift S b).Perm (lift S' b) := hp.filter _

theorem back_perm {S S' : List Sp} (hp : S.Perm S') (b : Dt) (was : Option Pl) : (back S b was).Perm (back S' b was) := by
  unfold back
  cases was with
  | none => exact lift_perm hp b
  | some q => exact (lift_perm hp b).append_right _
end

section
set_option linter.unusedVariables false

/-- An order of things that have identities. -/
structure Lin {α : Type} (lt : α → α → Bool) (f : α → Dt) : Prop where
  irr : ∀ a, lt a a = false
  tr : ∀ a b c, lt a b = true → lt b c = true → lt a c = true
  tot : ∀ a b, f a ≠ f b → lt a b = false → lt b a = true

/-- A row in order. -/
def Srt {α : Type} (lt : α → α → Bool) (l : List α) : Prop := l.Pairwise (fun a b => lt a b = true)

theorem Lin.asym {α : Type} {lt : α → α → Bool} {f : α → Dt} (h : Lin lt f) {a b : α} (k : lt a b = true) : lt b a = false := by
  cases e : lt b a with
  | false => rfl
  | true => have := h.tr a b a k e; rw [h.irr] at this; cases this

/-- Rows in order with the same things are one row. -/
theorem srt_ext {α : Type} {lt : α → α → Bool} {f : α → Dt} (hL : Lin lt f) : ∀ {l l' : List α}, Srt lt l → Srt lt l' → (∀ d, d ∈ l ↔ d ∈ l') → l = l'
  | [], [], _, _, _ => rfl
  | [], b :: s, _, _, h => by have := (h b).2 (by simp); simp at this
  | a :: r, [], _, _, h => by have := (h a).1 (by simp); simp at this
  | a :: r, b :: s, h1, h2, h => by
    have h1' := List.pairwise_cons.1 h1
    have h2' := List.pairwise_cons.1 h2
    have hab : a = b := by
      rcases List.mem_cons.1 ((h a).1 (by simp)) with e | ha
      · exact e
      · rcases List.mem_cons.1 ((h b).2 (by simp)) with e | hb
        · exact e.symm
        · have k1 := h2'.1 a ha
          have k2 := hL.asym k1
          rw [h1'.1 b hb] at k2
          cases k2
    subst hab
    congr 1
    refine srt_ext hL h1'.2 h2'.2 (fun d => ?_)
    have hd := h d
    rw [List.mem_cons, List.mem_cons] at hd
    constructor
    · intro hm
      rcases hd.1 (Or.inr hm) with e | h'
      · subst e; have := h1'.1 d hm; rw [hL.irr] at this; cases this
      · exact h'
    · intro hm
      rcases hd.2 (Or.inr hm) with e | h'
      · subst e; have := h2'.1 d hm; rw [hL.irr] at this; cases this
      · exact h'

/-- How many come ahead of one. -/
def rkL {α : Type} (lt : α → α → Bool) (l : List α) (x : α) : Nat := (l.filter (fun y => lt y x)).length

theorem rk_le {α : Type} (lt : α → α → Bool) (l : List α) (x : α) : rkL lt l x ≤ l.length := List.length_filter_le _ _

/-- Those that come ahead are the first ones. -/
theorem rk_split {α : Type} {lt : α → α → Bool} {f : α → Dt} (hL : Lin lt f) : ∀ {l : List α}, Srt lt l → ∀ x, l = l.filter (fun y => lt y x) ++ l.filter (fun y => !(lt y x))
  | [], _, _ => rfl
  | a :: r, h, x => by
    have h' := List.pairwise_cons.1 h
    cases e : lt a x with
    | true =>
      rw [List.filter_cons_of_pos (by simpa using e), List.filter_cons_of_neg (by simp [e]), List.cons_append, ← rk_split hL h'.2 x]
    | false =>
      have hn : r.filter (fun y => lt y x) = [] := List.filter_eq_nil_iff.2 (fun y hy k => by
        have := hL.tr a y x (h'.1 y hy) k
        rw [e] at this
        cases this)
      have ha : r.filter (fun y => !(lt y x)) = r := by
        have := rk_split hL h'.2 x
        rw [hn, List.nil_append] at this
        exact this.symm
      rw [List.filter_cons_of_neg (by simp [e]), hn, List.filter_cons_of_pos (by simp [e]), ha, List.nil_append]

theorem rk_take {α : Type} {lt : α → α → Bool} {f : α → Dt} (hL : Lin lt f) {l : List α} (h : Srt lt l) (x : α) : l.take (rkL lt l x) = l.filter (fun y => lt y x) := by
  have e := congrArg (List.take (rkL lt l x)) (rk_split hL h x)
  rw [List.take_left' (by rfl)] at e
  exact e

theorem rk_drop {α : Type} {lt : α → α → Bool} {f : α → Dt} (hL : Lin lt f) {l : List α} (h : Srt lt l) (x : α) : l.drop (rkL lt l x) = l.filter (fun y => !(lt y x)) := by
  have e := congrArg (List.drop (rkL lt l x)) (rk_split hL h x)
  rw [List.drop_left' (by rfl)] at e
  exact e

/-- The first so many come ahead, the others don't. -/
theorem rk_lt {α : Type} {lt : α → α → Bool} {f : α → Dt} (hL : Lin lt f) {l : List α} (h : Srt lt l) (x : α) {i : Nat} {y : α} (hi : l[i]? = some y) : lt y x = decide (i < rkL lt l x) := by
  have hil := (List.getElem?_eq_some_iff.1 hi).1
  by_cases hr : i < rkL lt l x
  · rw [decide_eq_true hr]
    have : y ∈ l.take (rkL lt l x) := List.mem_of_getElem? (i := i) (by rw [List.getElem?_take, if_pos hr]; exact hi)
    rw [rk_take hL h] at this
    exact (List.mem_filter.1 this).2
  · rw [decide_eq_false hr]
    have : y ∈ l.drop (rkL lt l x) := List.mem_of_getElem? (i := i - rkL lt l x) (by rw [List.getElem?_drop, show rkL lt l x + (i - rkL lt l x) = i by omega]; exact hi)
    rw [rk_drop hL h] at this
    have := (List.mem_filter.1 this).2
    simpa using this

/-- With one more. -/
def insL {α : Type} (lt : α → α → Bool) (l : List α) (x : α) : List α := l.take (rkL lt l x) ++ x :: l.drop (rkL lt l x)

theorem ins_perm {α : Type} (lt : α → α → Bool) (l : List α) (x : α) : (insL lt l x).Perm (x :: l) := by
  unfold insL
  refine List.perm_middle.trans ?_
  rw [List.take_append_drop]

theorem ins_srt {α : Type} {lt : α → α → Bool} {f : α → Dt} (hL : Lin lt f) {l : List α} (h : Srt lt l) {x : α} (hf : ∀ y ∈ l, f y ≠ f x) : Srt lt (insL lt l x) := by
  unfold insL
  rw [rk_take hL h, rk_drop hL h]
  refine List.pairwise_append.2 ⟨h.sublist List.filter_sublist, List.pairwise_cons.2 ⟨fun y hy => ?_, h.sublist List.filter_sublist⟩, fun a ha b hb => ?_⟩
  · obtain ⟨h1, h2⟩ := List.mem_filter.1 hy
    exact hL.tot y x (hf y h1) (by simpa using h2)
  · obtain ⟨h1, h2⟩ := List.mem_filter.1 ha
    rcases List.mem_cons.1 hb with rfl | hb
    · exact h2
    · obtain ⟨h3, h4⟩ := List.mem_filter.1 hb
      have := hL.tot b x (hf b h3) (by simpa using h4)
      exact hL.tr a x b h2 this

/-- One that is there lies where it comes. -/
theorem rk_at {α : Type} {lt : α → α → Bool} {f : α → Dt} (hL : Lin lt f) {l : List α} (h : Srt lt l) {x : α} (hx : x ∈ l) : l[rkL lt l x]? = some x := by
  obtain ⟨i, hi⟩ := List.mem_iff_getElem?.1 hx
  have hil := (List.getElem?_eq_some_iff.1 hi).1
  have h1 : ¬ i < rkL lt l x := fun hlt => by
    have := rk_lt hL h x hi
    rw [hL.irr, decide_eq_true hlt] at this
    cases this
  rcases Nat.lt_or_ge (rkL lt l x) i with h2 | h2
  · exfalso
    have hrl : rkL lt l x < l.length := by omega
    have h3 := rk_lt hL h x (List.getElem?_eq_getElem hrl)
    rw [decide_eq_false (by omega)] at h3
    have h4 := List.pairwise_iff_getElem.1 h (rkL lt l x) i hrl hil h2
    rw [(List.getElem?_eq_some_iff.1 hi).2, h3] at h4
    cases h4
  · have : i = rkL lt l x := by omega
    rw [← this]
    exact hi

/-- With one less. -/
theorem del_srt {α : Type} {lt : α → α → Bool} {f : α → Dt} (hL : Lin lt f) {l : List α} (h : Srt lt l) (k : Nat) : Srt lt (l.take k ++ l.drop (k + 1)) := by
  rw [← List.eraseIdx_eq_take_drop_succ]
  exact h.sublist (List.eraseIdx_sublist l k)

theorem del_mem {α : Type} {lt : α → α → Bool} {f : α → Dt} (hL : Lin lt f) {l : List α} (h : Srt lt l) (hn : (l.map f).Nodup) {x : α} (hx : x ∈ l) (y : α) : y ∈ l.take (rkL lt l x) ++ l.drop (rkL lt l x + 1) ↔ y ∈ l ∧ f y ≠ f x := by
  have hat := rk_at hL h hx
  have hl := (List.getElem?_eq_some_iff.1 hat).1
  have e : l = l.take (rkL lt l x) ++ x :: l.drop (rkL lt l x + 1) := by
    have e0 : x = l[rkL lt l x]'hl := (List.getElem?_eq_some_iff.1 hat).2.symm
    have e1 : x :: l.drop (rkL lt l x + 1) = l.drop (rkL lt l x) := by
      rw [List.drop_eq_getElem_cons hl, ← e0]
    rw [e1, List.take_append_drop]
  have hn2 := hn
  rw [e, List.map_append, List.map_cons, List.nodup_append] at hn2
  obtain ⟨n1, n2, n3⟩ := hn2
  have n4 := List.nodup_cons.1 n2
  constructor
  · intro hy
    rcases List.mem_append.1 hy with hy | hy
    · exact ⟨List.mem_of_mem_take hy, fun e' => n3 _ (List.mem_map.2 ⟨y, hy, rfl⟩) (f x) (by simp) e'⟩
    · exact ⟨List.mem_of_mem_drop hy, fun e' => n4.1 (List.mem_map.2 ⟨y, hy, e'⟩)⟩
  · rintro ⟨hy, hne⟩
    rw [e] at hy
    rcases List.mem_append.1 hy with hy | hy
    · exact List.mem_append_left _ hy
    · rcases List.mem_cons.1 hy with rfl | hy
      · exact absurd rfl hne
      · exact List.mem_append_right _ hy

/-- A row put in order. -/
def srtL {α : Type} (lt : α → α → Bool) (l : List α) : List α := l.foldl (insL lt) []

theorem fold_srt {α : Type} {lt : α → α → Bool} {f : α → Dt} (hL : Lin lt f) : ∀ (l out : List α), Srt lt out → ((out ++ l).map f).Nodup → Srt lt (l.foldl (insL lt) out) ∧ (l.foldl (insL lt) out).Perm (out ++ l)
  | [], out, h, _ => ⟨h, by simp⟩
  | x :: l, out, h, hn => by
    have hf : ∀ y ∈ out, f y ≠ f x := fun y hy e => by
      rw [List.map_append, List.nodup_append] at hn
      exact hn.2.2 _ (List.mem_map.2 ⟨y, hy, rfl⟩) (f x) (by simp) e
    have hp : ((insL lt out x) ++ l).Perm (out ++ x :: l) := ((ins_perm lt out x).append_right l).trans (by simpa using (List.perm_middle (a := x) (l₁ := out) (l₂ := l)).symm)
    obtain ⟨h1, h2⟩ := fold_srt hL l (insL lt out x) (ins_srt hL h hf) ((hp.map f).nodup_iff.2 hn)
    exact ⟨h1, h2.trans hp⟩

theorem srtL_srt {α : Type} {lt : α → α → Bool} {f : α → Dt} (hL : Lin lt f) {l : List α} (hn : (l.map f).Nodup) : Srt lt (srtL lt l) := (fold_srt hL l [] List.Pairwise.nil (by simpa using hn)).1
theorem srtL_perm {α : Type} {lt : α → α → Bool} {f : α → Dt} (hL : Lin lt f) {l : List α} (hn : (l.map f).Nodup) : (srtL lt l).Perm l := by
  have := (fold_srt hL l [] List.Pairwise.nil (by simpa using hn)).2
  rw [List.nil_append] at this
  exact this

theorem srtL_of {α : Type} {lt : α → α → Bool} {f : α → Dt} (hL : Lin lt f) {l m : List α} (hn : (l.map f).Nodup) (hm : Srt lt m) (h : ∀ x, x ∈ m ↔ x ∈ l) : m = srtL lt l :=
  srt_ext hL hm (srtL_srt hL hn) (fun x => (h x).trans (srtL_perm hL hn).mem_iff.symm)
end

section

abbrev Bys := List UInt8

/-- Which row of bytes comes ahead, as the language says. -/
abbrev bl (a b : Bys) : Bool := Op.bytesLess a b

theorem bl_nil (a : Bys) : bl a [] = false := by cases a <;> rfl
theorem bl_cons (x y : UInt8) (a b : Bys) : bl (x :: a) (y :: b) = (decide (x < y) || (x == y && bl a b)) := by
  show Op.bytesLess (x :: a) (y :: b) = _
  simp [Op.bytesLess]
theorem bl_less {x y : UInt8} (h : x.toNat < y.toNat) (a b : Bys) : bl (x :: a) (y :: b) = true := by
  rw [bl_cons, decide_eq_true (UInt8.lt_iff_toNat_lt.2 h)]; rfl
theorem bl_same {x y : UInt8} (h : x.toNat = y.toNat) (a b : Bys) : bl (x :: a) (y :: b) = bl a b := by
  obtain rfl := UInt8.toNat_inj.1 h
  rw [bl_cons, decide_eq_false (by rw [UInt8.lt_iff_toNat_lt]; omega)]; simp
theorem bl_more {x y : UInt8} (h : y.toNat < x.toNat) (a b : Bys) : bl (x :: a) (y :: b) = false := by
  have hne : x ≠ y := fun e => by subst e; omega
  rw [bl_cons, decide_eq_false (by rw [UInt8.lt_iff_toNat_lt]; omega)]; simp [hne]

theorem bl_irrefl (a : Bys) : bl a a = false := by
  induction a with
  | nil => rfl
  | cons x a ih => rw [bl_same rfl]; exact ih

theorem bl_trans {a b c : Bys} (h : bl a b = true) (k : bl b c = true) : bl a c = true := by
  induction a generalizing b c with
  | nil =>
    cases c with
    | nil => rw [bl_nil] at k; cases k
    | cons => rfl
  | cons x a ih =>
    cases b with
    | nil => rw [bl_nil] at h; cases h
    | cons y b =>
      cases c with
      | nil => rw [bl_nil] at k; cases k
      | cons z c =>
        rcases Nat.lt_trichotomy x.toNat y.toNat with h1 | h1 | h1
        · rcases Nat.lt_trichotomy y.toNat z.toNat with k1 | k1 | k1
          · exact bl_less (by omega) _ _
          · exact bl_less (by omega) _ _
          · rw [bl_more k1] at k; cases k
        · rw [bl_same h1] at h
          rcases Nat.lt_trichotomy y.toNat z.toNat with k1 | k1 | k1
          · exact bl_less (by omega) _ _
          · rw [bl_same k1] at k
            rw [bl_same (by omega)]
            exact ih h k
          · rw [bl_more k1] at k; cases k
        · rw [bl_more h1] at h; cases h

/-- Of two unlike rows one comes ahead. -/
theorem bl_total {a b : Bys} (h : bl a b = false) (hne : a ≠ b) : bl b a = true := by
  induction a generalizing b with
  | nil =>
    cases b with
    | nil => exact absurd rfl hne
    | cons => cases h
  | cons x a ih =>
    cases b with
    | nil => rfl
    | cons y b =>
      rcases Nat.lt_trichotomy x.toNat y.toNat with h1 | h1 | h1
      · rw [bl_less h1] at h; cases h
      · rw [bl_same h1] at h
        rw [bl_same h1.symm]
        exact ih h (fun e => hne (by rw [e, UInt8.toNat_inj.1 h1]))
      · exact bl_less h1 _ _
end
end Go.Proofs.Ytplcohjpchfkkaa
