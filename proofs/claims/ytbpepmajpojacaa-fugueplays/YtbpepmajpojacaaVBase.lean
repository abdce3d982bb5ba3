/- Rows of dots in memory, one of the call's own, appends; May and Less; worlds that have only grown. -/
import Derived.Test.YtbpepmajpojacaaProg
import Derived.Test.YtbpepmajpojacaaVMath
import Derived.WalkKit
import Derived.WalkSpells
import Derived.WalkLawsBesides
import Derived.Below
import Derived.Sort.Grow
import Derived.Sort.OwnSorted
import Derived.Laws.AppendOwnNone
import Derived.Shelf.SlSortCmp.QuietGrown
import Derived.BigQuiet
namespace Go.Proofs.Ytbpepmajpojacaa
open Go.RowKit
open Go.Sort (grow alloc_eq_grow grow_grow cell?_grow heap_grow_old)

theorem mixed : Try.prog.follows .mixedOrders = true := by kernel_rfl
theorem hid {p : Prop} (h : p) : Hid p := h

abbrev dv (d : Dt) : Value := .agg #[.int .i64 d.1, .int .i64 d.2]

theorem below2 {w w1 w2 : World} (h : RowKit.Below w.heap.size w w1) (k : RowKit.Below w1.heap.size w1 w2) : RowKit.Below w.heap.size w w2 := h.trans (k.mono h.size)

theorem grow_block {w : World} {b : Nat} (h : b < w.heap.size) (n : Nat) (os : Array Obj) : (grow (w.drewN n) os).heap[b]? = w.heap[b]? := by
  rw [heap_grow_old _ _ (by exact h)]
  rfl

/-- Draws and new blocks: what was there stays. -/
theorem below_class (w : World) (n : Nat) (os : Array Obj) : RowKit.Below w.heap.size w (grow (w.drewN n) os) :=
  ⟨rfl, rfl, rfl, by simp [grow], fun i hi => grow_block hi n os⟩

/-- A world that is another one behind some draws and with new blocks. -/
def Far (w wr : World) : Prop := ∃ q os, wr = grow (w.drewN q) os

theorem Far.refl (w : World) : Far w w := ⟨0, #[], by rw [Go.Sort.grow_empty]; rfl⟩
theorem Far.more {w wr : World} (h : Far w wr) (n : Nat) (os : Array Obj) : Far w (grow (wr.drewN n) os) := by
  obtain ⟨q, os', rfl⟩ := h
  exact ⟨q + n, os' ++ os, by
    show grow (grow ((w.drewN q).drewN n) os') os = _
    rw [Go.Sort.grow_grow, World.drewN_drewN]⟩
theorem Far.drewN {w wr : World} (h : Far w wr) (n : Nat) : Far w (wr.drewN n) := by
  have := h.more n #[]
  rwa [Go.Sort.grow_empty] at this
theorem Far.drew {w wr : World} (h : Far w wr) : Far w wr.drew := h.drewN 1
theorem Far.alloc {w wr : World} (h : Far w wr) (o : Obj) : Far w (wr.alloc o) := by
  have := h.more 0 #[o]
  rwa [← Go.Sort.alloc_eq_grow] at this
theorem Far.below {w wr : World} (h : Far w wr) : RowKit.Below w.heap.size w wr := by
  obtain ⟨q, os, rfl⟩ := h
  exact below_class w q os
theorem Far.trans {a b c : World} (h : Far a b) (k : Far b c) : Far a c := by
  obtain ⟨q, os, rfl⟩ := k
  exact h.more q os

/-- A call that tells something and leaves the world as it was, but for draws and new blocks. -/
abbrev Tells (f : FuncId) (args : Array Value) (w : World) (v : Value) : Prop := Calls Try.prog f args w fun e w' => e = .returned v ∧ Far w w'

/-- In the form that a region which draws asks for. -/
theorem tells_q {f : FuncId} {args : Array Value} {w : World} {v : Value} {n : Nat} {os : Array Obj} (h : Tells f args (grow (w.drewN n) os) v) : Calls Try.prog f args (grow (w.drewN n) os) fun e w'' => e = .returned v ∧ ∃ p : GrownBy, w'' = grow (w.drewN p.n) p.os :=
  Calls.grown_of (h.mono fun _ _ ⟨he, q, os', hw⟩ => ⟨he, q, os', hw⟩)

set_option maxHeartbeats 1000000 in
theorem rless_any (a b : Dt) (w : World) : Tells 77 #[dv a, dv b] w (.bool (dl a b)) := by
  obtain ⟨a1, a2⟩ := a
  obtain ⟨b1, b2⟩ := b
  by_cases h : a1 = b1
  · subst h
    go_enter Try.func77, Try.ntmps77
    go_wp2
    go_ret
    exact ⟨by simp [dl], ((Far.refl w).alloc _).alloc _⟩
  · go_enter Try.func77, Try.ntmps77
    go_wp2
    go_ret
    exact ⟨by simp [dl, h], ((Far.refl w).alloc _).alloc _⟩

theorem rmay_any (a : Dt) (w : World) : Tells 60 #[dv a] w (.bool (mayd a)) := by
  obtain ⟨a1, a2⟩ := a
  go_enter Try.func60, Try.ntmps60
  go_wp2
  all_goals (go_ret; refine ⟨?_, (Far.refl w).alloc _⟩; simp [mayd]; try omega)

/-- The slice (a, n, c) holds these dots. -/
structure PS (w : World) (a : Option Addr) (n c : Nat) (L : List Dt) : Prop where
  len : L.length = n
  cap : n ≤ c
  max : c ≤ maxLen
  nil : a = none → n = 0 ∧ c = 0
  cells : ∀ ad, a = some ad → ∀ j u, (flat L)[j]? = some u → w.cell? (ad.add j) = some u

theorem cell_in {w : World} {p : Addr} {v : Value} (h : w.cell? p = some v) : p.block < w.heap.size := by
  rcases Nat.lt_or_ge p.block w.heap.size with hlt | hge
  · exact hlt
  · simp [World.cell?, Array.getElem?_eq_none hge] at h

theorem PS.below {w w' : World} {a : Option Addr} {n c : Nat} {L : List Dt} (h : PS w a n c L) (hb : RowKit.Below w.heap.size w w') : PS w' a n c L :=
  ⟨h.len, h.cap, h.max, h.nil, fun ad ha j u hj => by
    have := h.cells ad ha j u hj
    rw [hb.cell (cell_in this)]
    exact this⟩

theorem PS.far {w w' : World} {a : Option Addr} {n c : Nat} {L : List Dt} (h : PS w a n c L) (hb : Far w w') : PS w' a n c L := h.below hb.below

theorem PS.none (w : World) : PS w none 0 0 [] := ⟨rfl, Nat.le_refl _, Nat.zero_le _, fun _ => ⟨rfl, rfl⟩, fun _ h => by cases h⟩

/-- Where dots are, they lie at a plain address. -/
theorem PS.at {w : World} {a : Option Addr} {n c : Nat} {L : List Dt} (h : PS w a n c L) (hp : 0 < n) :
    ∃ g o, a = some ⟨g, o, Option.none⟩ ∧ g < w.heap.size ∧ ∀ i (hi : i < L.length), w.cell? ⟨g, o + i * 2, Option.none⟩ = some (.int .i64 (L[i]).1) ∧ w.cell? ⟨g, o + i * 2 + 1, Option.none⟩ = some (.int .i64 (L[i]).2) := by
  cases a with
  | none => have := (h.nil rfl).1; omega
  | some ad =>
    have hc := h.cells ad rfl
    obtain ⟨g, o, sp⟩ := ad
    have hl : 0 < L.length := by rw [h.len]; exact hp
    have h0 := hc 0 _ (by have := (flat_get L 0 hl).1; simpa using this)
    have hspot : sp = Option.none := by simpa [Addr.add] using World.cell?_spot h0
    subst hspot
    refine ⟨g, o, rfl, by have := cell_in h0; simpa [Addr.add] using this, fun i hi => ?_⟩
    obtain ⟨f1, f2⟩ := flat_get L i hi
    have e1 := hc _ _ f1
    have e2 := hc _ _ f2
    constructor
    · by_cases hi0 : i * 2 = 0
      · rw [hi0] at e1 ⊢; simpa [Addr.add] using e1
      · simpa [Addr.add, hi0] using e1
    · simpa [Addr.add, Nat.add_assoc] using e2

theorem take_snoc {L : List Dt} {k : Nat} (h : k < L.length) : L.take (k + 1) = L.take k ++ [L[k]] := by
  rw [List.take_succ_eq_append_getElem h]

theorem Try.info24 : (Try.prog.info? 24).map (fun i => (i.zero, i.size, i.bytes)) = some (some (.agg #[.int .i64 0, .int .i64 0]), 2, 16) := by kernel_rfl

/-- The slice v of n dots is of the call's own, or none, and holds L. -/
abbrev OwnV (w : World) (base : Nat) (v : Value) (L : List Dt) : Prop := w.ownsRow base 24 2 v L.length (flat L)

theorem cell_two_new (w : World) (x y : Value) (T : TypeId) : ∀ j u, ([x, y] : List Value)[j]? = some u → (w.alloc (.cells #[x, y] T)).cell? ((⟨w.heap.size, 0, none⟩ : Addr).add j) = some u := by
  intro j u hj
  match j, hj with
  | 0, hj => simp at hj; subst hj; simp [Addr.add]
  | 1, hj => simp at hj; subst hj; simp [Addr.add]

theorem ps_one (w : World) (d : Dt) : PS (w.alloc (.cells #[.int .i64 d.1, .int .i64 d.2] 24)) (some ⟨w.heap.size, 0, none⟩) 1 1 [d] :=
  ⟨rfl, Nat.le_refl _, by decide, fun h => (by cases h), fun ad ha j u hj => (by cases ha; exact cell_two_new w _ _ 24 j u hj)⟩

theorem PS.no (w : World) (ao : Option Addr) (c : Nat) (h : ao = Option.none → c = 0) (hc : c ≤ maxLen) : PS w ao 0 c [] :=
  ⟨rfl, Nat.zero_le _, hc, fun e => ⟨rfl, h e⟩, fun _ _ _ _ hj => (by simp [flat] at hj)⟩

theorem flat_drop (L : List Dt) (k : Nat) : flat (L.drop k) = (flat L).drop (k * 2) := by
  induction L generalizing k with
  | nil => simp [flat]
  | cons x r ih =>
    cases k with
    | zero => simp
    | succ k =>
      have : (k + 1) * 2 = k * 2 + 1 + 1 := by omega
      rw [this]
      simp [flat, ih]

theorem PS.take {w : World} {a : Option Addr} {n c : Nat} {L : List Dt} (h : PS w a n c L) (k : Nat) (hk : k ≤ n) : PS w a k c (L.take k) :=
  ⟨by rw [List.length_take, h.len]; omega, by have := h.cap; omega, h.max, fun e => ⟨by have := h.nil e; omega, (h.nil e).2⟩, fun ad ha j u hj => h.cells ad ha j u (by
    have e : flat L = flat (L.take k) ++ flat (L.drop k) := by rw [← flat_append, List.take_append_drop]
    rw [e, List.getElem?_append_left]
    · exact hj
    · rcases Nat.lt_or_ge j (flat (L.take k)).length with h' | h'
      · exact h'
      · rw [List.getElem?_eq_none h'] at hj; cases hj)⟩

theorem PS.drop {w : World} {g o n c : Nat} {L : List Dt} (h : PS w (some ⟨g, o, Option.none⟩) n c L) (k : Nat) (hk : k ≤ n) : PS w (some ⟨g, o + k * 2, Option.none⟩) (n - k) (c - k) (L.drop k) := by
  refine ⟨by rw [List.length_drop, h.len], by have := h.cap; omega, by have := h.max; omega, fun e => (by cases e), fun ad ha j u hj => ?_⟩
  cases ha
  rw [flat_drop, List.getElem?_drop] at hj
  have := h.cells _ rfl _ _ hj
  have e1 : ((⟨g, o + k * 2, Option.none⟩ : Addr).add j) = ((⟨g, o, Option.none⟩ : Addr).add (k * 2 + j)) := by
    by_cases hj0 : j = 0
    · subst hj0
      by_cases hk0 : k * 2 = 0
      · simp [Addr.add, hk0]
      · simp [Addr.add, hk0]
    · simp [Addr.add, hj0, Nat.add_assoc]
  rw [e1]
  exact this

theorem owned_ps {w : World} {base : Nat} {v : Value} {n : Nat} {L : List Dt} (h : w.ownsRow base 24 2 v n (flat L)) (hl : L.length = n) : ∃ a c, v = .slice a n c ∧ PS w a n c L := by
  rcases h.2 with ⟨rfl, rfl⟩ | ⟨g, cap, cur, rfl, hg, hb, hn, hcap, hsz, ht⟩
  · have : L = [] := List.eq_nil_of_length_eq_zero hl
    subst this
    exact ⟨none, 0, rfl, PS.none w⟩
  · exact ⟨_, _, rfl, hl, hn, hcap, fun h => (by cases h), fun ad ha j u hj => (by cases ha; exact h.cells (g := g) rfl j u hj)⟩

theorem flat_one (L : List Dt) : ∀ u ∈ flat L, u.oneCell' = true := by
  induction L with
  | nil => intro u hu; simp [flat] at hu
  | cons d r ih =>
    intro u hu
    simp only [flat, List.mem_cons] at hu
    rcases hu with rfl | rfl | hu
    · rfl
    · rfl
    · exact ih u hu

/-- append of a row of dots, none or not, to a slice of the call's own. -/
theorem wpList_append_dots {w : World} {ops : Array Oper} {rest : List Oper} {o : Oper} {a : Act} {Q : Exit → Act → World → Prop} (hgd : o.guard = none) (s x : Operand) (t : TypeId) (ht : Try.prog.underlying t = some (.slice 24))
    (ho : o.op = .call { callee := .builtin .append, args := #[s, x], argTypes := #[t, t] }) (base : Nat) (v : Value) (n : Nat) (xs : List Value) (hs : a.eval s = v) (hown : w.ownsRow base 24 2 v n xs)
    (ao : Option Addr) (m c : Nat) (L : List Dt) (hx : a.eval x = .slice ao m c) (hL : PS w ao m c L) (hb : n + m ≤ 8000000) (hbase : base ≤ w.heap.size)
    (h : ∀ v' w', w'.ownsRow base 24 2 v' (n + m) (xs ++ flat L) → w.grownBy w' v.ownBlock → wpList Try.prog ops Q rest (a.put o.dst v') w') : wpList Try.prog ops Q (o :: rest) a w := by
  obtain ⟨i0, hi, hz0, hz1, hz2⟩ := info_parts Try.info24
  cases ao with
  | none =>
    obtain ⟨rfl, rfl⟩ := hL.nil rfl
    have : L = [] := List.eq_nil_of_length_eq_zero hL.len
    subst this
    refine wpList_append_own_none hgd s x t ho base 24 i0 2 ht hi v n xs hs hown hx ?_
    exact h v w (by simpa [flat] using hown) (World.grownBy.refl _ _)
  | some ad =>
    exact wpList_append_own w hgd s x t ho base 24 i0 _ 2 16 ht hi hz0 hz1 hz2 rfl (by decide) v n xs hs hown ad m c (flat L) hx (by rw [flat_length, hL.len]) (hL.cells ad rfl) (flat_one L) (by unfold maxLen; omega) (by omega) hbase
      (fun v' w' h1 h2 _ => h v' w' h1 h2)

/-- A call answers a slice that holds L, in new memory or not; what was there stays. -/
def Ans (w : World) (L : List Dt) (e : Ending) (w' : World) : Prop := ∃ a c, e = .returned (.slice a L.length c) ∧ PS w' a L.length c L ∧ RowKit.Below w.heap.size w w'

/-- A call answers a slice of its own that holds L. -/
def Gives (w : World) (L : List Dt) (e : Ending) (w' : World) : Prop := ∃ v, e = .returned v ∧ w'.ownsRow w.heap.size 24 2 v L.length (flat L) ∧ RowKit.Below w.heap.size w w'

theorem Gives.ans {w : World} {L : List Dt} {e : Ending} {w' : World} (h : Gives w L e w') : Ans w L e w' := by
  obtain ⟨v, he, ho, hb⟩ := h
  obtain ⟨a, c, rfl, hp⟩ := owned_ps ho rfl
  exact ⟨a, c, he, hp, hb⟩


end Go.Proofs.Ytbpepmajpojacaa
