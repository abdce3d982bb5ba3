/- Which texts may be names: the program's look, and the reference's. -/
import Derived.Below
import Derived.WalkKit
import Derived.WalkSpells
import Derived.WalkLawsBesides
import Derived.Laws.CopyOwn
import Derived.Laws.BytesArg
import Derived.Lib.AppendStr
import Derived.Lib.BufferWrite
import Derived.OpenShut
import Derived.Test.YtegikicpffoglaaRows
import Derived.Sort.KeysCollected
import Derived.Maps.OwnSet
import Derived.StringKeys
namespace Go.Proofs.Ytegikicpffoglaa
section

/-- A list of bytes. -/
def Bts (L : List Int) : Prop := ∀ x ∈ L, 0 ≤ x ∧ x < 256
theorem Bts.nil : Bts [] := fun _ h => absurd h (by simp)
theorem Bts.app {L M : List Int} (h : Bts L) (k : Bts M) : Bts (L ++ M) := fun x hx => (List.mem_append.1 hx).elim (h x) (k x)
theorem Bts.left {L M : List Int} (h : Bts (L ++ M)) : Bts L := fun x hx => h x (List.mem_append.2 (.inl hx))
theorem Bts.drop {L : List Int} (h : Bts L) (k : Nat) : Bts (L.drop k) := fun x hx => h x (List.mem_of_mem_drop hx)
theorem Bts.take {L : List Int} (h : Bts L) (k : Nat) : Bts (L.take k) := fun x hx => h x (List.mem_of_mem_take hx)
theorem Bts.at {L : List Int} (h : Bts L) (j : Nat) : 0 ≤ L[j]?.getD 0 ∧ L[j]?.getD 0 < 256 := by
  cases hj : L[j]? with
  | none => simp
  | some x => simpa using h x (List.mem_of_getElem? hj)
end

section
open Go.RowKit

/-- Block g holds just these bytes. -/
def Row (w : World) (g : Nat) (L : List Int) : Prop := w.heap[g]? = some (.cells (L.map (Value.int .u8)).toArray 5 (0, 0))
/-- At most block g has turned. -/
structure Only (g : Nat) (w w' : World) : Prop where
  os : w'.os = w.os
  tape : w'.tape = w.tape
  output : w'.output = w.output
  size : w'.heap.size = w.heap.size
  block : ∀ k, k ≠ g → w'.heap[k]? = w.heap[k]?
theorem Row.cell {w : World} {g : Nat} {L : List Int} (h : Row w g L) (i : Nat) (hi : i < L.length) : w.cell? ⟨g, i, none⟩ = some (.int .u8 (L[i])) := by
  rw [cell_of_row w g i _ 5 (0, 0) h]; simp [hi]
theorem Row.cellq {w : World} {g : Nat} {L : List Int} (h : Row w g L) (i : Nat) (v : Int) (hi : L[i]? = some v) : w.cell? ⟨g, i, none⟩ = some (.int .u8 v) := by
  rw [cell_of_row w g i _ 5 (0, 0) h]; simp [hi]
theorem Row.frozen {w : World} {g : Nat} {L : List Int} (h : Row w g L) (i : Nat) : w.frozen? ⟨g, i, none⟩ = false := frozen_of_row w g i _ 5 h
theorem Row.set {w : World} {g : Nat} {L : List Int} (h : Row w g L) (i : Nat) (v : Int) : Row (w.setCell ⟨g, i, none⟩ (.int .u8 v)) g (L.set i v) := by
  have := heap_setCell_same w g i _ 5 (.int .u8 v) h
  unfold Row; rw [this]; simp [List.map_set]
theorem Only.refl (g : Nat) (w : World) : Only g w w := ⟨rfl, rfl, rfl, rfl, fun _ _ => rfl⟩
theorem Only.setCell {g : Nat} {w w' : World} (h : Only g w w') (i : Nat) (v : Value) : Only g w (w'.setCell ⟨g, i, none⟩ v) :=
  ⟨h.os, h.tape, h.output, by simpa using h.size, fun k hk => (heap_setCell_other w' ⟨g, i, none⟩ k v hk).trans (h.block k hk)⟩
theorem Only.drew {g : Nat} {w w' : World} (h : Only g w w') : Only g w w'.drew := ⟨h.os, h.tape, h.output, h.size, h.block⟩
theorem Only.below {g B : Nat} {w w' : World} (h : Only g w w') (hB : B ≤ g) : Below B w w' :=
  ⟨h.os, h.tape, h.output, Nat.le_of_eq h.size.symm, fun k hk => h.block k (by omega)⟩
/-- The bytes that a slice value leads to. -/
def Src (w : World) (a : Option Addr) (len : Nat) (L : List Int) : Prop :=
  L.length = len ∧ (0 < len → ∃ ad, a = some ad ∧ ∀ j v, L[j]? = some v → w.cell? (ad.add j) = some (.int .u8 v))
theorem Try.info5 : (Try.prog.info? 5).map (fun i => (i.zero, i.size, i.bytes)) = some (some (.int .u8 0), 1, 1) := by kernel_rfl
theorem cell_block {w : World} {p : Addr} {v : Value} (h : w.cell? p = some v) : p.block < w.heap.size := by
  rcases Nat.lt_or_ge p.block w.heap.size with hlt | hge
  · exact hlt
  · simp [World.cell?, Array.getElem?_eq_none hge] at h
theorem src_pos {w w1 : World} {a : Option Addr} {len g : Nat} {L : List Int} (hs : Src w a len L) (hb : Below w.heap.size w w1) :
    0 < (L.map (Value.int .u8)).length → some (⟨g, 0, none⟩ : Addr) = some ⟨g, 0, none⟩ ∧ ∃ ad, a = some ad ∧ ∀ j v, (L.map (Value.int .u8))[j]? = some v → w1.cell? (ad.add j) = some v := by
  intro h
  obtain ⟨ad, ha, hc⟩ := hs.2 (by rw [List.length_map, hs.1] at h; exact h)
  refine ⟨rfl, ad, ha, ?_⟩
  intro j v hj
  rw [List.getElem?_map, Option.map_eq_some_iff] at hj
  obtain ⟨x, hx, rfl⟩ := hj
  have := hc j x hx
  rw [hb.cell (cell_block this)]
  exact this
theorem Row.lt {w : World} {g : Nat} {L : List Int} (h : Row w g L) : g < w.heap.size := by
  rcases Nat.lt_or_ge g w.heap.size with hlt | hge
  · exact hlt
  · unfold Row at h; simp [Array.getElem?_eq_none hge] at h
theorem ret_int {k : IntKind} {a b : Int} (h : a = b) : Ending.returned (.int k a) = .returned (.int k b) := by rw [h]
theorem Src.flat {w : World} {a : Option Addr} {len : Nat} {L : List Int} (h : Src w a len L) (hp : 0 < len) :
    ∃ g off, a = some ⟨g, off, none⟩ ∧ ∀ j, j < len → w.cell? ⟨g, off + j, none⟩ = some (.int .u8 (L[j]?.getD 0)) := by
  obtain ⟨ad, ha, hc⟩ := h.2 hp
  obtain ⟨g, off, sp⟩ := ad
  have h0 := hc 0 (L[0]?.getD 0) (by rw [List.getElem?_eq_getElem (by rw [h.1]; exact hp)]; rfl)
  have hspot : sp = none := by simpa [Addr.add] using World.cell?_spot h0
  subst hspot
  refine ⟨g, off, ha, fun j hj => ?_⟩
  have := hc j (L[j]?.getD 0) (by rw [List.getElem?_eq_getElem (by rw [h.1]; exact hj)]; rfl)
  by_cases hj0 : j = 0
  · subst hj0; simpa [Addr.add] using this
  · simpa [Addr.add, hj0] using this
theorem Only.cell {g : Nat} {w w' : World} (h : Only g w w') {p : Addr} (hp : p.block ≠ g) : w'.cell? p = w.cell? p := World.cell?_of_block (w := w) (h.block p.block hp)
theorem Src.only {g : Nat} {w w' : World} {a : Option Addr} {len : Nat} {L : List Int} (h : Src w a len L) (ho : Only g w w') (hne : ∀ ad, 0 < len → a = some ad → ad.block ≠ g) : Src w' a len L := by
  refine ⟨h.1, fun hp => ?_⟩
  obtain ⟨ad, ha, hc⟩ := h.2 hp
  refine ⟨ad, ha, fun j v hj => ?_⟩
  have hb : (ad.add j).block = ad.block := by unfold Addr.add; split <;> rfl
  rw [ho.cell (by rw [hb]; exact hne ad hp ha)]
  exact hc j v hj
theorem src_nil (w : World) : Src w none 0 [] := ⟨rfl, fun h => absurd h (by omega)⟩
theorem Row.below {w w' : World} {g : Nat} {L : List Int} (h : Row w g L) (hb : Below w.heap.size w w') : Row w' g L := by
  unfold Row; rw [hb.block g h.lt]; exact h
theorem Row.only {w w' : World} {g b : Nat} {L : List Int} (h : Row w g L) (ho : Only b w w') (hne : g ≠ b) : Row w' g L := by
  unfold Row; rw [ho.block g hne]; exact h
theorem Row.src {w : World} {g : Nat} {L : List Int} (h : Row w g L) (n : Nat) (hn : L.length = n) : Src w (some ⟨g, 0, none⟩) n L := by
  refine ⟨hn, fun _ => ⟨_, rfl, fun j v hj => ?_⟩⟩
  have := h.cellq j v hj
  by_cases hj0 : j = 0
  · subst hj0; simpa [Addr.add] using this
  · simpa [Addr.add, hj0] using this
theorem Src.below {w w' : World} {a : Option Addr} {n : Nat} {L : List Int} (h : Src w a n L) (hb : Below w.heap.size w w') : Src w' a n L := by
  refine ⟨h.1, fun hp => ?_⟩
  obtain ⟨ad, ha, hc⟩ := h.2 hp
  refine ⟨ad, ha, fun j v hj => ?_⟩
  have := hc j v hj
  rw [hb.cell (cell_block this)]; exact this
theorem Only.frozen {g : Nat} {w w' : World} (h : Only g w w') {p : Addr} (hp : p.block ≠ g) : w'.frozen? p = w.frozen? p := World.frozen?_of_block (w := w) (h.block p.block hp)
theorem Only.trans {g : Nat} {a b c : World} (h : Only g a b) (k : Only g b c) : Only g a c :=
  ⟨k.os.trans h.os, k.tape.trans h.tape, k.output.trans h.output, k.size.trans h.size, fun i hi => (k.block i hi).trans (h.block i hi)⟩
theorem new_below (w : World) (o : Obj) : Below w.heap.size w (w.alloc o) := (Below.refl _ _).alloc (Nat.le_refl _) o
/-- A slice of integers that came in: it is nil, or leads to a row of 'cap' numbers, each fitting its kind, of which the first 'len' are its elements. -/
def IsRow (k : IntKind) (w : World) (a : Option Addr) (len cap : Nat) (zs : List Int) : Prop :=
  (a = none ∧ len = 0 ∧ cap = 0 ∧ zs = []) ∨
  ∃ x, a = some x ∧ len ≤ cap ∧ cap ≤ maxLen ∧ zs.length = cap ∧ (∀ i, i < zs.length → w.cell? (x.add i) = some (.int k (zs.getD i 0))) ∧ ∀ n ∈ zs, (Lit.int k n).wf = true
theorem IsRow.src {w : World} {a : Option Addr} {len cap : Nat} {zs : List Int} (h : IsRow .u8 w a len cap zs) :
    Src w a len (zs.take len) ∧ Bts (zs.take len) ∧ len ≤ cap ∧ cap ≤ 9223372036854775807 := by
  rcases h with ⟨rfl, rfl, rfl, rfl⟩ | ⟨x, rfl, hl, hm, hz, hcell, hwz⟩
  · exact ⟨⟨rfl, fun h => absurd h (by omega)⟩, fun x hx => by simp at hx, Nat.le_refl _, by omega⟩
  · refine ⟨⟨by rw [List.length_take, hz]; omega, fun _ => ⟨x, rfl, fun j v hj => ?_⟩⟩, fun n hn => ?_, hl, by unfold maxLen at hm; omega⟩
    · have hlt : j < len := by
        rcases Nat.lt_or_ge j len with h | h
        · exact h
        · rw [List.getElem?_eq_none (by rw [List.length_take]; omega)] at hj; simp at hj
      rw [List.getElem?_take_of_lt hlt] at hj
      have := hcell j (by omega)
      rw [List.getD, hj] at this
      exact this
    · have hw := hwz n (List.mem_of_mem_take hn)
      have := bounds_u8 hw
      omega
theorem src_block {w : World} {a : Option Addr} {len : Nat} {L : List Int} (h : Src w a len L) : ∀ ad, 0 < len → a = some ad → ad.block < w.heap.size := by
  intro ad hp ha
  obtain ⟨ad', ha', hc⟩ := h.2 hp
  rw [ha] at ha'
  obtain rfl := Option.some.inj ha'
  have h0 := hc 0 (L[0]'(by rw [h.1]; exact hp)) (List.getElem?_eq_getElem _)
  have := cell_block h0
  have hb : (ad.add 0).block = ad.block := by unfold Addr.add; split <;> rfl
  rw [hb] at this
  exact this
theorem conv_src {w : World} {a : Option Addr} {n : Nat} {L : List Int} (h : Src w a n L) (cap : Nat) : (convert 22 9 (.slice a n cap)).run Try.prog w = .ok (.string (strOfNums L)) w := by
  by_cases hp : 0 < n
  · obtain ⟨g, off, rfl, hc⟩ := h.flat hp
    exact run_convert_bytes_arg (P := Try.prog) w 22 5 Try.underlying22 Try.underlying5 g off n cap L h.1 (fun i hi => hc i hi) 9 Try.underlying9
  · obtain rfl : n = 0 := by omega
    obtain rfl : L = [] := List.eq_nil_of_length_eq_zero h.1
    rw [run_convert_bytes_string w 22 9 5 a 0 cap Try.underlying22 Try.underlying5 Try.underlying9]
    cases a <;> simp [Conv.bytesToString, loadCells] <;> rfl
theorem src_take {w : World} {a : Option Addr} {len : Nat} {L : List Int} (h : Src w a len L) (m : Nat) (hm : m ≤ L.length) : Src w a m (L.take m) := by
  refine ⟨by rw [List.length_take]; omega, fun hp => ?_⟩
  obtain ⟨ad, ha, hc⟩ := h.2 (by rw [← h.1]; omega)
  refine ⟨ad, ha, fun j v hj => hc j v ?_⟩
  rw [List.getElem?_take] at hj
  split at hj
  · exact hj
  · simp at hj
theorem hid {p : Prop} (h : p) : Hid p := h
end

section

/-- A name: its bytes. -/
abbrev Nm := List UInt8

theorem nm_irr (n : Nm) : ¬ n < n := List.lt_irrefl n
theorem nm_trans {a b c : Nm} (h : a < b) (k : b < c) : a < c := List.lt_trans h k
theorem nm_tri {a b : Nm} (h : a ≠ b) (k : ¬ a < b) : b < a := by
  have h1 : b ≤ a := List.not_lt.1 k
  rcases Decidable.em (b < a) with h2 | h2
  · exact h2
  · exact absurd (List.le_antisymm (List.not_lt.1 h2) h1) h

section
variable {α β : Type}

/-- What is under a name. -/
def lk : List (Nm × α) → Nm → Option α
  | [], _ => none
  | (m, a) :: r, n => if m = n then some a else lk r n
/-- With one under a name, in order. -/
def put : List (Nm × α) → Nm → α → List (Nm × α)
  | [], n, a => [(n, a)]
  | (m, b) :: r, n, a => if n = m then (n, a) :: r else if n < m then (n, a) :: (m, b) :: r else (m, b) :: put r n a
/-- Without what is under a name. -/
def wo : List (Nm × α) → Nm → List (Nm × α)
  | [], _ => []
  | (m, b) :: r, n => if m = n then wo r n else (m, b) :: wo r n
/-- In order, each name once. -/
def Asc : List (Nm × α) → Prop
  | [] => True
  | (m, _) :: r => (∀ p ∈ r, m < p.1) ∧ Asc r
/-- All of something together. -/
def sm (f : α → Nat) : List (Nm × α) → Nat
  | [] => 0
  | (_, a) :: r => f a + sm f r
/-- Each turned into another. -/
def mp (g : α → β) (S : List (Nm × α)) : List (Nm × β) := S.map (fun p => (p.1, g p.2))

theorem lk_put : ∀ (S : List (Nm × α)) (n : Nm) (a : α) (m : Nm), lk (put S n a) m = if m = n then some a else lk S m
  | [], n, a, m => by
    simp only [put, lk]
    by_cases h : n = m
    · rw [if_pos h, if_pos h.symm]
    · rw [if_neg h, if_neg (fun e => h e.symm)]
  | (k, b) :: r, n, a, m => by
    simp only [put]
    split
    · rename_i h
      subst h
      simp only [lk]
      by_cases h1 : n = m
      · rw [if_pos h1, if_pos h1.symm]
      · rw [if_neg h1, if_neg (fun e => h1 e.symm), if_neg h1]
    · rename_i h
      split
      · rw [lk]
        by_cases h1 : n = m
        · rw [if_pos h1, if_pos h1.symm]
        · rw [if_neg h1, if_neg (fun e => h1 e.symm)]
      · simp only [lk]
        by_cases h1 : k = m
        · rw [if_pos h1, if_neg (fun e => h (by rw [h1, e]))]
          rw [if_pos h1]
        · rw [if_neg h1, lk_put r n a m, if_neg h1]

theorem lk_wo : ∀ (S : List (Nm × α)) (n m : Nm), lk (wo S n) m = if m = n then none else lk S m
  | [], n, m => by simp [wo, lk]
  | (k, b) :: r, n, m => by
    simp only [wo]
    split
    · rename_i h
      rw [lk_wo r n m]
      subst h
      by_cases h1 : m = k
      · rw [if_pos h1, if_pos h1]
      · rw [if_neg h1, if_neg h1]
        simp only [lk]
        rw [if_neg (fun e => h1 e.symm)]
    · rename_i h
      simp only [lk]
      by_cases h1 : k = m
      · subst h1
        rw [if_pos rfl, if_neg h, if_pos rfl]
      · rw [if_neg h1, lk_wo r n m, if_neg h1]

theorem mem_put : ∀ {S : List (Nm × α)} {n : Nm} {a : α} {p : Nm × α}, p ∈ put S n a → p = (n, a) ∨ p ∈ S
  | [], n, a, p, h => Or.inl (by simpa [put] using h)
  | (k, b) :: r, n, a, p, h => by
    simp only [put] at h
    split at h
    · rcases List.mem_cons.1 h with h | h
      · exact Or.inl h
      · exact Or.inr (List.mem_cons_of_mem _ h)
    · split at h
      · rcases List.mem_cons.1 h with h | h
        · exact Or.inl h
        · exact Or.inr h
      · rcases List.mem_cons.1 h with h | h
        · exact Or.inr (h ▸ List.mem_cons_self ..)
        · exact (mem_put h).imp id (List.mem_cons_of_mem _)

theorem mem_wo : ∀ {S : List (Nm × α)} {n : Nm} {p : Nm × α}, p ∈ wo S n → p ∈ S ∧ p.1 ≠ n
  | [], n, p, h => by simp [wo] at h
  | (k, b) :: r, n, p, h => by
    simp only [wo] at h
    split at h
    · exact ⟨List.mem_cons_of_mem _ (mem_wo h).1, (mem_wo h).2⟩
    · rename_i hk
      rcases List.mem_cons.1 h with h | h
      · subst h
        exact ⟨List.mem_cons_self .., hk⟩
      · exact ⟨List.mem_cons_of_mem _ (mem_wo h).1, (mem_wo h).2⟩

theorem asc_put : ∀ {S : List (Nm × α)} (n : Nm) (a : α), Asc S → Asc (put S n a)
  | [], n, a, _ => ⟨fun p hp => absurd hp (by simp), trivial⟩
  | (k, b) :: r, n, a, h => by
    simp only [put]
    split
    · rename_i e
      subst e
      exact h
    · rename_i e
      split
      · rename_i hl
        refine ⟨fun p hp => ?_, h⟩
        rcases List.mem_cons.1 hp with hp | hp
        · subst hp
          exact hl
        · exact nm_trans hl (h.1 p hp)
      · rename_i hl
        refine ⟨fun p hp => ?_, asc_put n a h.2⟩
        rcases mem_put hp with hp | hp
        · subst hp
          exact nm_tri e hl
        · exact h.1 p hp

theorem asc_wo : ∀ {S : List (Nm × α)} (n : Nm), Asc S → Asc (wo S n)
  | [], _, _ => trivial
  | (k, b) :: r, n, h => by
    simp only [wo]
    split
    · exact asc_wo n h.2
    · exact ⟨fun p hp => h.1 p (mem_wo hp).1, asc_wo n h.2⟩

theorem lk_above : ∀ {S : List (Nm × α)} {n : Nm}, (∀ p ∈ S, n < p.1) → lk S n = none
  | [], _, _ => rfl
  | (k, b) :: r, n, h => by
    have h1 := h (k, b) (List.mem_cons_self ..)
    simp only [lk]
    rw [if_neg (fun e => nm_irr k (by simpa [e] using h1))]
    exact lk_above (fun p hp => h p (List.mem_cons_of_mem _ hp))

theorem lk_mem : ∀ {S : List (Nm × α)} {n : Nm} {a : α}, lk S n = some a → (n, a) ∈ S
  | [], _, _, h => by simp [lk] at h
  | (k, b) :: r, n, a, h => by
    simp only [lk] at h
    split at h
    · rename_i e
      subst e
      obtain rfl := Option.some.inj h
      exact List.mem_cons_self ..
    · exact List.mem_cons_of_mem _ (lk_mem h)

theorem wo_none : ∀ {S : List (Nm × α)} {n : Nm}, lk S n = none → wo S n = S
  | [], _, _ => rfl
  | (k, b) :: r, n, h => by
    simp only [lk] at h
    split at h
    · cases h
    · rename_i e
      simp only [wo]
      rw [if_neg e, wo_none h]

/-- What is under a name, of something. -/
def at_ (f : α → Nat) : Option α → Nat
  | none => 0
  | some a => f a

theorem sm_put (f : α → Nat) : ∀ {S : List (Nm × α)} (n : Nm) (a : α), Asc S → sm f (put S n a) + at_ f (lk S n) = sm f S + f a
  | [], n, a, _ => by simp [put, sm, lk, at_]
  | (k, b) :: r, n, a, h => by
    simp only [put]
    split
    · rename_i e
      subst e
      simp only [sm, lk, if_true, at_]
      omega
    · rename_i e
      split
      · rename_i hl
        have h0 : lk r n = none := lk_above (fun p hp => nm_trans hl (h.1 p hp))
        simp only [sm, lk]
        rw [if_neg (fun e' => e e'.symm), h0]
        simp only [at_]
        omega
      · have := sm_put f n a h.2
        simp only [sm, lk]
        rw [if_neg (fun e' => e e'.symm)]
        omega

theorem sm_wo (f : α → Nat) : ∀ {S : List (Nm × α)} (n : Nm), Asc S → sm f (wo S n) + at_ f (lk S n) = sm f S
  | [], n, _ => by simp [wo, sm, lk, at_]
  | (k, b) :: r, n, h => by
    simp only [wo]
    split
    · rename_i e
      subst e
      have h0 : lk r k = none := lk_above (fun p hp => h.1 p hp)
      rw [wo_none h0]
      simp only [sm, lk, if_true, at_]
      omega
    · rename_i e
      have := sm_wo f n h.2
      simp only [sm, lk]
      rw [if_neg e]
      omega

theorem sm_len : ∀ (S : List (Nm × α)), sm (fun _ => 1) S = S.length
  | [] => rfl
  | (k, b) :: r => by
    simp only [sm, List.length_cons]
    rw [sm_len r]
    omega

theorem sm_at (f : α → Nat) : ∀ {S : List (Nm × α)} {n : Nm} {a : α}, lk S n = some a → f a ≤ sm f S
  | [], _, _, h => by simp [lk] at h
  | (k, b) :: r, n, a, h => by
    simp only [lk] at h
    simp only [sm]
    split at h
    · obtain rfl := Option.some.inj h
      omega
    · have := sm_at f h
      omega

theorem lk_mp (g : α → β) : ∀ (S : List (Nm × α)) (n : Nm), lk (mp g S) n = (lk S n).map g
  | [], n => rfl
  | (k, b) :: r, n => by
    have := lk_mp g r n
    simp only [mp, List.map_cons, lk] at this ⊢
    by_cases e : k = n
    · rw [if_pos e, if_pos e]; rfl
    · rw [if_neg e, if_neg e, this]

theorem put_mp (g : α → β) : ∀ (S : List (Nm × α)) (n : Nm) (a : α), mp g (put S n a) = put (mp g S) n (g a)
  | [], n, a => rfl
  | (k, b) :: r, n, a => by
    have := put_mp g r n a
    simp only [mp, put, List.map_cons] at this ⊢
    by_cases e : n = k
    · rw [if_pos e, if_pos e]; rfl
    · rw [if_neg e, if_neg e]
      by_cases h : n < k
      · rw [if_pos h, if_pos h]; rfl
      · rw [if_neg h, if_neg h, List.map_cons, this]

theorem asc_mp (g : α → β) : ∀ {S : List (Nm × α)}, Asc (mp g S) ↔ Asc S
  | [] => Iff.rfl
  | (k, b) :: r => by
    have := asc_mp g (S := r)
    simp only [mp, Asc, List.map_cons] at this ⊢
    refine and_congr ⟨fun h p hp => ?_, fun h p hp => ?_⟩ this
    · exact h (p.1, g p.2) (List.mem_map.2 ⟨p, hp, rfl⟩)
    · obtain ⟨q, hq, rfl⟩ := List.mem_map.1 hp
      exact h q hq

theorem sm_mp (g : α → β) (f : β → Nat) : ∀ (S : List (Nm × α)), sm f (mp g S) = sm (fun a => f (g a)) S
  | [] => rfl
  | (k, b) :: r => by
    have := sm_mp g f r
    simp only [mp, sm, List.map_cons] at this ⊢
    rw [this]

theorem len_mp (g : α → β) (S : List (Nm × α)) : (mp g S).length = S.length := by simp [mp]

theorem put_put : ∀ (S : List (Nm × α)) (n : Nm) (a b : α), put (put S n a) n b = put S n b
  | [], n, a, b => by simp [put]
  | (k, c) :: r, n, a, b => by
    simp only [put]
    by_cases e : n = k
    · rw [if_pos e, if_pos e]; simp [put]
    · rw [if_neg e, if_neg e]
      by_cases h : n < k
      · rw [if_pos h, if_pos h]; simp [put]
      · rw [if_neg h, if_neg h]
        simp only [put]
        rw [if_neg e, if_neg h, put_put r n a b]

theorem mp_mp {γ : Type} (g : α → β) (h : β → γ) (S : List (Nm × α)) : mp h (mp g S) = mp (fun a => h (g a)) S := by simp [mp]
/-- The names. -/
def nms (S : List (Nm × α)) : List Nm := S.map Prod.fst
theorem nms_len (S : List (Nm × α)) : (nms S).length = S.length := by simp [nms]
theorem mem_nms {S : List (Nm × α)} {n : Nm} : n ∈ nms S ↔ (lk S n).isSome = true := by
  constructor
  · intro h
    induction S with
    | nil => simp [nms] at h
    | cons p r ih =>
      obtain ⟨k, b⟩ := p
      simp only [lk]
      by_cases e : k = n
      · rw [if_pos e]; rfl
      · rw [if_neg e]
        refine ih ?_
        have h' : n = k ∨ n ∈ nms r := by simpa [nms] using h
        exact h'.resolve_left (fun x => e x.symm)
  · intro h
    obtain ⟨a, ha⟩ := Option.isSome_iff_exists.1 h
    exact List.mem_map.2 ⟨_, lk_mem ha, rfl⟩
theorem asc_nms : ∀ {S : List (Nm × α)}, Asc S → (nms S).Pairwise (fun x y => x < y)
  | [], _ => List.Pairwise.nil
  | (k, b) :: r, h => List.pairwise_cons.2 ⟨fun n hn => by
      obtain ⟨p, hp, rfl⟩ := List.mem_map.1 hn
      exact h.1 p hp, asc_nms h.2⟩
theorem nms_nodup {S : List (Nm × α)} (h : Asc S) : (nms S).Nodup :=
  (asc_nms h).imp (fun {a b} hab => fun (e : a = b) => nm_irr a (by rw [← e] at hab; exact hab))
/-- What is together, over the names in any order. -/
theorem sm_perm (f : α → Nat) {S : List (Nm × α)} (h : Asc S) {l : List Nm} (hp : l.Perm (nms S)) : (l.map (fun n => at_ f (lk S n))).sum = sm f S := by
  rw [(hp.map _).sum_nat]
  clear hp
  induction S with
  | nil => rfl
  | cons p r ih =>
    obtain ⟨k, b⟩ := p
    have e : ∀ n ∈ nms r, at_ f (lk ((k, b) :: r) n) = at_ f (lk r n) := fun n hn => by
      obtain ⟨q, hq, rfl⟩ := List.mem_map.1 hn
      have := h.1 q hq
      simp only [lk]
      rw [if_neg (fun e => nm_irr k (by rw [← e] at this; exact this))]
    show at_ f (lk ((k, b) :: r) k) + ((nms r).map (fun n => at_ f (lk ((k, b) :: r) n))).sum = f b + sm f r
    rw [List.map_congr_left e, ih h.2]
    simp [lk, at_]
end
end

section
open Go.RowKit Go.Sort Go.Maps

theorem law : Keyed Try.prog 9 := string_keyed Try.underlying9

/-- A pointer to a block, or none. -/
def pvo : Option Nat → Value
  | none => .pointer none
  | some g => .pointer (some ⟨g, 0, none⟩)
def pz : Option Nat → DataW Unit
  | none => .lit (.int .i64 (-1))
  | some g => .lit (.int .i64 (g : Int))
/-- How such a one reads, as an element of a map: as a number. -/
def pR (v : Value) : Option (DataW Unit × List MemPlace) :=
  match v with
  | .pointer none => some (pz none, [])
  | .pointer (some ⟨g, 0, none⟩) => some (pz (some g), [])
  | _ => none

theorem pR_mk (o : Option Nat) : pR (pvo o) = some (pz o, []) := by cases o <;> rfl

theorem pz_inj {o p : Option Nat} (h : pz o = pz p) : o = p := by
  cases o <;> cases p
  · rfl
  · simp [pz] at h
  · simp [pz] at h
  · simp [pz] at h; congr 1; omega

theorem pR_inv {v : Value} {o : Option Nat} {ps : List MemPlace} (h : pR v = some (pz o, ps)) : v = pvo o := by
  unfold pR at h
  split at h
  · have h1 : pz none = pz o := by simpa using congrArg Prod.fst (Option.some.inj h)
    rw [← pz_inj h1]; rfl
  · rename_i g
    have h1 : pz (some g) = pz o := by simpa using congrArg Prod.fst (Option.some.inj h)
    rw [← pz_inj h1]; rfl
  · cases h

theorem pR_some {v : Value} {y : DataW Unit × List MemPlace} (h : pR v = some y) : ∃ o, v = pvo o ∧ y.1 = pz o := by
  unfold pR at h
  split at h
  · exact ⟨none, rfl, by rw [← Option.some.inj h]⟩
  · rename_i g
    exact ⟨some g, rfl, by rw [← Option.some.inj h]⟩
  · cases h

/-- A file: its bytes, how many are sure. -/
structure Fl where
  b : List Int
  s : Nat
/-- A file in memory: its block and its slice besides. -/
structure Fi where
  b : List Int
  s : Nat
  g : Nat
  v : Value
/-- What it is. -/
def Fi.fl (f : Fi) : Fl := ⟨f.b, f.s⟩
/-- How many bytes. -/
def Fl.n (f : Fl) : Nat := f.b.length

theorem keyOf_nm {n : Nm} (hn : n.length ≤ maxLen) : keyOf Try.prog 9 (encStr n) = some (.string n) := by
  have := Go.WideMaps.keyOf_string_mk (P := Try.prog) (k := 9) Try.underlying9 (s := ⟨n.toArray⟩) (by show n.toArray.size ≤ maxLen; simpa using hn)
  simpa [encStr] using this

/-- Block m is the map of these files. -/
def MP (w : World) (m : Nat) (S : List (Nm × Fi)) : Prop := ∃ D : DataW Unit, w.ownsMap Try.prog 9 pR m S.length D ∧ ∀ n, Maps.has D (.string n) = (lk S n).isSome ∧ D.atKey (.string n) (pz none) = pz ((lk S n).map Fi.g)

theorem zeroPtr (w : World) : (zeroValue 57).run Try.prog w = .ok (pvo none) w := Try.zeroValue57 w

theorem MP.made (w : World) : MP (w.alloc (.map #[] 0)) w.heap.size [] := ⟨_, World.ownsMap_made _ _ _ _, fun _ => ⟨rfl, rfl⟩⟩

theorem MP.lt {w : World} {m : Nat} {S : List (Nm × Fi)} (h : MP w m S) : m < w.heap.size := by
  obtain ⟨D, ho, _⟩ := h
  exact ho.lt

theorem MP.same {w w' : World} {m : Nat} {S : List (Nm × Fi)} (h : MP w m S) (hs : w'.heap[m]? = w.heap[m]?) : MP w' m S := by
  obtain ⟨D, ⟨es, clock, h1, h2⟩, hT⟩ := h
  exact ⟨D, ⟨es, clock, by rw [hs]; exact h1, h2⟩, hT⟩

theorem MP.look {w : World} {m : Nat} {S : List (Nm × Fi)} (h : MP w m S) {n : Nm} (hn : n.length ≤ maxLen) : (Instr.lookup 51 (.map (some m)) (encStr n) false).run Try.prog w = .ok (pvo ((lk S n).map Fi.g)) w := by
  obtain ⟨D, ho, hT⟩ := h
  obtain ⟨v, ps, hr, hv⟩ := ho.lookup law Try.underlying51 (zeroPtr w) (pR_mk none) (keyOf_nm hn)
  rw [(hT n).2] at hv
  rw [hr, pR_inv hv]

theorem own_tight {w : World} {b n n' : Nat} {D : DataW Unit} {R : Value → Option (DataW Unit × List MemPlace)} (h : w.ownsMap Try.prog 9 R b n D) (hs : Maps.size D ≤ n') : w.ownsMap Try.prog 9 R b n' D := by
  obtain ⟨es, clock, h1, h2, h3, rfl⟩ := h
  refine ⟨es, clock, h1, h2, ?_, rfl⟩
  simpa [Maps.size, length_sorted] using hs

/-- The keys are the names, in some order. -/
theorem keys_nms {w : World} {b n : Nat} {D : DataW Unit} {R : Value → Option (DataW Unit × List MemPlace)} (h : w.ownsMap Try.prog 9 R b n D) {S : List (Nm × Fi)} (hA : Asc S) (hT : ∀ n, Maps.has D (.string n) = (lk S n).isSome) : (strKeys D).Perm (nms S) := by
  obtain ⟨es, hD, hpw, _⟩ := h.entries law
  obtain ⟨es', hD', hko⟩ := h.keysOf
  obtain rfl : es = es' := by rw [hD] at hD'; simpa using hD'
  subst hD
  exact (perm_strKeys hpw (fun p hp => by obtain ⟨v, hv⟩ := hko p hp; obtain ⟨x, _, hx, _⟩ := Maps.keyOf_str Try.underlying9 hv; exact ⟨x, hx⟩) (nms_nodup hA) (fun x => by rw [mem_nms, hT])).symm

theorem size_keys {w : World} {b n : Nat} {D : DataW Unit} {R : Value → Option (DataW Unit × List MemPlace)} (h : w.ownsMap Try.prog 9 R b n D) : Maps.size D = (strKeys D).length := by
  obtain ⟨es, hD, _⟩ := h.entries law
  subst hD
  simp [Maps.size, strKeys]

theorem MP.full {w : World} {m : Nat} {S : List (Nm × Fi)} (h : MP w m S) (hA : Asc S) : ∃ D : DataW Unit, w.ownsMap Try.prog 9 pR m S.length D ∧ Maps.size D = S.length ∧ (strKeys D).Perm (nms S) ∧ ∀ n, Maps.has D (.string n) = (lk S n).isSome ∧ D.atKey (.string n) (pz none) = pz ((lk S n).map Fi.g) := by
  obtain ⟨D, ho, hT⟩ := h
  have hp := keys_nms ho hA (fun n => (hT n).1)
  exact ⟨D, ho, by rw [size_keys ho, hp.length_eq, nms_len], hp, hT⟩

theorem MP.ins {w : World} {m : Nat} {S : List (Nm × Fi)} (h : MP w m S) (hA : Asc S) {n : Nm} (hn : n.length ≤ maxLen) (f : Fi) (hs : S.length ≤ 1000) : ∃ w', (Instr.mapUpdate 51 (.map (some m)) (encStr n) (.pointer (some ⟨f.g, 0, none⟩))).run Try.prog w = .ok () w' ∧ MP w' m (put S n f) ∧ w.grownBy w' (some m) := by
  obtain ⟨D, ho, hT⟩ := h
  obtain ⟨w', hr, ho', hg⟩ := ho.update law Try.underlying51 (by unfold maxLen; omega) (keyOf_nm hn) (pR_mk (some f.g))
  have hT' : ∀ k, Maps.has (D.put (.string n) (pz (some f.g))) (.string k) = (lk (put S n f) k).isSome ∧ (D.put (.string n) (pz (some f.g))).atKey (.string k) (pz none) = pz ((lk (put S n f) k).map Fi.g) := fun k => by
    rw [lk_put]
    by_cases e : k = n
    · subst e
      simp only [if_true]
      exact ⟨by rw [has_put_same ho.isMap (law.key (keyOf_nm hn))]; rfl, by rw [atKey_put_same ho.isMap (law.key (keyOf_nm hn)) _ _]; rfl⟩
    · have hne : (Lit.string k) ≠ .string n := fun h' => e (by simpa using h')
      rw [if_neg e]
      exact ⟨by rw [has_put_other hne]; exact (hT k).1, by rw [atKey_put_other hne]; exact (hT k).2⟩
  refine ⟨w', hr, ⟨_, own_tight ho' ?_, hT'⟩, hg⟩
  have hp := keys_nms ho' (asc_put n f hA) (fun k => (hT' k).1)
  rw [size_keys ho', hp.length_eq, nms_len]
  exact Nat.le_refl _

/-- What is no memory is as it was. -/
def Sm (w w' : World) : Prop := w'.os = w.os ∧ w'.tape = w.tape ∧ w'.output = w.output
theorem Sm.refl (w : World) : Sm w w := ⟨rfl, rfl, rfl⟩
theorem Sm.trans {a b c : World} (h : Sm a b) (k : Sm b c) : Sm a c := ⟨k.1.trans h.1, k.2.1.trans h.2.1, k.2.2.trans h.2.2⟩
theorem Sm.g {w w' : World} {row : Option Nat} (h : w.grownBy w' row) : Sm w w' := ⟨h.os, h.tape, h.output⟩
theorem Sm.b {n : Nat} {w w' : World} (h : Below n w w') : Sm w w' := ⟨h.os, h.tape, h.output⟩

/-- All that isn't one's own is as it was; what is one's own now was, or is new. -/
structure KA (w w' : World) (A A' : Nat → Prop) : Prop where
  size : w.heap.size ≤ w'.heap.size
  keep : ∀ j, j < w.heap.size → ¬ A j → w'.heap[j]? = w.heap[j]?
  new : ∀ j, A' j → A j ∨ w.heap.size ≤ j
  sm : Sm w w'

theorem KA.trans {w V X : World} {A A1 A2 : Nat → Prop} (h : KA w V A A1) (k : KA V X A1 A2) : KA w X A A2 :=
  ⟨Nat.le_trans h.size k.size, fun j hj hA => (k.keep j (Nat.lt_of_lt_of_le hj h.size) (fun e => by
    rcases h.new j e with e | e
    · exact hA e
    · omega)).trans (h.keep j hj hA), fun j hj => by
    rcases k.new j hj with e | e
    · exact h.new j e
    · exact Or.inr (Nat.le_trans h.size e), h.sm.trans k.sm⟩
theorem KA.below {w w' : World} {A : Nat → Prop} (h : Below w.heap.size w w') : KA w w' A A := ⟨h.size, fun j hj _ => h.block j hj, fun _ h => Or.inl h, Sm.b h⟩
theorem KA.refl (w : World) (A : Nat → Prop) : KA w w A A := ⟨Nat.le_refl _, fun _ _ _ => rfl, fun _ h => Or.inl h, Sm.refl _⟩

/-- The files, each in memory of its own. -/
structure FW (w : World) (M : Nm → Option Fi) (A : Nat → Prop) : Prop where
  file : ∀ n f, M n = some f → w.heap[f.g]? = some (.cells #[f.v, .int .i64 (f.s : Int)] 60 (0, 0))
  row : ∀ n f, M n = some f → w.ownsRow 0 5 1 f.v f.b.length (f.b.map (Value.int .u8))
  own : ∀ n f, M n = some f → A f.g ∧ ∀ k, f.v.ownBlock = some k → A k
  ok : ∀ n f, M n = some f → Bts f.b ∧ f.s ≤ f.b.length
  apg : ∀ n n' f f', M n = some f → M n' = some f' → f.g = f'.g → n = n'
  apv : ∀ n n' f f' k, M n = some f → M n' = some f' → f.v.ownBlock = some k → f'.v.ownBlock = some k → n = n'

theorem row_kept5 {w w' : World} {v : Value} {n : Nat} {xs : List Value} (h : w.ownsRow 0 5 1 v n xs) (hk : ∀ k, v.ownBlock = some k → w'.heap[k]? = w.heap[k]?) : w'.ownsRow 0 5 1 v n xs := by
  refine ⟨h.1, ?_⟩
  rcases h.2 with h' | ⟨g, cap, cur, e, hb, hg, hn, hc, hs, ht⟩
  · exact Or.inl h'
  · exact Or.inr ⟨g, cap, cur, e, hb, by rw [hk g (by rw [e]; rfl)]; exact hg, hn, hc, hs, ht⟩

theorem row_lt5 {w : World} {v : Value} {n : Nat} {xs : List Value} (h : w.ownsRow 0 5 1 v n xs) {k : Nat} (hk : v.ownBlock = some k) : k < w.heap.size ∧ ∃ cs, w.heap[k]? = some (.cells cs 5 (0, 0)) := by
  rcases h.2 with ⟨e, _⟩ | ⟨g, cap, cur, e, hb, hg, hn, hc, hs, ht⟩
  · rw [e] at hk; simp [Value.ownBlock] at hk
  · rw [e] at hk
    simp only [Value.ownBlock, Option.some.injEq] at hk
    subst hk
    exact ⟨(Array.getElem?_eq_some_iff.1 hg).1, cur, hg⟩

theorem FW.kept {w w' : World} {M : Nm → Option Fi} {A : Nat → Prop} (h : FW w M A) (hk : ∀ j, A j → w'.heap[j]? = w.heap[j]?) : FW w' M A :=
  ⟨fun n f e => (hk _ (h.own n f e).1).trans (h.file n f e), fun n f e => row_kept5 (h.row n f e) (fun k hkk => hk _ ((h.own n f e).2 k hkk)), h.own, h.ok, h.apg, h.apv⟩

theorem FW.mono {w : World} {M : Nm → Option Fi} {A A' : Nat → Prop} (h : FW w M A) (hb : ∀ j, A j → A' j) : FW w M A' :=
  ⟨h.file, h.row, fun n f e => ⟨hb _ (h.own n f e).1, fun k hk => hb _ ((h.own n f e).2 k hk)⟩, h.ok, h.apg, h.apv⟩

/-- A file's block is no row's. -/
theorem FW.gv {w : World} {M : Nm → Option Fi} {A : Nat → Prop} (h : FW w M A) {n n' : Nm} {f f' : Fi} (e : M n = some f) (e' : M n' = some f') : f'.v.ownBlock ≠ some f.g := by
  intro hk
  obtain ⟨_, cs, hc⟩ := row_lt5 (h.row n' f' e') hk
  rw [h.file n f e] at hc
  cases hc

/-- One file is another one, or a new one; the others are as they were. -/
theorem FW.upd {w w' : World} {M : Nm → Option Fi} {A A' : Nat → Prop} (h : FW w M A) (n : Nm) (f : Fi) (hA : ∀ j, A j → A' j)
    (hf : w'.heap[f.g]? = some (.cells #[f.v, .int .i64 (f.s : Int)] 60 (0, 0))) (hr : w'.ownsRow 0 5 1 f.v f.b.length (f.b.map (Value.int .u8))) (ho : A' f.g ∧ ∀ k, f.v.ownBlock = some k → A' k) (hb : Bts f.b ∧ f.s ≤ f.b.length)
    (hk : ∀ m f', m ≠ n → M m = some f' → w'.heap[f'.g]? = w.heap[f'.g]? ∧ f'.g ≠ f.g ∧ ∀ k, f'.v.ownBlock = some k → w'.heap[k]? = w.heap[k]? ∧ f.v.ownBlock ≠ some k) : FW w' (fun m => if m = n then some f else M m) A' := by
  have hM : ∀ m f', (if m = n then some f else M m) = some f' → (m = n ∧ f' = f) ∨ (m ≠ n ∧ M m = some f') := fun m f' e => by
    by_cases hm : m = n
    · rw [if_pos hm] at e; exact Or.inl ⟨hm, (Option.some.inj e).symm⟩
    · rw [if_neg hm] at e; exact Or.inr ⟨hm, e⟩
  refine ⟨fun m f' e => ?_, fun m f' e => ?_, fun m f' e => ?_, fun m f' e => ?_, fun m m' f1 f2 e e' eg => ?_, fun m m' f1 f2 k e e' h1 h2 => ?_⟩
  · rcases hM m f' e with ⟨_, rfl⟩ | ⟨hm, e⟩
    · exact hf
    · exact (hk m f' hm e).1.trans (h.file m f' e)
  · rcases hM m f' e with ⟨_, rfl⟩ | ⟨hm, e⟩
    · exact hr
    · exact row_kept5 (h.row m f' e) (fun k hkk => ((hk m f' hm e).2.2 k hkk).1)
  · rcases hM m f' e with ⟨_, rfl⟩ | ⟨hm, e⟩
    · exact ho
    · exact ⟨hA _ (h.own m f' e).1, fun k hkk => hA _ ((h.own m f' e).2 k hkk)⟩
  · rcases hM m f' e with ⟨_, rfl⟩ | ⟨hm, e⟩
    · exact hb
    · exact h.ok m f' e
  · rcases hM m f1 e with ⟨hm, x1⟩ | ⟨hm, y1⟩ <;> rcases hM m' f2 e' with ⟨hm', x2⟩ | ⟨hm', y2⟩
    · rw [hm, hm']
    · exact absurd (by rw [← eg, x1]) (hk m' f2 hm' y2).2.1
    · exact absurd (by rw [eg, x2]) (hk m f1 hm y1).2.1
    · exact h.apg m m' f1 f2 y1 y2 eg
  · rcases hM m f1 e with ⟨hm, x1⟩ | ⟨hm, y1⟩ <;> rcases hM m' f2 e' with ⟨hm', x2⟩ | ⟨hm', y2⟩
    · rw [hm, hm']
    · exact absurd (by rw [← x1]; exact h1) ((hk m' f2 hm' y2).2.2 k h2).2
    · exact absurd (by rw [← x2]; exact h2) ((hk m f1 hm y1).2.2 k h1).2
    · exact h.apv m m' f1 f2 k y1 y2 h1 h2

/-- A disk in memory, whose power and cut are as they are: d its block, m the map's; A: its own blocks. -/
structure DA (w : World) (d m : Nat) (cv : Value) (room : Nat) (off : Bool) (S : List (Nm × Fi)) (A : Nat → Prop) : Prop where
  blk : w.heap[d]? = some (.cells #[.int .i64 (room : Int), .map (some m), .bool off, cv] 54 (0, 0))
  map : MP w m S
  files : FW w (lk S) A
  asc : Asc S
  few : S.length ≤ 100
  fits : sm (fun f => f.b.length) S ≤ room
  small : room ≤ 16777216
  nice : ∀ n f, lk S n = some f → n.length ≤ 32
  own : A d ∧ A m
  lt : ∀ j, A j → j < w.heap.size

theorem DA.same {w w' : World} {d m : Nat} {cv : Value} {room : Nat} {off : Bool} {S : List (Nm × Fi)} {A : Nat → Prop} (h : DA w d m cv room off S A) (hk : ∀ j, A j → w'.heap[j]? = w.heap[j]?) (hz : w.heap.size ≤ w'.heap.size) : DA w' d m cv room off S A :=
  ⟨(hk d h.own.1).trans h.blk, h.map.same (hk m h.own.2), h.files.kept hk, h.asc, h.few, h.fits, h.small, h.nice, h.own, fun j hj => Nat.lt_of_lt_of_le (h.lt j hj) hz⟩
theorem DA.below {w w' : World} {d m : Nat} {cv : Value} {room : Nat} {off : Bool} {S : List (Nm × Fi)} {A : Nat → Prop} (h : DA w d m cv room off S A) (hb : Below w.heap.size w w') : DA w' d m cv room off S A :=
  h.same (fun j hj => hb.block j (h.lt j hj)) hb.size
/-- The disk's block is no file's, no row's, no map's. -/
theorem DA.ne {w : World} {d m : Nat} {cv : Value} {room : Nat} {off : Bool} {S : List (Nm × Fi)} {A : Nat → Prop} (h : DA w d m cv room off S A) : d ≠ m ∧ (∀ n f, lk S n = some f → f.g ≠ d ∧ f.g ≠ m ∧ f.v.ownBlock ≠ some d ∧ f.v.ownBlock ≠ some m ∧ f.v.ownBlock ≠ some f.g) := by
  obtain ⟨D, ⟨es, clock, hm, _⟩, _⟩ := h.map
  refine ⟨fun e => ?_, fun n f e => ⟨fun e' => ?_, fun e' => ?_, fun e' => ?_, fun e' => ?_, h.files.gv e e⟩⟩
  · have := h.blk
    rw [e, hm] at this
    cases this
  · have := h.files.file n f e
    rw [e', h.blk] at this
    simp at this
  · have := h.files.file n f e
    rw [e', hm] at this
    cases this
  · obtain ⟨_, cs, hc⟩ := row_lt5 (h.files.row n f e) e'
    rw [h.blk] at hc
    cases hc
  · obtain ⟨_, cs, hc⟩ := row_lt5 (h.files.row n f e) e'
    rw [hm] at hc
    cases hc
end

section
set_option linter.unusedVariables false
set_option linter.unusedSimpArgs false
open Go.RowKit

/-- May a byte stand in a name? -/
def stB (c : Nat) : Bool := (decide (97 ≤ c) && decide (c ≤ 122)) || (decide (65 ≤ c) && decide (c ≤ 90)) || (decide (48 ≤ c) && decide (c ≤ 57)) || decide (c = 45) || decide (c = 46)
/-- May a text be a name? -/
def mayB (n : Nm) : Bool := decide (1 ≤ n.length) && decide (n.length ≤ 32) && n.all (fun c => stB c.toNat)

theorem tl_length (s : ByteArray) : s.data.toList.length = s.size := by rw [Array.length_toList]; rfl
theorem ret_bool {a b : Bool} (h : a = b) : Ending.returned (.bool a) = .returned (.bool b) := by rw [h]

set_option maxRecDepth 100000 in
set_option maxHeartbeats 4000000 in
theorem stands_any (c : Nat) (hc : c < 256) (w : World) : Calls Try.prog 38 #[.int .u8 (c : Int)] w fun e w' => e = .returned (.bool (stB c)) ∧ w = w' := by
  go_enter Try.func38, Try.ntmps38
  go_wp2
  all_goals (go_ret; refine ⟨ret_bool ?_, rfl⟩; rw [Bool.eq_iff_iff]; simp [stB]; omega)

theorem tl_get (s : ByteArray) (i : Nat) (h : i < s.size) : s.data.toList[i]'(by rw [tl_length]; exact h) = s[i] := rfl
theorem may_short (s : ByteArray) (h : s.size < 1 ∨ 32 < s.size) : mayB s.data.toList = false := by
  unfold mayB
  rw [tl_length]
  rcases h with h | h
  · rw [show decide (1 ≤ s.size) = false from decide_eq_false (by omega)]; rfl
  · rw [show decide (s.size ≤ 32) = false from decide_eq_false (by omega)]; simp
theorem may_out (s : ByteArray) (i : Nat) (h : i < s.size) (ho : stB (s[i].toNat) = false) : mayB s.data.toList = false := by
  unfold mayB
  have : (s.data.toList.all fun c => stB c.toNat) = false := by
    rw [List.all_eq_false]
    exact ⟨_, List.getElem_mem (by rw [tl_length]; exact h : i < s.data.toList.length), by rw [tl_get s i h, ho]; simp⟩
  rw [this]
  simp
theorem may_in (s : ByteArray) (h : 1 ≤ s.size) (h2 : s.size ≤ 32) (ha : ∀ j (hj : j < s.size), stB (s[j].toNat) = true) : mayB s.data.toList = true := by
  unfold mayB
  have : (s.data.toList.all fun c => stB c.toNat) = true := by
    rw [List.all_eq_true]
    intro c hc
    obtain ⟨j, hj, rfl⟩ := List.mem_iff_getElem.1 hc
    have hj' : j < s.size := by rw [tl_length] at hj; exact hj
    rw [tl_get s j hj']; exact ha j hj'
  rw [this, tl_length, decide_eq_true h, decide_eq_true h2]
  rfl

theorem stands_at (c : UInt8) (b : Bool) (hb : Hid (stB c.toNat = b)) (w : World) : Calls Try.prog 38 #[.int .u8 (c.toNat : Int)] w fun e w' => e = .returned (.bool b) ∧ w = w' := by
  have := stands_any c.toNat c.toNat_lt w
  rw [hb.out] at this
  exact this

set_option maxRecDepth 100000 in
set_option maxHeartbeats 4000000 in
theorem may_any (s : ByteArray) (w : World) (hs : s.size ≤ maxLen) : Calls Try.prog 26 #[.string s] w fun e w' => e = .returned (.bool (mayB s.data.toList)) ∧ w = w' := by
  unfold maxLen at hs
  by_cases h0 : s.size < 1 ∨ 32 < s.size
  · rw [may_short s h0]
    go_enter Try.func26, Try.ntmps26
    rcases h0 with h0 | h0
    · go_wp2
      all_goals (go_ret; exact ⟨rfl, rfl⟩)
    · go_wp2
      all_goals first
        | (go_ret; exact ⟨rfl, rfl⟩)
        | (exfalso; omega)
  have hp : 1 ≤ s.size := by omega
  have hq : s.size ≤ 32 := by omega
  clear h0
  go_enter Try.func26, Try.ntmps26
  go_wp2
  go_loop [14, 3] (fun i j => ∃ k : Nat, k ≤ s.size ∧ i = .int .i64 k ∧ Hid (∀ j (hj : j < s.size), j < k → stB (s[j].toNat) = true)) (fun i _ => s.size - (intOf i).toNat)
  case atStart => exact ⟨0, Nat.zero_le _, rfl, hid (fun j _ h => by omega)⟩
  case round =>
    obtain ⟨k, hk, rfl, HH⟩ := hrel
    by_cases hlt : k < s.size
    · cases hb : stB (s[k].toNat)
      · have e := hid (may_out s k hlt hb)
        have hb := hid hb
        go_wp2_with (go_at_call 38; refine (stands_at _ false hb _).mono ?_; rintro e w' ⟨rfl, rfl⟩)
        go_ret
        rw [e.out]
        exact ⟨rfl, rfl⟩
      · have hb := hid hb
        go_wp2_with (go_at_call 38; refine (stands_at _ true hb _).mono ?_; rintro e w' ⟨rfl, rfl⟩)
        go_round
        case rel => exact ⟨k + 1, by omega, by go_num, hid (fun j hj h => by
          by_cases hjk : j = k
          · subst hjk; exact hb.out
          · exact HH.out j hj (by omega))⟩
        case measure => simp [intOf]; omega
    · have e := hid (may_in s hp hq (fun j hj => HH.out j hj (by omega)))
      go_wp2
      go_ret
      rw [e.out]
      exact ⟨rfl, rfl⟩
end
end Go.Proofs.Ytegikicpffoglaa
