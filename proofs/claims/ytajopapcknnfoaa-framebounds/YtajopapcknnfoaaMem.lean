/- What blocks of memory hold, what stays as it was behind a call, bytes and rows that came in: no function of the program in sight. -/
import Derived.Test.YtajopapcknnfoaaRows
import Derived.Test.YtajopapcknnfoaaBytes
import Derived.WalkKit
import Derived.WalkSpells
import Derived.WalkLawsBesides
import Derived.Laws.CopyOwn
import Derived.Laws.BytesArg
import Derived.Lib.AppendStr
import Derived.Lib.BufferWrite
import Derived.OpenShut
namespace Go.Proofs.Ytajopapcknnfoaa
open Go.RowKit

/-- Block g holds just these bytes. -/
def Row (w : World) (g : Nat) (L : List Int) : Prop := w.heap[g]? = some (.cells (L.map (Value.int .u8)).toArray 5 (0, 0))
/-- At most block g has turned. -/
structure Only (g : Nat) (w w' : World) : Prop where
  os : w'.os = w.os
  tape : w'.tape = w.tape
  output : w'.output = w.output
  size : w'.heap.size = w.heap.size
  block : ∀ k, k ≠ g → w'.heap[k]? = w.heap[k]?
theorem Row.cell {w : World} {g : Nat} {L : List Int} (h : Row w g L) (i : Nat) (hi : i < L.length) : w.cell? ⟨g, i, none⟩ = some (.int .u8 (L[i])) := by
  rw [cell_of_row w g i _ 5 (0, 0) h]; simp [hi]
theorem Row.cellq {w : World} {g : Nat} {L : List Int} (h : Row w g L) (i : Nat) (v : Int) (hi : L[i]? = some v) : w.cell? ⟨g, i, none⟩ = some (.int .u8 v) := by
  rw [cell_of_row w g i _ 5 (0, 0) h]; simp [hi]
theorem Row.frozen {w : World} {g : Nat} {L : List Int} (h : Row w g L) (i : Nat) : w.frozen? ⟨g, i, none⟩ = false := frozen_of_row w g i _ 5 h
theorem Row.set {w : World} {g : Nat} {L : List Int} (h : Row w g L) (i : Nat) (v : Int) : Row (w.setCell ⟨g, i, none⟩ (.int .u8 v)) g (L.set i v) := by
  have := heap_setCell_same w g i _ 5 (.int .u8 v) h
  unfold Row; rw [this]; simp [List.map_set]
theorem Only.refl (g : Nat) (w : World) : Only g w w := ⟨rfl, rfl, rfl, rfl, fun _ _ => rfl⟩
theorem Only.setCell {g : Nat} {w w' : World} (h : Only g w w') (i : Nat) (v : Value) : Only g w (w'.setCell ⟨g, i, none⟩ v) :=
  ⟨h.os, h.tape, h.output, by simpa using h.size, fun k hk => (heap_setCell_other w' ⟨g, i, none⟩ k v hk).trans (h.block k hk)⟩
theorem Only.drew {g : Nat} {w w' : World} (h : Only g w w') : Only g w w'.drew := ⟨h.os, h.tape, h.output, h.size, h.block⟩
theorem Only.below {g B : Nat} {w w' : World} (h : Only g w w') (hB : B ≤ g) : Below B w w' :=
  ⟨h.os, h.tape, h.output, Nat.le_of_eq h.size.symm, fun k hk => h.block k (by omega)⟩
/-- The bytes that a slice value leads to. -/
def Src (w : World) (a : Option Addr) (len : Nat) (L : List Int) : Prop :=
  L.length = len ∧ (0 < len → ∃ ad, a = some ad ∧ ∀ j v, L[j]? = some v → w.cell? (ad.add j) = some (.int .u8 v))
theorem Try.info5 : (Try.prog.info? 5).map (fun i => (i.zero, i.size, i.bytes)) = some (some (.int .u8 0), 1, 1) := by kernel_rfl
theorem Try.size5 : (Try.prog.info? 5).map (·.size) = some 1 := by kernel_rfl
theorem row_made {w' : World} {B n : Nat} (h : w'.ownsRow B 5 1 (.slice (some ⟨B, 0, none⟩) n n) n (madeCells (Value.int .u8 0).cells (n * 1)).toList) : Row w' B (List.replicate n 0) := by
  rcases h.2 with ⟨h', _⟩ | ⟨g, cap, cur, h', _, hg, _, _, hcs, ht⟩
  · simp at h'
  · simp only [Value.slice.injEq, Option.some.injEq, Addr.mk.injEq, and_true, true_and] at h'
    obtain ⟨rfl, rfl⟩ := h'
    unfold Row
    rw [hg]
    have e1 : cur.toList = List.replicate n (Value.int .u8 0) := by
      rw [← List.take_of_length_le (l := cur.toList) (i := n * 1) (by simp [hcs]), ht]
      have := toList_madeCells_one (Value.int .u8 0) n
      simpa [Value.cells] using this
    have e2 : cur = (List.replicate n (Value.int .u8 0)).toArray := by rw [← e1]
    rw [e2]; simp
theorem src_row {w : World} {g n : Nat} (h : Hid (Row w g (List.replicate n 0))) : w.heap[g]? = some (.cells (List.replicate n (Value.int .u8 0)).toArray 5 (0, 0)) := by
  have := h.out
  unfold Row at this
  simpa using this
theorem cell_block {w : World} {p : Addr} {v : Value} (h : w.cell? p = some v) : p.block < w.heap.size := by
  rcases Nat.lt_or_ge p.block w.heap.size with hlt | hge
  · exact hlt
  · simp [World.cell?, Array.getElem?_eq_none hge] at h
theorem src_pos {w w1 : World} {a : Option Addr} {len g : Nat} {L : List Int} (hs : Src w a len L) (hb : Below w.heap.size w w1) :
    0 < (L.map (Value.int .u8)).length → some (⟨g, 0, none⟩ : Addr) = some ⟨g, 0, none⟩ ∧ ∃ ad, a = some ad ∧ ∀ j v, (L.map (Value.int .u8))[j]? = some v → w1.cell? (ad.add j) = some v := by
  intro h
  obtain ⟨ad, ha, hc⟩ := hs.2 (by rw [List.length_map, hs.1] at h; exact h)
  refine ⟨rfl, ad, ha, ?_⟩
  intro j v hj
  rw [List.getElem?_map, Option.map_eq_some_iff] at hj
  obtain ⟨x, hx, rfl⟩ := hj
  have := hc j x hx
  rw [hb.cell (cell_block this)]
  exact this
theorem Row.lt {w : World} {g : Nat} {L : List Int} (h : Row w g L) : g < w.heap.size := by
  rcases Nat.lt_or_ge g w.heap.size with hlt | hge
  · exact hlt
  · unfold Row at h; simp [Array.getElem?_eq_none hge] at h
theorem ret_int {k : IntKind} {a b : Int} (h : a = b) : Ending.returned (.int k a) = .returned (.int k b) := by rw [h]
theorem Src.flat {w : World} {a : Option Addr} {len : Nat} {L : List Int} (h : Src w a len L) (hp : 0 < len) :
    ∃ g off, a = some ⟨g, off, none⟩ ∧ ∀ j, j < len → w.cell? ⟨g, off + j, none⟩ = some (.int .u8 (L[j]?.getD 0)) := by
  obtain ⟨ad, ha, hc⟩ := h.2 hp
  obtain ⟨g, off, sp⟩ := ad
  have h0 := hc 0 (L[0]?.getD 0) (by rw [List.getElem?_eq_getElem (by rw [h.1]; exact hp)]; rfl)
  have hspot : sp = none := by simpa [Addr.add] using World.cell?_spot h0
  subst hspot
  refine ⟨g, off, ha, fun j hj => ?_⟩
  have := hc j (L[j]?.getD 0) (by rw [List.getElem?_eq_getElem (by rw [h.1]; exact hj)]; rfl)
  by_cases hj0 : j = 0
  · subst hj0; simpa [Addr.add] using this
  · simpa [Addr.add, hj0] using this
theorem Only.cell {g : Nat} {w w' : World} (h : Only g w w') {p : Addr} (hp : p.block ≠ g) : w'.cell? p = w.cell? p := World.cell?_of_block (w := w) (h.block p.block hp)
theorem Src.only {g : Nat} {w w' : World} {a : Option Addr} {len : Nat} {L : List Int} (h : Src w a len L) (ho : Only g w w') (hne : ∀ ad, 0 < len → a = some ad → ad.block ≠ g) : Src w' a len L := by
  refine ⟨h.1, fun hp => ?_⟩
  obtain ⟨ad, ha, hc⟩ := h.2 hp
  refine ⟨ad, ha, fun j v hj => ?_⟩
  have hb : (ad.add j).block = ad.block := by unfold Addr.add; split <;> rfl
  rw [ho.cell (by rw [hb]; exact hne ad hp ha)]
  exact hc j v hj
theorem src_nil (w : World) : Src w none 0 [] := ⟨rfl, fun h => absurd h (by omega)⟩
theorem Row.below {w w' : World} {g : Nat} {L : List Int} (h : Row w g L) (hb : Below w.heap.size w w') : Row w' g L := by
  unfold Row; rw [hb.block g h.lt]; exact h
theorem Row.only {w w' : World} {g b : Nat} {L : List Int} (h : Row w g L) (ho : Only b w w') (hne : g ≠ b) : Row w' g L := by
  unfold Row; rw [ho.block g hne]; exact h
theorem Row.src {w : World} {g : Nat} {L : List Int} (h : Row w g L) (n : Nat) (hn : L.length = n) : Src w (some ⟨g, 0, none⟩) n L := by
  refine ⟨hn, fun _ => ⟨_, rfl, fun j v hj => ?_⟩⟩
  have := h.cellq j v hj
  by_cases hj0 : j = 0
  · subst hj0; simpa [Addr.add] using this
  · simpa [Addr.add, hj0] using this
theorem Src.below {w w' : World} {a : Option Addr} {n : Nat} {L : List Int} (h : Src w a n L) (hb : Below w.heap.size w w') : Src w' a n L := by
  refine ⟨h.1, fun hp => ?_⟩
  obtain ⟨ad, ha, hc⟩ := h.2 hp
  refine ⟨ad, ha, fun j v hj => ?_⟩
  have := hc j v hj
  rw [hb.cell (cell_block this)]; exact this
theorem Only.frozen {g : Nat} {w w' : World} (h : Only g w w') {p : Addr} (hp : p.block ≠ g) : w'.frozen? p = w.frozen? p := World.frozen?_of_block (w := w) (h.block p.block hp)
theorem bnext {w w1 w2 : World} (h : Below w.heap.size w w1) (k : Below w1.heap.size w1 w2) : Below w.heap.size w w2 := h.trans (k.mono h.size)
theorem Only.trans {g : Nat} {a b c : World} (h : Only g a b) (k : Only g b c) : Only g a c :=
  ⟨k.os.trans h.os, k.tape.trans h.tape, k.output.trans h.output, k.size.trans h.size, fun i hi => (k.block i hi).trans (h.block i hi)⟩
theorem row_lit (w : World) (C : Array Value) (L : List Int) (h : C = (L.map (Value.int .u8)).toArray) : Row (w.alloc (.cells C 5)) w.heap.size L := by
  unfold Row; subst h; exact heap_alloc_new w _
theorem new_below (w : World) (o : Obj) : Below w.heap.size w (w.alloc o) := (Below.refl _ _).alloc (Nat.le_refl _) o
theorem conv_row {w : World} {g : Nat} {L : List Int} (h : Row w g L) (n cap : Nat) (hn : L.length = n) : (convert 22 9 (.slice (some ⟨g, 0, none⟩) n cap)).run Try.prog w = .ok (.string (strOfNums L)) w :=
  run_convert_bytes_arg (P := Try.prog) w 22 5 Try.underlying22 Try.underlying5 g 0 n cap L hn (fun i hi => by
    rw [Nat.zero_add, h.cell i (by omega)]; simp [show i < L.length by omega]) 9 Try.underlying9
/-- A slice of integers that came in: it is nil, or leads to a row of 'cap' numbers, each fitting its kind, of which the first 'len' are its elements. -/
def IsRow (k : IntKind) (w : World) (a : Option Addr) (len cap : Nat) (zs : List Int) : Prop :=
  (a = none ∧ len = 0 ∧ cap = 0 ∧ zs = []) ∨
  ∃ x, a = some x ∧ len ≤ cap ∧ cap ≤ maxLen ∧ zs.length = cap ∧ (∀ i, i < zs.length → w.cell? (x.add i) = some (.int k (zs.getD i 0))) ∧ ∀ n ∈ zs, (Lit.int k n).wf = true
theorem IsRow.src {w : World} {a : Option Addr} {len cap : Nat} {zs : List Int} (h : IsRow .u8 w a len cap zs) :
    Src w a len (zs.take len) ∧ Bts (zs.take len) ∧ len ≤ cap ∧ cap ≤ 9223372036854775807 := by
  rcases h with ⟨rfl, rfl, rfl, rfl⟩ | ⟨x, rfl, hl, hm, hz, hcell, hwz⟩
  · exact ⟨⟨rfl, fun h => absurd h (by omega)⟩, fun x hx => by simp at hx, Nat.le_refl _, by omega⟩
  · refine ⟨⟨by rw [List.length_take, hz]; omega, fun _ => ⟨x, rfl, fun j v hj => ?_⟩⟩, fun n hn => ?_, hl, by unfold maxLen at hm; omega⟩
    · have hlt : j < len := by
        rcases Nat.lt_or_ge j len with h | h
        · exact h
        · rw [List.getElem?_eq_none (by rw [List.length_take]; omega)] at hj; simp at hj
      rw [List.getElem?_take_of_lt hlt] at hj
      have := hcell j (by omega)
      rw [List.getD, hj] at this
      exact this
    · have hw := hwz n (List.mem_of_mem_take hn)
      have := bounds_u8 hw
      omega
theorem src_block {w : World} {a : Option Addr} {len : Nat} {L : List Int} (h : Src w a len L) : ∀ ad, 0 < len → a = some ad → ad.block < w.heap.size := by
  intro ad hp ha
  obtain ⟨ad', ha', hc⟩ := h.2 hp
  rw [ha] at ha'
  obtain rfl := Option.some.inj ha'
  have h0 := hc 0 (L[0]'(by rw [h.1]; exact hp)) (List.getElem?_eq_getElem _)
  have := cell_block h0
  have hb : (ad.add 0).block = ad.block := by unfold Addr.add; split <;> rfl
  rw [hb] at this
  exact this
theorem conv_src {w : World} {a : Option Addr} {n : Nat} {L : List Int} (h : Src w a n L) (cap : Nat) : (convert 22 9 (.slice a n cap)).run Try.prog w = .ok (.string (strOfNums L)) w := by
  by_cases hp : 0 < n
  · obtain ⟨g, off, rfl, hc⟩ := h.flat hp
    exact run_convert_bytes_arg (P := Try.prog) w 22 5 Try.underlying22 Try.underlying5 g off n cap L h.1 (fun i hi => hc i hi) 9 Try.underlying9
  · obtain rfl : n = 0 := by omega
    obtain rfl : L = [] := List.eq_nil_of_length_eq_zero h.1
    rw [run_convert_bytes_string w 22 9 5 a 0 cap Try.underlying22 Try.underlying5 Try.underlying9]
    cases a <;> simp [Conv.bytesToString, loadCells] <;> rfl
/-- A slice of numbers that came in: its elements. -/
def ISrc (k : IntKind) (w : World) (a : Option Addr) (len : Nat) (Z : List Int) : Prop :=
  Z.length = len ∧ len ≤ 9223372036854775807 ∧ (∀ x ∈ Z, (Lit.int k x).wf = true) ∧
  (0 < len → ∃ g off, a = some ⟨g, off, none⟩ ∧ g < w.heap.size ∧ ∀ i, i < len → w.cell? ⟨g, off + i, none⟩ = some (.int k (Z[i]?.getD 0)))
/-- A slice of texts that came in: its elements. -/
def SSrc (w : World) (a : Option Addr) (len : Nat) (S : List ByteArray) : Prop :=
  S.length = len ∧ len ≤ 9223372036854775807 ∧
  (0 < len → ∃ g off, a = some ⟨g, off, none⟩ ∧ g < w.heap.size ∧ ∀ i, i < len → w.cell? ⟨g, off + i, none⟩ = some (.string (S[i]?.getD ByteArray.empty)))
theorem flat_addr {w : World} {x : Addr} {n : Nat} {f : Nat → Value} (hn : 0 < n) (h : ∀ i, i < n → w.cell? (x.add i) = some (f i)) :
    ∃ g off, x = ⟨g, off, none⟩ ∧ g < w.heap.size ∧ ∀ i, i < n → w.cell? ⟨g, off + i, none⟩ = some (f i) := by
  obtain ⟨g, off, sp⟩ := x
  have h0 := h 0 hn
  have hspot : sp = none := by simpa [Addr.add] using World.cell?_spot h0
  subst hspot
  have hb := cell_block h0
  refine ⟨g, off, rfl, by simpa [Addr.add] using hb, fun i hi => ?_⟩
  have := h i hi
  by_cases hi0 : i = 0
  · subst hi0; simpa [Addr.add] using this
  · simpa [Addr.add, hi0] using this
theorem IsRow.isrc {k : IntKind} {w : World} {a : Option Addr} {len cap : Nat} {zs : List Int} (h : IsRow k w a len cap zs) : ISrc k w a len (zs.take len) := by
  rcases h with ⟨rfl, rfl, rfl, rfl⟩ | ⟨x, rfl, hl, hm, hz, hcell, hwz⟩
  · exact ⟨rfl, by omega, fun x hx => by simp at hx, fun h => absurd h (by omega)⟩
  · refine ⟨by rw [List.length_take, hz]; omega, by unfold maxLen at hm; omega, fun x hx => hwz x (List.mem_of_mem_take hx), fun hp => ?_⟩
    obtain ⟨g, off, rfl, hg, hc⟩ := flat_addr (n := len) (f := fun i => .int k (zs.getD i 0)) hp (fun i hi => hcell i (by omega))
    refine ⟨g, off, rfl, hg, fun i hi => ?_⟩
    rw [hc i hi, List.getElem?_take_of_lt hi]; rfl
theorem SSrc.of {w : World} {x : Addr} {len cap : Nat} {ss : List ByteArray} (hl : len ≤ cap) (hm : cap ≤ maxLen) (hz : len ≤ ss.length) (hcell : ∀ i, i < ss.length → w.cell? (x.add i) = some (.string (ss.getD i ByteArray.empty))) :
    SSrc w (some x) len (ss.take len) := by
  refine ⟨by rw [List.length_take]; omega, by unfold maxLen at hm; omega, fun hp => ?_⟩
  obtain ⟨g, off, rfl, hg, hc⟩ := flat_addr (n := len) (f := fun i => .string (ss.getD i ByteArray.empty)) hp (fun i hi => hcell i (by omega))
  refine ⟨g, off, rfl, hg, fun i hi => ?_⟩
  rw [hc i hi, List.getElem?_take_of_lt hi]; rfl
theorem src_take {w : World} {a : Option Addr} {len : Nat} {L : List Int} (h : Src w a len L) (m : Nat) (hm : m ≤ L.length) : Src w a m (L.take m) := by
  refine ⟨by rw [List.length_take]; omega, fun hp => ?_⟩
  obtain ⟨ad, ha, hc⟩ := h.2 (by rw [← h.1]; omega)
  refine ⟨ad, ha, fun j v hj => hc j v ?_⟩
  rw [List.getElem?_take] at hj
  split at hj
  · exact hj
  · simp at hj
theorem Only.setRow (g : Nat) (w : World) (cs : Array Value) : Only g w (w.setRow g cs) :=
  ⟨rfl, rfl, rfl, by simp [World.setRow], fun k hk => setRow_other w g k cs hk⟩
/-- The bytes of a string, as numbers. -/
def sb (s : ByteArray) : List Int := s.data.toList.map fun b => (b.toNat : Int)
theorem sb_length (s : ByteArray) : (sb s).length = s.size := by simp [sb]
theorem sb_cells (s : ByteArray) : Lib.byteCells s.data.toList = (sb s).map (Value.int .u8) := by simp [sb, Lib.byteCells]
theorem bts_sb (s : ByteArray) : Bts (sb s) := by
  intro x hx
  simp only [sb, List.mem_map] at hx
  obtain ⟨b, _, rfl⟩ := hx
  have := b.toNat_lt
  omega
theorem empty_of {s : ByteArray} (h : s.size = 0) : s = ByteArray.empty :=
  ByteArray.ext (Array.eq_empty_of_size_eq_zero h)
theorem str_sb (s : ByteArray) : strOfNums (sb s) = s := by
  apply ByteArray.ext
  apply Array.toList_inj.1
  rw [strOfNums_data]
  unfold sb
  rw [List.map_map]
  conv => rhs; rw [← List.map_id s.data.toList]
  apply List.map_congr_left
  intro x _
  simp
/-- What is written of all of a row, one behind the other. -/
def cat {α : Type} (f : α → List Int) (xs : List α) : List Int := xs.flatMap f
theorem cat_take {α : Type} (f : α → List Int) (xs : List α) (d : α) (k : Nat) (hk : k < xs.length) : cat f (xs.take (k + 1)) = cat f (xs.take k) ++ f (xs[k]?.getD d) := by
  unfold cat
  rw [List.take_add_one, List.getElem?_eq_getElem hk, List.flatMap_append]
  simp only [Option.toList_some, List.flatMap_cons, List.flatMap_nil, List.append_nil, Option.getD_some]
theorem cat_drop {α : Type} (f : α → List Int) (xs : List α) (d : α) (k : Nat) (hk : k < xs.length) : cat f (xs.drop k) = f (xs[k]?.getD d) ++ cat f (xs.drop (k + 1)) := by
  unfold cat
  rw [List.drop_eq_getElem_cons hk, List.getElem?_eq_getElem hk, List.flatMap_cons]
  simp only [Option.getD_some]
theorem bts_cat {α : Type} (f : α → List Int) (h : ∀ x, Bts (f x)) (xs : List α) : Bts (cat f xs) := by
  intro x hx
  unfold cat at hx
  obtain ⟨y, _, hy⟩ := List.mem_flatMap.1 hx
  exact h y x hy
theorem hid {p : Prop} (h : p) : Hid p := h
theorem cat_nil {α : Type} (f : α → List Int) : cat f [] = [] := rfl
theorem ISrc.cut {k : IntKind} {w : World} {a : Option Addr} {len : Nat} {Z : List Int} (h : ISrc k w a len Z) : ∃ X : List Int, (X.length ≤ 50 ∧ X.length ≤ len ∧ (50 ≤ X.length ∨ len ≤ X.length)) ∧ len ≤ 9223372036854775807 ∧ (∀ i, i < X.length → (Lit.int k (X[i]?.getD 0)).wf = true) ∧
    (0 < len → ∃ g off, a = some ⟨g, off, none⟩ ∧ g < w.heap.size ∧ ∀ i, i < X.length → w.cell? ⟨g, off + i, none⟩ = some (.int k (X[i]?.getD 0))) := by
  obtain ⟨hl, hm, hw, hc⟩ := h
  refine ⟨Z.take 50, by rw [List.length_take, hl]; omega, hm, fun i hi => ?_, fun hp => ?_⟩
  · rw [List.getElem?_eq_getElem hi]
    exact hw _ (List.mem_of_mem_take (List.getElem_mem hi))
  · obtain ⟨g, off, ha, hg, hcc⟩ := hc hp
    refine ⟨g, off, ha, hg, fun i hi => ?_⟩
    rw [List.length_take, hl] at hi
    rw [hcc i (by omega), List.getElem?_take_of_lt (by omega)]
theorem SSrc.cut {w : World} {a : Option Addr} {len : Nat} {S : List ByteArray} (h : SSrc w a len S) : ∃ X : List ByteArray, (X.length ≤ 50 ∧ X.length ≤ len ∧ (50 ≤ X.length ∨ len ≤ X.length)) ∧ len ≤ 9223372036854775807 ∧
    (0 < len → ∃ g off, a = some ⟨g, off, none⟩ ∧ g < w.heap.size ∧ ∀ i, i < X.length → w.cell? ⟨g, off + i, none⟩ = some (.string (X[i]?.getD ByteArray.empty))) := by
  obtain ⟨hl, hm, hc⟩ := h
  refine ⟨S.take 50, by rw [List.length_take, hl]; omega, hm, fun hp => ?_⟩
  obtain ⟨g, off, ha, hg, hcc⟩ := hc hp
  refine ⟨g, off, ha, hg, fun i hi => ?_⟩
  rw [List.length_take, hl] at hi
  rw [hcc i (by omega), List.getElem?_take_of_lt (by omega)]
end Go.Proofs.Ytajopapcknnfoaa
