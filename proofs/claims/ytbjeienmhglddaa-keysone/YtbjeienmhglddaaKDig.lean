/- Digits in an array: digitsOf, text. -/
import Derived.Test.YtbjeienmhglddaaKBounds
import Derived.Deep.WholeRow
import Derived.Laws.ResultCell
namespace Go.Proofs.Ytbjeienmhglddaa
open Go.RowKit

theorem Try.info34 : (Try.prog.info? 34).map (fun i => (i.zero, i.size)) = some (some (.agg (Array.replicate 200 (.int .i64 0))), 200) := by kernel_rfl
theorem zero34 : ∀ w, (zeroValue 34).run Try.prog w = .ok (.agg (Array.replicate 200 (.int .i64 0))) w := (zero_of_info Try.info34).1
theorem size34 : (Try.prog.info? 34).map (·.size) = some 200 := (zero_of_info Try.info34).2

/-- An array of 200 numbers. -/
def arr (f : Nat → Int) : Array Value := ((List.range 200).map fun i => Value.int .i64 (f i)).toArray
theorem arr_size (f : Nat → Int) : (arr f).size = 200 := by simp [arr]
theorem arr_at (f : Nat → Int) (i : Nat) (h : i < 200) : (arr f)[i]? = some (.int .i64 (f i)) := by simp [arr, h]
theorem arr_ext {f g : Nat → Int} (h : ∀ i, i < 200 → f i = g i) : arr f = arr g := by
  unfold arr
  congr 1
  apply List.map_congr_left
  intro i hi
  rw [h i (by simpa using hi)]
theorem arr_set (f : Nat → Int) (i : Nat) (x : Int) : (arr f).setIfInBounds i (.int .i64 x) = arr (fun j => if j = i then x else f j) := by
  apply Array.ext_getElem?
  intro j
  rw [Array.getElem?_setIfInBounds, arr_size]
  by_cases hj : j < 200
  · rw [arr_at _ j hj, arr_at _ j hj]
    by_cases e : i = j
    · subst e; simp [hj]
    · rw [if_neg e, if_neg (Ne.symm e)]
  · have h1 : ∀ g, (arr g)[j]? = none := fun g => Array.getElem?_eq_none (by rw [arr_size]; omega)
    rw [h1, h1]
    by_cases e : i = j
    · rw [if_pos e, if_neg (by omega)]
    · rw [if_neg e]
theorem arr_one (f : Nat → Int) : (arr f).all (·.oneCell') = true := by
  rw [Array.all_eq_true_iff_forall_mem]
  intro v hv
  simp only [arr, List.mem_toArray, List.mem_map] at hv
  obtain ⟨i, _, rfl⟩ := hv
  rfl
theorem arr_zero : Array.replicate 200 (.int .i64 0) = arr (fun _ => 0) := by
  apply Array.ext_getElem?
  intro j
  by_cases hj : j < 200
  · rw [arr_at _ j hj]; simp [hj]
  · rw [Array.getElem?_eq_none (by simp; omega), Array.getElem?_eq_none (by rw [arr_size]; omega)]

/-- An array of 200 numbers lies in block g. -/
def Arr (w : World) (g : Nat) (f : Nat → Int) : Prop := w.heap[g]? = some (.cells (arr f) 34 (0, 0))
theorem Arr.cell {w : World} {g : Nat} {f : Nat → Int} (h : Arr w g f) (i : Nat) (hi : i < 200) : w.cell? ⟨g, i, none⟩ = some (.int .i64 (f i)) := by
  rw [cell_of_row w g i _ 34 (0, 0) h, arr_at f i hi]
theorem Arr.frozen {w : World} {g : Nat} {f : Nat → Int} (h : Arr w g f) (i : Nat) : w.frozen? ⟨g, i, none⟩ = false := frozen_of_row w g i _ 34 h
theorem Arr.set {w : World} {g : Nat} {f : Nat → Int} (h : Arr w g f) (i : Nat) (x : Int) : Arr (w.setCell ⟨g, i, none⟩ (.int .i64 x)) g (fun j => if j = i then x else f j) := by
  have := heap_setCell_same w g i _ 34 (.int .i64 x) h
  unfold Arr; rw [this, arr_set]
theorem Arr.lt {w : World} {g : Nat} {f : Nat → Int} (h : Arr w g f) : g < w.heap.size := (Array.getElem?_eq_some_iff.1 h).1
theorem Arr.ext {w : World} {g : Nat} {f f' : Nat → Int} (h : Arr w g f) (e : ∀ i, i < 200 → f i = f' i) : Arr w g f' := by
  unfold Arr; rw [← arr_ext e]; exact h
theorem Arr.same {w w' : World} {g : Nat} {f : Nat → Int} (h : Arr w g f) (e : w'.heap[g]? = w.heap[g]?) : Arr w' g f := by
  unfold Arr; rw [e]; exact h
theorem Arr.new (w : World) : Arr (w.alloc (.cells (Array.replicate 200 (.int .i64 0)) 34)) w.heap.size (fun _ => 0) := by
  unfold Arr; rw [arr_zero]; exact heap_alloc_new w _


/-- At most block g has turned. -/
structure Only (g : Nat) (w w' : World) : Prop where
  os : w'.os = w.os
  tape : w'.tape = w.tape
  output : w'.output = w.output
  size : w'.heap.size = w.heap.size
  block : ∀ k, k ≠ g → w'.heap[k]? = w.heap[k]?
theorem Only.setCell (g : Nat) (w : World) (i : Nat) (v : Value) : Only g w (w.setCell ⟨g, i, none⟩ v) :=
  ⟨rfl, rfl, rfl, by simp, fun k hk => heap_setCell_other w ⟨g, i, none⟩ k v hk⟩
theorem Only.setRow (g : Nat) (w : World) (cs : Array Value) : Only g w (w.setRow g cs) :=
  ⟨rfl, rfl, rfl, by simp [World.setRow], fun k hk => setRow_other w g k cs hk⟩
theorem Only.below {g B : Nat} {w w' : World} (h : Only g w w') (hB : B ≤ g) : Below B w w' :=
  ⟨h.os, h.tape, h.output, Nat.le_of_eq h.size.symm, fun k hk => h.block k (by omega)⟩
theorem Arr.only {w w' : World} {g b : Nat} {f : Nat → Int} (h : Arr w g f) (ho : Only b w w') (hne : g ≠ b) : Arr w' g f := h.same (ho.block g hne)
theorem Arr.below {w w' : World} {g B : Nat} {f : Nat → Int} (h : Arr w g f) (hb : Below B w w') (hg : g < B) : Arr w' g f := h.same (hb.block g hg)

/-- A whole array is read. -/
theorem wl_load {ops : Array Oper} {rest : List Oper} {o : Oper} {a : Act} {w : World} {Q : Exit → Act → World → Prop} (hgd : o.guard = none) (x : Operand) (ho : o.op = .load 34 x)
    (g : Nat) (hx : a.eval x = .pointer (some ⟨g, 0, none⟩)) (f : Nat → Int) (h : Arr w g f)
    (k : wpList Try.prog ops Q rest (a.put o.dst (.agg (arr f))) w) : wpList Try.prog ops Q (o :: rest) a w :=
  wpList_load_row hgd 34 x ho g hx 34 (arr f) (0, 0) _ h Try.underlying34 rfl (by rw [arr_size]; exact size34) k
/-- A whole array is stored. -/
theorem wl_store {ops : Array Oper} {rest : List Oper} {o : Oper} {a : Act} {w : World} {Q : Exit → Act → World → Prop} (hgd : o.guard = none) (x y : Operand) (ho : o.op = .store 34 x y)
    (g : Nat) (f : Nat → Int) (hx : a.eval x = .pointer (some ⟨g, 0, none⟩)) (hy : a.eval y = .agg (arr f)) (f0 : Nat → Int) (h : Arr w g f0)
    (k : ∀ w', Arr w' g f → Only g w w' → wpList Try.prog ops Q rest (a.put o.dst undef) w') : wpList Try.prog ops Q (o :: rest) a w :=
  wpList_store_row hgd 34 x y ho g (arr f) hx hy 34 (arr f0) h (by rw [arr_size]; exact size34) (by rw [arr_size, arr_size]) (arr_one f) (k _ (setRow_heap w g _ _ 34 _ h) (Only.setRow _ _ _))

set_option maxHeartbeats 1000000 in
theorem digits_any (k : ByteArray) (w : World) (hk : Kz k.toList) :
    Calls Try.prog 17 #[.string k] w fun e w' => e = .returned (.agg (arr fun i => dg k.toList i)) ∧ Below w.heap.size w w' := by
  have hz := zero34
  have hl := hk.len
  rw [tl_length] at hl
  have HR : Hid (∀ j (hj : j < k.size), 97 ≤ k[j].toNat ∧ k[j].toNat ≤ 122 ∧ k[j].toNat = 97 + dg k.toList j) := hid fun j hj => by
    have h1 := hk.rng _ (tl_mem k j hj)
    have h2 := dg_in hk.rng (i := j) (by rw [tl_length]; exact hj)
    rw [tl_get k j hj] at h2
    exact ⟨h1.1, h1.2, h2.1⟩
  clear hk
  go_enter Try.func17, Try.ntmps17
  go_wp2
  go_loopw [7] (fun i wx => ∃ j : Nat, j ≤ k.size ∧ i = .int .i64 j ∧ Hid (Arr wx w.heap.size (fun _ => 0)) ∧ Hid (Arr wx (w.heap.size + 1) (fun i => if i < j then dg k.toList i else 0)) ∧ Hid (Below w.heap.size w wx)) (fun i _ => k.size - (intOf i).toNat)
  case atStart =>
    refine ⟨0, Nat.zero_le _, rfl, hid ?_, hid ?_, hid ?_⟩
    · exact (Arr.new w).same (heap_alloc_old _ _ (by simp))
    · have := Arr.new (w.alloc (.cells (Array.replicate 200 (.int .i64 0)) 34))
      simp only [World.size_alloc] at this
      exact this.ext fun i _ => by simp
    · exact ((Below.refl _ _).alloc (Nat.le_refl _) _).alloc (by simp) _
  case round =>
    obtain ⟨j, hj, rfl, H0, H1, HB⟩ := hrel
    by_cases hlt : j < k.size
    · obtain ⟨r1, r2, r3⟩ := HR.out j hlt
      have hc := H1.out.cell j (by omega)
      have hf := H1.out.frozen j
      have R3 := hid r3
      clear r3
      go_wp2
      go_roundw
      case rel =>
        have ho := Only.setCell (w.heap.size + 1) wr j (Value.int IntKind.i64 (↑k[j].toNat - 97))
        refine ⟨j + 1, by omega, by go_num, hid (H0.out.only ho (by omega)), hid ((H1.out.set j _).ext fun i _ => ?_), hid (HB.out.trans (ho.below (by omega)))⟩
        have r3 := R3.out
        by_cases e : i = j
        · subst e
          rw [if_pos rfl, if_pos (by omega)]; omega
        · rw [if_neg e]
          by_cases e2 : i < j
          · rw [if_pos e2, if_pos (by omega)]
          · rw [if_neg e2, if_neg (by omega)]
      case measure => simp [intOf]; omega
    · obtain rfl : j = k.size := by omega
      have H2 : Hid (Arr wr (w.heap.size + 1) (fun i => dg k.toList i)) := hid (H1.out.ext fun i _ => by
        by_cases e : i < k.size
        · rw [if_pos e]
        · rw [if_neg e, dg_out (by rw [tl_length]; omega)]; rfl)
      clear H1
      go_wp2_with (first
        | refine wl_load rfl _ rfl _ rfl _ H2.out ?_
        | (refine wl_store rfl _ _ rfl _ _ rfl rfl _ H0.out ?_; intro w2 h2 o2))
      exact bodyPost_ret (results_cell_row rfl _ _ w.heap.size 34 _ (0, 0) _ rfl h2 Try.underlying34 rfl (by rw [arr_size]; exact size34)) rfl ⟨rfl, HB.out.trans (o2.below (Nat.le_refl _))⟩
end Go.Proofs.Ytbjeienmhglddaa
