/- Digits of an array as a text: text. -/
import Derived.Test.YtbjeienmhglddaaKDig
import Derived.Laws.BytesArg
namespace Go.Proofs.Ytbjeienmhglddaa
open Go.RowKit

/-- Block g holds just these bytes. -/
def Row (w : World) (g : Nat) (L : List Int) : Prop := w.heap[g]? = some (.cells (L.map (Value.int .u8)).toArray 5 (0, 0))
theorem Row.cell {w : World} {g : Nat} {L : List Int} (h : Row w g L) (i : Nat) (hi : i < L.length) : w.cell? ⟨g, i, none⟩ = some (.int .u8 (L[i])) := by
  rw [cell_of_row w g i _ 5 (0, 0) h]; simp [hi]
theorem Row.frozen {w : World} {g : Nat} {L : List Int} (h : Row w g L) (i : Nat) : w.frozen? ⟨g, i, none⟩ = false := frozen_of_row w g i _ 5 h
theorem Row.set {w : World} {g : Nat} {L : List Int} (h : Row w g L) (i : Nat) (v : Int) : Row (w.setCell ⟨g, i, none⟩ (.int .u8 v)) g (L.set i v) := by
  have := heap_setCell_same w g i _ 5 (.int .u8 v) h
  unfold Row; rw [this]; simp [List.map_set]
theorem Try.info5 : (Try.prog.info? 5).map (fun i => (i.zero, i.size, i.bytes)) = some (some (.int .u8 0), 1, 1) := by kernel_rfl
theorem row_made {w' : World} {B n : Nat} (h : w'.ownsRow B 5 1 (.slice (some ⟨B, 0, none⟩) n n) n (madeCells (Value.int .u8 0).cells (n * 1)).toList) : Row w' B (List.replicate n 0) := by
  rcases h.2 with ⟨h', _⟩ | ⟨g, cap, cur, h', _, hg, _, _, hcs, ht⟩
  · simp at h'
  · simp only [Value.slice.injEq, Option.some.injEq, Addr.mk.injEq, and_true, true_and] at h'
    obtain ⟨rfl, rfl⟩ := h'
    unfold Row
    rw [hg]
    have e1 : cur.toList = List.replicate n (Value.int .u8 0) := by
      rw [← List.take_of_length_le (l := cur.toList) (i := n * 1) (by simp [hcs]), ht]
      have := toList_madeCells_one (Value.int .u8 0) n
      simpa [Value.cells] using this
    have e2 : cur = (List.replicate n (Value.int .u8 0)).toArray := by rw [← e1]
    rw [e2]; simp
theorem conv_row {w : World} {g : Nat} {L : List Int} (h : Row w g L) (n cap : Nat) (hn : L.length = n) : (convert 40 9 (.slice (some ⟨g, 0, none⟩) n cap)).run Try.prog w = .ok (.string (strOfNums L)) w :=
  run_convert_bytes_arg (P := Try.prog) w 40 5 Try.underlying40 Try.underlying5 g 0 n cap L hn (fun i hi => by
    rw [Nat.zero_add, h.cell i (by omega)]; simp [show i < L.length by omega]) 9 Try.underlying9

/-- A row of n bytes is made. -/
theorem wl_make {ops : Array Oper} {rest : List Oper} {o : Oper} {a : Act} {w : World} {Q : Exit → Act → World → Prop} (hgd : o.guard = none) (l c : Operand) (ho : o.op = .makeSlice 40 l c)
    (n : Nat) (hl : a.eval l = .int .i64 n) (hc : a.eval c = .int .i64 n) (hn : n ≤ 1000000)
    (k : ∀ w', Row w' w.heap.size (List.replicate n 0) → Below w.heap.size w w' → wpList Try.prog ops Q rest (a.put o.dst (.slice (some ⟨w.heap.size, 0, none⟩) n n)) w') : wpList Try.prog ops Q (o :: rest) a w := by
  obtain ⟨i0, hi, hz0, hz1, hz2⟩ := info_parts Try.info5
  refine wpList_make_full _ hgd _ _ 40 ho w.heap.size 5 i0 (.int .u8 0) 1 Try.underlying40 hi hz0 hz1 .i64 .i64 _ _ n hl hc rfl rfl (by rw [hz2]; omega) (by unfold maxLen; omega) (Nat.le_refl _) ?_
  intro w1 hown1 hgrow1
  exact k w1 (row_made hown1) ((Below.refl _ _).grown hgrow1 (Nat.le_refl _) (by simp))
theorem Row.only {w w' : World} {g b : Nat} {L : List Int} (h : Row w g L) (ho : Only b w w') (hne : g ≠ b) : Row w' g L := by
  unfold Row; rw [ho.block g hne]; exact h
theorem Row.below {w w' : World} {g B : Nat} {L : List Int} (h : Row w g L) (hb : Below B w w') (hg : g < B) : Row w' g L := by
  unfold Row; rw [hb.block g hg]; exact h
theorem below2 {w w1 w2 : World} (h : RowKit.Below w.heap.size w w1) (k : RowKit.Below w1.heap.size w1 w2) : RowKit.Below w.heap.size w w2 := h.trans (k.mono h.size)

/-- The first j of n digits as bytes, 0 behind them. -/
def dgs (f : Nat → Int) (n j : Nat) : List Int := (List.range n).map fun i => if i < j then 97 + f i else 0
theorem dgs_length (f : Nat → Int) (n j : Nat) : (dgs f n j).length = n := by simp [dgs]
theorem dgs_zero (f : Nat → Int) (n : Nat) : List.replicate n 0 = dgs f n 0 := by
  apply List.ext_getElem
  · simp [dgs]
  · intro i h1 h2
    simp [dgs]
theorem dgs_set (f : Nat → Int) (n j : Nat) : (dgs f n j).set j (97 + f j) = dgs f n (j + 1) := by
  apply List.ext_getElem
  · simp [dgs]
  · intro i h1 h2
    rw [List.getElem_set]
    simp only [dgs, List.getElem_map, List.getElem_range]
    by_cases e : j = i
    · subst e; rw [if_pos rfl, if_pos (by omega)]
    · rw [if_neg e]
      by_cases e2 : i < j
      · rw [if_pos e2, if_pos (by omega)]
      · rw [if_neg e2, if_neg (by omega)]

/-- The first n digits as bytes. -/
def dby (f : Nat → Int) (n : Nat) : Bs := (List.range n).map fun i => UInt8.ofNat (97 + f i).toNat
theorem str_dgs (f : Nat → Int) (n : Nat) : (strOfNums (dgs f n n)).toList = dby f n := by
  rw [ByteArray.toList_eq, strOfNums_data]
  unfold dgs dby
  rw [List.map_map]
  apply List.map_congr_left
  intro i hi
  have : i < n := by simpa using hi
  simp [this]

set_option maxHeartbeats 1000000 in
theorem text_any (f : Nat → Int) (n : Nat) (w : World) (hn : n ≤ 200) (hf : ∀ i, i < n → 0 ≤ f i ∧ f i ≤ 25) :
    Calls Try.prog 18 #[.agg (arr f), .int .i64 n] w fun e w' => ∃ s : ByteArray, e = .returned (.string s) ∧ s.toList = dby f n ∧ Below w.heap.size w w' := by
  have HF := hid hf
  clear hf
  go_enter Try.func18, Try.ntmps18
  go_wp2_with (first
    | (refine wl_make rfl _ _ rfl n rfl rfl (by omega) ?_; intro w1 hr1 hb1; have HR1 := hid hr1; have HB1 := hid hb1; clear hr1 hb1))
  go_loopw [11] (fun i wx => ∃ j : Nat, j ≤ n ∧ i = .int .i64 j ∧ Hid (Arr wx w.heap.size f) ∧ Hid (Row wx (w.heap.size + 1) (dgs f n j)) ∧ Hid (Below w.heap.size w wx)) (fun i _ => n - (intOf i).toNat)
  case atStart =>
    have hr1 := HR1.out
    have hb1 := HB1.out
    simp only [World.size_alloc] at hr1 hb1
    have ha : Arr (w.alloc (.cells (arr f) 34)) w.heap.size f := by unfold Arr; exact heap_alloc_new w _
    refine ⟨0, Nat.zero_le _, rfl, hid (ha.below hb1 (by omega)), hid (by rw [← dgs_zero]; exact hr1), hid ?_⟩
    exact ((Below.refl _ _).alloc (Nat.le_refl _) _).trans (hb1.mono (by omega))
  case round =>
    obtain ⟨j, hj, rfl, H0, H1, HB⟩ := hrel
    by_cases hlt : j < n
    · have hc := H0.out.cell j (by omega)
      have hc1 := H1.out.cell j (by rw [dgs_length]; exact hlt)
      have hf := H1.out.frozen j
      obtain ⟨r1, r2⟩ := HF.out j hlt
      obtain ⟨v, hv⟩ : ∃ v, v = (dgs f n j)[j]'(by rw [dgs_length]; exact hlt) := ⟨_, rfl⟩
      rw [← hv] at hc1
      clear hv
      go_wp2
      go_roundw
      case rel =>
        have ho := Only.setCell (w.heap.size + 1) wr j (Value.int IntKind.u8 (97 + f j))
        refine ⟨j + 1, by omega, by go_num, hid (H0.out.only ho (by omega)), hid ?_, hid (HB.out.trans (ho.below (by omega)))⟩
        rw [← dgs_set f n j]
        exact H1.out.set j _
      case measure => simp [intOf]; omega
    · obtain rfl : j = n := by omega
      have hcv := conv_row H1.out j j (dgs_length _ _ _)
      go_wp2
      go_ret
      exact ⟨_, rfl, str_dgs f j, HB.out⟩
end Go.Proofs.Ytbjeienmhglddaa
