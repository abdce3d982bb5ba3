/- A text in memory. No function of the program. -/
import Derived.Test.YtbpepmajpojacaaVBase
import Derived.Shelf.Spec.SlicesInsertGrow
import Derived.Laws.OwnMore
import Derived.Deep.AppendLies
import Derived.OwnWalk
import Derived.WalkKit
import Derived.WalkSpells
import Derived.WalkLawsBesides
import Derived.Deep.Quiet
import Derived.Shelf.SlSortCmp.QuietGrown
import Derived.BigQuiet
import Derived.Deep.CutRange
import Derived.Test.YtbpepmajpojacaaMKeys
import Derived.Maps.OwnSet
import Derived.Sort.KeysCollected
import Derived.Test.YtbpepmajpojacaaFgRPlaceM
namespace Go.Proofs.Ytbpepmajpojacaa
section
open Go.RowKit Go.Lib
open Go.Sort (grow)

theorem Try.infoPtr : (Try.prog.info? 72).map (fun i => (i.zero, i.size, i.bytes)) = some (some (.pointer none), 1, 8) := by kernel_rfl
theorem sizeOfPtr (w : World) : (Go.sizeOf 72).run Try.prog w = .ok 1 w := by
  obtain ⟨i0, hi, _, h1, _⟩ := info_parts Try.infoPtr
  simp [Go.sizeOf, typeInfo, hi, h1]
theorem sizePtr : (Try.prog.info? 72).map (·.size) = some 1 := by kernel_rfl

/-- A row of one's own with one more cell. -/
theorem own_wider {w : World} {base e g n cap : Nat} {xs : List Value} (h : w.ownsRow base e 1 (.slice (some ⟨g, 0, none⟩) n cap) n xs) (hr : n + 1 ≤ cap) : ∃ u, w.ownsRow base e 1 (.slice (some ⟨g, 0, none⟩) (n + 1) cap) (n + 1) (xs ++ [u]) := by
  rcases h.2 with ⟨e, _⟩ | ⟨g', cap', cur, e, hb, hg, hn, hc, hs, ht⟩
  · simp at e
  · simp only [Value.slice.injEq, Option.some.injEq, Addr.mk.injEq, and_true, true_and] at e
    obtain ⟨rfl, rfl⟩ := e
    have hl : n < cur.toList.length := by rw [Array.length_toList, hs]; omega
    refine ⟨cur.toList[n], by rw [List.length_append, h.1]; simp, Or.inr ⟨g, cap, cur, rfl, hb, hg, hr, hc, hs, ?_⟩⟩
    rw [Nat.mul_one] at ht ⊢
    rw [List.take_succ_eq_append_getElem hl, ht]

/-- Cells that are stored, one behind the other. -/
theorem own_setCells {base e g n cap : Nat} : ∀ (vs : List Value) (o : Nat) (w : World) (xs : List Value), w.ownsRow base e 1 (.slice (some ⟨g, 0, none⟩) n cap) n xs → o + vs.length ≤ n →
    (w.setCells g o vs).ownsRow base e 1 (.slice (some ⟨g, 0, none⟩) n cap) n (xs.take o ++ vs ++ xs.drop (o + vs.length)) ∧ w.grownBy (w.setCells g o vs) (some g)
  | [], o, w, xs, h, _ => ⟨by simpa [World.setCells] using h, World.grownBy.refl _ _⟩
  | v :: r, o, w, xs, h, hl => by
    have hx : xs.length = n := by have := h.1; omega
    have s := World.ownsRow.stored h o v
    simp only [List.length_cons] at hl
    have ih := own_setCells r (o + 1) _ _ s.1 (by omega)
    refine ⟨?_, s.2.trans ih.2⟩
    have e : xs.take o ++ v :: r ++ xs.drop (o + (r.length + 1)) = (xs.set o v).take (o + 1) ++ r ++ (xs.set o v).drop (o + 1 + r.length) := by
      have e1 : (xs.set o v).take (o + 1) = xs.take o ++ [v] := by
        rw [List.take_succ_eq_append_getElem (by rw [List.length_set]; omega), List.take_set_of_le (Nat.le_refl _), List.getElem_set_self]
      have e2 : (xs.set o v).drop (o + 1 + r.length) = xs.drop (o + (r.length + 1)) := by
        rw [List.drop_set_of_lt (by omega)]
        congr 1
        omega
      rw [e1, e2]
      simp
    rw [List.length_cons, e]
    exact ih.1

theorem grownBy_drew1 (w : World) (r : Option Nat) : w.grownBy w.drew r := ⟨rfl, rfl, rfl, Nat.le_refl _, fun _ _ _ => rfl⟩

/-- A row with one more, laid in two steps. -/
theorem ins_list {α : Type} (xs R : List α) (u : α) (i n : Nat) (hx : xs.length = n) (hi : i ≤ n) (hR : R.length = n + 1) (ht : R.take i = xs.take i) :
    (R.take i ++ [u] ++ R.drop (i + [u].length)).take (i + 1) ++ xs.drop i ++ (R.take i ++ [u] ++ R.drop (i + [u].length)).drop (i + 1 + (xs.drop i).length) = xs.take i ++ [u] ++ xs.drop i := by
  rw [ht]
  have e2 : (xs.take i ++ [u]).length = i + 1 := by rw [List.length_append, List.length_take, hx]; simp; omega
  have e3 : (xs.take i ++ [u] ++ R.drop (i + [u].length)).length = n + 1 := by rw [List.length_append, e2, List.length_drop, hR, List.length_singleton]; omega
  have e4 : (xs.take i ++ [u] ++ R.drop (i + [u].length)).drop (i + 1 + (xs.drop i).length) = [] := List.drop_of_length_le (by rw [e3, List.length_drop, hx]; omega)
  rw [e4, List.append_nil, List.take_append_of_le_length (by omega), List.take_of_length_le (by omega)]

theorem ins_list2 {α : Type} (xs : List α) (u0 u : α) (i n : Nat) (hx : xs.length = n) (hi : i ≤ n) :
    xs.take i ++ [u] ++ xs.drop i = ((xs ++ [u0]).take (i + 1) ++ xs.drop i ++ (xs ++ [u0]).drop (i + 1 + (xs.drop i).length)).take i ++ [u] ++ ((xs ++ [u0]).take (i + 1) ++ xs.drop i ++ (xs ++ [u0]).drop (i + 1 + (xs.drop i).length)).drop (i + [u].length) := by
  have e1 : (xs ++ [u0]).drop (i + 1 + (xs.drop i).length) = [] := List.drop_of_length_le (by rw [List.length_drop, hx, List.length_append, hx, List.length_singleton]; omega)
  have e2 : ((xs ++ [u0]).take (i + 1)).length = i + 1 := by rw [List.length_take, List.length_append, hx, List.length_singleton]; omega
  have e3 : ((xs ++ [u0]).take (i + 1) ++ xs.drop i).take i = xs.take i := by
    rw [List.take_append_of_le_length (by omega), List.take_take, Nat.min_eq_left (by omega), List.take_append_of_le_length (by omega)]
  have e4 : ((xs ++ [u0]).take (i + 1) ++ xs.drop i).drop (i + [u].length) = xs.drop i := List.drop_left' e2
  rw [e1, List.append_nil, e3, e4]

theorem shape_of {w : World} {g : Nat} {cs : Array Value} {t : TypeId} (h : w.heap[g]? = some (.cells cs t (0, 0))) : w.shape? g = some (t, cs.size) := by
  simp [World.shape?, h]

set_option maxRecDepth 100000 in
set_option maxHeartbeats 4000000 in
/-- There is room, and something stands behind. -/
theorem ins_shift (base g n c i vb : Nat) (xs : List Value) (u : Value) (w : World) (hi : i < n) (hroom : n + 1 ≤ c) (hn : n ≤ 1000000) (hown : w.ownsRow base 72 1 (.slice (some ⟨g, 0, none⟩) n c) n xs) (hvb : vb ≠ g)
    (hv : w.heap[vb]? = some (.cells #[u] 72 (0, 0))) (h1 : ∀ v ∈ xs, v.oneCell' = true) (hu : u.oneCell' = true) :
    Calls Try.prog 55 #[.slice (some ⟨g, 0, none⟩) n c, .int .i64 i, .slice (some ⟨vb, 0, none⟩) 1 1] w fun e w' =>
      e = .returned (.slice (some ⟨g, 0, none⟩) (n + 1) c) ∧ w' = (w.drew.setCells g (i + 1) (xs.drop i)).setCells g i [u] := by
  have mixed := mixed
  have hxl : xs.length = n := by have := hown.1; omega
  have hcell : ∀ j v, xs[j]? = some v → w.cell? ⟨g, j, none⟩ = some v := fun j v hj => by
    have hjn : j < n := by
      have := (List.getElem?_eq_some_iff.1 hj).1
      omega
    rw [World.ownsRow.cellAt hown j (by omega)]
    exact hj
  obtain ⟨u0, hown1⟩ := own_wider hown hroom
  have hsp : ∀ j, j < n + 1 → (w.cell? ⟨g, j, none⟩).isSome = true := fun j hj => by
    rw [World.ownsRow.cellAt hown1 j (by omega), List.getElem?_eq_getElem (by simp; omega)]
    rfl
  have hfz : ∀ j, w.frozen? ⟨g, j, none⟩ = false := fun j => World.ownsRow.frozenAt hown j
  have hgc : ∃ cs : Array Value, w.heap[g]? = some (.cells cs 72 (0, 0)) ∧ cs.size ≠ 0 ∧ c ≤ maxLen := by
    rcases hown.2 with ⟨e, _⟩ | ⟨g', cap', cur, e, hb, hg, hnn, hc, hs, ht⟩
    · simp at e
    · simp only [Value.slice.injEq, Option.some.injEq, Addr.mk.injEq, and_true, true_and] at e
      obtain ⟨rfl, rfl⟩ := e
      exact ⟨cur, hg, by omega, hc⟩
  obtain ⟨cs, hgh, hcs0, hcm⟩ := hgc
  unfold maxLen at hcm
  have hov : ∀ lb cb, (callFunc 70 #[.slice (some ⟨vb, 0, none⟩) 1 1, .slice (some ⟨g, i + 1, none⟩) lb cb]).run Try.prog w = .ok (.value (.bool false)) w := fun lb cb => by
    rw [run_callFunc_extern Try.func70 (by kernel_rfl) (by kernel_rfl) (by kernel_rfl) (e := Extern.SlicesOverlaps.overlaps #[66, 66] #[4]) (by kernel_rfl),
      Lib.run_overlaps_apart w 66 4 72 Try.underlying66 1 sizeOfPtr ⟨vb, 0, none⟩ ⟨g, i + 1, none⟩ 1 1 lb cb hvb 72 72 1 cs.size (shape_of hv) (shape_of hgh) hcs0 (by simp [World.frozen?, hv]) (by simp [World.frozen?, hv])]
    rfl
  have hdl : (xs.drop i).length = n - i := by rw [List.length_drop, hxl]
  have hcp1 : ∀ ty dc sc, (Builtin.copy_ #[66, 66] ty #[.slice (some ⟨g, i + 1, none⟩) (n - i) dc, .slice (some ⟨g, i, none⟩) (n + 1 - i) sc]).run Try.prog w.drew = .ok (goInt (xs.drop i).length) (w.drew.setCells g (i + 1) (xs.drop i)) := fun ty dc sc =>
    run_copy_cells w.drew _ _ ty 72 g (i + 1) (n - i) dc ⟨g, i, none⟩ (n + 1 - i) sc (xs.drop i) Try.underlying66 sizePtr (by rw [hdl]; simp only [Nat.min_def]; split <;> omega)
      (fun j v hj => by rw [Addr.add_lit]; exact hcell (i + j) v (by rwa [List.getElem?_drop] at hj))
      (fun j hj => hsp _ (by omega)) (fun j _ => hfz _) (fun v hv' => h1 v (List.mem_of_mem_drop hv'))
  obtain ⟨W1, hW1⟩ : ∃ W1, W1 = w.drew.setCells g (i + 1) (xs.drop i) := ⟨_, rfl⟩
  have hsp1 : ∀ k, k < n + 1 → (W1.cell? ⟨g, k, none⟩).isSome = true := fun k hk => by
    rw [hW1]
    exact isSome_setCells g (xs.drop i) (i + 1) w.drew (fun j hj => hsp _ (by rw [hdl] at hj; omega)) k (hsp k hk)
  have hv0 : W1.cell? ⟨vb, 0, none⟩ = some u := by
    rw [hW1, World.cell?_setCells_out g _ _ _ _ (fun h _ => absurd h hvb)]
    show w.cell? ⟨vb, 0, none⟩ = some u
    simp [World.cell?, hv]
  have hcp2 : ∀ (W : World), (∀ x, W.cell? x = W1.cell? x) → (∀ x, W.frozen? x = W1.frozen? x) → ∀ ty dc, (Builtin.copy_ #[66, 66] ty #[.slice (some ⟨g, i, none⟩) (n + 1 - i) dc, .slice (some ⟨vb, 0, none⟩) 1 1]).run Try.prog W = .ok (goInt ([u] : List Value).length) (W.setCells g i [u]) := fun W hWc hWf ty dc =>
    run_copy_cells W _ _ ty 72 g i (n + 1 - i) dc ⟨vb, 0, none⟩ 1 1 [u] Try.underlying66 sizePtr (by simp only [Nat.min_def]; split <;> simp <;> omega)
      (fun j v hj => by
        have hj0 : j = 0 := by
          have := (List.getElem?_eq_some_iff.1 hj).1
          simpa using this
        subst hj0
        simp at hj
        subst hj
        rw [Addr.add_lit, hWc]
        exact hv0)
      (fun j hj => by rw [hWc]; exact hsp1 _ (by simp at hj; omega)) (fun j hj => by rw [hWf, hW1, World.frozen?_setCells]; exact hfz _) (fun v hv' => by simp at hv'; rw [hv']; exact hu)
  rw [← hW1] at hcp1
  have hz1 : ¬ ((i : Int) = (n : Int)) := by omega
  have hw1 : IntKind.i64.wrap ((i : Int) + 1) = (i : Int) + 1 := by rw [IntKind.wrap_i64]; omega
  have hb1 : (0 : Int) ≤ (i : Int) + 1 := by omega
  have hin : i ≤ n := by omega
  have htn : ((i : Int) + 1).toNat = i + 1 := by omega
  have hb2 : ¬ (c = i + 1) := by omega
  have hb3 : (i : Int) ≤ (n : Int) + 1 := by omega
  have hb4 : ¬ (c = i) := by omega
  clear hown hown1 hcell hsp hfz hgh hv hv0 hsp1
  go_enter Try.func55, Try.ntmps55
  go_wp2_with (simp only [hov])
  go_region_law_o (refine step_copy_runI rfl _ _ 66 66 rfl _ _ (by simp [Act.eval, Act.put]) (by simp [Act.eval, Act.put]) (hcp1 _ _ _) ?_)
  go_wp2_with (at_builtin; refine wpList_copy_runI _ rfl _ _ 66 66 rfl _ _ rfl rfl (hcp2 _ (fun _ => rfl) (fun _ => rfl) _ _) ?_)
  go_ret
  first | exact ⟨rfl, rfl⟩ | exact ⟨rfl, by rw [hW1]⟩
set_option maxRecDepth 100000 in
set_option maxHeartbeats 4000000 in
/-- There is no room, and something stands behind: a new row. -/
theorem ins_grow (base g n c i vb : Nat) (xs : List Value) (u : Value) (w : World) (hi : i < n) (hroom : c < n + 1) (hnc : n ≤ c) (hn : n ≤ 1000000) (hbase : base ≤ w.heap.size) (hown : w.ownsRow base 72 1 (.slice (some ⟨g, 0, none⟩) n c) n xs)
    (hv : w.heap[vb]? = some (.cells #[u] 72 (0, 0))) (h1 : ∀ v ∈ xs, v.oneCell' = true) (hu : u.oneCell' = true) :
    Calls Try.prog 55 #[.slice (some ⟨g, 0, none⟩) n c, .int .i64 i, .slice (some ⟨vb, 0, none⟩) 1 1] w fun e w' =>
      ∃ G, e = .returned (.slice (some ⟨w.heap.size, 0, none⟩) (n + 1) G) ∧ w'.ownsRow base 72 1 (.slice (some ⟨w.heap.size, 0, none⟩) (n + 1) G) (n + 1) (xs.take i ++ [u] ++ xs.drop i) ∧ w.grownBy w' none := by
  have mixed := mixed
  have hxl : xs.length = n := by have := hown.1; omega
  have hcell : ∀ j v, xs[j]? = some v → w.cell? ⟨g, 0 + j, none⟩ = some v := fun j v hj => by
    have hjn : j < n := by
      have := (List.getElem?_eq_some_iff.1 hj).1
      omega
    rw [Nat.zero_add, World.ownsRow.cellAt hown j (by omega)]
    exact hj
  obtain ⟨i0, hi0, hz0, hzs, hzb⟩ := info_parts Try.infoPtr
  have hbw : g < w.heap.size := (World.ownsRow.lt hown g rfl).2
  have hvw : vb < w.heap.size := (Array.getElem?_eq_some_iff.1 hv).1
  have hkk : (n : Int) + 1 - (i : Int) = ((n + 1 - i : Nat) : Int) := by omega
  have hik : i + (n + 1 - i) = n + 1 := by omega
  have hold : (Builtin.firstCells i0.size i (.slice (some ⟨g, 0, none⟩) i c)).run Try.prog w.drew = .ok (xs.take i).toArray w.drew := by
    rw [hzs]
    exact run_firstCells_some w.drew 1 i ⟨g, 0, none⟩ i c (xs.take i) (by rw [List.length_take]; omega) (fun j v hj => by
      rw [Addr.add_lit]
      rw [List.getElem?_take] at hj
      split at hj
      · exact hcell j v hj
      · cases hj)
  have hrz : ∀ ty, (Builtin.append_ #[66, 3] ty #[.slice (some ⟨g, 0, none⟩) i c, .int .i64 ((n : Int) + 1 - (i : Int))]).run Try.prog w =
      .ok (.slice (some ⟨w.heap.size, 0, none⟩) (n + 1) (grownCap w (n + 1) c 72)) (w.drew.alloc (.cells ((xs.take i).toArray ++ Builtin.zeroCells (Value.pointer none).cells (n + 1 - i) ++ Builtin.zeroCells (Value.pointer none).cells (grownCap w (n + 1) c 72 - (n + 1))) 72)) := fun ty => by
    have h := Lib.run_append_grow_zeros w 66 3 ty 72 i0 _ .i64 .i64 Try.underlying66 Try.underlying3 hi0 hz0 (some ⟨g, 0, none⟩) i c (xs.take i) hold (n + 1 - i) (by omega) (by omega) (by omega) (by omega) (by rw [hzb]; omega) (by rw [hzb, hik]; exact growslice_fits hroom (by omega))
    rw [hik] at h
    rw [hkk]
    exact h
  have hGn : n + 1 ≤ grownCap w (n + 1) c 72 := grownCap_ge w _ _ _
  have hGm := grownCap_le_maxLen w (n + 1) c 72 (by unfold maxLen; omega)
  obtain ⟨G, hG⟩ : ∃ G, G = grownCap w (n + 1) c 72 := ⟨_, rfl⟩
  rw [← hG] at hrz hGn hGm
  have hG63 : G ≤ 9223372036854775807 := by unfold maxLen at hGm; omega
  obtain ⟨ROW, hROW⟩ : ∃ ROW : Array Value, ROW = (xs.take i).toArray ++ Builtin.zeroCells (Value.pointer none).cells (n + 1 - i) ++ Builtin.zeroCells (Value.pointer none).cells (G - (n + 1)) := ⟨_, rfl⟩
  rw [← hROW] at hrz
  have hRs : ROW.size = G := by
    rw [hROW]
    simp [Builtin.zeroCells, Value.cells, hxl]
    omega
  have hRt : ROW.toList.take i = xs.take i := by
    have e : ROW.toList = xs.take i ++ (ROW.toList.drop i) := by
      have : ROW.toList.take i = xs.take i := by
        rw [hROW, Array.append_assoc]
        simp [hxl, Nat.min_eq_left (show i ≤ n by omega)]
      rw [← this, List.take_append_drop]
    rw [e, List.take_append_of_le_length (by simp [hxl]; omega), List.take_of_length_le (by simp; omega)]
  obtain ⟨W1, hW1⟩ : ∃ W1, W1 = w.drew.alloc (.cells ROW 72) := ⟨_, rfl⟩
  have hO1 : W1.ownsRow base 72 1 (.slice (some ⟨w.heap.size, 0, none⟩) (n + 1) G) (n + 1) (ROW.toList.take (n + 1)) := by
    rw [hW1]
    exact ⟨by rw [List.length_take, Array.length_toList, hRs]; omega, Or.inr ⟨w.heap.size, G, ROW, rfl, hbase, (MapKept.heap_alloc w.drew _).1, hGn, hGm, by omega, by rw [Nat.mul_one]⟩⟩
  have hN : ∀ j, j < n + 1 → (W1.cell? ⟨w.heap.size, j, none⟩).isSome = true := fun j hj => by
    rw [World.ownsRow.cellAt hO1 j (by omega), List.getElem?_eq_getElem (by rw [List.length_take, Array.length_toList, hRs]; omega)]
    rfl
  have hNf : ∀ j, W1.frozen? ⟨w.heap.size, j, none⟩ = false := fun j => World.ownsRow.frozenAt hO1 j
  have hK : RowKit.Below w.heap.size w W1 := by rw [hW1]; exact ((Far.refl w).drew.alloc _).below
  have hOb : ∀ j v, w.cell? ⟨g, j, none⟩ = some v → W1.cell? ⟨g, j, none⟩ = some v := fun j v h => (hK.cell hbw).trans h
  have hOv : W1.cell? ⟨vb, 0, none⟩ = some u := (hK.cell hvw).trans (by simp [World.cell?, hv])
  have hne : vb ≠ w.heap.size := by omega
  have hgne : g ≠ w.heap.size := by omega
  have hdl : (xs.drop i).length = n - i := by rw [List.length_drop, hxl]
  have hcpA : ∀ (W : World), (∀ x, W.cell? x = W1.cell? x) → (∀ x, W.frozen? x = W1.frozen? x) → ∀ ty dc, (Builtin.copy_ #[66, 66] ty #[.slice (some ⟨w.heap.size, i, none⟩) (n + 1 - i) dc, .slice (some ⟨vb, 0, none⟩) 1 1]).run Try.prog W = .ok (goInt ([u] : List Value).length) (W.setCells w.heap.size i [u]) := fun W hWc hWf ty dc =>
    run_copy_cells W _ _ ty 72 w.heap.size i (n + 1 - i) dc ⟨vb, 0, none⟩ 1 1 [u] Try.underlying66 sizePtr (by simp only [Nat.min_def]; split <;> simp <;> omega)
      (fun j v hj => by
        have hj0 : j = 0 := by
          have := (List.getElem?_eq_some_iff.1 hj).1
          simpa using this
        subst hj0
        simp at hj
        subst hj
        rw [Addr.add_lit, hWc]
        exact hOv)
      (fun j hj => by rw [hWc]; exact hN _ (by simp at hj; omega)) (fun j _ => by rw [hWf]; exact hNf _) (fun v hv' => by simp at hv'; rw [hv']; exact hu)
  have hcpB : ∀ (W : World), (∀ x, W.cell? x = (W1.setCells w.heap.size i [u]).cell? x) → (∀ x, W.frozen? x = (W1.setCells w.heap.size i [u]).frozen? x) → ∀ ty dc sc, (Builtin.copy_ #[66, 66] ty #[.slice (some ⟨w.heap.size, i + 1, none⟩) (n + 1 - (i + 1)) dc, .slice (some ⟨g, i, none⟩) (n - i) sc]).run Try.prog W = .ok (goInt (xs.drop i).length) (W.setCells w.heap.size (i + 1) (xs.drop i)) := fun W hWc hWf ty dc sc =>
    run_copy_cells W _ _ ty 72 w.heap.size (i + 1) (n + 1 - (i + 1)) dc ⟨g, i, none⟩ (n - i) sc (xs.drop i) Try.underlying66 sizePtr (by rw [hdl]; simp only [Nat.min_def]; split <;> omega)
      (fun j v hj => by
        rw [Addr.add_lit, hWc, World.cell?_setCells_out _ _ _ _ _ (fun h _ => absurd h hgne)]
        have := hOb _ v (hcell (i + j) v (by rwa [List.getElem?_drop] at hj))
        rwa [Nat.zero_add] at this)
      (fun j hj => by rw [hWc]; exact isSome_setCells _ [u] i W1 (fun t ht => hN _ (by simp at ht; omega)) _ (hN _ (by rw [hdl] at hj; omega)))
      (fun j _ => by rw [hWf, World.frozen?_setCells]; exact hNf _) (fun v hv' => h1 v (List.mem_of_mem_drop hv'))
  have hend : ∀ (W : World), W = (((w.alloc (.cells ROW 72)).drew.setCells w.heap.size i [u]).drew).setCells w.heap.size (i + 1) (xs.drop i) → W.ownsRow base 72 1 (.slice (some ⟨w.heap.size, 0, none⟩) (n + 1) G) (n + 1) (xs.take i ++ [u] ++ xs.drop i) ∧ w.grownBy W none := fun W hW => by
    have hA : (w.alloc (.cells ROW 72)).drew.ownsRow base 72 1 (.slice (some ⟨w.heap.size, 0, none⟩) (n + 1) G) (n + 1) (ROW.toList.take (n + 1)) := by
      have : (w.alloc (.cells ROW 72)).drew = w.drew.alloc (.cells ROW 72) := rfl
      rw [this, ← hW1]
      exact hO1
    have hB := own_setCells [u] i _ _ hA (by simp; omega)
    have hB' : (((w.alloc (.cells ROW 72)).drew.setCells w.heap.size i [u]).drew).ownsRow base 72 1 (.slice (some ⟨w.heap.size, 0, none⟩) (n + 1) G) (n + 1) _ := hB.1
    have hC := own_setCells (xs.drop i) (i + 1) _ _ hB' (by rw [hdl]; omega)
    rw [hW]
    refine ⟨?_, ?_⟩
    · have e := ins_list xs (ROW.toList.take (n + 1)) u i n hxl (by omega) (by rw [List.length_take, Array.length_toList, hRs]; omega) (by rw [List.take_take, Nat.min_eq_left (by omega), hRt])
      rw [← e]
      exact hC.1
    · have hg1 : w.grownBy (w.alloc (.cells ROW 72)).drew none := (World.grownBy_alloc w _ none).trans (grownBy_drew1 _ _)
      have g2 := hB.2
      have g3 : ((w.alloc (.cells ROW 72)).drew.setCells w.heap.size i [u]).grownBy ((((w.alloc (.cells ROW 72)).drew.setCells w.heap.size i [u]).drew).setCells w.heap.size (i + 1) (xs.drop i)) (some w.heap.size) := (grownBy_drew1 _ _).trans hC.2
      have g4 := g2.trans g3
      exact ⟨g4.os.trans hg1.os, g4.tape.trans hg1.tape, g4.output.trans hg1.output, Nat.le_trans hg1.size g4.size, fun k hk _ => (g4.block k (Nat.lt_of_lt_of_le hk hg1.size) (fun e => by cases e; omega)).trans (hg1.block k hk (by simp))⟩
  subst hW1
  have hz1 : ¬ ((i : Int) = (n : Int)) := by omega
  have hz3 : (c : Int) < (n : Int) + 1 := by omega
  have hw1 : IntKind.i64.wrap ((i : Int) + 1) = (i : Int) + 1 := by rw [IntKind.wrap_i64]; omega
  have hb1 : (0 : Int) ≤ (i : Int) + 1 := by omega
  have hin : i ≤ n := by omega
  have htn : ((i : Int) + 1).toNat = i + 1 := by omega
  have hb3 : (i : Int) ≤ (n : Int) := by omega
  have hGi : ¬ (G = i) := by omega
  have hGim : ¬ (G = i + 1) := by omega
  have hci : ¬ (c = i) := by omega
  have HE := hid hend
  have hE1 : ∀ x, ((w.alloc (.cells ROW 72)).drew).cell? x = (w.drew.alloc (.cells ROW 72)).cell? x := fun x => rfl
  have hE2 : ∀ x, ((w.alloc (.cells ROW 72)).drew).frozen? x = (w.drew.alloc (.cells ROW 72)).frozen? x := fun x => rfl
  have hF1 : ∀ x, (((w.alloc (.cells ROW 72)).drew.setCells w.heap.size i [u]).drew).cell? x = ((w.drew.alloc (.cells ROW 72)).setCells w.heap.size i [u]).cell? x := fun x => rfl
  have hF2 : ∀ x, (((w.alloc (.cells ROW 72)).drew.setCells w.heap.size i [u]).drew).frozen? x = ((w.drew.alloc (.cells ROW 72)).setCells w.heap.size i [u]).frozen? x := fun x => rfl
  clear hkk hik hold hROW hG hRs hRt hend hO1 hN hNf hK hOb hOv hown hcell hv
  go_enter Try.func55, Try.ntmps55
  go_wp2_with (first
    | (at_builtin; refine Lib.wpList_append_run _ rfl _ _ _ _ rfl _ _ rfl rfl _ _ (hrz _) ?_)
    | (at_builtin; refine wpList_copy_runI _ rfl _ _ 66 66 rfl _ _ rfl rfl (hcpA _ hE1 hE2 _ _) ?_)
    | (at_builtin; refine wpList_copy_runI _ rfl _ _ 66 66 rfl _ _ rfl rfl (hcpB _ (fun _ => rfl) (fun _ => rfl) _ _ _) ?_))
  go_region_law_o (refine step_copy_runI rfl _ _ 66 66 rfl (.slice (some ⟨w.heap.size, i + 1, none⟩) (n + 1 - (i + 1)) (G - (i + 1))) (.slice (some ⟨g, i, none⟩) (n - i) (c - i)) (by simp [Act.eval, Act.put]) (by simp [Act.eval, Act.put]) (hcpB _ hF1 hF2 3 (G - (i + 1)) (c - i)) ?_)
  go_wp2
  go_ret
  exact ⟨G, rfl, HE.out _ rfl⟩

/-- Appends one pointer to a row of one's own. -/
theorem wpList_append_ptr {w : World} {ops : Array Oper} {rest : List Oper} {o : Oper} {a : Act} {Q : Exit → Act → World → Prop} (hgd : o.guard = none) (s x : Operand)
    (ho : o.op = .call { callee := .builtin .append, args := #[s, x], argTypes := #[66, 66] }) (base : Nat) (v : Value) (n : Nat) (xs : List Value) (hs : a.eval s = v) (hown : w.ownsRow base 72 1 v n xs)
    (vb : Nat) (u : Value) (hx : a.eval x = .slice (some ⟨vb, 0, none⟩) 1 1) (hv : w.cell? ⟨vb, 0, none⟩ = some u) (hu : u.oneCell' = true) (hb : n + 1 ≤ 1000001) (hbase : base ≤ w.heap.size)
    (h : ∀ g cap w', w'.ownsRow base 72 1 (.slice (some ⟨g, 0, none⟩) (n + 1) cap) (n + 1) (xs ++ [u]) → w.grownBy w' v.ownBlock → (v.ownBlock = some g ∨ g = w.heap.size) → wpList Try.prog ops Q rest (a.put o.dst (.slice (some ⟨g, 0, none⟩) (n + 1) cap)) w') : wpList Try.prog ops Q (o :: rest) a w := by
  obtain ⟨i0, hi, hz0, hz1, hz2⟩ := info_parts Try.infoPtr
  refine wpList_append_lies w hgd s x 66 ho base 72 i0 _ 1 8 Try.underlying66 hi hz0 hz1 hz2 rfl (by decide) v n xs hs hown ⟨vb, 0, none⟩ 1 1 [u] hx rfl (fun j y hj => ?_) (fun y hy => by simp at hy; rw [hy]; exact hu) (by decide) (by unfold maxLen; omega) (by omega) hbase _ rfl ?_
  · have hj0 : j = 0 := by
      have := (List.getElem?_eq_some_iff.1 hj).1
      simpa using this
    subst hj0
    simp at hj
    subst hj
    rw [Addr.add_lit]
    exact hv
  · intro g cap w' h1 h2 h3 _
    exact h g cap w' h1 h2 h3

set_option maxRecDepth 100000 in
set_option maxHeartbeats 4000000 in
/-- slices.Insert of one pointer, anywhere in a row of one's own. -/
theorem fginsert_any (base : Nat) (v : Value) (n i vb : Nat) (xs : List Value) (u : Value) (w : World) (hi : i ≤ n) (hn : n ≤ 1000000) (hbase : base ≤ w.heap.size) (hown : w.ownsRow base 72 1 v n xs) (hvb : v.ownBlock ≠ some vb)
    (hv : w.heap[vb]? = some (.cells #[u] 72 (0, 0))) (h1 : ∀ y ∈ xs, y.oneCell' = true) (hu : u.oneCell' = true) :
    Calls Try.prog 55 #[v, .int .i64 i, .slice (some ⟨vb, 0, none⟩) 1 1] w fun e w' =>
      ∃ g c, e = .returned (.slice (some ⟨g, 0, none⟩) (n + 1) c) ∧ w'.ownsRow base 72 1 (.slice (some ⟨g, 0, none⟩) (n + 1) c) (n + 1) (xs.take i ++ [u] ++ xs.drop i) ∧ w.grownBy w' v.ownBlock ∧ (v.ownBlock = some g ∨ g = w.heap.size) := by
  have hxl : xs.length = n := by have := hown.1; omega
  have hv0 : w.cell? ⟨vb, 0, none⟩ = some u := by simp [World.cell?, hv]
  by_cases hin : i = n
  · subst hin
    have hcase : (v = .slice none 0 0 ∧ i = 0) ∨ ∃ g c, v = .slice (some ⟨g, 0, none⟩) i c ∧ i ≤ c ∧ c ≤ maxLen := by
      rcases hown.2 with h | ⟨g, cap, cur, e, _, _, hnc, hc, _⟩
      · exact Or.inl h
      · exact Or.inr ⟨g, cap, e, hnc, hc⟩
    have HOWN := hid hown
    have hlist : xs.take i ++ [u] ++ xs.drop i = xs ++ [u] := by rw [List.take_of_length_le (by omega), List.drop_of_length_le (by omega), List.append_nil]
    obtain ⟨Z, hZ⟩ : ∃ Z, xs.take i ++ [u] ++ xs.drop i = Z := ⟨_, rfl⟩
    rw [hZ] at hlist ⊢
    have HL := hid hlist
    clear hlist hown hZ
    rcases hcase with ⟨rfl, rfl⟩ | ⟨g, c, rfl, hnc, hcm⟩
    · go_enter Try.func55, Try.ntmps55
      go_wp2_with (at_builtin; refine wpList_append_ptr rfl _ _ rfl base (.slice none 0 0) 0 xs rfl HOWN.out vb u rfl hv0 hu (by omega) hbase ?_; intro g7 c7 w7 ho7 hg7 hat7)
      all_goals (go_ret; exact ⟨g7, c7, rfl, by rw [HL.out]; exact ho7, hg7, hat7⟩)
    · unfold maxLen at hcm
      have hz1 : ((i : Int) == (i : Int)) = true := by simp
      go_enter Try.func55, Try.ntmps55
      go_wp2_with (at_builtin; refine wpList_append_ptr rfl _ _ rfl base (.slice (some ⟨g, 0, none⟩) i c) i xs rfl HOWN.out vb u rfl hv0 hu (by omega) hbase ?_; intro g7 c7 w7 ho7 hg7 hat7)
      all_goals (go_ret; exact ⟨g7, c7, rfl, by rw [HL.out]; exact ho7, hg7, hat7⟩)
  · obtain ⟨g, c, rfl, hnc⟩ : ∃ g c, v = .slice (some ⟨g, 0, none⟩) n c ∧ n ≤ c := by
      rcases hown.2 with ⟨_, h⟩ | ⟨g, cap, cur, e, _, _, hnc, _⟩
      · omega
      · exact ⟨g, cap, e, hnc⟩
    have hvg : vb ≠ g := fun e => hvb (by rw [e]; rfl)
    by_cases hroom : n + 1 ≤ c
    · refine (ins_shift base g n c i vb xs u w (by omega) hroom hn hown hvg hv h1 hu).mono ?_
      rintro e w' ⟨rfl, rfl⟩
      obtain ⟨u0, hw⟩ := own_wider hown hroom
      have hw' : w.drew.ownsRow base 72 1 (.slice (some ⟨g, 0, none⟩) (n + 1) c) (n + 1) (xs ++ [u0]) := hw
      have hdl : (xs.drop i).length = n - i := by rw [List.length_drop, hxl]
      have hA := own_setCells (xs.drop i) (i + 1) _ _ hw' (by rw [hdl]; omega)
      have hB := own_setCells [u] i _ _ hA.1 (by simp; omega)
      refine ⟨g, c, rfl, ?_, ((grownBy_drew1 _ _).trans hA.2).trans hB.2, Or.inl rfl⟩
      have e := ins_list2 xs u0 u i n hxl (by omega)
      rw [e]
      exact hB.1
    · refine (ins_grow base g n c i vb xs u w (by omega) (by omega) hnc hn hbase hown hv h1 hu).mono ?_
      rintro e w' ⟨G, rfl, h2, h3⟩
      exact ⟨w.heap.size, G, rfl, h2, ⟨h3.os, h3.tape, h3.output, h3.size, fun k hk _ => h3.block k hk (by simp)⟩, Or.inr rfl⟩

end

section
open Go.RowKit Go.Maps
open Go.Sort (grow)

/-- A world behind w, in which all is as it was. -/
structure Wb (w : World) where
  u : World
  h : RowKit.Below w.heap.size w u

theorem wp_region_below {P : Program} {id : Nat} {Q : Exit → Act → World → Prop} {a : Act} {w : World} {l : List Oper} (hm : P.follows .mixedOrders = true) (hB : Region.lexB .any l.toArray = true)
    (h : wpQuiet P l.toArray (fun w' => ∃ p : Wb w, w' = p.u) (fun a' => ∀ w', (∃ p : Wb w, w' = p.u) → Q .normal a' w') l a) : (Code.region id l.toArray true).wp P Q a w :=
  wp_region_quiet (C := fun w' => ∃ p : Wb w, w' = p.u) hm hB ⟨⟨w.drew, (Far.refl w).drew.below⟩, rfl⟩ (by simpa using h)

theorem below_q {f : FuncId} {args : Array Value} {w : World} {v : Value} {p : Wb w} (h : Calls Try.prog f args p.u fun e w' => e = .returned v ∧ RowKit.Below p.u.heap.size p.u w') : Calls Try.prog f args p.u fun e w'' => e = .returned v ∧ ∃ p' : Wb w, w'' = p'.u :=
  h.mono fun _ w' ⟨he, hb⟩ => ⟨he, ⟨w', p.h.trans (hb.mono p.h.size)⟩, rfl⟩

theorem far_q {f : FuncId} {args : Array Value} {w : World} {v : Value} {p : Wb w} (h : Tells f args p.u v) : Calls Try.prog f args p.u fun e w'' => e = .returned v ∧ ∃ p' : Wb w, w'' = p'.u :=
  below_q (h.mono fun _ _ ⟨he, hf⟩ => ⟨he, hf.below⟩)

end

section
open Go.RowKit
open Go.Sort (grow)

set_option maxHeartbeats 1000000 in
theorem fgless_any (a b : Dt) (w : World) : Tells 69 #[dv a, dv b] w (.bool (dl a b)) := by
  obtain ⟨a1, a2⟩ := a
  obtain ⟨b1, b2⟩ := b
  by_cases h : a1 = b1
  · subst h
    go_enter Try.func69, Try.ntmps69
    go_wp2
    go_ret
    exact ⟨by simp [dl], ((Far.refl w).alloc _).alloc _⟩
  · go_enter Try.func69, Try.ntmps69
    go_wp2
    go_ret
    exact ⟨by simp [dl, h], ((Far.refl w).alloc _).alloc _⟩

/-- A pointer to a block. -/
abbrev pv (g : Nat) : Value := .pointer (some ⟨g, 0, none⟩)
def prow (gs : List Nat) : List Value := gs.map pv

/-- What a character's block says first: its identity. -/
structure IdAt (w : World) (g : Nat) (d : Dt) : Prop where
  c0 : w.cell? ⟨g, 0, none⟩ = some (.int .i64 d.1)
  c1 : w.cell? ⟨g, 1, none⟩ = some (.int .i64 d.2)

theorem IdAt.lt {w : World} {g : Nat} {d : Dt} (h : IdAt w g d) : g < w.heap.size := cell_in h.c0
theorem IdAt.below {w w' : World} {g : Nat} {d : Dt} (h : IdAt w g d) (hb : RowKit.Below w.heap.size w w') : IdAt w' g d := ⟨(hb.cell h.lt).trans h.c0, (hb.cell h.lt).trans h.c1⟩

set_option maxRecDepth 100000 in
set_option maxHeartbeats 1000000 in
theorem fgorder_any (g1 g2 : Nat) (d1 d2 : Dt) (w : World) (h1 : IdAt w g1 d1) (h2 : IdAt w g2 d2) :
    Calls Try.prog 54 #[pv g1, pv g2] w fun e w' => e = .returned (.int .i64 (if dl d1 d2 = true then -1 else 1)) ∧ RowKit.Below w.heap.size w w' := by
  have mixed := mixed
  haveI : Nonempty (Wb w) := ⟨⟨w, Below.refl _ _⟩⟩
  have a0 := fun p : Wb w => (h1.below p.h).c0
  have a1 := fun p : Wb w => (h1.below p.h).c1
  have b0 := fun p : Wb w => (h2.below p.h).c0
  have b1 := fun p : Wb w => (h2.below p.h).c1
  have hL : ∀ p : Wb w, Calls Try.prog 69 #[.agg #[.int .i64 d1.1, .int .i64 d1.2], .agg #[.int .i64 d2.1, .int .i64 d2.2]] p.u fun e w' => e = .returned (.bool (dl d1 d2)) ∧ ∃ p' : Wb w, w' = p'.u := fun p => far_q (fgless_any d1 d2 p.u)
  cases hb : dl d1 d2
  · rw [hb] at hL
    go_enter Try.func54, Try.ntmps54
    go_upto_region 1 with fail
    refine wp_region_below mixed (by kernel_rfl) ?_
    repeat (go_big_quiet_step (first | (go_at_call 69; exact hL _)))
    refine wpQuiet_nil ?_
    intro _ hw'
    obtain ⟨p, hw''⟩ := hw'
    subst hw''
    go_wp2
    go_ret
    exact ⟨by first | rfl | simp, p.h⟩
  · rw [hb] at hL
    go_enter Try.func54, Try.ntmps54
    go_upto_region 1 with fail
    refine wp_region_below mixed (by kernel_rfl) ?_
    repeat (go_big_quiet_step (first | (go_at_call 69; exact hL _)))
    refine wpQuiet_nil ?_
    intro _ hw'
    obtain ⟨p, hw''⟩ := hw'
    subst hw''
    go_wp2
    go_ret
    exact ⟨by first | rfl | simp, p.h⟩

/-- How many come ahead. -/
def aheadOf (ds : List Dt) (y : Dt) : Nat := (ds.takeWhile (fun d => dl d y)).length

theorem aheadOf_le (ds : List Dt) (y : Dt) : aheadOf ds y ≤ ds.length := (List.takeWhile_prefix _).length_le

theorem ins_at (y : Dt) : ∀ ds : List Dt, y ∉ ds → ins ds y = ds.take (aheadOf ds y) ++ [y] ++ ds.drop (aheadOf ds y)
  | [], _ => rfl
  | d :: r, h => by
    have hne : d ≠ y := fun e => h (by rw [e]; simp)
    have hr : y ∉ r := fun hm => h (List.mem_cons_of_mem _ hm)
    have ih := ins_at y r hr
    unfold ins
    cases hd : dl d y
    · have ha : aheadOf (d :: r) y = 0 := by simp [aheadOf, List.takeWhile, hd]
      rw [ha]
      simp [hne]
    · have ha : aheadOf (d :: r) y = aheadOf r y + 1 := by simp [aheadOf, List.takeWhile, hd]
      rw [ha, if_pos rfl, ih]
      simp

theorem up_get {ds : List Dt} (h : Up ds) {i j : Nat} {a b : Dt} (hij : i < j) (ha : ds[i]? = some a) (hb : ds[j]? = some b) : dl a b = true := by
  obtain ⟨hi, rfl⟩ := List.getElem?_eq_some_iff.1 ha
  obtain ⟨hj, rfl⟩ := List.getElem?_eq_some_iff.1 hb
  exact (List.pairwise_iff_getElem.1 h) i j hi hj hij

theorem aheadOf_unique {ds : List Dt} {y : Dt} {lo : Nat} (hl : lo ≤ ds.length) (h1 : ∀ t d, t < lo → ds[t]? = some d → dl d y = true) (h2 : ∀ d, ds[lo]? = some d → dl d y = false) : lo = aheadOf ds y := by
  induction ds generalizing lo with
  | nil => simp at hl; simp [hl, aheadOf]
  | cons d r ih =>
    cases lo with
    | zero =>
      have := h2 d rfl
      simp [aheadOf, List.takeWhile, this]
    | succ lo =>
      have hd := h1 0 d (by omega) rfl
      have := ih (lo := lo) (by simpa using hl) (fun t e ht he => h1 (t + 1) e (by omega) (by simpa using he)) (fun e he => h2 e (by simpa using he))
      simp [aheadOf, List.takeWhile, hd] at this ⊢
      exact this

/-- A row of characters: their blocks, their identities. -/
structure CR (w : World) (gs : List Nat) (ds : List Dt) : Prop where
  len : gs.length = ds.length
  at_ : ∀ (i : Nat) (g : Nat) (d : Dt), gs[i]? = some g → ds[i]? = some d → IdAt w g d

theorem CR.below {w w' : World} {gs : List Nat} {ds : List Dt} (h : CR w gs ds) (hb : RowKit.Below w.heap.size w w') : CR w' gs ds := ⟨h.len, fun i g d h1 h2 => (h.at_ i g d h1 h2).below hb⟩

/-- A slice that holds pointers. -/
structure PP (w : World) (a : Option Addr) (n c : Nat) (gs : List Nat) : Prop where
  len : gs.length = n
  cap : n ≤ c
  max : c ≤ maxLen
  at_ : 0 < n → ∃ g o, a = some ⟨g, o, none⟩ ∧ g < w.heap.size ∧ ∀ i (hi : i < gs.length), w.cell? ⟨g, o + i, none⟩ = some (pv gs[i])

theorem PP.below {w w' : World} {a : Option Addr} {n c : Nat} {gs : List Nat} (h : PP w a n c gs) (hb : RowKit.Below w.heap.size w w') : PP w' a n c gs :=
  ⟨h.len, h.cap, h.max, fun hp => by
    obtain ⟨g, o, e, hg, hx⟩ := h.at_ hp
    exact ⟨g, o, e, Nat.lt_of_lt_of_le hg hb.size, fun i hi => (hb.cell hg).trans (hx i hi)⟩⟩

theorem own_pp {w : World} {base n : Nat} {v : Value} {gs : List Nat} (h : w.ownsRow base 72 1 v n (prow gs)) : ∃ a c, v = .slice a n c ∧ PP w a n c gs := by
  have hl : gs.length = n := by have := h.1; simpa [prow] using this
  rcases h.2 with ⟨rfl, rfl⟩ | ⟨g, cap, cur, rfl, hb, hg, hn, hc, hs, ht⟩
  · exact ⟨none, 0, rfl, hl, Nat.le_refl _, Nat.zero_le _, fun hp => absurd hp (by omega)⟩
  · refine ⟨_, _, rfl, hl, hn, hc, fun _ => ⟨g, 0, rfl, (Array.getElem?_eq_some_iff.1 hg).1, fun i hi => ?_⟩⟩
    rw [Nat.zero_add, World.ownsRow.cellAt h i (by omega)]
    simp [prow, List.getElem?_eq_getElem hi]

set_option maxRecDepth 100000 in
set_option maxHeartbeats 2000000 in
theorem fgsearch_any (a : Option Addr) (n c : Nat) (gs : List Nat) (ds : List Dt) (gc : Nat) (y : Dt) (w : World) (hs : PP w a n c gs) (hr : CR w gs ds) (hy : IdAt w gc y) (hn : n ≤ 1000000) (ha : Up ds) :
    Calls Try.prog 53 #[.slice a n c, pv gc, .func (.func 54) #[] #[]] w fun e w' => e = .returned (.tuple #[.int .i64 (aheadOf ds y : Nat), .bool false]) ∧ RowKit.Below w.heap.size w w' := by
  have HL := hid hs.len
  have HR := hid hr.len
  have HA := hid ha
  clear ha
  go_enter Try.func53, Try.ntmps53
  go_wp2
  go_loopw [9, 10] (fun i j wr => ∃ lo hi : Nat, i = .int .i64 lo ∧ j = .int .i64 hi ∧ lo ≤ hi ∧ hi ≤ n ∧ Hid (∀ t d, t < lo → ds[t]? = some d → dl d y = true) ∧ Hid (∀ t d, hi ≤ t → ds[t]? = some d → dl d y = false) ∧ Hid (RowKit.Below w.heap.size w wr)) (fun i j _ => (intOf j).toNat - (intOf i).toNat)
  case atStart => exact ⟨0, n, rfl, rfl, by omega, by omega, hid (fun t d ht => by omega), hid (fun t d ht hd => by
      have := (List.getElem?_eq_some_iff.1 hd).1
      have := HL.out
      have := HR.out
      omega), hid (Below.refl _ _)⟩
  case round =>
    obtain ⟨lo, hi, rfl, rfl, hlh, hin, hlow, hhigh, hW⟩ := hrel
    have hyr := hy.below hW.out
    by_cases hlt : lo < hi
    · have hmn : (lo + hi) / 2 < gs.length := by have := HL.out; omega
      obtain ⟨g, o, rfl, hg, hcell⟩ := (hs.below hW.out).at_ (by omega)
      have hc0 := hcell ((lo + hi) / 2) hmn
      have hmd : (lo + hi) / 2 < ds.length := by have := HR.out; omega
      have hLk : Hid _ := hid (List.getElem?_eq_getElem (l := ds) (i := (lo + hi) / 2) hmd)
      have hid0 := (hr.below hW.out).at_ _ _ _ (List.getElem?_eq_getElem hmn) (List.getElem?_eq_getElem hmd)
      generalize ds[(lo + hi) / 2] = d at hLk hid0
      generalize gs[(lo + hi) / 2] = gm at hc0 hid0
      have hG := fgorder_any gm gc d y wr hid0 hyr
      clear hs hr hcell hid0 hyr
      have hl := HL.out
      cases hd : dl d y
      · rw [hd] at hG
        simp only [Bool.false_eq_true, if_false] at hG
        go_wp2_with (first | (go_at_call 54; refine hG.mono ?_; rintro e w1 ⟨rfl, hF1⟩))
        go_roundw
        case rel => exact ⟨lo, (lo + hi) / 2, rfl, by rw [show ((lo : Int) + (hi : Int)) / 2 = (((lo + hi) / 2 : Nat) : Int) by omega], by omega, by omega, hlow, hid (fun t e ht he => by
          by_cases ht0 : t = (lo + hi) / 2
          · rw [ht0, hLk.out] at he; cases he; exact hd
          · cases hc : dl e y with
            | false => rfl
            | true =>
              have h1 : dl d e = true := up_get HA.out (by omega) hLk.out he
              rw [dl_trans h1 hc] at hd
              cases hd), hid (below2 hW.out hF1)⟩
        case measure => simp [intOf]; omega
      · rw [hd] at hG
        simp only [if_true] at hG
        go_wp2_with (first | (go_at_call 54; refine hG.mono ?_; rintro e w1 ⟨rfl, hF1⟩))
        go_roundw
        case rel => exact ⟨(lo + hi) / 2 + 1, hi, by rw [show ((lo : Int) + (hi : Int)) / 2 + 1 = (((lo + hi) / 2 + 1 : Nat) : Int) by omega], rfl, by omega, hin, hid (fun t e ht he => by
          by_cases ht0 : t = (lo + hi) / 2
          · rw [ht0, hLk.out] at he; cases he; exact hd
          · exact dl_trans (up_get HA.out (by omega) he hLk.out) hd), hhigh, hid (below2 hW.out hF1)⟩
        case measure => simp [intOf]; omega
    · obtain rfl : hi = lo := by omega
      have hres : Hid (hi = aheadOf ds y) := hid (aheadOf_unique (by have := HL.out; have := HR.out; omega) hlow.out (fun d hd => hhigh.out hi d (Nat.le_refl _) hd))
      by_cases hln : hi < n
      · have hmn : hi < gs.length := by have := HL.out; omega
        obtain ⟨g, o, rfl, hg, hcell⟩ := (hs.below hW.out).at_ (by omega)
        have hc0 := hcell hi hmn
        have hmd : hi < ds.length := by have := HR.out; omega
        have hid0 := (hr.below hW.out).at_ _ _ _ (List.getElem?_eq_getElem hmn) (List.getElem?_eq_getElem hmd)
        have hdf := hhigh.out hi _ (Nat.le_refl _) (List.getElem?_eq_getElem hmd)
        generalize ds[hi] = d at hid0 hdf
        generalize gs[hi] = gm at hc0 hid0
        have hG := fgorder_any gm gc d y wr hid0 hyr
        rw [hdf] at hG
        simp only [Bool.false_eq_true, if_false] at hG
        clear hs hr hcell hid0 hyr
        go_wp2_with (first | (go_at_call 54; refine hG.mono ?_; rintro e w1 ⟨rfl, hF1⟩))
        go_ret2
        exact ⟨by rw [← hres.out]; rfl, below2 hW.out hF1⟩
      · obtain rfl : hi = n := by omega
        clear hs
        go_wp2_with fail
        go_ret2
        exact ⟨by rw [← hres.out]; rfl, hW.out⟩

end

section
open Go.RowKit Go.Sort Go.Maps

/-- A pointer to a block, or none. -/
def pvo : Option Nat → Value
  | none => .pointer none
  | some g => .pointer (some ⟨g, 0, none⟩)
def pz : Option Nat → DataW Unit
  | none => .lit (.int .i64 (-1))
  | some g => .lit (.int .i64 (g : Int))
/-- How such a one reads, as an element of a map: as a number. -/
def pR (v : Value) : Option (DataW Unit × List MemPlace) :=
  match v with
  | .pointer none => some (pz none, [])
  | .pointer (some ⟨g, 0, none⟩) => some (pz (some g), [])
  | _ => none

theorem pR_mk (o : Option Nat) : pR (pvo o) = some (pz o, []) := by cases o <;> rfl

theorem pz_inj {o p : Option Nat} (h : pz o = pz p) : o = p := by
  cases o <;> cases p
  · rfl
  · simp [pz] at h
  · simp [pz] at h
  · simp [pz] at h; congr 1; omega

theorem pR_inv {v : Value} {o : Option Nat} {ps : List MemPlace} (h : pR v = some (pz o, ps)) : v = pvo o := by
  unfold pR at h
  split at h
  · have h1 : pz none = pz o := by simpa using congrArg Prod.fst (Option.some.inj h)
    rw [← pz_inj h1]; rfl
  · rename_i g
    have h1 : pz (some g) = pz o := by simpa using congrArg Prod.fst (Option.some.inj h)
    rw [← pz_inj h1]; rfl
  · cases h

/-- Block b is a map of at most n dots to blocks, that tells G. -/
def PM (w : World) (b n : Nat) (G : Dt → Option Nat) : Prop := ∃ D : DataW Unit, w.ownsMap Try.prog 24 pR b n D ∧ ∀ d, Dw d → Maps.has D (kl d) = (G d).isSome ∧ D.atKey (kl d) (pz none) = pz (G d)

theorem zeroPtr (w : World) : (zeroValue 72).run Try.prog w = .ok (pvo none) w := Try.zeroValue72 w

theorem PM.made (w : World) : PM (w.alloc (.map #[] 0)) w.heap.size 0 (fun _ => none) := ⟨_, World.ownsMap_made _ _ _ _, fun _ _ => ⟨rfl, rfl⟩⟩

theorem PM.lt {w : World} {b n : Nat} {G : Dt → Option Nat} (h : PM w b n G) : b < w.heap.size := by
  obtain ⟨D, ho, _⟩ := h
  exact ho.lt

theorem PM.same {w w' : World} {b n : Nat} {G : Dt → Option Nat} (h : PM w b n G) (hs : w'.heap[b]? = w.heap[b]?) : PM w' b n G := by
  obtain ⟨D, ⟨es, clock, h1, h2⟩, hT⟩ := h
  exact ⟨D, ⟨es, clock, by rw [hs]; exact h1, h2⟩, hT⟩

theorem PM.look {w : World} {b n : Nat} {G : Dt → Option Nat} (h : PM w b n G) {d : Dt} (hd : Dw d) : (Instr.lookup 65 (.map (some b)) (dv d) false).run Try.prog w = .ok (pvo (G d)) w := by
  obtain ⟨D, ho, hT⟩ := h
  obtain ⟨v, ps, hr, hv⟩ := ho.lookup law Try.underlying65 (zeroPtr w) (pR_mk none) (keyOf_dot hd)
  rw [(hT d hd).2] at hv
  rw [hr, pR_inv hv]

theorem PM.put {w : World} {b n : Nat} {G : Dt → Option Nat} (h : PM w b n G) {d : Dt} (hd : Dw d) (g : Nat) (hn : n < maxLen) : ∃ w', (Instr.mapUpdate 65 (.map (some b)) (dv d) (pv g)).run Try.prog w = .ok () w' ∧ PM w' b (n + 1) (fun e => if e = d then some g else G e) ∧ w.grownBy w' (some b) := by
  obtain ⟨D, ho, hT⟩ := h
  obtain ⟨w', hr, ho', hg⟩ := ho.update law Try.underlying65 hn (keyOf_dot hd) (pR_mk (some g))
  refine ⟨w', hr, ⟨_, ho', fun e he => ?_⟩, hg⟩
  by_cases hea : e = d
  · subst hea
    simp only [if_true]
    exact ⟨by rw [has_put_same ho.isMap (kl_isKey _)]; rfl, atKey_put_same ho.isMap (kl_isKey _) _ _⟩
  · have hne : kl e ≠ kl d := fun h' => hea (kl_inj he hd h')
    simp only [hea, if_false]
    exact ⟨by rw [has_put_other hne]; exact (hT e he).1, by rw [atKey_put_other hne]; exact (hT e he).2⟩

theorem nodup_kl9 : ∀ {S : List Dt}, S.Nodup → Dws S → (S.map kl).Nodup
  | [], _, _ => List.nodup_nil
  | x :: r, h, hw => by
    obtain ⟨h1, h2⟩ := List.nodup_cons.1 h
    refine List.nodup_cons.2 ⟨fun hm => ?_, nodup_kl9 h2 (fun d hd => hw d (List.mem_cons_of_mem _ hd))⟩
    obtain ⟨d, hd, e⟩ := List.mem_map.1 hm
    exact h1 (kl_inj (hw d (List.mem_cons_of_mem _ hd)) (hw x (List.mem_cons_self ..)) e ▸ hd)

/-- How many entries: as many as there are dots. -/
theorem PM.size {w : World} {b n : Nat} {G : Dt → Option Nat} (h : PM w b n G) {S : List Dt} (hS : S.Nodup) (hw : Dws S) (hm : ∀ d, Dw d → ((G d).isSome = true ↔ d ∈ S)) : ∃ D, w.ownsMap Try.prog 24 pR b n D ∧ Maps.size D = S.length := by
  obtain ⟨D, hown, hT⟩ := h
  refine ⟨D, hown, ?_⟩
  obtain ⟨es, hD, hpw, _⟩ := hown.entries law
  obtain ⟨es', hD', hko⟩ := hown.keysOf
  obtain rfl : es = es' := by rw [hD] at hD'; simpa using hD'
  subst hD
  have hp : (es.map Prod.fst).Perm (S.map kl) := by
    refine (List.perm_ext_iff_of_nodup ?_ ?_).2 fun x => ?_
    · exact List.pairwise_map.2 hpw
    · exact nodup_kl9 hS hw
    · constructor
      · intro hx
        obtain ⟨p, hp, rfl⟩ := List.mem_map.1 hx
        obtain ⟨v, hv⟩ := hko p hp
        obtain ⟨d, _, hdw, hk⟩ := keyOf_dot_inv hv
        have hh : Maps.has (.map es) (kl d) = true := List.any_eq_true.2 ⟨p, hp, by rw [hk]; exact WideAt.sameKey_self (kl_isKey d)⟩
        rw [(hT d hdw).1] at hh
        exact List.mem_map.2 ⟨d, (hm d hdw).1 hh, hk.symm⟩
      · intro hx
        obtain ⟨d, hd, rfl⟩ := List.mem_map.1 hx
        have hh := (hm d (hw d hd)).2 hd
        rw [← (hT d (hw d hd)).1] at hh
        obtain ⟨p, hp, hs⟩ := List.any_eq_true.1 hh
        exact List.mem_map.2 ⟨p, hp, WideAt.sameKey_eq hs⟩
  have := hp.length_eq
  simpa [Maps.size] using this

end

section
open Go.RowKit
open Go.Sort (grow)

theorem below_grownN {w w' : World} (h : RowKit.Below w.heap.size w w') (r : Option Nat) : w.grownBy w' r := ⟨h.os, h.tape, h.output, h.size, fun k hk _ => h.block k hk⟩

theorem own_keepP {w w' : World} {base e z : Nat} {v : Value} {n : Nat} {xs : List Value} (h : w.ownsRow base e z v n xs) (hb : RowKit.Below w.heap.size w w') : w'.ownsRow base e z v n xs := World.ownsRow.kept h (below_grownN hb none) (by cases v.ownBlock <;> simp)

theorem prow_one (gs : List Nat) : ∀ y ∈ prow gs, y.oneCell' = true := fun y hy => by
  obtain ⟨g, _, rfl⟩ := List.mem_map.1 hy
  rfl

theorem prow_ins (gs : List Nat) (k g : Nat) : (prow gs).take k ++ [pv g] ++ (prow gs).drop k = prow (gs.take k ++ [g] ++ gs.drop k) := by simp [prow]

set_option maxRecDepth 100000 in
set_option maxHeartbeats 2000000 in
theorem among_any (base : Nat) (v : Value) (n : Nat) (gs : List Nat) (ds : List Dt) (gc : Nat) (y : Dt) (w : World) (hown : w.ownsRow base 72 1 v n (prow gs)) (hr : CR w gs ds) (hy : IdAt w gc y) (hn : n ≤ 1000000) (hbase : base ≤ w.heap.size) (ha : Up ds) :
    Calls Try.prog 33 #[v, pv gc] w fun e w' => ∃ g c, e = .returned (.slice (some ⟨g, 0, none⟩) (n + 1) c) ∧ w'.ownsRow base 72 1 (.slice (some ⟨g, 0, none⟩) (n + 1) c) (n + 1) (prow (gs.take (aheadOf ds y) ++ [gc] ++ gs.drop (aheadOf ds y))) ∧ w.grownBy w' v.ownBlock ∧ (v.ownBlock = some g ∨ w.heap.size ≤ g) := by
  obtain ⟨a, c, rfl, hpp⟩ := own_pp hown
  have hk : aheadOf ds y ≤ n := by have := aheadOf_le ds y; have := hr.len; have := hpp.len; omega
  have hS := fgsearch_any a n c gs ds gc y w hpp hr hy hn ha
  have HOWN := hid hown
  have hob : ∀ b, (Value.slice a n c).ownBlock = some b → b < w.heap.size := fun b hb => (World.ownsRow.lt hown b hb).2
  have HOB := hid hob
  have hI : ∀ w1, RowKit.Below w.heap.size w w1 → Calls Try.prog 55 #[.slice a n c, .int .i64 (aheadOf ds y : Nat), .slice (some ⟨w1.heap.size, 0, none⟩) 1 1] (w1.alloc (.cells #[pv gc] 72)) fun e w' =>
      ∃ g c', e = .returned (.slice (some ⟨g, 0, none⟩) (n + 1) c') ∧ w'.ownsRow base 72 1 (.slice (some ⟨g, 0, none⟩) (n + 1) c') (n + 1) (prow (gs.take (aheadOf ds y) ++ [gc] ++ gs.drop (aheadOf ds y))) ∧ w.grownBy w' (Value.slice a n c).ownBlock ∧ ((Value.slice a n c).ownBlock = some g ∨ w.heap.size ≤ g) := fun w1 hb => by
    have hA : RowKit.Below w.heap.size w (w1.alloc (.cells #[pv gc] 72)) := below2 hb ((Far.refl w1).alloc _).below
    refine (fginsert_any base (.slice a n c) n (aheadOf ds y) w1.heap.size (prow gs) (pv gc) _ hk hn (Nat.le_trans hbase hA.size) (own_keepP HOWN.out hA) (fun e => by have := HOB.out _ e; have := hb.size; omega) (MapKept.heap_alloc w1 _).1 (prow_one gs) rfl).mono ?_
    rintro e w' ⟨g, c', rfl, h2, h3, h4⟩
    refine ⟨g, c', rfl, by rw [← prow_ins]; exact h2, (below_grownN hA _).trans h3, ?_⟩
    rcases h4 with h4 | h4
    · exact Or.inl h4
    · exact Or.inr (by rw [h4]; exact hA.size)
  generalize aheadOf ds y = k at *
  generalize gs.take k ++ [gc] ++ gs.drop k = gs' at *
  have HI := hid hI
  have hcm := hpp.cap
  have hcx := hpp.max
  unfold maxLen at hcx
  clear hown hpp hr hob hI hy
  go_enter Try.func33, Try.ntmps33
  go_wp2_with (first
    | (go_at_call 55; refine (HI.out _ hB1).mono ?_; rintro e w2 ⟨g, c', rfl, h2, h3, h4⟩)
    | (go_at_call 53; refine hS.mono ?_; rintro e w1 ⟨rfl, hB1⟩))
  go_ret
  exact ⟨g, c', rfl, h2, h3, h4⟩
end

section
open Go.RowKit
open Go.Sort (grow)

/-- A character's cells; the text's. -/
def Cr.cells (c : Cr) (l r : Value) : Array Value := #[.int .i64 c.id.1, .int .i64 c.id.2, .int .i64 c.ch, .bool c.seen, l, r]
def txCells (fm l r : Value) : Array Value := #[fm, .int .i64 0, .int .i64 0, .int .i64 0, .bool false, l, r]

/-- Block t is a text of the characters T, that lie where G tells; R: the rows of both sides of each one; the map tells M. -/
structure TX (w : World) (t : Nat) (T : List Cr) (G M : Dt → Option Nat) (n : Nat) (R : Dt → Bool → Value) : Prop where
  wt : WT T
  tb : ∃ fm, w.heap[t]? = some (.cells (txCells fm (R (0, 0) false) (R (0, 0) true)) 71 (0, 0)) ∧ ((T = [] ∧ fm = .map none) ∨ ∃ mb, fm = .map (some mb) ∧ t < mb ∧ PM w mb n M)
  gd : ∀ d, Dw d → ((G d).isSome = true ↔ ∃ c ∈ T, c.id = d)
  ch : ∀ c ∈ T, ∃ g, G c.id = some g ∧ t < g ∧ w.heap[g]? = some (.cells (c.cells (R c.id false) (R c.id true)) 69 (0, 0))
  rows : ∀ d s, nodes T d → ∃ gs : List Nat, gs.map some = (kids T d s).map G ∧ w.ownsRow t 72 1 (R d s) (kids T d s).length (prow gs)
  apart : ∀ d s d' s', nodes T d → nodes T d' → (d, s) ≠ (d', s') → (R d s).ownBlock = none ∨ (R d s).ownBlock ≠ (R d' s').ownBlock

theorem TX.lt {w : World} {t : Nat} {T : List Cr} {G M : Dt → Option Nat} {n : Nat} {R : Dt → Bool → Value} (h : TX w t T G M n R) : t < w.heap.size := by
  obtain ⟨fm, h1, _⟩ := h.tb
  exact (Array.getElem?_eq_some_iff.1 h1).1

/-- New memory leaves a text as it is. -/
theorem TX.below {w w' : World} {t : Nat} {T : List Cr} {G M : Dt → Option Nat} {n : Nat} {R : Dt → Bool → Value} (h : TX w t T G M n R) (hb : RowKit.Below w.heap.size w w') : TX w' t T G M n R := by
  refine ⟨h.wt, ?_, h.gd, fun c hc => ?_, fun d s hd => ?_, h.apart⟩
  · obtain ⟨fm, h1, h2⟩ := h.tb
    refine ⟨fm, (hb.block _ (Array.getElem?_eq_some_iff.1 h1).1).trans h1, ?_⟩
    rcases h2 with h2 | ⟨mb, e, hm, hp⟩
    · exact Or.inl h2
    · exact Or.inr ⟨mb, e, hm, hp.same (hb.block _ hp.lt)⟩
  · obtain ⟨g, h1, h2, h3⟩ := h.ch c hc
    exact ⟨g, h1, h2, (hb.block _ (Array.getElem?_eq_some_iff.1 h3).1).trans h3⟩
  · obtain ⟨gs, h1, h2⟩ := h.rows d s hd
    exact ⟨gs, h1, own_keepP h2 hb⟩

/-- The block of a row that is there: it holds pointers. -/
theorem own_block {w : World} {base n : Nat} {v : Value} {xs : List Value} {k : Nat} (h : w.ownsRow base 72 1 v n xs) (hk : v.ownBlock = some k) : ∃ cur, w.heap[k]? = some (.cells cur 72 (0, 0)) := by
  rcases h.2 with ⟨rfl, _⟩ | ⟨g, cap, cur, rfl, _, hg, _⟩
  · cases hk
  · simp only [Value.ownBlock, Option.some.injEq] at hk
    subst hk
    exact ⟨cur, hg⟩

theorem TX.id_at {w : World} {t : Nat} {T : List Cr} {G M : Dt → Option Nat} {n : Nat} {R : Dt → Bool → Value} (h : TX w t T G M n R) {c : Cr} (hc : c ∈ T) {g : Nat} (hg : G c.id = some g) : IdAt w g c.id := by
  obtain ⟨g', h1, _, h3⟩ := h.ch c hc
  rw [hg] at h1
  cases h1
  exact ⟨by simp [World.cell?, h3, Cr.cells], by simp [World.cell?, h3, Cr.cells]⟩

/-- The characters of a row. -/
theorem TX.cr {w : World} {t : Nat} {T : List Cr} {G M : Dt → Option Nat} {n : Nat} {R : Dt → Bool → Value} (h : TX w t T G M n R) {d : Dt} {s : Bool} {gs : List Nat} (he : gs.map some = (kids T d s).map G) : CR w gs (kids T d s) := by
  have hl : gs.length = (kids T d s).length := by simpa using congrArg List.length he
  refine ⟨hl, fun i g k hg hk => ?_⟩
  have h1 : ((gs.map some)[i]? : Option (Option Nat)) = ((kids T d s).map G)[i]? := by rw [he]
  rw [List.getElem?_map, List.getElem?_map, hg, hk] at h1
  simp at h1
  obtain ⟨c, hc, _, _, rfl⟩ := mem_kids.1 (List.mem_of_getElem? hk)
  exact h.id_at hc h1.symm

/-- Two characters lie in two blocks. -/
theorem TX.inj {w : World} {t : Nat} {T : List Cr} {G M : Dt → Option Nat} {n : Nat} {R : Dt → Bool → Value} (h : TX w t T G M n R) {a b : Cr} (ha : a ∈ T) (hb : b ∈ T) {g : Nat} (h1 : G a.id = some g) (h2 : G b.id = some g) : a.id = b.id := by
  have x := h.id_at ha h1
  have y := h.id_at hb h2
  have e0 := x.c0.symm.trans y.c0
  have e1 := x.c1.symm.trans y.c1
  simp at e0 e1
  exact Prod.ext e0 e1

theorem fset_other {w : World} {q r j : Nat} (h : r ≠ q) (v : Value) : (w.setCell ⟨q, j, none⟩ v).heap[r]? = w.heap[r]? := heap_setCell_other w ⟨q, j, none⟩ r v (fun e => h (by simpa using e))
theorem fset_block {w : World} {q j : Nat} {cs : Array Value} {t : TypeId} (h : w.heap[q]? = some (.cells cs t (0, 0))) (u : Value) : (w.setCell ⟨q, j, none⟩ u).heap[q]? = some (.cells (cs.setIfInBounds j u) t (0, 0)) := by
  simp [World.setCell, Array.getElem?_modify, h]
theorem fgrown_set (w : World) (q j : Nat) (v : Value) : w.grownBy (w.setCell ⟨q, j, none⟩ v) (some q) := ⟨rfl, rfl, rfl, by simp, fun k _ hk => heap_setCell_other w ⟨q, j, none⟩ k v (fun e => hk (by simp [e]))⟩

/-- Where the rows of one stand: in which block, from which cell on. -/
def spotOf (t : Nat) (G : Dt → Option Nat) (d : Dt) : Nat × Nat := if d = (0, 0) then (t, 5) else ((G d).getD 0, 4)

/-- One more: its block is there, the map tells of it, its row is made and stored. -/
theorem TX.more {w2 w3 : World} {t : Nat} {T : List Cr} {G : Dt → Option Nat} {n : Nat} {R : Dt → Bool → Value} {c : Cr} {gc : Nat} (h : TX w2 t T G (fun e => if e = c.id then some gc else G e) n R)
    (hnz : c.id ≠ (0, 0)) (hdw : Dw c.id) (hfr : ∀ x ∈ T, x.id ≠ c.id) (hnd : nodes T c.at_) (hrt : c.at_ = (0, 0) → c.sd = true)
    (hmap : ∃ fm mb, w2.heap[t]? = some (.cells (txCells fm (R (0, 0) false) (R (0, 0) true)) 71 (0, 0)) ∧ fm = .map (some mb) ∧ t < mb ∧ PM w2 mb n (fun e => if e = c.id then some gc else G e))
    (hgc : w2.heap[gc]? = some (.cells (c.cells (.slice none 0 0) (.slice none 0 0)) 69 (0, 0))) (htg : t < gc)
    {gs : List Nat} (hgs : gs.map some = (kids T c.at_ c.sd).map G) {q m cq : Nat}
    (hg3 : w2.grownBy w3 (R c.at_ c.sd).ownBlock) (ho3 : w3.ownsRow t 72 1 (.slice (some ⟨q, 0, none⟩) m cq) m (prow (gs.take (aheadOf (kids T c.at_ c.sd) c.id) ++ [gc] ++ gs.drop (aheadOf (kids T c.at_ c.sd) c.id)))) (hm : m = (kids T c.at_ c.sd).length + 1)
    (hq : (R c.at_ c.sd).ownBlock = some q ∨ w2.heap.size ≤ q) :
    TX (w3.setCell ⟨(spotOf t G c.at_).1, (spotOf t G c.at_).2 + (if c.sd then 1 else 0), none⟩ (.slice (some ⟨q, 0, none⟩) m cq)) t (T ++ [c]) (fun e => if e = c.id then some gc else G e) (fun e => if e = c.id then some gc else G e) n
      (fun d s => if d = c.id then .slice none 0 0 else if d = c.at_ ∧ s = c.sd then .slice (some ⟨q, 0, none⟩) m cq else R d s) := by
  have hat : c.at_ ≠ c.id := fun e => by
    rcases hnd with h0 | ⟨x, hx, e'⟩
    · exact hnz (by rw [← e, h0])
    · exact hfr x hx (by rw [e', e])
  have h00 : ((0, 0) : Dt) ≠ c.id := fun e => hnz e.symm
  have hGg : ∀ {d : Dt}, d ≠ c.id → (if d = c.id then some gc else G d) = G d := fun hd => if_neg hd
  -- the row of one's own is of pointers: other blocks are as they were
  have hown0 := h.rows c.at_ c.sd hnd
  have hkeep : ∀ (k : Nat) (cs : Array Value) (ty : TypeId), w2.heap[k]? = some (Obj.cells cs ty (0, 0)) → ty ≠ 72 → w3.heap[k]? = w2.heap[k]? := fun k cs ty hk hty => by
    refine hg3.block k (Array.getElem?_eq_some_iff.1 hk).1 (fun e => ?_)
    obtain ⟨gs0, _, ho⟩ := hown0
    obtain ⟨cur, hc⟩ := own_block ho e.symm
    rw [hk] at hc
    simp at hc
    exact hty hc.2
  have hkeepM : ∀ {k n' : Nat} {M : Dt → Option Nat}, PM w2 k n' M → w3.heap[k]? = w2.heap[k]? := fun {k n' M} hp => by
    refine hg3.block k hp.lt (fun e => ?_)
    obtain ⟨gs0, _, ho⟩ := hown0
    obtain ⟨cur, hc⟩ := own_block ho e.symm
    obtain ⟨D, ⟨es, clock, h1, _⟩, _⟩ := hp
    rw [h1] at hc
    cases hc
  -- in which block the new row's value is stored
  obtain ⟨j4, hj4⟩ : ∃ j4, j4 = (spotOf t G c.at_).2 + (if c.sd then 1 else 0) := ⟨_, rfl⟩
  rw [← hj4]
  obtain ⟨newv, hnewv⟩ : ∃ newv : Value, newv = .slice (some ⟨q, 0, none⟩) m cq := ⟨_, rfl⟩
  have hnb : ∃ cs ty, w2.heap[(spotOf t G c.at_).1]? = some (Obj.cells cs ty (0, 0)) ∧ ty ≠ 72 := by
    unfold spotOf
    by_cases h0 : c.at_ = (0, 0)
    · rw [if_pos h0]
      obtain ⟨fm, h1, _⟩ := h.tb
      exact ⟨_, _, h1, by decide⟩
    · rw [if_neg h0]
      rcases hnd with e | ⟨x, hx, e⟩
      · exact absurd e h0
      · obtain ⟨g, h1, _, h3⟩ := h.ch x hx
        rw [e] at h1
        rw [h1]
        exact ⟨_, _, h3, by decide⟩
  obtain ⟨ncs, nty, hnb2, hnty⟩ := hnb
  have hnb3 := (hkeep _ _ _ hnb2 hnty).trans hnb2
  have hqn : q ≠ (spotOf t G c.at_).1 := fun e => by
    obtain ⟨cur, hc⟩ := own_block ho3 (k := q) rfl
    rw [e, hnb3] at hc
    simp at hc
    exact hnty hc.2
  have hrow4 : ∀ {v : Value} {k : Nat} {xs : List Value}, w3.ownsRow t 72 1 v k xs → (w3.setCell ⟨(spotOf t G c.at_).1, j4, none⟩ newv).ownsRow t 72 1 v k xs := fun {v k xs} hv => by
    refine World.ownsRow.kept hv (fgrown_set _ _ _ _) ?_
    cases hb : v.ownBlock with
    | none => exact Or.inl rfl
    | some b =>
      right
      intro e
      cases e
      obtain ⟨cur, hc⟩ := own_block hv hb
      rw [hnb3] at hc
      simp at hc
      exact hnty hc.2
  have hck : ∀ k ∈ kids T c.at_ c.sd, k ≠ c.id := fun k hk e => by
    obtain ⟨x, hx, _, _, e'⟩ := mem_kids.1 hk
    exact hfr x hx (by rw [e', e])
  rw [← hnewv] at ho3 ⊢
  refine ⟨h.wt.snoc hnz hdw hfr hnd hrt, ?_, fun d hd => ?_, fun x hx => ?_, fun d s hd => ?_, fun d s d' s' hd hd' hne => ?_⟩
  · obtain ⟨fm, mb, h1, hfm, htm, hp⟩ := hmap
    have hp3 : PM w3 mb n (fun e => if e = c.id then some gc else G e) := hp.same (hkeepM hp)
    have hmn : mb ≠ (spotOf t G c.at_).1 := fun e => by
      obtain ⟨D, ⟨es, clock, h5, _⟩, _⟩ := hp
      rw [e, hnb2] at h5
      cases h5
    have h13 := (hkeep _ _ _ h1 (by decide)).trans h1
    refine ⟨fm, ?_, Or.inr ⟨mb, hfm, htm, hp3.same (fset_other hmn _)⟩⟩
    simp only [if_neg h00]
    by_cases h0 : c.at_ = (0, 0)
    · have hsd := hrt h0
      have e1 : spotOf t G c.at_ = (t, 5) := by unfold spotOf; rw [if_pos h0]
      have e2 : j4 = 6 := by rw [hj4, e1, hsd]; rfl
      rw [e1, e2, h0, hsd]
      simp only [true_and, Bool.false_eq_true, if_false, if_true]
      rw [fset_block h13]
      simp [txCells]
    · have hne : t ≠ (spotOf t G c.at_).1 := by
        unfold spotOf
        rw [if_neg h0]
        rcases hnd with e | ⟨x, hx, e⟩
        · exact absurd e h0
        · obtain ⟨g, g1, g2, _⟩ := h.ch x hx
          rw [e] at g1
          rw [g1]
          show t ≠ g
          omega
      rw [fset_other hne, h13]
      have : ¬ ((0, 0) : Dt) = c.at_ := fun e => h0 e.symm
      simp [this]
  · by_cases e : d = c.id
    · subst e
      simp only [if_true, Option.isSome_some, true_iff]
      exact ⟨c, by simp, rfl⟩
    · rw [if_neg e, h.gd d hd]
      constructor
      · rintro ⟨x, hx, e'⟩
        exact ⟨x, List.mem_append_left _ hx, e'⟩
      · rintro ⟨x, hx, e'⟩
        rcases List.mem_append.1 hx with hx | hx
        · exact ⟨x, hx, e'⟩
        · simp at hx
          rw [hx] at e'
          exact absurd e'.symm e
  · rcases List.mem_append.1 hx with hx | hx
    · have hxi := hfr x hx
      obtain ⟨g, g1, g2, g3⟩ := h.ch x hx
      have g4 := (hkeep _ _ _ g3 (by decide)).trans g3
      refine ⟨g, by rw [if_neg hxi]; exact g1, g2, ?_⟩
      simp only [if_neg hxi]
      by_cases ha : x.id = c.at_
      · have hz : c.at_ ≠ (0, 0) := fun e => h.wt.nz x hx (by rw [ha, e])
        have e1 : spotOf t G c.at_ = (g, 4) := by unfold spotOf; rw [if_neg hz, ← ha, g1]; rfl
        have e2 : j4 = 4 + (if c.sd then 1 else 0) := by rw [hj4, e1]
        rw [e1, fset_block g4, e2]
        cases hs : c.sd <;> simp [ha, Cr.cells]
      · have hne : g ≠ (spotOf t G c.at_).1 := by
          unfold spotOf
          by_cases h0 : c.at_ = (0, 0)
          · rw [if_pos h0]; show g ≠ t; omega
          · rw [if_neg h0]
            rcases hnd with e | ⟨y, hy, e⟩
            · exact absurd e h0
            · obtain ⟨g', k1, _, _⟩ := h.ch y hy
              rw [← e, k1]
              show g ≠ g'
              intro e2
              rw [← e2] at k1
              exact ha (by rw [← e]; exact h.inj hx hy g1 k1)
        rw [fset_other hne, g4]
        simp [ha]
    · have hx' : x = c := by simpa using hx
      rw [hx']
      refine ⟨gc, by rw [if_pos rfl], htg, ?_⟩
      simp only [if_true]
      have hne : gc ≠ (spotOf t G c.at_).1 := by
        unfold spotOf
        by_cases h0 : c.at_ = (0, 0)
        · rw [if_pos h0]; show gc ≠ t; omega
        · rw [if_neg h0]
          rcases hnd with e | ⟨y, hy, e⟩
          · exact absurd e h0
          · obtain ⟨g', k1, _, k3⟩ := h.ch y hy
            rw [← e, k1]
            show gc ≠ g'
            intro e2
            rw [← e2, hgc] at k3
            simp [Cr.cells] at k3
            exact hfr y hy (Prod.ext k3.1.symm k3.2.1.symm)
      rw [fset_other hne, hkeep _ _ _ hgc (by decide)]
      exact hgc
  · by_cases hdc : d = c.id
    · subst hdc
      have hk : kids (T ++ [c]) c.id s = [] := by rw [kids_snoc, if_neg (fun e => hat e.1), h.wt.fresh hfr hnz]
      rw [hk]
      refine ⟨[], rfl, ?_⟩
      simp only [if_true]
      exact World.ownsRow_nil _ _ _ _
    · have hdT : nodes T d := by
        rcases nodes_snoc.1 hd with hd | hd
        · exact hd
        · exact absurd hd.symm hdc
      by_cases htgt : d = c.at_ ∧ s = c.sd
      · obtain ⟨rfl, rfl⟩ := htgt
        have hk : kids (T ++ [c]) c.at_ c.sd = (kids T c.at_ c.sd).take (aheadOf (kids T c.at_ c.sd) c.id) ++ [c.id] ++ (kids T c.at_ c.sd).drop (aheadOf (kids T c.at_ c.sd) c.id) := by rw [kids_snoc, if_pos ⟨rfl, rfl⟩, ins_at c.id _ (fun hm' => hck _ hm' rfl)]
        rw [hk]
        refine ⟨gs.take (aheadOf (kids T c.at_ c.sd) c.id) ++ [gc] ++ gs.drop (aheadOf (kids T c.at_ c.sd) c.id), ?_, ?_⟩
        · have hmap2 : (kids T c.at_ c.sd).map (fun e => if e = c.id then some gc else G e) = (kids T c.at_ c.sd).map G := List.map_congr_left (fun k hk => if_neg (hck k hk))
          rw [List.map_append, List.map_append, List.map_append, List.map_append, List.map_take, List.map_drop, List.map_take, List.map_drop, hmap2, hgs]
          simp
        · simp only [if_neg hdc, and_self, if_true]
          have hl : (List.take (aheadOf (kids T c.at_ c.sd) c.id) (kids T c.at_ c.sd) ++ [c.id] ++ List.drop (aheadOf (kids T c.at_ c.sd) c.id) (kids T c.at_ c.sd)).length = m := by
            have := aheadOf_le (kids T c.at_ c.sd) c.id
            simp
            omega
          rw [hl]
          exact hrow4 ho3
      · obtain ⟨gs0, k1, k2⟩ := h.rows d s hdT
        have hks : kids (T ++ [c]) d s = kids T d s := by rw [kids_snoc, if_neg (fun e => htgt ⟨e.1.symm, e.2.symm⟩)]
        refine ⟨gs0, ?_, ?_⟩
        · rw [hks, k1]
          refine (List.map_congr_left (fun k hk => if_neg (fun e => ?_))).symm
          obtain ⟨x, hx, _, _, e'⟩ := mem_kids.1 hk
          exact hfr x hx (by rw [e', e])
        · rw [hks]
          simp only [if_neg hdc, if_neg htgt]
          refine hrow4 (World.ownsRow.kept k2 hg3 (h.apart d s c.at_ c.sd hdT hnd (fun e => htgt (by simpa using e))))
  · by_cases hdc : d = c.id
    · rw [if_pos hdc]
      exact Or.inl rfl
    · by_cases hdc' : d' = c.id
      · rw [if_pos hdc']
        cases ((if d = c.id then Value.slice none 0 0 else if d = c.at_ ∧ s = c.sd then newv else R d s)).ownBlock with
        | none => exact Or.inl rfl
        | some b => exact Or.inr (by simp [Value.ownBlock])
      · have hdT : nodes T d := by
          rcases nodes_snoc.1 hd with hd | hd
          · exact hd
          · exact absurd hd.symm hdc
        have hdT' : nodes T d' := by
          rcases nodes_snoc.1 hd' with hd' | hd'
          · exact hd'
          · exact absurd hd'.symm hdc'
        have hlt : ∀ {e s0}, nodes T e → ∀ b, (R e s0).ownBlock = some b → b < w2.heap.size := fun {e s0} he b hb => by
          obtain ⟨gs0, _, k2⟩ := h.rows e s0 he
          exact (World.ownsRow.lt k2 b hb).2
        have hnq : newv.ownBlock = some q := by rw [hnewv]; rfl
        rw [if_neg hdc, if_neg hdc']
        by_cases h1 : d = c.at_ ∧ s = c.sd
        · rw [if_pos h1, if_neg (fun e => hne (by rw [h1.1, h1.2, e.1, e.2])), hnq]
          right
          intro e
          rcases hq with hq | hq
          · obtain ⟨rfl, rfl⟩ := h1
            rcases h.apart c.at_ c.sd d' s' hnd hdT' hne with k | k
            · rw [hq] at k; cases k
            · exact k (by rw [hq, e])
          · have := hlt hdT' q e.symm
            omega
        · rw [if_neg h1]
          by_cases h2 : d' = c.at_ ∧ s' = c.sd
          · rw [if_pos h2, hnq]
            obtain ⟨rfl, rfl⟩ := h2
            rcases hq with hq | hq
            · rw [← hq]
              exact h.apart d s c.at_ c.sd hdT hnd hne
            · cases hb : (R d s).ownBlock with
              | none => exact Or.inl rfl
              | some b =>
                right
                intro e
                cases e
                have := hlt hdT q hb
                omega
          · rw [if_neg h2]
            exact h.apart d s d' s' hdT hdT' hne
end
end Go.Proofs.Ytbpepmajpojacaa
