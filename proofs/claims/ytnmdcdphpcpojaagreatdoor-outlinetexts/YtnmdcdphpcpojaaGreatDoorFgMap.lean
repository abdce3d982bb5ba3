/- Maps of pointers by dots. No function of the program. -/
import Derived.Test.YtnmdcdphpcpojaaGreatDoorMKeys
import Derived.Shelf.Spec.SlicesInsertGrow
import Derived.Laws.OwnMore
import Derived.Deep.AppendLies
import Derived.OwnWalk
import Derived.WalkKit
import Derived.WalkSpells
import Derived.WalkLawsBesides
import Derived.Deep.Quiet
import Derived.Shelf.SlSortCmp.QuietGrown
import Derived.BigQuiet
import Derived.Deep.CutRange
import Derived.Maps.OwnSet
import Derived.Sort.KeysCollected
namespace Go.Proofs.YtnmdcdphpcpojaaGreatDoor
section
open Go.RowKit Go.Lib
open Go.Sort (grow)

theorem Tryz.infoPtr : (Tryz.prog.info? 128).map (fun i => (i.zero, i.size, i.bytes)) = some (some (.pointer none), 1, 8) := by kernel_rfl
theorem sizeOfPtr (w : World) : (Go.sizeOf 128).run Tryz.prog w = .ok 1 w := by
  obtain ⟨i0, hi, _, h1, _⟩ := info_parts Tryz.infoPtr
  simp [Go.sizeOf, typeInfo, hi, h1]
theorem sizePtr : (Tryz.prog.info? 128).map (·.size) = some 1 := by kernel_rfl

/-- A row of one's own with one more cell. -/
theorem own_wider {w : World} {base e g n cap : Nat} {xs : List Value} (h : w.ownsRow base e 1 (.slice (some ⟨g, 0, none⟩) n cap) n xs) (hr : n + 1 ≤ cap) : ∃ u, w.ownsRow base e 1 (.slice (some ⟨g, 0, none⟩) (n + 1) cap) (n + 1) (xs ++ [u]) := by
  rcases h.2 with ⟨e, _⟩ | ⟨g', cap', cur, e, hb, hg, hn, hc, hs, ht⟩
  · simp at e
  · simp only [Value.slice.injEq, Option.some.injEq, Addr.mk.injEq, and_true, true_and] at e
    obtain ⟨rfl, rfl⟩ := e
    have hl : n < cur.toList.length := by rw [Array.length_toList, hs]; omega
    refine ⟨cur.toList[n], by rw [List.length_append, h.1]; simp, Or.inr ⟨g, cap, cur, rfl, hb, hg, hr, hc, hs, ?_⟩⟩
    rw [Nat.mul_one] at ht ⊢
    rw [List.take_succ_eq_append_getElem hl, ht]

/-- Cells that are stored, one behind the other. -/
theorem own_setCells {base e g n cap : Nat} : ∀ (vs : List Value) (o : Nat) (w : World) (xs : List Value), w.ownsRow base e 1 (.slice (some ⟨g, 0, none⟩) n cap) n xs → o + vs.length ≤ n →
    (w.setCells g o vs).ownsRow base e 1 (.slice (some ⟨g, 0, none⟩) n cap) n (xs.take o ++ vs ++ xs.drop (o + vs.length)) ∧ w.grownBy (w.setCells g o vs) (some g)
  | [], o, w, xs, h, _ => ⟨by simpa [World.setCells] using h, World.grownBy.refl _ _⟩
  | v :: r, o, w, xs, h, hl => by
    have hx : xs.length = n := by have := h.1; omega
    have s := World.ownsRow.stored h o v
    simp only [List.length_cons] at hl
    have ih := own_setCells r (o + 1) _ _ s.1 (by omega)
    refine ⟨?_, s.2.trans ih.2⟩
    have e : xs.take o ++ v :: r ++ xs.drop (o + (r.length + 1)) = (xs.set o v).take (o + 1) ++ r ++ (xs.set o v).drop (o + 1 + r.length) := by
      have e1 : (xs.set o v).take (o + 1) = xs.take o ++ [v] := by
        rw [List.take_succ_eq_append_getElem (by rw [List.length_set]; omega), List.take_set_of_le (Nat.le_refl _), List.getElem_set_self]
      have e2 : (xs.set o v).drop (o + 1 + r.length) = xs.drop (o + (r.length + 1)) := by
        rw [List.drop_set_of_lt (by omega)]
        congr 1
        omega
      rw [e1, e2]
      simp
    rw [List.length_cons, e]
    exact ih.1

theorem grownBy_drew1 (w : World) (r : Option Nat) : w.grownBy w.drew r := ⟨rfl, rfl, rfl, Nat.le_refl _, fun _ _ _ => rfl⟩

/-- A row with one more, laid in two steps. -/
theorem ins_list {α : Type} (xs R : List α) (u : α) (i n : Nat) (hx : xs.length = n) (hi : i ≤ n) (hR : R.length = n + 1) (ht : R.take i = xs.take i) :
    (R.take i ++ [u] ++ R.drop (i + [u].length)).take (i + 1) ++ xs.drop i ++ (R.take i ++ [u] ++ R.drop (i + [u].length)).drop (i + 1 + (xs.drop i).length) = xs.take i ++ [u] ++ xs.drop i := by
  rw [ht]
  have e2 : (xs.take i ++ [u]).length = i + 1 := by rw [List.length_append, List.length_take, hx]; simp; omega
  have e3 : (xs.take i ++ [u] ++ R.drop (i + [u].length)).length = n + 1 := by rw [List.length_append, e2, List.length_drop, hR, List.length_singleton]; omega
  have e4 : (xs.take i ++ [u] ++ R.drop (i + [u].length)).drop (i + 1 + (xs.drop i).length) = [] := List.drop_of_length_le (by rw [e3, List.length_drop, hx]; omega)
  rw [e4, List.append_nil, List.take_append_of_le_length (by omega), List.take_of_length_le (by omega)]

theorem ins_list2 {α : Type} (xs : List α) (u0 u : α) (i n : Nat) (hx : xs.length = n) (hi : i ≤ n) :
    xs.take i ++ [u] ++ xs.drop i = ((xs ++ [u0]).take (i + 1) ++ xs.drop i ++ (xs ++ [u0]).drop (i + 1 + (xs.drop i).length)).take i ++ [u] ++ ((xs ++ [u0]).take (i + 1) ++ xs.drop i ++ (xs ++ [u0]).drop (i + 1 + (xs.drop i).length)).drop (i + [u].length) := by
  have e1 : (xs ++ [u0]).drop (i + 1 + (xs.drop i).length) = [] := List.drop_of_length_le (by rw [List.length_drop, hx, List.length_append, hx, List.length_singleton]; omega)
  have e2 : ((xs ++ [u0]).take (i + 1)).length = i + 1 := by rw [List.length_take, List.length_append, hx, List.length_singleton]; omega
  have e3 : ((xs ++ [u0]).take (i + 1) ++ xs.drop i).take i = xs.take i := by
    rw [List.take_append_of_le_length (by omega), List.take_take, Nat.min_eq_left (by omega), List.take_append_of_le_length (by omega)]
  have e4 : ((xs ++ [u0]).take (i + 1) ++ xs.drop i).drop (i + [u].length) = xs.drop i := List.drop_left' e2
  rw [e1, List.append_nil, e3, e4]

theorem shape_of {w : World} {g : Nat} {cs : Array Value} {t : TypeId} (h : w.heap[g]? = some (.cells cs t (0, 0))) : w.shape? g = some (t, cs.size) := by
  simp [World.shape?, h]

set_option maxRecDepth 100000 in
set_option maxHeartbeats 4000000 in
/-- There is room, and something stands behind. -/
theorem ins_shift (base g n c i vb : Nat) (xs : List Value) (u : Value) (w : World) (hi : i < n) (hroom : n + 1 ≤ c) (hn : n ≤ 1000000) (hown : w.ownsRow base 128 1 (.slice (some ⟨g, 0, none⟩) n c) n xs) (hvb : vb ≠ g)
    (hv : w.heap[vb]? = some (.cells #[u] 128 (0, 0))) (h1 : ∀ v ∈ xs, v.oneCell' = true) (hu : u.oneCell' = true) :
    Calls Tryz.prog 96 #[.slice (some ⟨g, 0, none⟩) n c, .int .i64 i, .slice (some ⟨vb, 0, none⟩) 1 1] w fun e w' =>
      e = .returned (.slice (some ⟨g, 0, none⟩) (n + 1) c) ∧ w' = (w.drew.setCells g (i + 1) (xs.drop i)).setCells g i [u] := by
  have mixed := mixed
  have hxl : xs.length = n := by have := hown.1; omega
  have hcell : ∀ j v, xs[j]? = some v → w.cell? ⟨g, j, none⟩ = some v := fun j v hj => by
    have hjn : j < n := by
      have := (List.getElem?_eq_some_iff.1 hj).1
      omega
    rw [World.ownsRow.cellAt hown j (by omega)]
    exact hj
  obtain ⟨u0, hown1⟩ := own_wider hown hroom
  have hsp : ∀ j, j < n + 1 → (w.cell? ⟨g, j, none⟩).isSome = true := fun j hj => by
    rw [World.ownsRow.cellAt hown1 j (by omega), List.getElem?_eq_getElem (by simp; omega)]
    rfl
  have hfz : ∀ j, w.frozen? ⟨g, j, none⟩ = false := fun j => World.ownsRow.frozenAt hown j
  have hgc : ∃ cs : Array Value, w.heap[g]? = some (.cells cs 128 (0, 0)) ∧ cs.size ≠ 0 ∧ c ≤ maxLen := by
    rcases hown.2 with ⟨e, _⟩ | ⟨g', cap', cur, e, hb, hg, hnn, hc, hs, ht⟩
    · simp at e
    · simp only [Value.slice.injEq, Option.some.injEq, Addr.mk.injEq, and_true, true_and] at e
      obtain ⟨rfl, rfl⟩ := e
      exact ⟨cur, hg, by omega, hc⟩
  obtain ⟨cs, hgh, hcs0, hcm⟩ := hgc
  unfold maxLen at hcm
  have hov : ∀ lb cb, (callFunc 125 #[.slice (some ⟨vb, 0, none⟩) 1 1, .slice (some ⟨g, i + 1, none⟩) lb cb]).run Tryz.prog w = .ok (.value (.bool false)) w := fun lb cb => by
    rw [run_callFunc_extern Tryz.func125 (by kernel_rfl) (by kernel_rfl) (by kernel_rfl) (e := Extern.SlicesOverlaps.overlaps #[121, 121] #[4]) (by kernel_rfl),
      Lib.run_overlaps_apart w 121 4 128 Tryz.underlying121 1 sizeOfPtr ⟨vb, 0, none⟩ ⟨g, i + 1, none⟩ 1 1 lb cb hvb 128 128 1 cs.size (shape_of hv) (shape_of hgh) hcs0 (by simp [World.frozen?, hv]) (by simp [World.frozen?, hv])]
    rfl
  have hdl : (xs.drop i).length = n - i := by rw [List.length_drop, hxl]
  have hcp1 : ∀ ty dc sc, (Builtin.copy_ #[121, 121] ty #[.slice (some ⟨g, i + 1, none⟩) (n - i) dc, .slice (some ⟨g, i, none⟩) (n + 1 - i) sc]).run Tryz.prog w.drew = .ok (goInt (xs.drop i).length) (w.drew.setCells g (i + 1) (xs.drop i)) := fun ty dc sc =>
    run_copy_cells w.drew _ _ ty 128 g (i + 1) (n - i) dc ⟨g, i, none⟩ (n + 1 - i) sc (xs.drop i) Tryz.underlying121 sizePtr (by rw [hdl]; simp only [Nat.min_def]; split <;> omega)
      (fun j v hj => by rw [Addr.add_lit]; exact hcell (i + j) v (by rwa [List.getElem?_drop] at hj))
      (fun j hj => hsp _ (by omega)) (fun j _ => hfz _) (fun v hv' => h1 v (List.mem_of_mem_drop hv'))
  obtain ⟨W1, hW1⟩ : ∃ W1, W1 = w.drew.setCells g (i + 1) (xs.drop i) := ⟨_, rfl⟩
  have hsp1 : ∀ k, k < n + 1 → (W1.cell? ⟨g, k, none⟩).isSome = true := fun k hk => by
    rw [hW1]
    exact isSome_setCells g (xs.drop i) (i + 1) w.drew (fun j hj => hsp _ (by rw [hdl] at hj; omega)) k (hsp k hk)
  have hv0 : W1.cell? ⟨vb, 0, none⟩ = some u := by
    rw [hW1, World.cell?_setCells_out g _ _ _ _ (fun h _ => absurd h hvb)]
    show w.cell? ⟨vb, 0, none⟩ = some u
    simp [World.cell?, hv]
  have hcp2 : ∀ (W : World), (∀ x, W.cell? x = W1.cell? x) → (∀ x, W.frozen? x = W1.frozen? x) → ∀ ty dc, (Builtin.copy_ #[121, 121] ty #[.slice (some ⟨g, i, none⟩) (n + 1 - i) dc, .slice (some ⟨vb, 0, none⟩) 1 1]).run Tryz.prog W = .ok (goInt ([u] : List Value).length) (W.setCells g i [u]) := fun W hWc hWf ty dc =>
    run_copy_cells W _ _ ty 128 g i (n + 1 - i) dc ⟨vb, 0, none⟩ 1 1 [u] Tryz.underlying121 sizePtr (by simp only [Nat.min_def]; split <;> simp <;> omega)
      (fun j v hj => by
        have hj0 : j = 0 := by
          have := (List.getElem?_eq_some_iff.1 hj).1
          simpa using this
        subst hj0
        simp at hj
        subst hj
        rw [Addr.add_lit, hWc]
        exact hv0)
      (fun j hj => by rw [hWc]; exact hsp1 _ (by simp at hj; omega)) (fun j hj => by rw [hWf, hW1, World.frozen?_setCells]; exact hfz _) (fun v hv' => by simp at hv'; rw [hv']; exact hu)
  rw [← hW1] at hcp1
  have hz1 : ¬ ((i : Int) = (n : Int)) := by omega
  have hw1 : IntKind.i64.wrap ((i : Int) + 1) = (i : Int) + 1 := by rw [IntKind.wrap_i64]; omega
  have hb1 : (0 : Int) ≤ (i : Int) + 1 := by omega
  have hin : i ≤ n := by omega
  have htn : ((i : Int) + 1).toNat = i + 1 := by omega
  have hb2 : ¬ (c = i + 1) := by omega
  have hb3 : (i : Int) ≤ (n : Int) + 1 := by omega
  have hb4 : ¬ (c = i) := by omega
  clear hown hown1 hcell hsp hfz hgh hv hv0 hsp1
  go_enter Tryz.func96, Tryz.ntmps96
  go_wp2_with (simp only [hov])
  go_region_law_o (refine step_copy_runI rfl _ _ 121 121 rfl _ _ (by simp [Act.eval, Act.put]) (by simp [Act.eval, Act.put]) (hcp1 _ _ _) ?_)
  go_wp2_with (at_builtin; refine wpList_copy_runI _ rfl _ _ 121 121 rfl _ _ rfl rfl (hcp2 _ (fun _ => rfl) (fun _ => rfl) _ _) ?_)
  go_ret
  first | exact ⟨rfl, rfl⟩ | exact ⟨rfl, by rw [hW1]⟩
set_option maxRecDepth 100000 in
set_option maxHeartbeats 4000000 in
/-- There is no room, and something stands behind: a new row. -/
theorem ins_grow (base g n c i vb : Nat) (xs : List Value) (u : Value) (w : World) (hi : i < n) (hroom : c < n + 1) (hnc : n ≤ c) (hn : n ≤ 1000000) (hbase : base ≤ w.heap.size) (hown : w.ownsRow base 128 1 (.slice (some ⟨g, 0, none⟩) n c) n xs)
    (hv : w.heap[vb]? = some (.cells #[u] 128 (0, 0))) (h1 : ∀ v ∈ xs, v.oneCell' = true) (hu : u.oneCell' = true) :
    Calls Tryz.prog 96 #[.slice (some ⟨g, 0, none⟩) n c, .int .i64 i, .slice (some ⟨vb, 0, none⟩) 1 1] w fun e w' =>
      ∃ G, e = .returned (.slice (some ⟨w.heap.size, 0, none⟩) (n + 1) G) ∧ w'.ownsRow base 128 1 (.slice (some ⟨w.heap.size, 0, none⟩) (n + 1) G) (n + 1) (xs.take i ++ [u] ++ xs.drop i) ∧ w.grownBy w' none := by
  have mixed := mixed
  have hxl : xs.length = n := by have := hown.1; omega
  have hcell : ∀ j v, xs[j]? = some v → w.cell? ⟨g, 0 + j, none⟩ = some v := fun j v hj => by
    have hjn : j < n := by
      have := (List.getElem?_eq_some_iff.1 hj).1
      omega
    rw [Nat.zero_add, World.ownsRow.cellAt hown j (by omega)]
    exact hj
  obtain ⟨i0, hi0, hz0, hzs, hzb⟩ := info_parts Tryz.infoPtr
  have hbw : g < w.heap.size := (World.ownsRow.lt hown g rfl).2
  have hvw : vb < w.heap.size := (Array.getElem?_eq_some_iff.1 hv).1
  have hkk : (n : Int) + 1 - (i : Int) = ((n + 1 - i : Nat) : Int) := by omega
  have hik : i + (n + 1 - i) = n + 1 := by omega
  have hold : (Builtin.firstCells i0.size i (.slice (some ⟨g, 0, none⟩) i c)).run Tryz.prog w.drew = .ok (xs.take i).toArray w.drew := by
    rw [hzs]
    exact run_firstCells_some w.drew 1 i ⟨g, 0, none⟩ i c (xs.take i) (by rw [List.length_take]; omega) (fun j v hj => by
      rw [Addr.add_lit]
      rw [List.getElem?_take] at hj
      split at hj
      · exact hcell j v hj
      · cases hj)
  have hrz : ∀ ty, (Builtin.append_ #[121, 3] ty #[.slice (some ⟨g, 0, none⟩) i c, .int .i64 ((n : Int) + 1 - (i : Int))]).run Tryz.prog w =
      .ok (.slice (some ⟨w.heap.size, 0, none⟩) (n + 1) (grownCap w (n + 1) c 128)) (w.drew.alloc (.cells ((xs.take i).toArray ++ Builtin.zeroCells (Value.pointer none).cells (n + 1 - i) ++ Builtin.zeroCells (Value.pointer none).cells (grownCap w (n + 1) c 128 - (n + 1))) 128)) := fun ty => by
    have h := Lib.run_append_grow_zeros w 121 3 ty 128 i0 _ .i64 .i64 Tryz.underlying121 Tryz.underlying3 hi0 hz0 (some ⟨g, 0, none⟩) i c (xs.take i) hold (n + 1 - i) (by omega) (by omega) (by omega) (by omega) (by rw [hzb]; omega) (by rw [hzb, hik]; exact growslice_fits hroom (by omega))
    rw [hik] at h
    rw [hkk]
    exact h
  have hGn : n + 1 ≤ grownCap w (n + 1) c 128 := grownCap_ge w _ _ _
  have hGm := grownCap_le_maxLen w (n + 1) c 128 (by unfold maxLen; omega)
  obtain ⟨G, hG⟩ : ∃ G, G = grownCap w (n + 1) c 128 := ⟨_, rfl⟩
  rw [← hG] at hrz hGn hGm
  have hG63 : G ≤ 9223372036854775807 := by unfold maxLen at hGm; omega
  obtain ⟨ROW, hROW⟩ : ∃ ROW : Array Value, ROW = (xs.take i).toArray ++ Builtin.zeroCells (Value.pointer none).cells (n + 1 - i) ++ Builtin.zeroCells (Value.pointer none).cells (G - (n + 1)) := ⟨_, rfl⟩
  rw [← hROW] at hrz
  have hRs : ROW.size = G := by
    rw [hROW]
    simp [Builtin.zeroCells, Value.cells, hxl]
    omega
  have hRt : ROW.toList.take i = xs.take i := by
    have e : ROW.toList = xs.take i ++ (ROW.toList.drop i) := by
      have : ROW.toList.take i = xs.take i := by
        rw [hROW, Array.append_assoc]
        simp [hxl, Nat.min_eq_left (show i ≤ n by omega)]
      rw [← this, List.take_append_drop]
    rw [e, List.take_append_of_le_length (by simp [hxl]; omega), List.take_of_length_le (by simp; omega)]
  obtain ⟨W1, hW1⟩ : ∃ W1, W1 = w.drew.alloc (.cells ROW 128) := ⟨_, rfl⟩
  have hO1 : W1.ownsRow base 128 1 (.slice (some ⟨w.heap.size, 0, none⟩) (n + 1) G) (n + 1) (ROW.toList.take (n + 1)) := by
    rw [hW1]
    exact ⟨by rw [List.length_take, Array.length_toList, hRs]; omega, Or.inr ⟨w.heap.size, G, ROW, rfl, hbase, (MapKept.heap_alloc w.drew _).1, hGn, hGm, by omega, by rw [Nat.mul_one]⟩⟩
  have hN : ∀ j, j < n + 1 → (W1.cell? ⟨w.heap.size, j, none⟩).isSome = true := fun j hj => by
    rw [World.ownsRow.cellAt hO1 j (by omega), List.getElem?_eq_getElem (by rw [List.length_take, Array.length_toList, hRs]; omega)]
    rfl
  have hNf : ∀ j, W1.frozen? ⟨w.heap.size, j, none⟩ = false := fun j => World.ownsRow.frozenAt hO1 j
  have hK : RowKit.Below w.heap.size w W1 := by rw [hW1]; exact ((Far.refl w).drew.alloc _).below
  have hOb : ∀ j v, w.cell? ⟨g, j, none⟩ = some v → W1.cell? ⟨g, j, none⟩ = some v := fun j v h => (hK.cell hbw).trans h
  have hOv : W1.cell? ⟨vb, 0, none⟩ = some u := (hK.cell hvw).trans (by simp [World.cell?, hv])
  have hne : vb ≠ w.heap.size := by omega
  have hgne : g ≠ w.heap.size := by omega
  have hdl : (xs.drop i).length = n - i := by rw [List.length_drop, hxl]
  have hcpA : ∀ (W : World), (∀ x, W.cell? x = W1.cell? x) → (∀ x, W.frozen? x = W1.frozen? x) → ∀ ty dc, (Builtin.copy_ #[121, 121] ty #[.slice (some ⟨w.heap.size, i, none⟩) (n + 1 - i) dc, .slice (some ⟨vb, 0, none⟩) 1 1]).run Tryz.prog W = .ok (goInt ([u] : List Value).length) (W.setCells w.heap.size i [u]) := fun W hWc hWf ty dc =>
    run_copy_cells W _ _ ty 128 w.heap.size i (n + 1 - i) dc ⟨vb, 0, none⟩ 1 1 [u] Tryz.underlying121 sizePtr (by simp only [Nat.min_def]; split <;> simp <;> omega)
      (fun j v hj => by
        have hj0 : j = 0 := by
          have := (List.getElem?_eq_some_iff.1 hj).1
          simpa using this
        subst hj0
        simp at hj
        subst hj
        rw [Addr.add_lit, hWc]
        exact hOv)
      (fun j hj => by rw [hWc]; exact hN _ (by simp at hj; omega)) (fun j _ => by rw [hWf]; exact hNf _) (fun v hv' => by simp at hv'; rw [hv']; exact hu)
  have hcpB : ∀ (W : World), (∀ x, W.cell? x = (W1.setCells w.heap.size i [u]).cell? x) → (∀ x, W.frozen? x = (W1.setCells w.heap.size i [u]).frozen? x) → ∀ ty dc sc, (Builtin.copy_ #[121, 121] ty #[.slice (some ⟨w.heap.size, i + 1, none⟩) (n + 1 - (i + 1)) dc, .slice (some ⟨g, i, none⟩) (n - i) sc]).run Tryz.prog W = .ok (goInt (xs.drop i).length) (W.setCells w.heap.size (i + 1) (xs.drop i)) := fun W hWc hWf ty dc sc =>
    run_copy_cells W _ _ ty 128 w.heap.size (i + 1) (n + 1 - (i + 1)) dc ⟨g, i, none⟩ (n - i) sc (xs.drop i) Tryz.underlying121 sizePtr (by rw [hdl]; simp only [Nat.min_def]; split <;> omega)
      (fun j v hj => by
        rw [Addr.add_lit, hWc, World.cell?_setCells_out _ _ _ _ _ (fun h _ => absurd h hgne)]
        have := hOb _ v (hcell (i + j) v (by rwa [List.getElem?_drop] at hj))
        rwa [Nat.zero_add] at this)
      (fun j hj => by rw [hWc]; exact isSome_setCells _ [u] i W1 (fun t ht => hN _ (by simp at ht; omega)) _ (hN _ (by rw [hdl] at hj; omega)))
      (fun j _ => by rw [hWf, World.frozen?_setCells]; exact hNf _) (fun v hv' => h1 v (List.mem_of_mem_drop hv'))
  have hend : ∀ (W : World), W = (((w.alloc (.cells ROW 128)).drew.setCells w.heap.size i [u]).drew).setCells w.heap.size (i + 1) (xs.drop i) → W.ownsRow base 128 1 (.slice (some ⟨w.heap.size, 0, none⟩) (n + 1) G) (n + 1) (xs.take i ++ [u] ++ xs.drop i) ∧ w.grownBy W none := fun W hW => by
    have hA : (w.alloc (.cells ROW 128)).drew.ownsRow base 128 1 (.slice (some ⟨w.heap.size, 0, none⟩) (n + 1) G) (n + 1) (ROW.toList.take (n + 1)) := by
      have : (w.alloc (.cells ROW 128)).drew = w.drew.alloc (.cells ROW 128) := rfl
      rw [this, ← hW1]
      exact hO1
    have hB := own_setCells [u] i _ _ hA (by simp; omega)
    have hB' : (((w.alloc (.cells ROW 128)).drew.setCells w.heap.size i [u]).drew).ownsRow base 128 1 (.slice (some ⟨w.heap.size, 0, none⟩) (n + 1) G) (n + 1) _ := hB.1
    have hC := own_setCells (xs.drop i) (i + 1) _ _ hB' (by rw [hdl]; omega)
    rw [hW]
    refine ⟨?_, ?_⟩
    · have e := ins_list xs (ROW.toList.take (n + 1)) u i n hxl (by omega) (by rw [List.length_take, Array.length_toList, hRs]; omega) (by rw [List.take_take, Nat.min_eq_left (by omega), hRt])
      rw [← e]
      exact hC.1
    · have hg1 : w.grownBy (w.alloc (.cells ROW 128)).drew none := (World.grownBy_alloc w _ none).trans (grownBy_drew1 _ _)
      have g2 := hB.2
      have g3 : ((w.alloc (.cells ROW 128)).drew.setCells w.heap.size i [u]).grownBy ((((w.alloc (.cells ROW 128)).drew.setCells w.heap.size i [u]).drew).setCells w.heap.size (i + 1) (xs.drop i)) (some w.heap.size) := (grownBy_drew1 _ _).trans hC.2
      have g4 := g2.trans g3
      exact ⟨g4.os.trans hg1.os, g4.tape.trans hg1.tape, g4.output.trans hg1.output, Nat.le_trans hg1.size g4.size, fun k hk _ => (g4.block k (Nat.lt_of_lt_of_le hk hg1.size) (fun e => by cases e; omega)).trans (hg1.block k hk (by simp))⟩
  subst hW1
  have hz1 : ¬ ((i : Int) = (n : Int)) := by omega
  have hz3 : (c : Int) < (n : Int) + 1 := by omega
  have hw1 : IntKind.i64.wrap ((i : Int) + 1) = (i : Int) + 1 := by rw [IntKind.wrap_i64]; omega
  have hb1 : (0 : Int) ≤ (i : Int) + 1 := by omega
  have hin : i ≤ n := by omega
  have htn : ((i : Int) + 1).toNat = i + 1 := by omega
  have hb3 : (i : Int) ≤ (n : Int) := by omega
  have hGi : ¬ (G = i) := by omega
  have hGim : ¬ (G = i + 1) := by omega
  have hci : ¬ (c = i) := by omega
  have HE := hid hend
  have hE1 : ∀ x, ((w.alloc (.cells ROW 128)).drew).cell? x = (w.drew.alloc (.cells ROW 128)).cell? x := fun x => rfl
  have hE2 : ∀ x, ((w.alloc (.cells ROW 128)).drew).frozen? x = (w.drew.alloc (.cells ROW 128)).frozen? x := fun x => rfl
  have hF1 : ∀ x, (((w.alloc (.cells ROW 128)).drew.setCells w.heap.size i [u]).drew).cell? x = ((w.drew.alloc (.cells ROW 128)).setCells w.heap.size i [u]).cell? x := fun x => rfl
  have hF2 : ∀ x, (((w.alloc (.cells ROW 128)).drew.setCells w.heap.size i [u]).drew).frozen? x = ((w.drew.alloc (.cells ROW 128)).setCells w.heap.size i [u]).frozen? x := fun x => rfl
  clear hkk hik hold hROW hG hRs hRt hend hO1 hN hNf hK hOb hOv hown hcell hv
  go_enter Tryz.func96, Tryz.ntmps96
  go_wp2_with (first
    | (at_builtin; refine Lib.wpList_append_run _ rfl _ _ _ _ rfl _ _ rfl rfl _ _ (hrz _) ?_)
    | (at_builtin; refine wpList_copy_runI _ rfl _ _ 121 121 rfl _ _ rfl rfl (hcpA _ hE1 hE2 _ _) ?_)
    | (at_builtin; refine wpList_copy_runI _ rfl _ _ 121 121 rfl _ _ rfl rfl (hcpB _ (fun _ => rfl) (fun _ => rfl) _ _ _) ?_))
  go_region_law_o (refine step_copy_runI rfl _ _ 121 121 rfl (.slice (some ⟨w.heap.size, i + 1, none⟩) (n + 1 - (i + 1)) (G - (i + 1))) (.slice (some ⟨g, i, none⟩) (n - i) (c - i)) (by simp [Act.eval, Act.put]) (by simp [Act.eval, Act.put]) (hcpB _ hF1 hF2 3 (G - (i + 1)) (c - i)) ?_)
  go_wp2
  go_ret
  exact ⟨G, rfl, HE.out _ rfl⟩

/-- Appends one pointer to a row of one's own. -/
theorem wpList_append_ptr {w : World} {ops : Array Oper} {rest : List Oper} {o : Oper} {a : Act} {Q : Exit → Act → World → Prop} (hgd : o.guard = none) (s x : Operand)
    (ho : o.op = .call { callee := .builtin .append, args := #[s, x], argTypes := #[121, 121] }) (base : Nat) (v : Value) (n : Nat) (xs : List Value) (hs : a.eval s = v) (hown : w.ownsRow base 128 1 v n xs)
    (vb : Nat) (u : Value) (hx : a.eval x = .slice (some ⟨vb, 0, none⟩) 1 1) (hv : w.cell? ⟨vb, 0, none⟩ = some u) (hu : u.oneCell' = true) (hb : n + 1 ≤ 1000001) (hbase : base ≤ w.heap.size)
    (h : ∀ g cap w', w'.ownsRow base 128 1 (.slice (some ⟨g, 0, none⟩) (n + 1) cap) (n + 1) (xs ++ [u]) → w.grownBy w' v.ownBlock → (v.ownBlock = some g ∨ g = w.heap.size) → wpList Tryz.prog ops Q rest (a.put o.dst (.slice (some ⟨g, 0, none⟩) (n + 1) cap)) w') : wpList Tryz.prog ops Q (o :: rest) a w := by
  obtain ⟨i0, hi, hz0, hz1, hz2⟩ := info_parts Tryz.infoPtr
  refine wpList_append_lies w hgd s x 121 ho base 128 i0 _ 1 8 Tryz.underlying121 hi hz0 hz1 hz2 rfl (by decide) v n xs hs hown ⟨vb, 0, none⟩ 1 1 [u] hx rfl (fun j y hj => ?_) (fun y hy => by simp at hy; rw [hy]; exact hu) (by decide) (by unfold maxLen; omega) (by omega) hbase _ rfl ?_
  · have hj0 : j = 0 := by
      have := (List.getElem?_eq_some_iff.1 hj).1
      simpa using this
    subst hj0
    simp at hj
    subst hj
    rw [Addr.add_lit]
    exact hv
  · intro g cap w' h1 h2 h3 _
    exact h g cap w' h1 h2 h3

set_option maxRecDepth 100000 in
set_option maxHeartbeats 4000000 in
/-- slices.Insert of one pointer, anywhere in a row of one's own. -/
theorem fginsert_any (base : Nat) (v : Value) (n i vb : Nat) (xs : List Value) (u : Value) (w : World) (hi : i ≤ n) (hn : n ≤ 1000000) (hbase : base ≤ w.heap.size) (hown : w.ownsRow base 128 1 v n xs) (hvb : v.ownBlock ≠ some vb)
    (hv : w.heap[vb]? = some (.cells #[u] 128 (0, 0))) (h1 : ∀ y ∈ xs, y.oneCell' = true) (hu : u.oneCell' = true) :
    Calls Tryz.prog 96 #[v, .int .i64 i, .slice (some ⟨vb, 0, none⟩) 1 1] w fun e w' =>
      ∃ g c, e = .returned (.slice (some ⟨g, 0, none⟩) (n + 1) c) ∧ w'.ownsRow base 128 1 (.slice (some ⟨g, 0, none⟩) (n + 1) c) (n + 1) (xs.take i ++ [u] ++ xs.drop i) ∧ w.grownBy w' v.ownBlock ∧ (v.ownBlock = some g ∨ g = w.heap.size) := by
  have hxl : xs.length = n := by have := hown.1; omega
  have hv0 : w.cell? ⟨vb, 0, none⟩ = some u := by simp [World.cell?, hv]
  by_cases hin : i = n
  · subst hin
    have hcase : (v = .slice none 0 0 ∧ i = 0) ∨ ∃ g c, v = .slice (some ⟨g, 0, none⟩) i c ∧ i ≤ c ∧ c ≤ maxLen := by
      rcases hown.2 with h | ⟨g, cap, cur, e, _, _, hnc, hc, _⟩
      · exact Or.inl h
      · exact Or.inr ⟨g, cap, e, hnc, hc⟩
    have HOWN := hid hown
    have hlist : xs.take i ++ [u] ++ xs.drop i = xs ++ [u] := by rw [List.take_of_length_le (by omega), List.drop_of_length_le (by omega), List.append_nil]
    obtain ⟨Z, hZ⟩ : ∃ Z, xs.take i ++ [u] ++ xs.drop i = Z := ⟨_, rfl⟩
    rw [hZ] at hlist ⊢
    have HL := hid hlist
    clear hlist hown hZ
    rcases hcase with ⟨rfl, rfl⟩ | ⟨g, c, rfl, hnc, hcm⟩
    · go_enter Tryz.func96, Tryz.ntmps96
      go_wp2_with (at_builtin; refine wpList_append_ptr rfl _ _ rfl base (.slice none 0 0) 0 xs rfl HOWN.out vb u rfl hv0 hu (by omega) hbase ?_; intro g7 c7 w7 ho7 hg7 hat7)
      all_goals (go_ret; exact ⟨g7, c7, rfl, by rw [HL.out]; exact ho7, hg7, hat7⟩)
    · unfold maxLen at hcm
      have hz1 : ((i : Int) == (i : Int)) = true := by simp
      go_enter Tryz.func96, Tryz.ntmps96
      go_wp2_with (at_builtin; refine wpList_append_ptr rfl _ _ rfl base (.slice (some ⟨g, 0, none⟩) i c) i xs rfl HOWN.out vb u rfl hv0 hu (by omega) hbase ?_; intro g7 c7 w7 ho7 hg7 hat7)
      all_goals (go_ret; exact ⟨g7, c7, rfl, by rw [HL.out]; exact ho7, hg7, hat7⟩)
  · obtain ⟨g, c, rfl, hnc⟩ : ∃ g c, v = .slice (some ⟨g, 0, none⟩) n c ∧ n ≤ c := by
      rcases hown.2 with ⟨_, h⟩ | ⟨g, cap, cur, e, _, _, hnc, _⟩
      · omega
      · exact ⟨g, cap, e, hnc⟩
    have hvg : vb ≠ g := fun e => hvb (by rw [e]; rfl)
    by_cases hroom : n + 1 ≤ c
    · refine (ins_shift base g n c i vb xs u w (by omega) hroom hn hown hvg hv h1 hu).mono ?_
      rintro e w' ⟨rfl, rfl⟩
      obtain ⟨u0, hw⟩ := own_wider hown hroom
      have hw' : w.drew.ownsRow base 128 1 (.slice (some ⟨g, 0, none⟩) (n + 1) c) (n + 1) (xs ++ [u0]) := hw
      have hdl : (xs.drop i).length = n - i := by rw [List.length_drop, hxl]
      have hA := own_setCells (xs.drop i) (i + 1) _ _ hw' (by rw [hdl]; omega)
      have hB := own_setCells [u] i _ _ hA.1 (by simp; omega)
      refine ⟨g, c, rfl, ?_, ((grownBy_drew1 _ _).trans hA.2).trans hB.2, Or.inl rfl⟩
      have e := ins_list2 xs u0 u i n hxl (by omega)
      rw [e]
      exact hB.1
    · refine (ins_grow base g n c i vb xs u w (by omega) (by omega) hnc hn hbase hown hv h1 hu).mono ?_
      rintro e w' ⟨G, rfl, h2, h3⟩
      exact ⟨w.heap.size, G, rfl, h2, ⟨h3.os, h3.tape, h3.output, h3.size, fun k hk _ => h3.block k hk (by simp)⟩, Or.inr rfl⟩
end

section
open Go.RowKit Go.Maps
open Go.Sort (grow)

/-- A world behind w, in which all is as it was. -/
structure Wb (w : World) where
  u : World
  h : RowKit.Below w.heap.size w u

theorem wp_region_below {P : Program} {id : Nat} {Q : Exit → Act → World → Prop} {a : Act} {w : World} {l : List Oper} (hm : P.follows .mixedOrders = true) (hB : Region.lexB .any l.toArray = true)
    (h : wpQuiet P l.toArray (fun w' => ∃ p : Wb w, w' = p.u) (fun a' => ∀ w', (∃ p : Wb w, w' = p.u) → Q .normal a' w') l a) : (Code.region id l.toArray true).wp P Q a w :=
  wp_region_quiet (C := fun w' => ∃ p : Wb w, w' = p.u) hm hB ⟨⟨w.drew, (Far.refl w).drew.below⟩, rfl⟩ (by simpa using h)

theorem below_q {f : FuncId} {args : Array Value} {w : World} {v : Value} {p : Wb w} (h : Calls Tryz.prog f args p.u fun e w' => e = .returned v ∧ RowKit.Below p.u.heap.size p.u w') : Calls Tryz.prog f args p.u fun e w'' => e = .returned v ∧ ∃ p' : Wb w, w'' = p'.u :=
  h.mono fun _ w' ⟨he, hb⟩ => ⟨he, ⟨w', p.h.trans (hb.mono p.h.size)⟩, rfl⟩

theorem far_q {f : FuncId} {args : Array Value} {w : World} {v : Value} {p : Wb w} (h : Tells f args p.u v) : Calls Tryz.prog f args p.u fun e w'' => e = .returned v ∧ ∃ p' : Wb w, w'' = p'.u :=
  below_q (h.mono fun _ _ ⟨he, hf⟩ => ⟨he, hf.below⟩)
end

section
open Go.RowKit
open Go.Sort (grow)

set_option maxHeartbeats 1000000 in
theorem fgless_any (a b : Dt) (w : World) : Tells 124 #[dv a, dv b] w (.bool (dl a b)) := by
  obtain ⟨a1, a2⟩ := a
  obtain ⟨b1, b2⟩ := b
  by_cases h : a1 = b1
  · subst h
    go_enter Tryz.func124, Tryz.ntmps124
    go_wp2
    go_ret
    exact ⟨by simp [dl], ((Far.refl w).alloc _).alloc _⟩
  · go_enter Tryz.func124, Tryz.ntmps124
    go_wp2
    go_ret
    exact ⟨by simp [dl, h], ((Far.refl w).alloc _).alloc _⟩

/-- A pointer to a block. -/
abbrev pvFc (g : Nat) : Value := .pointer (some ⟨g, 0, none⟩)
def prowc (gs : List Nat) : List Value := gs.map pvFc

/-- What a character's block says first: its identity. -/
structure IdAt (w : World) (g : Nat) (d : Dt) : Prop where
  c0 : w.cell? ⟨g, 0, none⟩ = some (.int .i64 d.1)
  c1 : w.cell? ⟨g, 1, none⟩ = some (.int .i64 d.2)

theorem IdAt.lt {w : World} {g : Nat} {d : Dt} (h : IdAt w g d) : g < w.heap.size := cell_in h.c0
theorem IdAt.below {w w' : World} {g : Nat} {d : Dt} (h : IdAt w g d) (hb : RowKit.Below w.heap.size w w') : IdAt w' g d := ⟨(hb.cell h.lt).trans h.c0, (hb.cell h.lt).trans h.c1⟩

set_option maxRecDepth 100000 in
set_option maxHeartbeats 1000000 in
theorem fgorder_any (g1 g2 : Nat) (d1 d2 : Dt) (w : World) (h1 : IdAt w g1 d1) (h2 : IdAt w g2 d2) :
    Calls Tryz.prog 95 #[pvFc g1, pvFc g2] w fun e w' => e = .returned (.int .i64 (if dl d1 d2 = true then -1 else 1)) ∧ RowKit.Below w.heap.size w w' := by
  have mixed := mixed
  haveI : Nonempty (Wb w) := ⟨⟨w, Below.refl _ _⟩⟩
  have a0 := fun p : Wb w => (h1.below p.h).c0
  have a1 := fun p : Wb w => (h1.below p.h).c1
  have b0 := fun p : Wb w => (h2.below p.h).c0
  have b1 := fun p : Wb w => (h2.below p.h).c1
  have hL : ∀ p : Wb w, Calls Tryz.prog 124 #[.agg #[.int .i64 d1.1, .int .i64 d1.2], .agg #[.int .i64 d2.1, .int .i64 d2.2]] p.u fun e w' => e = .returned (.bool (dl d1 d2)) ∧ ∃ p' : Wb w, w' = p'.u := fun p => far_q (fgless_any d1 d2 p.u)
  cases hb : dl d1 d2
  · rw [hb] at hL
    go_enter Tryz.func95, Tryz.ntmps95
    go_upto_region 1 with fail
    refine wp_region_below mixed (by kernel_rfl) ?_
    repeat (go_big_quiet_step (first | (go_at_call 124; exact hL _)))
    refine wpQuiet_nil ?_
    intro _ hw'
    obtain ⟨p, hw''⟩ := hw'
    subst hw''
    go_wp2
    go_ret
    exact ⟨by first | rfl | simp, p.h⟩
  · rw [hb] at hL
    go_enter Tryz.func95, Tryz.ntmps95
    go_upto_region 1 with fail
    refine wp_region_below mixed (by kernel_rfl) ?_
    repeat (go_big_quiet_step (first | (go_at_call 124; exact hL _)))
    refine wpQuiet_nil ?_
    intro _ hw'
    obtain ⟨p, hw''⟩ := hw'
    subst hw''
    go_wp2
    go_ret
    exact ⟨by first | rfl | simp, p.h⟩

/-- How many come ahead. -/
def aheadOf (ds : List Dt) (y : Dt) : Nat := (ds.takeWhile (fun d => dl d y)).length

theorem aheadOf_le (ds : List Dt) (y : Dt) : aheadOf ds y ≤ ds.length := (List.takeWhile_prefix _).length_le

theorem ins_at (y : Dt) : ∀ ds : List Dt, y ∉ ds → ins ds y = ds.take (aheadOf ds y) ++ [y] ++ ds.drop (aheadOf ds y)
  | [], _ => rfl
  | d :: r, h => by
    have hne : d ≠ y := fun e => h (by rw [e]; simp)
    have hr : y ∉ r := fun hm => h (List.mem_cons_of_mem _ hm)
    have ih := ins_at y r hr
    unfold ins
    cases hd : dl d y
    · have ha : aheadOf (d :: r) y = 0 := by simp [aheadOf, List.takeWhile, hd]
      rw [ha]
      simp [hne]
    · have ha : aheadOf (d :: r) y = aheadOf r y + 1 := by simp [aheadOf, List.takeWhile, hd]
      rw [ha, if_pos rfl, ih]
      simp

theorem up_get {ds : List Dt} (h : Up ds) {i j : Nat} {a b : Dt} (hij : i < j) (ha : ds[i]? = some a) (hb : ds[j]? = some b) : dl a b = true := by
  obtain ⟨hi, rfl⟩ := List.getElem?_eq_some_iff.1 ha
  obtain ⟨hj, rfl⟩ := List.getElem?_eq_some_iff.1 hb
  exact (List.pairwise_iff_getElem.1 h) i j hi hj hij

theorem aheadOf_unique {ds : List Dt} {y : Dt} {lo : Nat} (hl : lo ≤ ds.length) (h1 : ∀ t d, t < lo → ds[t]? = some d → dl d y = true) (h2 : ∀ d, ds[lo]? = some d → dl d y = false) : lo = aheadOf ds y := by
  induction ds generalizing lo with
  | nil => simp at hl; simp [hl, aheadOf]
  | cons d r ih =>
    cases lo with
    | zero =>
      have := h2 d rfl
      simp [aheadOf, List.takeWhile, this]
    | succ lo =>
      have hd := h1 0 d (by omega) rfl
      have := ih (lo := lo) (by simpa using hl) (fun t e ht he => h1 (t + 1) e (by omega) (by simpa using he)) (fun e he => h2 e (by simpa using he))
      simp [aheadOf, List.takeWhile, hd] at this ⊢
      exact this

/-- A row of characters: their blocks, their identities. -/
structure CR (w : World) (gs : List Nat) (ds : List Dt) : Prop where
  len : gs.length = ds.length
  at_ : ∀ (i : Nat) (g : Nat) (d : Dt), gs[i]? = some g → ds[i]? = some d → IdAt w g d

theorem CR.below {w w' : World} {gs : List Nat} {ds : List Dt} (h : CR w gs ds) (hb : RowKit.Below w.heap.size w w') : CR w' gs ds := ⟨h.len, fun i g d h1 h2 => (h.at_ i g d h1 h2).below hb⟩

/-- A slice that holds pointers. -/
structure PPc (w : World) (a : Option Addr) (n c : Nat) (gs : List Nat) : Prop where
  len : gs.length = n
  cap : n ≤ c
  max : c ≤ maxLen
  at_ : 0 < n → ∃ g o, a = some ⟨g, o, none⟩ ∧ g < w.heap.size ∧ ∀ i (hi : i < gs.length), w.cell? ⟨g, o + i, none⟩ = some (pvFc gs[i])

theorem PPc.below {w w' : World} {a : Option Addr} {n c : Nat} {gs : List Nat} (h : PPc w a n c gs) (hb : RowKit.Below w.heap.size w w') : PPc w' a n c gs :=
  ⟨h.len, h.cap, h.max, fun hp => by
    obtain ⟨g, o, e, hg, hx⟩ := h.at_ hp
    exact ⟨g, o, e, Nat.lt_of_lt_of_le hg hb.size, fun i hi => (hb.cell hg).trans (hx i hi)⟩⟩

theorem own_ppc {w : World} {base n : Nat} {v : Value} {gs : List Nat} (h : w.ownsRow base 128 1 v n (prowc gs)) : ∃ a c, v = .slice a n c ∧ PPc w a n c gs := by
  have hl : gs.length = n := by have := h.1; simpa [prowc] using this
  rcases h.2 with ⟨rfl, rfl⟩ | ⟨g, cap, cur, rfl, hb, hg, hn, hc, hs, ht⟩
  · exact ⟨none, 0, rfl, hl, Nat.le_refl _, Nat.zero_le _, fun hp => absurd hp (by omega)⟩
  · refine ⟨_, _, rfl, hl, hn, hc, fun _ => ⟨g, 0, rfl, (Array.getElem?_eq_some_iff.1 hg).1, fun i hi => ?_⟩⟩
    rw [Nat.zero_add, World.ownsRow.cellAt h i (by omega)]
    simp [prowc, List.getElem?_eq_getElem hi]

set_option maxRecDepth 100000 in
set_option maxHeartbeats 2000000 in
theorem fgsearch_any (a : Option Addr) (n c : Nat) (gs : List Nat) (ds : List Dt) (gc : Nat) (y : Dt) (w : World) (hs : PPc w a n c gs) (hr : CR w gs ds) (hy : IdAt w gc y) (hn : n ≤ 1000000) (ha : Up ds) :
    Calls Tryz.prog 94 #[.slice a n c, pvFc gc, .func (.func 95) #[] #[]] w fun e w' => e = .returned (.tuple #[.int .i64 (aheadOf ds y : Nat), .bool false]) ∧ RowKit.Below w.heap.size w w' := by
  have HL := hid hs.len
  have HR := hid hr.len
  have HA := hid ha
  clear ha
  go_enter Tryz.func94, Tryz.ntmps94
  go_wp2
  go_loopw [9, 10] (fun i j wr => ∃ lo hi : Nat, i = .int .i64 lo ∧ j = .int .i64 hi ∧ lo ≤ hi ∧ hi ≤ n ∧ Hid (∀ t d, t < lo → ds[t]? = some d → dl d y = true) ∧ Hid (∀ t d, hi ≤ t → ds[t]? = some d → dl d y = false) ∧ Hid (RowKit.Below w.heap.size w wr)) (fun i j _ => (intOf j).toNat - (intOf i).toNat)
  case atStart => exact ⟨0, n, rfl, rfl, by omega, by omega, hid (fun t d ht => by omega), hid (fun t d ht hd => by
      have := (List.getElem?_eq_some_iff.1 hd).1
      have := HL.out
      have := HR.out
      omega), hid (Below.refl _ _)⟩
  case round =>
    obtain ⟨lo, hi, rfl, rfl, hlh, hin, hlow, hhigh, hW⟩ := hrel
    have hyr := hy.below hW.out
    by_cases hlt : lo < hi
    · have hmn : (lo + hi) / 2 < gs.length := by have := HL.out; omega
      obtain ⟨g, o, rfl, hg, hcell⟩ := (hs.below hW.out).at_ (by omega)
      have hc0 := hcell ((lo + hi) / 2) hmn
      have hmd : (lo + hi) / 2 < ds.length := by have := HR.out; omega
      have hLk : Hid _ := hid (List.getElem?_eq_getElem (l := ds) (i := (lo + hi) / 2) hmd)
      have hid0 := (hr.below hW.out).at_ _ _ _ (List.getElem?_eq_getElem hmn) (List.getElem?_eq_getElem hmd)
      generalize ds[(lo + hi) / 2] = d at hLk hid0
      generalize gs[(lo + hi) / 2] = gm at hc0 hid0
      have hG := fgorder_any gm gc d y wr hid0 hyr
      clear hs hr hcell hid0 hyr
      have hl := HL.out
      cases hd : dl d y
      · rw [hd] at hG
        simp only [Bool.false_eq_true, if_false] at hG
        go_wp2_with (first | (go_at_call 95; refine hG.mono ?_; rintro e w1 ⟨rfl, hF1⟩))
        go_roundw
        case rel => exact ⟨lo, (lo + hi) / 2, rfl, by rw [show ((lo : Int) + (hi : Int)) / 2 = (((lo + hi) / 2 : Nat) : Int) by omega], by omega, by omega, hlow, hid (fun t e ht he => by
          by_cases ht0 : t = (lo + hi) / 2
          · rw [ht0, hLk.out] at he; cases he; exact hd
          · cases hc : dl e y with
            | false => rfl
            | true =>
              have h1 : dl d e = true := up_get HA.out (by omega) hLk.out he
              rw [dl_trans h1 hc] at hd
              cases hd), hid (below2 hW.out hF1)⟩
        case measure => simp [intOf]; omega
      · rw [hd] at hG
        simp only [if_true] at hG
        go_wp2_with (first | (go_at_call 95; refine hG.mono ?_; rintro e w1 ⟨rfl, hF1⟩))
        go_roundw
        case rel => exact ⟨(lo + hi) / 2 + 1, hi, by rw [show ((lo : Int) + (hi : Int)) / 2 + 1 = (((lo + hi) / 2 + 1 : Nat) : Int) by omega], rfl, by omega, hin, hid (fun t e ht he => by
          by_cases ht0 : t = (lo + hi) / 2
          · rw [ht0, hLk.out] at he; cases he; exact hd
          · exact dl_trans (up_get HA.out (by omega) he hLk.out) hd), hhigh, hid (below2 hW.out hF1)⟩
        case measure => simp [intOf]; omega
    · obtain rfl : hi = lo := by omega
      have hres : Hid (hi = aheadOf ds y) := hid (aheadOf_unique (by have := HL.out; have := HR.out; omega) hlow.out (fun d hd => hhigh.out hi d (Nat.le_refl _) hd))
      by_cases hln : hi < n
      · have hmn : hi < gs.length := by have := HL.out; omega
        obtain ⟨g, o, rfl, hg, hcell⟩ := (hs.below hW.out).at_ (by omega)
        have hc0 := hcell hi hmn
        have hmd : hi < ds.length := by have := HR.out; omega
        have hid0 := (hr.below hW.out).at_ _ _ _ (List.getElem?_eq_getElem hmn) (List.getElem?_eq_getElem hmd)
        have hdf := hhigh.out hi _ (Nat.le_refl _) (List.getElem?_eq_getElem hmd)
        generalize ds[hi] = d at hid0 hdf
        generalize gs[hi] = gm at hc0 hid0
        have hG := fgorder_any gm gc d y wr hid0 hyr
        rw [hdf] at hG
        simp only [Bool.false_eq_true, if_false] at hG
        clear hs hr hcell hid0 hyr
        go_wp2_with (first | (go_at_call 95; refine hG.mono ?_; rintro e w1 ⟨rfl, hF1⟩))
        go_ret2
        exact ⟨by rw [← hres.out]; rfl, below2 hW.out hF1⟩
      · obtain rfl : hi = n := by omega
        clear hs
        go_wp2_with fail
        go_ret2
        exact ⟨by rw [← hres.out]; rfl, hW.out⟩
end

section
open Go.RowKit Go.Sort Go.Maps

/-- A pointer to a block, or none. -/
def pvoc : Option Nat → Value
  | none => .pointer none
  | some g => .pointer (some ⟨g, 0, none⟩)
def pzc : Option Nat → DataW Unit
  | none => .lit (.int .i64 (-1))
  | some g => .lit (.int .i64 (g : Int))
/-- How such a one reads, as an element of a map: as a number. -/
def pRc (v : Value) : Option (DataW Unit × List MemPlace) :=
  match v with
  | .pointer none => some (pzc none, [])
  | .pointer (some ⟨g, 0, none⟩) => some (pzc (some g), [])
  | _ => none

theorem pRc_mk (o : Option Nat) : pRc (pvoc o) = some (pzc o, []) := by cases o <;> rfl

theorem pzc_inj {o p : Option Nat} (h : pzc o = pzc p) : o = p := by
  cases o <;> cases p
  · rfl
  · simp [pzc] at h
  · simp [pzc] at h
  · simp [pzc] at h; congr 1; omega

theorem pRc_inv {v : Value} {o : Option Nat} {ps : List MemPlace} (h : pRc v = some (pzc o, ps)) : v = pvoc o := by
  unfold pRc at h
  split at h
  · have h1 : pzc none = pzc o := by simpa using congrArg Prod.fst (Option.some.inj h)
    rw [← pzc_inj h1]; rfl
  · rename_i g
    have h1 : pzc (some g) = pzc o := by simpa using congrArg Prod.fst (Option.some.inj h)
    rw [← pzc_inj h1]; rfl
  · cases h

/-- Block b is a map of at most n dots to blocks, that tells G. -/
def PMc (w : World) (b n : Nat) (G : Dt → Option Nat) : Prop := ∃ D : DataW Unit, w.ownsMap Tryz.prog 24 pRc b n D ∧ ∀ d, Dw d → Maps.has D (kl d) = (G d).isSome ∧ D.atKey (kl d) (pzc none) = pzc (G d)

theorem zeroPtrc (w : World) : (zeroValue 128).run Tryz.prog w = .ok (pvoc none) w := Tryz.zeroValue128 w

theorem PMc.made (w : World) : PMc (w.alloc (.map #[] 0)) w.heap.size 0 (fun _ => none) := ⟨_, World.ownsMap_made _ _ _ _, fun _ _ => ⟨rfl, rfl⟩⟩

theorem PMc.lt {w : World} {b n : Nat} {G : Dt → Option Nat} (h : PMc w b n G) : b < w.heap.size := by
  obtain ⟨D, ho, _⟩ := h
  exact ho.lt

theorem PMc.same {w w' : World} {b n : Nat} {G : Dt → Option Nat} (h : PMc w b n G) (hs : w'.heap[b]? = w.heap[b]?) : PMc w' b n G := by
  obtain ⟨D, ⟨es, clock, h1, h2⟩, hT⟩ := h
  exact ⟨D, ⟨es, clock, by rw [hs]; exact h1, h2⟩, hT⟩

theorem PMc.look {w : World} {b n : Nat} {G : Dt → Option Nat} (h : PMc w b n G) {d : Dt} (hd : Dw d) : (Instr.lookup 120 (.map (some b)) (dv d) false).run Tryz.prog w = .ok (pvoc (G d)) w := by
  obtain ⟨D, ho, hT⟩ := h
  obtain ⟨v, ps, hr, hv⟩ := ho.lookup law Tryz.underlying120 (zeroPtrc w) (pRc_mk none) (keyOf_dot hd)
  rw [(hT d hd).2] at hv
  rw [hr, pRc_inv hv]

theorem PMc.put {w : World} {b n : Nat} {G : Dt → Option Nat} (h : PMc w b n G) {d : Dt} (hd : Dw d) (g : Nat) (hn : n < maxLen) : ∃ w', (Instr.mapUpdate 120 (.map (some b)) (dv d) (pvFc g)).run Tryz.prog w = .ok () w' ∧ PMc w' b (n + 1) (fun e => if e = d then some g else G e) ∧ w.grownBy w' (some b) := by
  obtain ⟨D, ho, hT⟩ := h
  obtain ⟨w', hr, ho', hg⟩ := ho.update law Tryz.underlying120 hn (keyOf_dot hd) (pRc_mk (some g))
  refine ⟨w', hr, ⟨_, ho', fun e he => ?_⟩, hg⟩
  by_cases hea : e = d
  · subst hea
    simp only [if_true]
    exact ⟨by rw [has_put_same ho.isMap (kl_isKey _)]; rfl, atKey_put_same ho.isMap (kl_isKey _) _ _⟩
  · have hne : kl e ≠ kl d := fun h' => hea (kl_inj he hd h')
    simp only [hea, if_false]
    exact ⟨by rw [has_put_other hne]; exact (hT e he).1, by rw [atKey_put_other hne]; exact (hT e he).2⟩

theorem nodup_kl9 : ∀ {S : List Dt}, S.Nodup → Dws S → (S.map kl).Nodup
  | [], _, _ => List.nodup_nil
  | x :: r, h, hw => by
    obtain ⟨h1, h2⟩ := List.nodup_cons.1 h
    refine List.nodup_cons.2 ⟨fun hm => ?_, nodup_kl9 h2 (fun d hd => hw d (List.mem_cons_of_mem _ hd))⟩
    obtain ⟨d, hd, e⟩ := List.mem_map.1 hm
    exact h1 (kl_inj (hw d (List.mem_cons_of_mem _ hd)) (hw x (List.mem_cons_self ..)) e ▸ hd)

/-- How many entries: as many as there are dots. -/
theorem PMc.size {w : World} {b n : Nat} {G : Dt → Option Nat} (h : PMc w b n G) {S : List Dt} (hS : S.Nodup) (hw : Dws S) (hm : ∀ d, Dw d → ((G d).isSome = true ↔ d ∈ S)) : ∃ D, w.ownsMap Tryz.prog 24 pRc b n D ∧ Maps.size D = S.length := by
  obtain ⟨D, hown, hT⟩ := h
  refine ⟨D, hown, ?_⟩
  obtain ⟨es, hD, hpw, _⟩ := hown.entries law
  obtain ⟨es', hD', hko⟩ := hown.keysOf
  obtain rfl : es = es' := by rw [hD] at hD'; simpa using hD'
  subst hD
  have hp : (es.map Prod.fst).Perm (S.map kl) := by
    refine (List.perm_ext_iff_of_nodup ?_ ?_).2 fun x => ?_
    · exact List.pairwise_map.2 hpw
    · exact nodup_kl9 hS hw
    · constructor
      · intro hx
        obtain ⟨p, hp, rfl⟩ := List.mem_map.1 hx
        obtain ⟨v, hv⟩ := hko p hp
        obtain ⟨d, _, hdw, hk⟩ := keyOf_dot_inv hv
        have hh : Maps.has (.map es) (kl d) = true := List.any_eq_true.2 ⟨p, hp, by rw [hk]; exact WideAt.sameKey_self (kl_isKey d)⟩
        rw [(hT d hdw).1] at hh
        exact List.mem_map.2 ⟨d, (hm d hdw).1 hh, hk.symm⟩
      · intro hx
        obtain ⟨d, hd, rfl⟩ := List.mem_map.1 hx
        have hh := (hm d (hw d hd)).2 hd
        rw [← (hT d (hw d hd)).1] at hh
        obtain ⟨p, hp, hs⟩ := List.any_eq_true.1 hh
        exact List.mem_map.2 ⟨p, hp, WideAt.sameKey_eq hs⟩
  have := hp.length_eq
  simpa [Maps.size] using this
end
end Go.Proofs.YtnmdcdphpcpojaaGreatDoor
