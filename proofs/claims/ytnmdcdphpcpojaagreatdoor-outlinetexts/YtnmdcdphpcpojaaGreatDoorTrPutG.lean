/- put: a move is put into the log (its first steps). -/
import Derived.Test.YtnmdcdphpcpojaaGreatDoorFgMap
import Derived.Test.YtnmdcdphpcpojaaGreatDoorTrPutF
namespace Go.Proofs.YtnmdcdphpcpojaaGreatDoor
section
set_option linter.unusedVariables false
open Go.RowKit Go.Lib
open Go.Sort (grow)

theorem Tryz.einfoPtr : (Tryz.prog.info? 136).map (fun i => (i.zero, i.size, i.bytes)) = some (some (.pointer none), 1, 8) := by kernel_rfl
theorem esizeOfPtr (w : World) : (Go.sizeOf 136).run Tryz.prog w = .ok 1 w := by
  obtain ⟨i0, hi, _, h1, _⟩ := info_parts Tryz.einfoPtr
  simp [Go.sizeOf, typeInfo, hi, h1]
theorem esizePtr : (Tryz.prog.info? 136).map (·.size) = some 1 := by kernel_rfl

set_option maxRecDepth 100000 in
set_option maxHeartbeats 4000000 in
/-- There is room, and something stands behind. -/
theorem eins_shift (base g n c i vb : Nat) (xs : List Value) (u : Value) (w : World) (hi : i < n) (hroom : n + 1 ≤ c) (hn : n ≤ 1000000) (hown : w.ownsRow base 136 1 (.slice (some ⟨g, 0, none⟩) n c) n xs) (hvb : vb ≠ g)
    (hv : w.heap[vb]? = some (.cells #[u] 136 (0, 0))) (h1 : ∀ v ∈ xs, v.oneCell' = true) (hu : u.oneCell' = true) :
    Calls Tryz.prog 100 #[.slice (some ⟨g, 0, none⟩) n c, .int .i64 i, .slice (some ⟨vb, 0, none⟩) 1 1] w fun e w' =>
      e = .returned (.slice (some ⟨g, 0, none⟩) (n + 1) c) ∧ w' = (w.drew.setCells g (i + 1) (xs.drop i)).setCells g i [u] := by
  have mixed := mixed
  have hxl : xs.length = n := by have := hown.1; omega
  have hcell : ∀ j v, xs[j]? = some v → w.cell? ⟨g, j, none⟩ = some v := fun j v hj => by
    have hjn : j < n := by
      have := (List.getElem?_eq_some_iff.1 hj).1
      omega
    rw [World.ownsRow.cellAt hown j (by omega)]
    exact hj
  obtain ⟨u0, hown1⟩ := own_wider hown hroom
  have hsp : ∀ j, j < n + 1 → (w.cell? ⟨g, j, none⟩).isSome = true := fun j hj => by
    rw [World.ownsRow.cellAt hown1 j (by omega), List.getElem?_eq_getElem (by simp; omega)]
    rfl
  have hfz : ∀ j, w.frozen? ⟨g, j, none⟩ = false := fun j => World.ownsRow.frozenAt hown j
  have hgc : ∃ cs : Array Value, w.heap[g]? = some (.cells cs 136 (0, 0)) ∧ cs.size ≠ 0 ∧ c ≤ maxLen := by
    rcases hown.2 with ⟨e, _⟩ | ⟨g', cap', cur, e, hb, hg, hnn, hc, hs, ht⟩
    · simp at e
    · simp only [Value.slice.injEq, Option.some.injEq, Addr.mk.injEq, and_true, true_and] at e
      obtain ⟨rfl, rfl⟩ := e
      exact ⟨cur, hg, by omega, hc⟩
  obtain ⟨cs, hgh, hcs0, hcm⟩ := hgc
  unfold maxLen at hcm
  have hov : ∀ lb cb, (callFunc 130 #[.slice (some ⟨vb, 0, none⟩) 1 1, .slice (some ⟨g, i + 1, none⟩) lb cb]).run Tryz.prog w = .ok (.value (.bool false)) w := fun lb cb => by
    rw [run_callFunc_extern Tryz.func130 (by kernel_rfl) (by kernel_rfl) (by kernel_rfl) (e := Extern.SlicesOverlaps.overlaps #[131, 131] #[4]) (by kernel_rfl),
      Lib.run_overlaps_apart w 131 4 136 Tryz.underlying131 1 esizeOfPtr ⟨vb, 0, none⟩ ⟨g, i + 1, none⟩ 1 1 lb cb hvb 136 136 1 cs.size (shape_of hv) (shape_of hgh) hcs0 (by simp [World.frozen?, hv]) (by simp [World.frozen?, hv])]
    rfl
  have hdl : (xs.drop i).length = n - i := by rw [List.length_drop, hxl]
  have hcp1 : ∀ ty dc sc, (Builtin.copy_ #[131, 131] ty #[.slice (some ⟨g, i + 1, none⟩) (n - i) dc, .slice (some ⟨g, i, none⟩) (n + 1 - i) sc]).run Tryz.prog w.drew = .ok (goInt (xs.drop i).length) (w.drew.setCells g (i + 1) (xs.drop i)) := fun ty dc sc =>
    run_copy_cells w.drew _ _ ty 136 g (i + 1) (n - i) dc ⟨g, i, none⟩ (n + 1 - i) sc (xs.drop i) Tryz.underlying131 esizePtr (by rw [hdl]; simp only [Nat.min_def]; split <;> omega)
      (fun j v hj => by rw [Addr.add_lit]; exact hcell (i + j) v (by rwa [List.getElem?_drop] at hj))
      (fun j hj => hsp _ (by omega)) (fun j _ => hfz _) (fun v hv' => h1 v (List.mem_of_mem_drop hv'))
  obtain ⟨W1, hW1⟩ : ∃ W1, W1 = w.drew.setCells g (i + 1) (xs.drop i) := ⟨_, rfl⟩
  have hsp1 : ∀ k, k < n + 1 → (W1.cell? ⟨g, k, none⟩).isSome = true := fun k hk => by
    rw [hW1]
    exact isSome_setCells g (xs.drop i) (i + 1) w.drew (fun j hj => hsp _ (by rw [hdl] at hj; omega)) k (hsp k hk)
  have hv0 : W1.cell? ⟨vb, 0, none⟩ = some u := by
    rw [hW1, World.cell?_setCells_out g _ _ _ _ (fun h _ => absurd h hvb)]
    show w.cell? ⟨vb, 0, none⟩ = some u
    simp [World.cell?, hv]
  have hcp2 : ∀ (W : World), (∀ x, W.cell? x = W1.cell? x) → (∀ x, W.frozen? x = W1.frozen? x) → ∀ ty dc, (Builtin.copy_ #[131, 131] ty #[.slice (some ⟨g, i, none⟩) (n + 1 - i) dc, .slice (some ⟨vb, 0, none⟩) 1 1]).run Tryz.prog W = .ok (goInt ([u] : List Value).length) (W.setCells g i [u]) := fun W hWc hWf ty dc =>
    run_copy_cells W _ _ ty 136 g i (n + 1 - i) dc ⟨vb, 0, none⟩ 1 1 [u] Tryz.underlying131 esizePtr (by simp only [Nat.min_def]; split <;> simp <;> omega)
      (fun j v hj => by
        have hj0 : j = 0 := by
          have := (List.getElem?_eq_some_iff.1 hj).1
          simpa using this
        subst hj0
        simp at hj
        subst hj
        rw [Addr.add_lit, hWc]
        exact hv0)
      (fun j hj => by rw [hWc]; exact hsp1 _ (by simp at hj; omega)) (fun j hj => by rw [hWf, hW1, World.frozen?_setCells]; exact hfz _) (fun v hv' => by simp at hv'; rw [hv']; exact hu)
  rw [← hW1] at hcp1
  have hz1 : ¬ ((i : Int) = (n : Int)) := by omega
  have hw1 : IntKind.i64.wrap ((i : Int) + 1) = (i : Int) + 1 := by rw [IntKind.wrap_i64]; omega
  have hb1 : (0 : Int) ≤ (i : Int) + 1 := by omega
  have hin : i ≤ n := by omega
  have htn : ((i : Int) + 1).toNat = i + 1 := by omega
  have hb2 : ¬ (c = i + 1) := by omega
  have hb3 : (i : Int) ≤ (n : Int) + 1 := by omega
  have hb4 : ¬ (c = i) := by omega
  clear hown hown1 hcell hsp hfz hgh hv hv0 hsp1
  go_enter Tryz.func100, Tryz.ntmps100
  go_wp2_with (simp only [hov])
  go_region_law_o (refine step_copy_runI rfl _ _ 131 131 rfl _ _ (by simp [Act.eval, Act.put]) (by simp [Act.eval, Act.put]) (hcp1 _ _ _) ?_)
  go_wp2_with (at_builtin; refine wpList_copy_runI _ rfl _ _ 131 131 rfl _ _ rfl rfl (hcp2 _ (fun _ => rfl) (fun _ => rfl) _ _) ?_)
  go_ret
  first | exact ⟨rfl, rfl⟩ | exact ⟨rfl, by rw [hW1]⟩
set_option maxRecDepth 100000 in
set_option maxHeartbeats 4000000 in
/-- There is no room, and something stands behind: a new row. -/
theorem eins_grow (base g n c i vb : Nat) (xs : List Value) (u : Value) (w : World) (hi : i < n) (hroom : c < n + 1) (hnc : n ≤ c) (hn : n ≤ 1000000) (hbase : base ≤ w.heap.size) (hown : w.ownsRow base 136 1 (.slice (some ⟨g, 0, none⟩) n c) n xs)
    (hv : w.heap[vb]? = some (.cells #[u] 136 (0, 0))) (h1 : ∀ v ∈ xs, v.oneCell' = true) (hu : u.oneCell' = true) :
    Calls Tryz.prog 100 #[.slice (some ⟨g, 0, none⟩) n c, .int .i64 i, .slice (some ⟨vb, 0, none⟩) 1 1] w fun e w' =>
      ∃ G, e = .returned (.slice (some ⟨w.heap.size, 0, none⟩) (n + 1) G) ∧ w'.ownsRow base 136 1 (.slice (some ⟨w.heap.size, 0, none⟩) (n + 1) G) (n + 1) (xs.take i ++ [u] ++ xs.drop i) ∧ w.grownBy w' none := by
  have mixed := mixed
  have hxl : xs.length = n := by have := hown.1; omega
  have hcell : ∀ j v, xs[j]? = some v → w.cell? ⟨g, 0 + j, none⟩ = some v := fun j v hj => by
    have hjn : j < n := by
      have := (List.getElem?_eq_some_iff.1 hj).1
      omega
    rw [Nat.zero_add, World.ownsRow.cellAt hown j (by omega)]
    exact hj
  obtain ⟨i0, hi0, hz0, hzs, hzb⟩ := info_parts Tryz.einfoPtr
  have hbw : g < w.heap.size := (World.ownsRow.lt hown g rfl).2
  have hvw : vb < w.heap.size := (Array.getElem?_eq_some_iff.1 hv).1
  have hkk : (n : Int) + 1 - (i : Int) = ((n + 1 - i : Nat) : Int) := by omega
  have hik : i + (n + 1 - i) = n + 1 := by omega
  have hold : (Builtin.firstCells i0.size i (.slice (some ⟨g, 0, none⟩) i c)).run Tryz.prog w.drew = .ok (xs.take i).toArray w.drew := by
    rw [hzs]
    exact run_firstCells_some w.drew 1 i ⟨g, 0, none⟩ i c (xs.take i) (by rw [List.length_take]; omega) (fun j v hj => by
      rw [Addr.add_lit]
      rw [List.getElem?_take] at hj
      split at hj
      · exact hcell j v hj
      · cases hj)
  have hrz : ∀ ty, (Builtin.append_ #[131, 3] ty #[.slice (some ⟨g, 0, none⟩) i c, .int .i64 ((n : Int) + 1 - (i : Int))]).run Tryz.prog w =
      .ok (.slice (some ⟨w.heap.size, 0, none⟩) (n + 1) (grownCap w (n + 1) c 136)) (w.drew.alloc (.cells ((xs.take i).toArray ++ Builtin.zeroCells (Value.pointer none).cells (n + 1 - i) ++ Builtin.zeroCells (Value.pointer none).cells (grownCap w (n + 1) c 136 - (n + 1))) 136)) := fun ty => by
    have h := Lib.run_append_grow_zeros w 131 3 ty 136 i0 _ .i64 .i64 Tryz.underlying131 Tryz.underlying3 hi0 hz0 (some ⟨g, 0, none⟩) i c (xs.take i) hold (n + 1 - i) (by omega) (by omega) (by omega) (by omega) (by rw [hzb]; omega) (by rw [hzb, hik]; exact growslice_fits hroom (by omega))
    rw [hik] at h
    rw [hkk]
    exact h
  have hGn : n + 1 ≤ grownCap w (n + 1) c 136 := grownCap_ge w _ _ _
  have hGm := grownCap_le_maxLen w (n + 1) c 136 (by unfold maxLen; omega)
  obtain ⟨G, hG⟩ : ∃ G, G = grownCap w (n + 1) c 136 := ⟨_, rfl⟩
  rw [← hG] at hrz hGn hGm
  have hG63 : G ≤ 9223372036854775807 := by unfold maxLen at hGm; omega
  obtain ⟨ROW, hROW⟩ : ∃ ROW : Array Value, ROW = (xs.take i).toArray ++ Builtin.zeroCells (Value.pointer none).cells (n + 1 - i) ++ Builtin.zeroCells (Value.pointer none).cells (G - (n + 1)) := ⟨_, rfl⟩
  rw [← hROW] at hrz
  have hRs : ROW.size = G := by
    rw [hROW]
    simp [Builtin.zeroCells, Value.cells, hxl]
    omega
  have hRt : ROW.toList.take i = xs.take i := by
    have e : ROW.toList = xs.take i ++ (ROW.toList.drop i) := by
      have : ROW.toList.take i = xs.take i := by
        rw [hROW, Array.append_assoc]
        simp [hxl, Nat.min_eq_left (show i ≤ n by omega)]
      rw [← this, List.take_append_drop]
    rw [e, List.take_append_of_le_length (by simp [hxl]; omega), List.take_of_length_le (by simp; omega)]
  obtain ⟨W1, hW1⟩ : ∃ W1, W1 = w.drew.alloc (.cells ROW 136) := ⟨_, rfl⟩
  have hO1 : W1.ownsRow base 136 1 (.slice (some ⟨w.heap.size, 0, none⟩) (n + 1) G) (n + 1) (ROW.toList.take (n + 1)) := by
    rw [hW1]
    exact ⟨by rw [List.length_take, Array.length_toList, hRs]; omega, Or.inr ⟨w.heap.size, G, ROW, rfl, hbase, (MapKept.heap_alloc w.drew _).1, hGn, hGm, by omega, by rw [Nat.mul_one]⟩⟩
  have hN : ∀ j, j < n + 1 → (W1.cell? ⟨w.heap.size, j, none⟩).isSome = true := fun j hj => by
    rw [World.ownsRow.cellAt hO1 j (by omega), List.getElem?_eq_getElem (by rw [List.length_take, Array.length_toList, hRs]; omega)]
    rfl
  have hNf : ∀ j, W1.frozen? ⟨w.heap.size, j, none⟩ = false := fun j => World.ownsRow.frozenAt hO1 j
  have hK : RowKit.Below w.heap.size w W1 := by rw [hW1]; exact ((Far.refl w).drew.alloc _).below
  have hOb : ∀ j v, w.cell? ⟨g, j, none⟩ = some v → W1.cell? ⟨g, j, none⟩ = some v := fun j v h => (hK.cell hbw).trans h
  have hOv : W1.cell? ⟨vb, 0, none⟩ = some u := (hK.cell hvw).trans (by simp [World.cell?, hv])
  have hne : vb ≠ w.heap.size := by omega
  have hgne : g ≠ w.heap.size := by omega
  have hdl : (xs.drop i).length = n - i := by rw [List.length_drop, hxl]
  have hcpA : ∀ (W : World), (∀ x, W.cell? x = W1.cell? x) → (∀ x, W.frozen? x = W1.frozen? x) → ∀ ty dc, (Builtin.copy_ #[131, 131] ty #[.slice (some ⟨w.heap.size, i, none⟩) (n + 1 - i) dc, .slice (some ⟨vb, 0, none⟩) 1 1]).run Tryz.prog W = .ok (goInt ([u] : List Value).length) (W.setCells w.heap.size i [u]) := fun W hWc hWf ty dc =>
    run_copy_cells W _ _ ty 136 w.heap.size i (n + 1 - i) dc ⟨vb, 0, none⟩ 1 1 [u] Tryz.underlying131 esizePtr (by simp only [Nat.min_def]; split <;> simp <;> omega)
      (fun j v hj => by
        have hj0 : j = 0 := by
          have := (List.getElem?_eq_some_iff.1 hj).1
          simpa using this
        subst hj0
        simp at hj
        subst hj
        rw [Addr.add_lit, hWc]
        exact hOv)
      (fun j hj => by rw [hWc]; exact hN _ (by simp at hj; omega)) (fun j _ => by rw [hWf]; exact hNf _) (fun v hv' => by simp at hv'; rw [hv']; exact hu)
  have hcpB : ∀ (W : World), (∀ x, W.cell? x = (W1.setCells w.heap.size i [u]).cell? x) → (∀ x, W.frozen? x = (W1.setCells w.heap.size i [u]).frozen? x) → ∀ ty dc sc, (Builtin.copy_ #[131, 131] ty #[.slice (some ⟨w.heap.size, i + 1, none⟩) (n + 1 - (i + 1)) dc, .slice (some ⟨g, i, none⟩) (n - i) sc]).run Tryz.prog W = .ok (goInt (xs.drop i).length) (W.setCells w.heap.size (i + 1) (xs.drop i)) := fun W hWc hWf ty dc sc =>
    run_copy_cells W _ _ ty 136 w.heap.size (i + 1) (n + 1 - (i + 1)) dc ⟨g, i, none⟩ (n - i) sc (xs.drop i) Tryz.underlying131 esizePtr (by rw [hdl]; simp only [Nat.min_def]; split <;> omega)
      (fun j v hj => by
        rw [Addr.add_lit, hWc, World.cell?_setCells_out _ _ _ _ _ (fun h _ => absurd h hgne)]
        have := hOb _ v (hcell (i + j) v (by rwa [List.getElem?_drop] at hj))
        rwa [Nat.zero_add] at this)
      (fun j hj => by rw [hWc]; exact isSome_setCells _ [u] i W1 (fun t ht => hN _ (by simp at ht; omega)) _ (hN _ (by rw [hdl] at hj; omega)))
      (fun j _ => by rw [hWf, World.frozen?_setCells]; exact hNf _) (fun v hv' => h1 v (List.mem_of_mem_drop hv'))
  have hend : ∀ (W : World), W = (((w.alloc (.cells ROW 136)).drew.setCells w.heap.size i [u]).drew).setCells w.heap.size (i + 1) (xs.drop i) → W.ownsRow base 136 1 (.slice (some ⟨w.heap.size, 0, none⟩) (n + 1) G) (n + 1) (xs.take i ++ [u] ++ xs.drop i) ∧ w.grownBy W none := fun W hW => by
    have hA : (w.alloc (.cells ROW 136)).drew.ownsRow base 136 1 (.slice (some ⟨w.heap.size, 0, none⟩) (n + 1) G) (n + 1) (ROW.toList.take (n + 1)) := by
      have : (w.alloc (.cells ROW 136)).drew = w.drew.alloc (.cells ROW 136) := rfl
      rw [this, ← hW1]
      exact hO1
    have hB := own_setCells [u] i _ _ hA (by simp; omega)
    have hB' : (((w.alloc (.cells ROW 136)).drew.setCells w.heap.size i [u]).drew).ownsRow base 136 1 (.slice (some ⟨w.heap.size, 0, none⟩) (n + 1) G) (n + 1) _ := hB.1
    have hC := own_setCells (xs.drop i) (i + 1) _ _ hB' (by rw [hdl]; omega)
    rw [hW]
    refine ⟨?_, ?_⟩
    · have e := ins_list xs (ROW.toList.take (n + 1)) u i n hxl (by omega) (by rw [List.length_take, Array.length_toList, hRs]; omega) (by rw [List.take_take, Nat.min_eq_left (by omega), hRt])
      rw [← e]
      exact hC.1
    · have hg1 : w.grownBy (w.alloc (.cells ROW 136)).drew none := (World.grownBy_alloc w _ none).trans (grownBy_drew1 _ _)
      have g2 := hB.2
      have g3 : ((w.alloc (.cells ROW 136)).drew.setCells w.heap.size i [u]).grownBy ((((w.alloc (.cells ROW 136)).drew.setCells w.heap.size i [u]).drew).setCells w.heap.size (i + 1) (xs.drop i)) (some w.heap.size) := (grownBy_drew1 _ _).trans hC.2
      have g4 := g2.trans g3
      exact ⟨g4.os.trans hg1.os, g4.tape.trans hg1.tape, g4.output.trans hg1.output, Nat.le_trans hg1.size g4.size, fun k hk _ => (g4.block k (Nat.lt_of_lt_of_le hk hg1.size) (fun e => by cases e; omega)).trans (hg1.block k hk (by simp))⟩
  subst hW1
  have hz1 : ¬ ((i : Int) = (n : Int)) := by omega
  have hz3 : (c : Int) < (n : Int) + 1 := by omega
  have hw1 : IntKind.i64.wrap ((i : Int) + 1) = (i : Int) + 1 := by rw [IntKind.wrap_i64]; omega
  have hb1 : (0 : Int) ≤ (i : Int) + 1 := by omega
  have hin : i ≤ n := by omega
  have htn : ((i : Int) + 1).toNat = i + 1 := by omega
  have hb3 : (i : Int) ≤ (n : Int) := by omega
  have hGi : ¬ (G = i) := by omega
  have hGim : ¬ (G = i + 1) := by omega
  have hci : ¬ (c = i) := by omega
  have HE := hid hend
  have hE1 : ∀ x, ((w.alloc (.cells ROW 136)).drew).cell? x = (w.drew.alloc (.cells ROW 136)).cell? x := fun x => rfl
  have hE2 : ∀ x, ((w.alloc (.cells ROW 136)).drew).frozen? x = (w.drew.alloc (.cells ROW 136)).frozen? x := fun x => rfl
  have hF1 : ∀ x, (((w.alloc (.cells ROW 136)).drew.setCells w.heap.size i [u]).drew).cell? x = ((w.drew.alloc (.cells ROW 136)).setCells w.heap.size i [u]).cell? x := fun x => rfl
  have hF2 : ∀ x, (((w.alloc (.cells ROW 136)).drew.setCells w.heap.size i [u]).drew).frozen? x = ((w.drew.alloc (.cells ROW 136)).setCells w.heap.size i [u]).frozen? x := fun x => rfl
  clear hkk hik hold hROW hG hRs hRt hend hO1 hN hNf hK hOb hOv hown hcell hv
  go_enter Tryz.func100, Tryz.ntmps100
  go_wp2_with (first
    | (at_builtin; refine Lib.wpList_append_run _ rfl _ _ _ _ rfl _ _ rfl rfl _ _ (hrz _) ?_)
    | (at_builtin; refine wpList_copy_runI _ rfl _ _ 131 131 rfl _ _ rfl rfl (hcpA _ hE1 hE2 _ _) ?_)
    | (at_builtin; refine wpList_copy_runI _ rfl _ _ 131 131 rfl _ _ rfl rfl (hcpB _ (fun _ => rfl) (fun _ => rfl) _ _ _) ?_))
  go_region_law_o (refine step_copy_runI rfl _ _ 131 131 rfl (.slice (some ⟨w.heap.size, i + 1, none⟩) (n + 1 - (i + 1)) (G - (i + 1))) (.slice (some ⟨g, i, none⟩) (n - i) (c - i)) (by simp [Act.eval, Act.put]) (by simp [Act.eval, Act.put]) (hcpB _ hF1 hF2 3 (G - (i + 1)) (c - i)) ?_)
  go_wp2
  go_ret
  exact ⟨G, rfl, HE.out _ rfl⟩

/-- Appends one pointer to a row of one's own. -/
theorem ewpList_append_ptr {w : World} {ops : Array Oper} {rest : List Oper} {o : Oper} {a : Act} {Q : Exit → Act → World → Prop} (hgd : o.guard = none) (s x : Operand)
    (ho : o.op = .call { callee := .builtin .append, args := #[s, x], argTypes := #[131, 131] }) (base : Nat) (v : Value) (n : Nat) (xs : List Value) (hs : a.eval s = v) (hown : w.ownsRow base 136 1 v n xs)
    (vb : Nat) (u : Value) (hx : a.eval x = .slice (some ⟨vb, 0, none⟩) 1 1) (hv : w.cell? ⟨vb, 0, none⟩ = some u) (hu : u.oneCell' = true) (hb : n + 1 ≤ 1000001) (hbase : base ≤ w.heap.size)
    (h : ∀ g cap w', w'.ownsRow base 136 1 (.slice (some ⟨g, 0, none⟩) (n + 1) cap) (n + 1) (xs ++ [u]) → w.grownBy w' v.ownBlock → (v.ownBlock = some g ∨ g = w.heap.size) → wpList Tryz.prog ops Q rest (a.put o.dst (.slice (some ⟨g, 0, none⟩) (n + 1) cap)) w') : wpList Tryz.prog ops Q (o :: rest) a w := by
  obtain ⟨i0, hi, hz0, hz1, hz2⟩ := info_parts Tryz.einfoPtr
  refine wpList_append_lies w hgd s x 131 ho base 136 i0 _ 1 8 Tryz.underlying131 hi hz0 hz1 hz2 rfl (by decide) v n xs hs hown ⟨vb, 0, none⟩ 1 1 [u] hx rfl (fun j y hj => ?_) (fun y hy => by simp at hy; rw [hy]; exact hu) (by decide) (by unfold maxLen; omega) (by omega) hbase _ rfl ?_
  · have hj0 : j = 0 := by
      have := (List.getElem?_eq_some_iff.1 hj).1
      simpa using this
    subst hj0
    simp at hj
    subst hj
    rw [Addr.add_lit]
    exact hv
  · intro g cap w' h1 h2 h3 _
    exact h g cap w' h1 h2 h3

set_option maxRecDepth 100000 in
set_option maxHeartbeats 4000000 in
/-- slices.Insert of one pointer, anywhere in a row of one's own. -/
theorem efginsert_any (base : Nat) (v : Value) (n i vb : Nat) (xs : List Value) (u : Value) (w : World) (hi : i ≤ n) (hn : n ≤ 1000000) (hbase : base ≤ w.heap.size) (hown : w.ownsRow base 136 1 v n xs) (hvb : v.ownBlock ≠ some vb)
    (hv : w.heap[vb]? = some (.cells #[u] 136 (0, 0))) (h1 : ∀ y ∈ xs, y.oneCell' = true) (hu : u.oneCell' = true) :
    Calls Tryz.prog 100 #[v, .int .i64 i, .slice (some ⟨vb, 0, none⟩) 1 1] w fun e w' =>
      ∃ g c, e = .returned (.slice (some ⟨g, 0, none⟩) (n + 1) c) ∧ w'.ownsRow base 136 1 (.slice (some ⟨g, 0, none⟩) (n + 1) c) (n + 1) (xs.take i ++ [u] ++ xs.drop i) ∧ w.grownBy w' v.ownBlock ∧ (v.ownBlock = some g ∨ g = w.heap.size) := by
  have hxl : xs.length = n := by have := hown.1; omega
  have hv0 : w.cell? ⟨vb, 0, none⟩ = some u := by simp [World.cell?, hv]
  by_cases hin : i = n
  · subst hin
    have hcase : (v = .slice none 0 0 ∧ i = 0) ∨ ∃ g c, v = .slice (some ⟨g, 0, none⟩) i c ∧ i ≤ c ∧ c ≤ maxLen := by
      rcases hown.2 with h | ⟨g, cap, cur, e, _, _, hnc, hc, _⟩
      · exact Or.inl h
      · exact Or.inr ⟨g, cap, e, hnc, hc⟩
    have HOWN := hid hown
    have hlist : xs.take i ++ [u] ++ xs.drop i = xs ++ [u] := by rw [List.take_of_length_le (by omega), List.drop_of_length_le (by omega), List.append_nil]
    obtain ⟨Z, hZ⟩ : ∃ Z, xs.take i ++ [u] ++ xs.drop i = Z := ⟨_, rfl⟩
    rw [hZ] at hlist ⊢
    have HL := hid hlist
    clear hlist hown hZ
    rcases hcase with ⟨rfl, rfl⟩ | ⟨g, c, rfl, hnc, hcm⟩
    · go_enter Tryz.func100, Tryz.ntmps100
      go_wp2_with (at_builtin; refine ewpList_append_ptr rfl _ _ rfl base (.slice none 0 0) 0 xs rfl HOWN.out vb u rfl hv0 hu (by omega) hbase ?_; intro g7 c7 w7 ho7 hg7 hat7)
      all_goals (go_ret; exact ⟨g7, c7, rfl, by rw [HL.out]; exact ho7, hg7, hat7⟩)
    · unfold maxLen at hcm
      have hz1 : ((i : Int) == (i : Int)) = true := by simp
      go_enter Tryz.func100, Tryz.ntmps100
      go_wp2_with (at_builtin; refine ewpList_append_ptr rfl _ _ rfl base (.slice (some ⟨g, 0, none⟩) i c) i xs rfl HOWN.out vb u rfl hv0 hu (by omega) hbase ?_; intro g7 c7 w7 ho7 hg7 hat7)
      all_goals (go_ret; exact ⟨g7, c7, rfl, by rw [HL.out]; exact ho7, hg7, hat7⟩)
  · obtain ⟨g, c, rfl, hnc⟩ : ∃ g c, v = .slice (some ⟨g, 0, none⟩) n c ∧ n ≤ c := by
      rcases hown.2 with ⟨_, h⟩ | ⟨g, cap, cur, e, _, _, hnc, _⟩
      · omega
      · exact ⟨g, cap, e, hnc⟩
    have hvg : vb ≠ g := fun e => hvb (by rw [e]; rfl)
    by_cases hroom : n + 1 ≤ c
    · refine (eins_shift base g n c i vb xs u w (by omega) hroom hn hown hvg hv h1 hu).mono ?_
      rintro e w' ⟨rfl, rfl⟩
      obtain ⟨u0, hw⟩ := own_wider hown hroom
      have hw' : w.drew.ownsRow base 136 1 (.slice (some ⟨g, 0, none⟩) (n + 1) c) (n + 1) (xs ++ [u0]) := hw
      have hdl : (xs.drop i).length = n - i := by rw [List.length_drop, hxl]
      have hA := own_setCells (xs.drop i) (i + 1) _ _ hw' (by rw [hdl]; omega)
      have hB := own_setCells [u] i _ _ hA.1 (by simp; omega)
      refine ⟨g, c, rfl, ?_, ((grownBy_drew1 _ _).trans hA.2).trans hB.2, Or.inl rfl⟩
      have e := ins_list2 xs u0 u i n hxl (by omega)
      rw [e]
      exact hB.1
    · refine (eins_grow base g n c i vb xs u w (by omega) (by omega) hnc hn hbase hown hv h1 hu).mono ?_
      rintro e w' ⟨G, rfl, h2, h3⟩
      exact ⟨w.heap.size, G, rfl, h2, ⟨h3.os, h3.tape, h3.output, h3.size, fun k hk _ => h3.block k hk (by simp)⟩, Or.inr rfl⟩
end

section
set_option linter.unusedVariables false
open Go.RowKit

theorem TR.log_at {w : World} {t : Nat} {l : List Mv} {k : Nat} {gs : List Nat} {S : List Sp} {lg fd pl kd : Value} {fl : List (Mv × Nat)} {B A : Nat → Prop} (h : TR w t l k gs S lg fd pl kd fl B A) {i : Nat} (hi : i < l.length) : ∃ rb ro c g m, lg = .slice (some ⟨rb, ro, none⟩) l.length c ∧ w.cell? ⟨rb, ro + i, none⟩ = some (.pointer (some ⟨g, 0, none⟩)) ∧ gs[i]? = some g ∧ l[i]? = some m := by
  obtain ⟨a, c, e, hpp⟩ := own_pp h.row
  have hig : i < gs.length := by rw [h.len]; exact hi
  obtain ⟨rb, ro, e1, _, e2⟩ := hpp.at_ (by omega)
  subst e1
  exact ⟨rb, ro, c, gs[i], l[i], by rw [e, h.len], e2 i hig, List.getElem?_eq_getElem hig, List.getElem?_eq_getElem hi⟩

/-- The log is searched. -/
theorem TR.search {w : World} {t : Nat} {l : List Mv} {k : Nat} {gs : List Nat} {S : List Sp} {lg fd pl kd : Value} {fl : List (Mv × Nat)} {B A : Nat → Prop} (h : TR w t l k gs S lg fd pl kd fl B A) {ge : Nat} {m : Mv} {tk : Bool} {q : Pl} (hE : EN w ge m tk q) (hf : ∀ x ∈ l, x.id ≠ m.id) :
    Calls Tryz.prog 97 #[lg, pvF ge, .func (.func 98) #[] #[]] w fun e w' => e = .returned (.tuple #[.int .i64 (rkL mvl l m : Nat), .bool false]) ∧ Below w.heap.size w w' := by
  have ent : ∀ (g : Nat) (x : Mv) (tk : Bool) (q : Pl), EN w g x tk q → EnT w g x := fun g x tk q he => by
    unfold EN at he
    exact ⟨by simp [World.cell?, he], by simp [World.cell?, he], by simp [World.cell?, he]⟩
  obtain ⟨a, c, e, hpp⟩ := own_pp h.row
  rw [e]
  have hs := h.small
  refine trsearch_any a gs.length c gs l ge m w hpp ⟨h.len, fun i g x h1 h2 => ?_⟩ (ent ge m tk q hE) (by rw [h.len]; omega) h.log.srt hf
  obtain ⟨tk', o, h3, _⟩ := h.en i g x h1 h2
  exact ent _ _ _ _ h3

/-- One move is undone. -/
theorem TR.undone {w : World} {t : Nat} {l : List Mv} {k : Nat} {gs : List Nat} {S : List Sp} {lg fd pl kd : Value} {fl : List (Mv × Nat)} {B A : Nat → Prop} (h : TR w t l (k + 1) gs S lg fd pl kd fl B A) {g : Nat} {m : Mv} (hg : gs[k]? = some g) (hm : l[k]? = some m) :
    Calls Tryz.prog 99 #[.pointer (some ⟨t, 3, none⟩), .pointer (some ⟨g, 0, none⟩)] (w.setCell ⟨t, 2, none⟩ (.int .i64 (k : Int))).drew fun e w' => e = .returned (.tuple #[]) ∧ ∃ S' pl' kd' B' A', TR w' t l k gs S' lg fd pl' kd' fl B' A' ∧ KA w w' A A' := by
  obtain ⟨hT1, g1⟩ := h.told
  obtain ⟨w1, hw1⟩ : ∃ w1, w1 = (w.setCell ⟨t, 2, none⟩ (.int .i64 (k : Int))).drew := ⟨_, rfl⟩
  have g1' : w.grownBy w1 (some t) := by rw [hw1]; exact g1.trans (grownBy_drew1 _ _)
  have hT1' : TB w1 t lg fd (.int .i64 (k : Int)) pl kd := by rw [hw1]; exact hT1
  have hzz : w1.heap.size = w.heap.size := by rw [hw1]; simp [World.drew, World.setCell]
  rw [← hw1]
  obtain ⟨tk, o, hE, hx⟩ := h.en k g m hg hm
  obtain ⟨hx1, hx2⟩ := hx (by omega)
  obtain ⟨r, hr⟩ := h.tk
  obtain ⟨s1, s2, s3⟩ := h.spots
  have hml := List.mem_of_getElem? hm
  have hgl := List.mem_of_getElem? hg
  have hgt : g ≠ t := fun e => by
    have h1 := h.tb
    unfold TB at h1
    unfold EN at hE
    rw [← e, hE] at h1
    simp at h1
  have hE1 : EN w1 g m tk (Option.getD o pl0) := (g1'.block g (h.as_ g (h.ag g hgl)) (by simpa using hgt)).trans hE
  have hS1 : SB w1 pl kd S B := h.sb.kept (fun j hj => g1'.block j (h.bs j hj) (by intro e; exact h.bt (Option.some.inj e ▸ hj)))
  refine (undo_any t g lg fd (.int .i64 (k : Int)) pl kd S B m tk o w1 hr.nd hT1' hS1 hE1 h.bt (h.bg g hgl) (fun j hj => by rw [hzz]; exact h.bs j hj) s1 s2 (h.dw m hml).2.1 (fun q hq => h.was k m.block q (by rw [← hx2]; exact hq)) (by omega)).mono ?_
  rintro e w' ⟨rfl, pl', kd', hT', hS', hE', hKB⟩
  have hz : w.heap.size ≤ w'.heap.size := by have := hKB.size; omega
  have hkp : ∀ j, j < w.heap.size → ¬ B j → j ≠ t → w'.heap[j]? = w.heap[j]? := fun j hj hB hjt => (hKB.keep j (by omega) hB hjt).trans (g1'.block j hj (by simpa using hjt))
  have hS'' : SB w' pl' kd' (undS S m.block tk o) (Bn w w' B) := hS'.mono (fun j hj => hj.imp id (fun x => ⟨by have := x.1; omega, x.2⟩))
  refine ⟨rfl, _, pl', kd', _, _, h.prev hg hm hx1 hx2 hT' hS'' hE' hz hkp, hz, fun j hj hA => hkp j hj (fun e => hA (h.ab j e)) (fun e => hA (e ▸ h.at_)), fun j hj => ?_, (Sm.g g1').trans hKB.sm⟩
  rcases hj with hj | hj
  · exact Or.inl hj
  · exact Or.inr hj.1
end

section
set_option linter.unusedVariables false
open Go.RowKit

theorem prow_ins (l : List Mv) (gs : List Nat) (m : Mv) (ge : Nat) : (prow gs).take (rkL mvl l m) ++ [pvF ge] ++ (prow gs).drop (rkL mvl l m) = prow (insG l gs m ge) := by
  unfold prow insG
  simp [List.map_take, List.map_drop]

theorem TR.inserted {w : World} {t : Nat} {l : List Mv} {k : Nat} {gs : List Nat} {S : List Sp} {lg fd pl kd : Value} {fl : List (Mv × Nat)} {B A : Nat → Prop} (h : TR w t l k gs S lg fd pl kd fl B A) {ge : Nat} {m : Mv} {tk : Bool} {q : Pl} (hk : k ≤ rkL mvl l m) (hE : EN w ge m tk (Option.getD (some q) pl0)) (hgA : ¬ A ge)
    (hf : ∀ x ∈ l, x.id ≠ m.id) (hb : m.block ≠ (0, 0) ∧ ¬ isEnd m.block) (hi : m.id ≠ (0, 0) ∧ ¬ isEnd m.id) (hd : Dw m.id ∧ Dw m.block ∧ Dw m.parent) (hs : l.length + 1 ≤ 1000) :
    Calls Tryz.prog 100 #[lg, .int .i64 (rkL mvl l m : Nat), .slice (some ⟨w.heap.size, 0, none⟩) 1 1] (w.alloc (.cells #[.pointer (some ⟨ge, 0, none⟩)] 136)) fun e w' => ∃ rg c v0, e = .returned (.slice (some ⟨rg, 0, none⟩) (l.length + 1) c) ∧ w'.cell? ⟨t, 0, none⟩ = some v0 ∧ w'.frozen? ⟨t, 0, none⟩ = false ∧
      Hid (∃ A', TR (w'.setCell ⟨t, 0, none⟩ (.slice (some ⟨rg, 0, none⟩) (l.length + 1) c)) t (insL mvl l m) k (insG l gs m ge) S (.slice (some ⟨rg, 0, none⟩) (l.length + 1) c) fd pl kd fl B A' ∧ KA w (w'.setCell ⟨t, 0, none⟩ (.slice (some ⟨rg, 0, none⟩) (l.length + 1) c)) (fun j => A j ∨ j = ge) A') := by
  obtain ⟨w1, hw1⟩ : ∃ w1, w1 = w.alloc (.cells #[.pointer (some ⟨ge, 0, none⟩)] 136) := ⟨_, rfl⟩
  have hz1 : w1.heap.size = w.heap.size + 1 := by rw [hw1]; simp
  have g1 : w.grownBy w1 none := by rw [hw1]; exact World.grownBy_alloc w _ none
  have hv : w1.heap[w.heap.size]? = some (.cells #[.pointer (some ⟨ge, 0, none⟩)] 136 (0, 0)) := by rw [hw1]; exact World.alloc_heap_new w _
  have hgw : ge < w.heap.size := (Array.getElem?_eq_some_iff.1 hE).1
  have htw := h.as_ t h.at_
  have hob : lg.ownBlock ≠ some w.heap.size := fun e => absurd (h.as_ _ (h.al _ e)) (by omega)
  have hlt : lg.ownBlock ≠ some t := fun e => by
    rcases h.row.2 with ⟨e', _⟩ | ⟨g', cap, cur, e', hb, hgg, _⟩
    · rw [e'] at e; simp [Value.ownBlock] at e
    · rw [e'] at e
      simp only [Value.ownBlock, Option.some.injEq] at e
      have h1 := h.tb
      unfold TB at h1
      rw [← e, hgg] at h1
      simp at h1
  have hrow1 : w1.ownsRow 0 136 1 lg gs.length (prow gs) := erow_kept h.row (fun j hj => g1.block j (h.as_ j (h.al j hj)) (by simp))
  rw [← hw1]
  have hsm := h.small
  refine (efginsert_any 0 lg gs.length (rkL mvl l m) w.heap.size (prow gs) (pvF ge) w1 (by rw [h.len]; exact rk_le _ _ _) (by rw [h.len]; omega) (Nat.zero_le _) hrow1 hob hv (fun y hy => by unfold prow at hy; obtain ⟨x, _, rfl⟩ := List.mem_map.1 hy; rfl) rfl).mono ?_
  rintro e w' ⟨rg, c, rfl, ho, g2, hrg⟩
  rw [prow_ins] at ho
  have hz2 := g2.size
  have hkeep : ∀ j, j < w.heap.size → lg.ownBlock ≠ some j → w'.heap[j]? = w.heap[j]? := fun j hj hne => (g2.block j (by omega) (fun e => hne e.symm)).trans (g1.block j hj (by simp))
  have hT' : TB w' t lg fd (.int .i64 (k : Int)) pl kd := (hkeep t htw hlt).trans h.tb
  have g3 := grownBy_setCell w' t 0 (.slice (some ⟨rg, 0, none⟩) (gs.length + 1) c)
  have hT6 : TB (w'.setCell ⟨t, 0, none⟩ (.slice (some ⟨rg, 0, none⟩) (gs.length + 1) c)) t (.slice (some ⟨rg, 0, none⟩) (gs.length + 1) c) fd (.int .i64 (k : Int)) pl kd := by
    have h2 := set_blk (j := 0) hT' (.slice (some ⟨rg, 0, none⟩) (gs.length + 1) c)
    unfold TB
    simpa using h2
  have hrgt : rg ≠ t := fun e => by
    rcases hrg with e' | e'
    · exact hlt (e ▸ e')
    · omega
  have ho6 := erow_kept (w' := w'.setCell ⟨t, 0, none⟩ (.slice (some ⟨rg, 0, none⟩) (gs.length + 1) c)) ho (fun j hj => g3.block j (by
    simp only [Value.ownBlock, Option.some.injEq] at hj
    subst hj
    rcases ho.2 with ⟨e, _⟩ | ⟨g', cap, cur, e, _, hgg, _⟩
    · simp at e
    · simp only [Value.slice.injEq, Option.some.injEq, Addr.mk.injEq] at e
      rw [e.1.1]
      exact (Array.getElem?_eq_some_iff.1 hgg).1) (by
    simp only [Value.ownBlock, Option.some.injEq] at hj
    subst hj
    simpa using hrgt))
  have hK6 : ∀ j, j < w.heap.size → j ≠ t → lg.ownBlock ≠ some j → (w'.setCell ⟨t, 0, none⟩ (.slice (some ⟨rg, 0, none⟩) (gs.length + 1) c)).heap[j]? = w.heap[j]? := fun j hj hjt hne => (g3.block j (by omega) (by simpa using hjt)).trans (hkeep j hj hne)
  have hz6 : w.heap.size ≤ (w'.setCell ⟨t, 0, none⟩ (.slice (some ⟨rg, 0, none⟩) (gs.length + 1) c)).heap.size := by have := g3.size; omega
  have hrg' : lg.ownBlock = some rg ∨ w.heap.size ≤ rg := hrg.imp id (fun e => by omega)
  have hfin := h.put (lg' := .slice (some ⟨rg, 0, none⟩) (gs.length + 1) c) hk hE hgA hgw hf hb hi hd hs hz6 hT6 ho6 rfl hrg' hK6
  have hTT := hT'
  unfold TB at hTT
  rw [h.len] at hfin hz6 hK6
  refine ⟨rg, c, lg, by rw [h.len], by simp [World.cell?, hTT], by simp [World.frozen?, hTT], hid ⟨_, hfin, hz6, fun j hj hA => ?_, fun j hj => ?_, (Sm.g g1).trans ((Sm.g g2).trans ⟨rfl, rfl, rfl⟩)⟩⟩
  · exact hK6 j hj (fun e => hA (Or.inl (e ▸ h.at_))) (fun e => hA (Or.inl (h.al j e)))
  · rcases hj with hj | rfl | rfl
    · exact Or.inl (Or.inl hj)
    · exact Or.inl (Or.inr rfl)
    · rcases hrg' with e | e
      · exact Or.inl (Or.inl (h.al _ e))
      · exact Or.inr e
end

section
set_option linter.unusedVariables false
set_option linter.unusedSimpArgs false
open Go.RowKit

theorem enmap_none (W : World) : (binOp .eql 132 (.map none) (.map none)).run Tryz.prog W = .ok (.bool true) W := by
  have hd : Op.maxDepth = (Op.maxDepth - 1) + 1 := by decide
  simp only [binOp, Op.equal]
  rw [hd]
  simp [Op.equalIn, run_underlying Tryz.underlying132]
theorem enmap_some (b : Nat) (W : World) : (binOp .eql 132 (.map (some b)) (.map none)).run Tryz.prog W = .ok (.bool false) W := by
  have hd : Op.maxDepth = (Op.maxDepth - 1) + 1 := by decide
  simp only [binOp, Op.equal]
  rw [hd]
  simp [Op.equalIn, run_underlying Tryz.underlying132]

/-- The entry is found: what comes of it. -/
theorem TR.find {w : World} {t : Nat} {l : List Mv} {k : Nat} {gs : List Nat} {S : List Sp} {lg pl kd : Value} {fl : List (Mv × Nat)} {B A : Nat → Prop} {fm : Nat} (h : TR w t l k gs S lg (.map (some fm)) pl kd fl B A) {m : Mv} {ge : Nat} {tk : Bool} {q : Pl} (hE : EN w ge m tk q) (hf : ∀ x ∈ fl, x.1.id ≠ m.id) (hd : Dw m.id) (hs : fl.length ≤ 1000) :
    ∃ w', (Instr.mapUpdate 132 (.map (some fm)) (dv m.id) (pvF ge)).run Tryz.prog w = .ok () w' ∧ TR w' t l k gs S lg (.map (some fm)) pl kd (fl ++ [(m, ge)]) B A ∧ EN w' ge m tk q ∧ KA w w' A A := by
  rcases h.fnd with ⟨e, _⟩ | ⟨fm', G, e, h2, h3, h4, h5, h6⟩
  · cases e
  · cases e
    obtain ⟨w', hr, hP, hg⟩ := h4.put hd ge (by unfold maxLen; omega)
    refine ⟨w', hr, h.found hf h4 h5 h6 h2 h3 hP hg, ?_, ⟨hg.size, fun j hj hA => hg.block j hj (by intro e; exact hA (Option.some.inj e ▸ h3)), fun j hj => Or.inl hj, Sm.g hg⟩⟩
    obtain ⟨D, ho, _⟩ := h4
    exact (hg.block ge (Array.getElem?_eq_some_iff.1 hE).1 (by intro e; exact map_cells ho hE (Option.some.inj e))).trans hE
end
end Go.Proofs.YtnmdcdphpcpojaaGreatDoor
