/- Join, Meet, With: what they answer, in new memory. -/
import Derived.Test.YtplcohjpchfkkaaVMay
import Derived.Shelf.Spec.SlicesInsertGrow
import Derived.Laws.OwnMore
import Derived.Deep.AppendLies
import Derived.OwnWalk
import Derived.WalkKit
import Derived.WalkSpells
import Derived.WalkLawsBesides
import Derived.Test.YtplcohjpchfkkaaTrKey
namespace Go.Proofs.Ytplcohjpchfkkaa
section
open Go.RowKit Go.Lib
open Go.Sort (grow)

/-- A row of one's own with one more cell. -/
theorem own_wider {w : World} {base e g n cap : Nat} {xs : List Value} (h : w.ownsRow base e 1 (.slice (some ⟨g, 0, none⟩) n cap) n xs) (hr : n + 1 ≤ cap) : ∃ u, w.ownsRow base e 1 (.slice (some ⟨g, 0, none⟩) (n + 1) cap) (n + 1) (xs ++ [u]) := by
  rcases h.2 with ⟨e, _⟩ | ⟨g', cap', cur, e, hb, hg, hn, hc, hs, ht⟩
  · simp at e
  · simp only [Value.slice.injEq, Option.some.injEq, Addr.mk.injEq, and_true, true_and] at e
    obtain ⟨rfl, rfl⟩ := e
    have hl : n < cur.toList.length := by rw [Array.length_toList, hs]; omega
    refine ⟨cur.toList[n], by rw [List.length_append, h.1]; simp, Or.inr ⟨g, cap, cur, rfl, hb, hg, hr, hc, hs, ?_⟩⟩
    rw [Nat.mul_one] at ht ⊢
    rw [List.take_succ_eq_append_getElem hl, ht]

/-- Cells that are stored, one behind the other. -/
theorem own_setCells {base e g n cap : Nat} : ∀ (vs : List Value) (o : Nat) (w : World) (xs : List Value), w.ownsRow base e 1 (.slice (some ⟨g, 0, none⟩) n cap) n xs → o + vs.length ≤ n →
    (w.setCells g o vs).ownsRow base e 1 (.slice (some ⟨g, 0, none⟩) n cap) n (xs.take o ++ vs ++ xs.drop (o + vs.length)) ∧ w.grownBy (w.setCells g o vs) (some g)
  | [], o, w, xs, h, _ => ⟨by simpa [World.setCells] using h, World.grownBy.refl _ _⟩
  | v :: r, o, w, xs, h, hl => by
    have hx : xs.length = n := by have := h.1; omega
    have s := World.ownsRow.stored h o v
    simp only [List.length_cons] at hl
    have ih := own_setCells r (o + 1) _ _ s.1 (by omega)
    refine ⟨?_, s.2.trans ih.2⟩
    have e : xs.take o ++ v :: r ++ xs.drop (o + (r.length + 1)) = (xs.set o v).take (o + 1) ++ r ++ (xs.set o v).drop (o + 1 + r.length) := by
      have e1 : (xs.set o v).take (o + 1) = xs.take o ++ [v] := by
        rw [List.take_succ_eq_append_getElem (by rw [List.length_set]; omega), List.take_set_of_le (Nat.le_refl _), List.getElem_set_self]
      have e2 : (xs.set o v).drop (o + 1 + r.length) = xs.drop (o + (r.length + 1)) := by
        rw [List.drop_set_of_lt (by omega)]
        congr 1
        omega
      rw [e1, e2]
      simp
    rw [List.length_cons, e]
    exact ih.1

theorem grownBy_drew1 (w : World) (r : Option Nat) : w.grownBy w.drew r := ⟨rfl, rfl, rfl, Nat.le_refl _, fun _ _ _ => rfl⟩

/-- A row with one more, laid in two steps. -/
theorem ins_list {α : Type} (xs R : List α) (u : α) (i n : Nat) (hx : xs.length = n) (hi : i ≤ n) (hR : R.length = n + 1) (ht : R.take i = xs.take i) :
    (R.take i ++ [u] ++ R.drop (i + [u].length)).take (i + 1) ++ xs.drop i ++ (R.take i ++ [u] ++ R.drop (i + [u].length)).drop (i + 1 + (xs.drop i).length) = xs.take i ++ [u] ++ xs.drop i := by
  rw [ht]
  have e2 : (xs.take i ++ [u]).length = i + 1 := by rw [List.length_append, List.length_take, hx]; simp; omega
  have e3 : (xs.take i ++ [u] ++ R.drop (i + [u].length)).length = n + 1 := by rw [List.length_append, e2, List.length_drop, hR, List.length_singleton]; omega
  have e4 : (xs.take i ++ [u] ++ R.drop (i + [u].length)).drop (i + 1 + (xs.drop i).length) = [] := List.drop_of_length_le (by rw [e3, List.length_drop, hx]; omega)
  rw [e4, List.append_nil, List.take_append_of_le_length (by omega), List.take_of_length_le (by omega)]

theorem ins_list2 {α : Type} (xs : List α) (u0 u : α) (i n : Nat) (hx : xs.length = n) (hi : i ≤ n) :
    xs.take i ++ [u] ++ xs.drop i = ((xs ++ [u0]).take (i + 1) ++ xs.drop i ++ (xs ++ [u0]).drop (i + 1 + (xs.drop i).length)).take i ++ [u] ++ ((xs ++ [u0]).take (i + 1) ++ xs.drop i ++ (xs ++ [u0]).drop (i + 1 + (xs.drop i).length)).drop (i + [u].length) := by
  have e1 : (xs ++ [u0]).drop (i + 1 + (xs.drop i).length) = [] := List.drop_of_length_le (by rw [List.length_drop, hx, List.length_append, hx, List.length_singleton]; omega)
  have e2 : ((xs ++ [u0]).take (i + 1)).length = i + 1 := by rw [List.length_take, List.length_append, hx, List.length_singleton]; omega
  have e3 : ((xs ++ [u0]).take (i + 1) ++ xs.drop i).take i = xs.take i := by
    rw [List.take_append_of_le_length (by omega), List.take_take, Nat.min_eq_left (by omega), List.take_append_of_le_length (by omega)]
  have e4 : ((xs ++ [u0]).take (i + 1) ++ xs.drop i).drop (i + [u].length) = xs.drop i := List.drop_left' e2
  rw [e1, List.append_nil, e3, e4]

theorem shape_of {w : World} {g : Nat} {cs : Array Value} {t : TypeId} (h : w.heap[g]? = some (.cells cs t (0, 0))) : w.shape? g = some (t, cs.size) := by
  simp [World.shape?, h]
end

section
set_option linter.unusedVariables false
open Go.RowKit Go.Lib
open Go.Sort (grow)

theorem Try.infoDot2 : (Try.prog.info? 24).map (fun i => (i.zero, i.size, i.bytes)) = some (some (.agg #[.int .i64 0, .int .i64 0]), 2, 16) := by kernel_rfl
theorem sizeOfDot2 (w : World) : (Go.sizeOf 24).run Try.prog w = .ok 2 w := by
  obtain ⟨i0, hi, _, h1, _⟩ := info_parts Try.infoDot2
  simp [Go.sizeOf, typeInfo, hi, h1]
theorem sizeDot2 : (Try.prog.info? 24).map (·.size) = some 2 := by kernel_rfl

/-- copy, of elements of two cells. -/
theorem run_copy_cells2 (w : World) (dT sT ty elem : TypeId) (b o dLen dCap : Nat) (a : Addr) (sLen sCap : Nat) (cs : List Value)
    (hu : Try.prog.underlying dT = some (.slice elem)) (hs : (Try.prog.info? elem).map (·.size) = some 2) (m : Nat) (hm : m = Nat.min sLen dLen) (hn : cs.length = m * 2)
    (hsrc : ∀ j v, cs[j]? = some v → w.cell? (a.add j) = some v) (hc : ∀ j, j < cs.length → (w.cell? ⟨b, o + j, none⟩).isSome = true) (hf : ∀ j, j < cs.length → w.frozen? ⟨b, o + j, none⟩ = false) (h1 : ∀ v ∈ cs, v.oneCell' = true) :
    (Builtin.copy_ #[dT, sT] ty #[.slice (some ⟨b, o, none⟩) dLen dCap, .slice (some a) sLen sCap]).run Try.prog w = .ok (goInt m) (w.setCells b o cs) := by
  have hl := run_loadCells_list (P := Try.prog) w a cs hsrc
  have hst := run_storeCells_cells (P := Try.prog) b o cs 0 w (by simpa using hc) (by simpa using hf) h1
  cases hq : Try.prog.info? elem with
  | none => simp [hq] at hs
  | some i =>
    have hi : i.size = 2 := by simpa [hq] using hs
    rw [hn] at hl
    simp [Builtin.copy_, run_underlying hu, Builtin.lenOf, Builtin.firstCells, sizeOf, typeInfo, hq, hi, ← hm, hl, hst]

theorem own_wider2 {w : World} {base e g n cap : Nat} {xs : List Value} (h : w.ownsRow base e 2 (.slice (some ⟨g, 0, none⟩) n cap) n xs) (hr : n + 1 ≤ cap) : ∃ us, us.length = 2 ∧ w.ownsRow base e 2 (.slice (some ⟨g, 0, none⟩) (n + 1) cap) (n + 1) (xs ++ us) := by
  rcases h.2 with ⟨e, _⟩ | ⟨g', cap', cur, e, hb, hg, hn, hc, hs, ht⟩
  · simp at e
  · simp only [Value.slice.injEq, Option.some.injEq, Addr.mk.injEq, and_true, true_and] at e
    obtain ⟨rfl, rfl⟩ := e
    have hl : (n + 1) * 2 ≤ cur.toList.length := by rw [Array.length_toList, hs]; omega
    have hus : ((cur.toList.drop (n * 2)).take 2).length = 2 := by rw [List.length_take, List.length_drop]; omega
    refine ⟨(cur.toList.drop (n * 2)).take 2, hus, by rw [List.length_append, h.1, hus]; omega, Or.inr ⟨g, cap, cur, rfl, hb, hg, hr, hc, hs, ?_⟩⟩
    rw [← ht, show (n + 1) * 2 = n * 2 + 2 by omega, List.take_add]

theorem own_setCells2 {base e g n cap : Nat} : ∀ (vs : List Value) (o : Nat) (w : World) (xs : List Value), w.ownsRow base e 2 (.slice (some ⟨g, 0, none⟩) n cap) n xs → o + vs.length ≤ n * 2 →
    (w.setCells g o vs).ownsRow base e 2 (.slice (some ⟨g, 0, none⟩) n cap) n (xs.take o ++ vs ++ xs.drop (o + vs.length)) ∧ w.grownBy (w.setCells g o vs) (some g)
  | [], o, w, xs, h, _ => ⟨by simpa [World.setCells] using h, World.grownBy.refl _ _⟩
  | v :: r, o, w, xs, h, hl => by
    have hx : xs.length = n * 2 := h.1
    have s := World.ownsRow.stored h o v
    simp only [List.length_cons] at hl
    have ih := own_setCells2 r (o + 1) _ _ s.1 (by omega)
    refine ⟨?_, s.2.trans ih.2⟩
    have e : xs.take o ++ v :: r ++ xs.drop (o + (r.length + 1)) = (xs.set o v).take (o + 1) ++ r ++ (xs.set o v).drop (o + 1 + r.length) := by
      have e1 : (xs.set o v).take (o + 1) = xs.take o ++ [v] := by
        rw [List.take_succ_eq_append_getElem (by rw [List.length_set]; omega), List.take_set_of_le (Nat.le_refl _), List.getElem_set_self]
      have e2 : (xs.set o v).drop (o + 1 + r.length) = xs.drop (o + (r.length + 1)) := by
        rw [List.drop_set_of_lt (by omega)]
        congr 1
        omega
      rw [e1, e2]
      simp
    rw [List.length_cons, e]
    exact ih.1

set_option maxRecDepth 100000 in
set_option maxHeartbeats 4000000 in
/-- There is room, and something stands behind. -/
theorem dins_shift (base g n c i vb : Nat) (xs : List Value) (u1 u2 : Value) (w : World) (hi : i < n) (hroom : n + 1 ≤ c) (hn : n ≤ 1000000) (hown : w.ownsRow base 24 2 (.slice (some ⟨g, 0, none⟩) n c) n xs) (hvb : vb ≠ g)
    (hv : w.heap[vb]? = some (.cells #[u1, u2] 24 (0, 0))) (h1 : ∀ v ∈ xs, v.oneCell' = true) (hu1 : u1.oneCell' = true) (hu2 : u2.oneCell' = true) :
    Calls Try.prog 86 #[.slice (some ⟨g, 0, none⟩) n c, .int .i64 i, .slice (some ⟨vb, 0, none⟩) 1 1] w fun e w' =>
      e = .returned (.slice (some ⟨g, 0, none⟩) (n + 1) c) ∧ w' = (w.drew.setCells g ((i + 1) * 2) (xs.drop (i * 2))).setCells g (i * 2) [u1, u2] := by
  have mixed := mixed
  have hxl : xs.length = n * 2 := hown.1
  have hcell : ∀ j v, xs[j]? = some v → w.cell? ⟨g, j, none⟩ = some v := fun j v hj => by
    have hjn : j < n * 2 := by
      have := (List.getElem?_eq_some_iff.1 hj).1
      omega
    rw [World.ownsRow.cellAt hown j (by omega)]
    exact hj
  obtain ⟨us, hus, hown1⟩ := own_wider2 hown hroom
  have hsp : ∀ j, j < (n + 1) * 2 → (w.cell? ⟨g, j, none⟩).isSome = true := fun j hj => by
    rw [World.ownsRow.cellAt hown1 j (by omega), List.getElem?_eq_getElem (by rw [List.length_append, hus]; omega)]
    rfl
  have hfz : ∀ j, w.frozen? ⟨g, j, none⟩ = false := fun j => World.ownsRow.frozenAt hown j
  have hgc : ∃ cs : Array Value, w.heap[g]? = some (.cells cs 24 (0, 0)) ∧ cs.size ≠ 0 ∧ c ≤ maxLen := by
    rcases hown.2 with ⟨e, _⟩ | ⟨g', cap', cur, e, hb, hg, hnn, hc, hs, ht⟩
    · simp at e
    · simp only [Value.slice.injEq, Option.some.injEq, Addr.mk.injEq, and_true, true_and] at e
      obtain ⟨rfl, rfl⟩ := e
      exact ⟨cur, hg, by omega, hc⟩
  obtain ⟨cs, hgh, hcs0, hcm⟩ := hgc
  unfold maxLen at hcm
  have hov : ∀ lb cb, (callFunc 95 #[.slice (some ⟨vb, 0, none⟩) 1 1, .slice (some ⟨g, (i + 1) * 2, none⟩) lb cb]).run Try.prog w = .ok (.value (.bool false)) w := fun lb cb => by
    rw [run_callFunc_extern Try.func95 (by kernel_rfl) (by kernel_rfl) (by kernel_rfl) (e := Extern.SlicesOverlaps.overlaps #[29, 29] #[4]) (by kernel_rfl),
      Lib.run_overlaps_apart w 29 4 24 Try.underlying29 2 sizeOfDot2 ⟨vb, 0, none⟩ ⟨g, (i + 1) * 2, none⟩ 1 1 lb cb hvb 24 24 2 cs.size (shape_of hv) (shape_of hgh) hcs0 (by simp [World.frozen?, hv]) (by simp [World.frozen?, hv])]
    rfl
  have hdl : (xs.drop (i * 2)).length = (n - i) * 2 := by rw [List.length_drop, hxl]; omega
  have hcp1 : ∀ ty dc sc, (Builtin.copy_ #[29, 29] ty #[.slice (some ⟨g, (i + 1) * 2, none⟩) (n - i) dc, .slice (some ⟨g, i * 2, none⟩) (n + 1 - i) sc]).run Try.prog w.drew = .ok (goInt (n - i : Nat)) (w.drew.setCells g ((i + 1) * 2) (xs.drop (i * 2))) := fun ty dc sc =>
    run_copy_cells2 w.drew _ _ ty 24 g ((i + 1) * 2) (n - i) dc ⟨g, i * 2, none⟩ (n + 1 - i) sc (xs.drop (i * 2)) Try.underlying29 sizeDot2 (n - i) (by simp only [Nat.min_def]; split <;> omega) hdl
      (fun j v hj => by rw [Addr.add_lit]; exact hcell (i * 2 + j) v (by rwa [List.getElem?_drop] at hj))
      (fun j hj => hsp _ (by omega)) (fun j _ => hfz _) (fun v hv' => h1 v (List.mem_of_mem_drop hv'))
  obtain ⟨W1, hW1⟩ : ∃ W1, W1 = w.drew.setCells g ((i + 1) * 2) (xs.drop (i * 2)) := ⟨_, rfl⟩
  have hsp1 : ∀ k, k < (n + 1) * 2 → (W1.cell? ⟨g, k, none⟩).isSome = true := fun k hk => by
    rw [hW1]
    exact isSome_setCells g (xs.drop (i * 2)) ((i + 1) * 2) w.drew (fun j hj => hsp _ (by rw [hdl] at hj; omega)) k (hsp k hk)
  have hvj : ∀ j v, ([u1, u2] : List Value)[j]? = some v → W1.cell? ⟨vb, 0 + j, none⟩ = some v := fun j v hj => by
    rw [hW1, World.cell?_setCells_out g _ _ _ _ (fun h _ => absurd h hvb)]
    show w.cell? ⟨vb, 0 + j, none⟩ = some v
    rcases j with _ | _ | j
    · simp at hj; subst hj; simp [World.cell?, hv]
    · simp at hj; subst hj; simp [World.cell?, hv]
    · simp at hj
  have hcp2 : ∀ (W : World), (∀ x, W.cell? x = W1.cell? x) → (∀ x, W.frozen? x = W1.frozen? x) → ∀ ty dc, (Builtin.copy_ #[29, 29] ty #[.slice (some ⟨g, i * 2, none⟩) (n + 1 - i) dc, .slice (some ⟨vb, 0, none⟩) 1 1]).run Try.prog W = .ok (goInt (1 : Nat)) (W.setCells g (i * 2) [u1, u2]) := fun W hWc hWf ty dc =>
    run_copy_cells2 W _ _ ty 24 g (i * 2) (n + 1 - i) dc ⟨vb, 0, none⟩ 1 1 [u1, u2] Try.underlying29 sizeDot2 1 (by simp only [Nat.min_def]; split <;> omega) rfl
      (fun j v hj => by rw [Addr.add_lit, hWc]; exact hvj j v hj)
      (fun j hj => by rw [hWc]; exact hsp1 _ (by simp at hj; omega)) (fun j hj => by rw [hWf, hW1, World.frozen?_setCells]; exact hfz _) (fun v hv' => by simp at hv'; rcases hv' with rfl | rfl; exact hu1; exact hu2)
  rw [← hW1] at hcp1
  have hz1 : ¬ ((i : Int) = (n : Int)) := by omega
  have hw1 : IntKind.i64.wrap ((i : Int) + 1) = (i : Int) + 1 := by rw [IntKind.wrap_i64]; omega
  have hb1 : (0 : Int) ≤ (i : Int) + 1 := by omega
  have hin : i ≤ n := by omega
  have htn : ((i : Int) + 1).toNat = i + 1 := by omega
  have hb2 : ¬ (c = i + 1) := by omega
  have hb3 : (i : Int) ≤ (n : Int) + 1 := by omega
  have hb4 : ¬ (c = i) := by omega
  clear hown hown1 hcell hsp hfz hgh hv hvj hsp1 hus
  go_enter Try.func86, Try.ntmps86
  go_wp2_with (simp only [hov])
  go_region_law_o (refine step_copy_runI rfl _ _ 29 29 rfl _ _ (by simp [Act.eval, Act.put]) (by simp [Act.eval, Act.put]) (hcp1 _ _ _) ?_)
  go_wp2_with (at_builtin; refine wpList_copy_runI _ rfl _ _ 29 29 rfl _ _ rfl rfl (hcp2 _ (fun _ => rfl) (fun _ => rfl) _ _) ?_)
  go_ret
  first | exact ⟨rfl, rfl⟩ | exact ⟨rfl, by rw [hW1]⟩
end

section
set_option linter.unusedVariables false
open Go.RowKit Go.Lib
open Go.Sort (grow)

/-- A row with more, laid in two steps. -/
theorem ins_listK {α : Type} (xs R us : List α) (a b : Nat) (ha : a ≤ xs.length) (hR : R.length = xs.length + us.length) (ht : R.take a = xs.take a) (hb : b = a + us.length) :
    (R.take a ++ us ++ R.drop (a + us.length)).take b ++ xs.drop a ++ (R.take a ++ us ++ R.drop (a + us.length)).drop (b + (xs.drop a).length) = xs.take a ++ us ++ xs.drop a := by
  subst hb
  rw [ht]
  have e2 : (xs.take a ++ us).length = a + us.length := by rw [List.length_append, List.length_take]; omega
  have e3 : (xs.take a ++ us ++ R.drop (a + us.length)).length = xs.length + us.length := by rw [List.length_append, e2, List.length_drop, hR]; omega
  have e4 : (xs.take a ++ us ++ R.drop (a + us.length)).drop (a + us.length + (xs.drop a).length) = [] := List.drop_of_length_le (by rw [e3, List.length_drop]; omega)
  rw [e4, List.append_nil, List.take_append_of_le_length (by omega), List.take_of_length_le (by omega)]

theorem ins_listM {α : Type} (xs us0 us : List α) (a b : Nat) (ha : a ≤ xs.length) (h0 : us0.length = us.length) (hb : b = a + us.length) :
    xs.take a ++ us ++ xs.drop a = ((xs ++ us0).take b ++ xs.drop a ++ (xs ++ us0).drop (b + (xs.drop a).length)).take a ++ us ++ ((xs ++ us0).take b ++ xs.drop a ++ (xs ++ us0).drop (b + (xs.drop a).length)).drop (a + us.length) := by
  subst hb
  have e1 : (xs ++ us0).drop (a + us.length + (xs.drop a).length) = [] := List.drop_of_length_le (by rw [List.length_drop, List.length_append]; omega)
  have e2 : ((xs ++ us0).take (a + us.length)).length = a + us.length := by rw [List.length_take, List.length_append]; omega
  have e3 : ((xs ++ us0).take (a + us.length) ++ xs.drop a).take a = xs.take a := by
    rw [List.take_append_of_le_length (by omega), List.take_take, Nat.min_eq_left (by omega), List.take_append_of_le_length (by omega)]
  have e4 : ((xs ++ us0).take (a + us.length) ++ xs.drop a).drop (a + us.length) = xs.drop a := List.drop_left' e2
  rw [e1, List.append_nil, e3, e4]

set_option maxRecDepth 100000 in
set_option maxHeartbeats 4000000 in
/-- There is no room, and something stands behind: a new row. -/
theorem dins_grow (base g n c i vb : Nat) (xs : List Value) (u1 u2 : Value) (w : World) (hi : i < n) (hroom : c < n + 1) (hnc : n ≤ c) (hn : n ≤ 1000000) (hbase : base ≤ w.heap.size) (hown : w.ownsRow base 24 2 (.slice (some ⟨g, 0, none⟩) n c) n xs)
    (hv : w.heap[vb]? = some (.cells #[u1, u2] 24 (0, 0))) (h1 : ∀ v ∈ xs, v.oneCell' = true) (hu1 : u1.oneCell' = true) (hu2 : u2.oneCell' = true) :
    Calls Try.prog 86 #[.slice (some ⟨g, 0, none⟩) n c, .int .i64 i, .slice (some ⟨vb, 0, none⟩) 1 1] w fun e w' =>
      ∃ G, e = .returned (.slice (some ⟨w.heap.size, 0, none⟩) (n + 1) G) ∧ w'.ownsRow base 24 2 (.slice (some ⟨w.heap.size, 0, none⟩) (n + 1) G) (n + 1) (xs.take (i * 2) ++ [u1, u2] ++ xs.drop (i * 2)) ∧ w.grownBy w' none := by
  have mixed := mixed
  have hxl : xs.length = n * 2 := hown.1
  have hcell : ∀ j v, xs[j]? = some v → w.cell? ⟨g, 0 + j, none⟩ = some v := fun j v hj => by
    have hjn : j < n * 2 := by
      have := (List.getElem?_eq_some_iff.1 hj).1
      omega
    rw [Nat.zero_add, World.ownsRow.cellAt hown j (by omega)]
    exact hj
  obtain ⟨i0, hi0, hz0, hzs, hzb⟩ := info_parts Try.infoDot2
  have hbw : g < w.heap.size := (World.ownsRow.lt hown g rfl).2
  have hvw : vb < w.heap.size := (Array.getElem?_eq_some_iff.1 hv).1
  have hkk : (n : Int) + 1 - (i : Int) = ((n + 1 - i : Nat) : Int) := by omega
  have hik : i + (n + 1 - i) = n + 1 := by omega
  have hold : (Builtin.firstCells i0.size i (.slice (some ⟨g, 0, none⟩) i c)).run Try.prog w.drew = .ok (xs.take (i * 2)).toArray w.drew := by
    rw [hzs]
    exact run_firstCells_some w.drew 2 i ⟨g, 0, none⟩ i c (xs.take (i * 2)) (by rw [List.length_take]; omega) (fun j v hj => by
      rw [Addr.add_lit]
      rw [List.getElem?_take] at hj
      split at hj
      · exact hcell j v hj
      · cases hj)
  have hrz : ∀ ty, (Builtin.append_ #[29, 3] ty #[.slice (some ⟨g, 0, none⟩) i c, .int .i64 ((n : Int) + 1 - (i : Int))]).run Try.prog w =
      .ok (.slice (some ⟨w.heap.size, 0, none⟩) (n + 1) (grownCap w (n + 1) c 24)) (w.drew.alloc (.cells ((xs.take (i * 2)).toArray ++ Builtin.zeroCells (Value.agg #[.int .i64 0, .int .i64 0]).cells (n + 1 - i) ++ Builtin.zeroCells (Value.agg #[.int .i64 0, .int .i64 0]).cells (grownCap w (n + 1) c 24 - (n + 1))) 24)) := fun ty => by
    have h := Lib.run_append_grow_zeros w 29 3 ty 24 i0 _ .i64 .i64 Try.underlying29 Try.underlying3 hi0 hz0 (some ⟨g, 0, none⟩) i c (xs.take (i * 2)) hold (n + 1 - i) (by omega) (by omega) (by omega) (by omega) (by rw [hzb]; omega) (by rw [hzb, hik]; exact growslice_fits hroom (by omega))
    rw [hik] at h
    rw [hkk]
    exact h
  have hGn : n + 1 ≤ grownCap w (n + 1) c 24 := grownCap_ge w _ _ _
  have hGm := grownCap_le_maxLen w (n + 1) c 24 (by unfold maxLen; omega)
  obtain ⟨G, hG⟩ : ∃ G, G = grownCap w (n + 1) c 24 := ⟨_, rfl⟩
  rw [← hG] at hrz hGn hGm
  have hG63 : G ≤ 9223372036854775807 := by unfold maxLen at hGm; omega
  obtain ⟨ROW, hROW⟩ : ∃ ROW : Array Value, ROW = (xs.take (i * 2)).toArray ++ Builtin.zeroCells (Value.agg #[.int .i64 0, .int .i64 0]).cells (n + 1 - i) ++ Builtin.zeroCells (Value.agg #[.int .i64 0, .int .i64 0]).cells (G - (n + 1)) := ⟨_, rfl⟩
  rw [← hROW] at hrz
  have hRs : ROW.size = G * 2 := by
    rw [hROW]
    simp [Builtin.zeroCells, Value.cells, hxl]
    omega
  have hRt : ROW.toList.take (i * 2) = xs.take (i * 2) := by
    have e : ROW.toList = xs.take (i * 2) ++ (ROW.toList.drop (i * 2)) := by
      have : ROW.toList.take (i * 2) = xs.take (i * 2) := by
        rw [hROW, Array.append_assoc]
        simp [hxl, Nat.min_eq_left (show i * 2 ≤ n * 2 by omega)]
      rw [← this, List.take_append_drop]
    rw [e, List.take_append_of_le_length (by simp [hxl]; omega), List.take_of_length_le (by simp; omega)]
  obtain ⟨W1, hW1⟩ : ∃ W1, W1 = w.drew.alloc (.cells ROW 24) := ⟨_, rfl⟩
  have hO1 : W1.ownsRow base 24 2 (.slice (some ⟨w.heap.size, 0, none⟩) (n + 1) G) (n + 1) (ROW.toList.take ((n + 1) * 2)) := by
    rw [hW1]
    exact ⟨by rw [List.length_take, Array.length_toList, hRs]; omega, Or.inr ⟨w.heap.size, G, ROW, rfl, hbase, (MapKept.heap_alloc w.drew _).1, hGn, hGm, hRs, rfl⟩⟩
  have hN : ∀ j, j < (n + 1) * 2 → (W1.cell? ⟨w.heap.size, j, none⟩).isSome = true := fun j hj => by
    rw [World.ownsRow.cellAt hO1 j (by omega), List.getElem?_eq_getElem (by rw [List.length_take, Array.length_toList, hRs]; omega)]
    rfl
  have hNf : ∀ j, W1.frozen? ⟨w.heap.size, j, none⟩ = false := fun j => World.ownsRow.frozenAt hO1 j
  have hK : RowKit.Below w.heap.size w W1 := by rw [hW1]; exact ((Far.refl w).drew.alloc _).below
  have hOb : ∀ j v, w.cell? ⟨g, j, none⟩ = some v → W1.cell? ⟨g, j, none⟩ = some v := fun j v h => (hK.cell hbw).trans h
  have hOv : ∀ j v, ([u1, u2] : List Value)[j]? = some v → W1.cell? ⟨vb, 0 + j, none⟩ = some v := fun j v hj => by
    refine (hK.cell (p := ⟨vb, 0 + j, none⟩) hvw).trans ?_
    rcases j with _ | _ | j
    · simp at hj; subst hj; simp [World.cell?, hv]
    · simp at hj; subst hj; simp [World.cell?, hv]
    · simp at hj
  have hne : vb ≠ w.heap.size := by omega
  have hgne : g ≠ w.heap.size := by omega
  have hdl : (xs.drop (i * 2)).length = (n - i) * 2 := by rw [List.length_drop, hxl]; omega
  have hcpA : ∀ (W : World), (∀ x, W.cell? x = W1.cell? x) → (∀ x, W.frozen? x = W1.frozen? x) → ∀ ty dc, (Builtin.copy_ #[29, 29] ty #[.slice (some ⟨w.heap.size, i * 2, none⟩) (n + 1 - i) dc, .slice (some ⟨vb, 0, none⟩) 1 1]).run Try.prog W = .ok (goInt (1 : Nat)) (W.setCells w.heap.size (i * 2) [u1, u2]) := fun W hWc hWf ty dc =>
    run_copy_cells2 W _ _ ty 24 w.heap.size (i * 2) (n + 1 - i) dc ⟨vb, 0, none⟩ 1 1 [u1, u2] Try.underlying29 sizeDot2 1 (by simp only [Nat.min_def]; split <;> omega) rfl
      (fun j v hj => by rw [Addr.add_lit, hWc]; exact hOv j v hj)
      (fun j hj => by rw [hWc]; exact hN _ (by simp at hj; omega)) (fun j _ => by rw [hWf]; exact hNf _) (fun v hv' => by simp at hv'; rcases hv' with rfl | rfl; exact hu1; exact hu2)
  have hcpB : ∀ (W : World), (∀ x, W.cell? x = (W1.setCells w.heap.size (i * 2) [u1, u2]).cell? x) → (∀ x, W.frozen? x = (W1.setCells w.heap.size (i * 2) [u1, u2]).frozen? x) → ∀ ty dc sc, (Builtin.copy_ #[29, 29] ty #[.slice (some ⟨w.heap.size, (i + 1) * 2, none⟩) (n + 1 - (i + 1)) dc, .slice (some ⟨g, i * 2, none⟩) (n - i) sc]).run Try.prog W = .ok (goInt (n - i : Nat)) (W.setCells w.heap.size ((i + 1) * 2) (xs.drop (i * 2))) := fun W hWc hWf ty dc sc =>
    run_copy_cells2 W _ _ ty 24 w.heap.size ((i + 1) * 2) (n + 1 - (i + 1)) dc ⟨g, i * 2, none⟩ (n - i) sc (xs.drop (i * 2)) Try.underlying29 sizeDot2 (n - i) (by simp only [Nat.min_def]; split <;> omega) hdl
      (fun j v hj => by
        rw [Addr.add_lit, hWc, World.cell?_setCells_out _ _ _ _ _ (fun h _ => absurd h hgne)]
        have := hOb _ v (hcell (i * 2 + j) v (by rwa [List.getElem?_drop] at hj))
        rwa [Nat.zero_add] at this)
      (fun j hj => by rw [hWc]; exact isSome_setCells _ [u1, u2] (i * 2) W1 (fun t ht => hN _ (by simp at ht; omega)) _ (hN _ (by rw [hdl] at hj; omega)))
      (fun j _ => by rw [hWf, World.frozen?_setCells]; exact hNf _) (fun v hv' => h1 v (List.mem_of_mem_drop hv'))
  have hend : ∀ (W : World), W = (((w.alloc (.cells ROW 24)).drew.setCells w.heap.size (i * 2) [u1, u2]).drew).setCells w.heap.size ((i + 1) * 2) (xs.drop (i * 2)) → W.ownsRow base 24 2 (.slice (some ⟨w.heap.size, 0, none⟩) (n + 1) G) (n + 1) (xs.take (i * 2) ++ [u1, u2] ++ xs.drop (i * 2)) ∧ w.grownBy W none := fun W hW => by
    have hA : (w.alloc (.cells ROW 24)).drew.ownsRow base 24 2 (.slice (some ⟨w.heap.size, 0, none⟩) (n + 1) G) (n + 1) (ROW.toList.take ((n + 1) * 2)) := by
      have : (w.alloc (.cells ROW 24)).drew = w.drew.alloc (.cells ROW 24) := rfl
      rw [this, ← hW1]
      exact hO1
    have hB := own_setCells2 [u1, u2] (i * 2) _ _ hA (by simp; omega)
    have hB' : (((w.alloc (.cells ROW 24)).drew.setCells w.heap.size (i * 2) [u1, u2]).drew).ownsRow base 24 2 (.slice (some ⟨w.heap.size, 0, none⟩) (n + 1) G) (n + 1) _ := hB.1
    have hC := own_setCells2 (xs.drop (i * 2)) ((i + 1) * 2) _ _ hB' (by rw [hdl]; omega)
    rw [hW]
    refine ⟨?_, ?_⟩
    · have e := ins_listK xs (ROW.toList.take ((n + 1) * 2)) [u1, u2] (i * 2) ((i + 1) * 2) (by omega) (by rw [List.length_take, Array.length_toList, hRs, hxl]; simp; omega) (by rw [List.take_take, Nat.min_eq_left (by omega), hRt]) (by simp; omega)
      rw [← e]
      exact hC.1
    · have hg1 : w.grownBy (w.alloc (.cells ROW 24)).drew none := (World.grownBy_alloc w _ none).trans (grownBy_drew1 _ _)
      have g2 := hB.2
      have g3 : ((w.alloc (.cells ROW 24)).drew.setCells w.heap.size (i * 2) [u1, u2]).grownBy ((((w.alloc (.cells ROW 24)).drew.setCells w.heap.size (i * 2) [u1, u2]).drew).setCells w.heap.size ((i + 1) * 2) (xs.drop (i * 2))) (some w.heap.size) := (grownBy_drew1 _ _).trans hC.2
      have g4 := g2.trans g3
      exact ⟨g4.os.trans hg1.os, g4.tape.trans hg1.tape, g4.output.trans hg1.output, Nat.le_trans hg1.size g4.size, fun k hk _ => (g4.block k (Nat.lt_of_lt_of_le hk hg1.size) (fun e => by cases e; omega)).trans (hg1.block k hk (by simp))⟩
  subst hW1
  have hz1 : ¬ ((i : Int) = (n : Int)) := by omega
  have hz3 : (c : Int) < (n : Int) + 1 := by omega
  have hw1 : IntKind.i64.wrap ((i : Int) + 1) = (i : Int) + 1 := by rw [IntKind.wrap_i64]; omega
  have hb1 : (0 : Int) ≤ (i : Int) + 1 := by omega
  have hin : i ≤ n := by omega
  have htn : ((i : Int) + 1).toNat = i + 1 := by omega
  have hb3 : (i : Int) ≤ (n : Int) := by omega
  have hGi : ¬ (G = i) := by omega
  have hGim : ¬ (G = i + 1) := by omega
  have hci : ¬ (c = i) := by omega
  have HE := hid hend
  have hE1 : ∀ x, ((w.alloc (.cells ROW 24)).drew).cell? x = (w.drew.alloc (.cells ROW 24)).cell? x := fun x => rfl
  have hE2 : ∀ x, ((w.alloc (.cells ROW 24)).drew).frozen? x = (w.drew.alloc (.cells ROW 24)).frozen? x := fun x => rfl
  have hF1 : ∀ x, (((w.alloc (.cells ROW 24)).drew.setCells w.heap.size (i * 2) [u1, u2]).drew).cell? x = ((w.drew.alloc (.cells ROW 24)).setCells w.heap.size (i * 2) [u1, u2]).cell? x := fun x => rfl
  have hF2 : ∀ x, (((w.alloc (.cells ROW 24)).drew.setCells w.heap.size (i * 2) [u1, u2]).drew).frozen? x = ((w.drew.alloc (.cells ROW 24)).setCells w.heap.size (i * 2) [u1, u2]).frozen? x := fun x => rfl
  clear hkk hik hold hROW hG hRs hRt hend hO1 hN hNf hK hOb hOv hown hcell hv
  go_enter Try.func86, Try.ntmps86
  go_wp2_with (first
    | (at_builtin; refine Lib.wpList_append_run _ rfl _ _ _ _ rfl _ _ rfl rfl _ _ (hrz _) ?_)
    | (at_builtin; refine wpList_copy_runI _ rfl _ _ 29 29 rfl _ _ rfl rfl (hcpA _ hE1 hE2 _ _) ?_)
    | (at_builtin; refine wpList_copy_runI _ rfl _ _ 29 29 rfl _ _ rfl rfl (hcpB _ (fun _ => rfl) (fun _ => rfl) _ _ _) ?_))
  go_region_law_o (refine step_copy_runI rfl _ _ 29 29 rfl (.slice (some ⟨w.heap.size, (i + 1) * 2, none⟩) (n + 1 - (i + 1)) (G - (i + 1))) (.slice (some ⟨g, i * 2, none⟩) (n - i) (c - i)) (by simp [Act.eval, Act.put]) (by simp [Act.eval, Act.put]) (hcpB _ hF1 hF2 3 (G - (i + 1)) (c - i)) ?_)
  go_wp2
  go_ret
  exact ⟨G, rfl, HE.out _ rfl⟩
end

section
set_option linter.unusedVariables false
open Go.RowKit Go.Lib
open Go.Sort (grow)

/-- Appends one dot to a row of one's own. -/
theorem wpList_append_dot1 {w : World} {ops : Array Oper} {rest : List Oper} {o : Oper} {a : Act} {Q : Exit → Act → World → Prop} (hgd : o.guard = none) (s x : Operand)
    (ho : o.op = .call { callee := .builtin .append, args := #[s, x], argTypes := #[29, 29] }) (base : Nat) (v : Value) (n : Nat) (xs : List Value) (hs : a.eval s = v) (hown : w.ownsRow base 24 2 v n xs)
    (vb : Nat) (u1 u2 : Value) (hx : a.eval x = .slice (some ⟨vb, 0, none⟩) 1 1) (hv : w.cell? ⟨vb, 0, none⟩ = some u1) (hv2 : w.cell? ⟨vb, 1, none⟩ = some u2) (hu1 : u1.oneCell' = true) (hu2 : u2.oneCell' = true) (hb : n + 1 ≤ 1000001) (hbase : base ≤ w.heap.size)
    (h : ∀ g cap w', w'.ownsRow base 24 2 (.slice (some ⟨g, 0, none⟩) (n + 1) cap) (n + 1) (xs ++ [u1, u2]) → w.grownBy w' v.ownBlock → (v.ownBlock = some g ∨ g = w.heap.size) → wpList Try.prog ops Q rest (a.put o.dst (.slice (some ⟨g, 0, none⟩) (n + 1) cap)) w') : wpList Try.prog ops Q (o :: rest) a w := by
  obtain ⟨i0, hi, hz0, hz1, hz2⟩ := info_parts Try.infoDot2
  refine wpList_append_lies w hgd s x 29 ho base 24 i0 _ 2 16 Try.underlying29 hi hz0 hz1 hz2 rfl (by decide) v n xs hs hown ⟨vb, 0, none⟩ 1 1 [u1, u2] hx rfl (fun j y hj => ?_) (fun y hy => by simp at hy; rcases hy with rfl | rfl; exact hu1; exact hu2) (by decide) (by unfold maxLen; omega) (by omega) hbase _ rfl ?_
  · rw [Addr.add_lit]
    rcases j with _ | _ | j
    · simp at hj; subst hj; exact hv
    · simp at hj; subst hj; exact hv2
    · simp at hj
  · intro g cap w' h1 h2 h3 _
    exact h g cap w' h1 h2 h3

set_option maxRecDepth 100000 in
set_option maxHeartbeats 4000000 in
/-- slices.Insert of one dot, anywhere in a row of one's own. -/
theorem dinsert_any (base : Nat) (v : Value) (n i vb : Nat) (xs : List Value) (u1 u2 : Value) (w : World) (hi : i ≤ n) (hn : n ≤ 1000000) (hbase : base ≤ w.heap.size) (hown : w.ownsRow base 24 2 v n xs) (hvb : v.ownBlock ≠ some vb)
    (hv : w.heap[vb]? = some (.cells #[u1, u2] 24 (0, 0))) (h1 : ∀ y ∈ xs, y.oneCell' = true) (hu1 : u1.oneCell' = true) (hu2 : u2.oneCell' = true) :
    Calls Try.prog 86 #[v, .int .i64 i, .slice (some ⟨vb, 0, none⟩) 1 1] w fun e w' =>
      ∃ g c, e = .returned (.slice (some ⟨g, 0, none⟩) (n + 1) c) ∧ w'.ownsRow base 24 2 (.slice (some ⟨g, 0, none⟩) (n + 1) c) (n + 1) (xs.take (i * 2) ++ [u1, u2] ++ xs.drop (i * 2)) ∧ w.grownBy w' v.ownBlock ∧ (v.ownBlock = some g ∨ g = w.heap.size) := by
  have hxl : xs.length = n * 2 := hown.1
  have hv0 : w.cell? ⟨vb, 0, none⟩ = some u1 := by simp [World.cell?, hv]
  have hv2 : w.cell? ⟨vb, 1, none⟩ = some u2 := by simp [World.cell?, hv]
  by_cases hin : i = n
  · subst hin
    have hcase : (v = .slice none 0 0 ∧ i = 0) ∨ ∃ g c, v = .slice (some ⟨g, 0, none⟩) i c ∧ i ≤ c ∧ c ≤ maxLen := by
      rcases hown.2 with h | ⟨g, cap, cur, e, _, _, hnc, hc, _⟩
      · exact Or.inl h
      · exact Or.inr ⟨g, cap, e, hnc, hc⟩
    have HOWN := hid hown
    have hlist : xs.take (i * 2) ++ [u1, u2] ++ xs.drop (i * 2) = xs ++ [u1, u2] := by rw [List.take_of_length_le (by omega), List.drop_of_length_le (by omega), List.append_nil]
    obtain ⟨Z, hZ⟩ : ∃ Z, xs.take (i * 2) ++ [u1, u2] ++ xs.drop (i * 2) = Z := ⟨_, rfl⟩
    rw [hZ] at hlist ⊢
    have HL := hid hlist
    clear hlist hown hZ
    rcases hcase with ⟨rfl, rfl⟩ | ⟨g, c, rfl, hnc, hcm⟩
    · go_enter Try.func86, Try.ntmps86
      go_wp2_with (at_builtin; refine wpList_append_dot1 rfl _ _ rfl base (.slice none 0 0) 0 xs rfl HOWN.out vb u1 u2 rfl hv0 hv2 hu1 hu2 (by omega) hbase ?_; intro g7 c7 w7 ho7 hg7 hat7)
      all_goals (go_ret; exact ⟨g7, c7, rfl, by rw [HL.out]; exact ho7, hg7, hat7⟩)
    · unfold maxLen at hcm
      have hz1 : ((i : Int) == (i : Int)) = true := by simp
      go_enter Try.func86, Try.ntmps86
      go_wp2_with (at_builtin; refine wpList_append_dot1 rfl _ _ rfl base (.slice (some ⟨g, 0, none⟩) i c) i xs rfl HOWN.out vb u1 u2 rfl hv0 hv2 hu1 hu2 (by omega) hbase ?_; intro g7 c7 w7 ho7 hg7 hat7)
      all_goals (go_ret; exact ⟨g7, c7, rfl, by rw [HL.out]; exact ho7, hg7, hat7⟩)
  · obtain ⟨g, c, rfl, hnc⟩ : ∃ g c, v = .slice (some ⟨g, 0, none⟩) n c ∧ n ≤ c := by
      rcases hown.2 with ⟨_, h⟩ | ⟨g, cap, cur, e, _, _, hnc, _⟩
      · omega
      · exact ⟨g, cap, e, hnc⟩
    have hvg : vb ≠ g := fun e => hvb (by rw [e]; rfl)
    by_cases hroom : n + 1 ≤ c
    · refine (dins_shift base g n c i vb xs u1 u2 w (by omega) hroom hn hown hvg hv h1 hu1 hu2).mono ?_
      rintro e w' ⟨rfl, rfl⟩
      obtain ⟨us, hus, hw⟩ := own_wider2 hown hroom
      have hw' : w.drew.ownsRow base 24 2 (.slice (some ⟨g, 0, none⟩) (n + 1) c) (n + 1) (xs ++ us) := hw
      have hdl : (xs.drop (i * 2)).length = (n - i) * 2 := by rw [List.length_drop, hxl]; omega
      have hA := own_setCells2 (xs.drop (i * 2)) ((i + 1) * 2) _ _ hw' (by rw [hdl]; omega)
      have hB := own_setCells2 [u1, u2] (i * 2) _ _ hA.1 (by simp; omega)
      refine ⟨g, c, rfl, ?_, ((grownBy_drew1 _ _).trans hA.2).trans hB.2, Or.inl rfl⟩
      have e := ins_listM xs us [u1, u2] (i * 2) ((i + 1) * 2) (by omega) hus (by simp; omega)
      rw [e]
      exact hB.1
    · refine (dins_grow base g n c i vb xs u1 u2 w (by omega) (by omega) hnc hn hbase hown hv h1 hu1 hu2).mono ?_
      rintro e w' ⟨G, rfl, h2, h3⟩
      exact ⟨w.heap.size, G, rfl, h2, ⟨h3.os, h3.tape, h3.output, h3.size, fun k hk _ => h3.block k hk (by simp)⟩, Or.inr rfl⟩

theorem flat_take10 (L : List Dt) (k : Nat) : flat (L.take k) = (flat L).take (k * 2) := by
  have h1 : flat L = flat (L.take k) ++ flat (L.drop k) := by rw [← flat_append, List.take_append_drop]
  by_cases hk : k ≤ L.length
  · have h2 : (flat (L.take k)).length = k * 2 := by rw [flat_length, List.length_take]; omega
    rw [h1, List.take_left' h2]
  · rw [List.take_of_length_le (by omega), List.take_of_length_le (by rw [flat_length]; omega)]

/-- The same, told in dots. -/
theorem dinsert_dots (base : Nat) (v : Value) (i vb : Nat) (L : List Dt) (d : Dt) (w : World) (hi : i ≤ L.length) (hn : L.length ≤ 1000000) (hbase : base ≤ w.heap.size) (hown : w.ownsRow base 24 2 v L.length (flat L)) (hvb : v.ownBlock ≠ some vb)
    (hv : w.heap[vb]? = some (.cells #[.int .i64 d.1, .int .i64 d.2] 24 (0, 0))) :
    Calls Try.prog 86 #[v, .int .i64 i, .slice (some ⟨vb, 0, none⟩) 1 1] w fun e w' =>
      ∃ g c, e = .returned (.slice (some ⟨g, 0, none⟩) (L.length + 1) c) ∧ w'.ownsRow base 24 2 (.slice (some ⟨g, 0, none⟩) (L.length + 1) c) (L.length + 1) (flat (L.take i ++ [d] ++ L.drop i)) ∧ w.grownBy w' v.ownBlock ∧ (v.ownBlock = some g ∨ g = w.heap.size) := by
  refine (dinsert_any base v L.length i vb (flat L) _ _ w hi hn hbase hown hvb hv (flat_one L) rfl rfl).mono ?_
  rintro e w' ⟨g, c, rfl, h2, h3, h4⟩
  refine ⟨g, c, rfl, ?_, h3, h4⟩
  rw [flat_append, flat_append, flat_take10, flat_drop]
  exact h2
end

section
open Go.RowKit
open Go.Sort (grow)

theorem far_grown {w w' : World} (h : Far w w') : w.grownBy w' none := by
  have hb := h.below
  exact ⟨hb.os, hb.tape, hb.output, hb.size, fun k hk _ => hb.block k hk⟩
end
end Go.Proofs.Ytplcohjpchfkkaa
