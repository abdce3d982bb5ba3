/- The library's slices.SortFunc and all that it calls, as they lie in this program at rows of dots and of operations: which number is which. No condition. -/
import Derived.Test.YtplcohjpchfkkaaMRow
import Derived.Sort.MapsRangeIn
import Derived.Laws.IdiomRangeMap
import Derived.Shelf.SlSortCmp.WholeK
import Derived.Test.YtplcohjpchfkkaaProg
namespace Go.Proofs.Ytplcohjpchfkkaa
section
set_option linter.unusedVariables false
set_option linter.unusedSimpArgs false
open Go.RowKit Go.Shelf Go.Sort Go.Maps

/-- These are a map's keys, each once. -/
def KeysOfS (S : List Sp) (xs : List Dt) : Prop := xs.Nodup ∧ Dws xs ∧ ∀ d, Dw d → (d ∈ xs ↔ (lk S d).isSome = true)

theorem ranges_kept {W W' : World} {b r n : Nat} {D : DataW Unit} {left : Lit → Bool} {cnt : Nat} (h : W.ranges Try.prog 24 plR b r n D left cnt) (hb : ∀ es c, W.heap[b]? = some (.map es c) → W'.heap[b]? = some (.map es c)) (hr : ∀ o, W.heap[r]? = some o → o.isCells = false → W'.heap[r]? = some o) : W'.ranges Try.prog 24 plR b r n D left cnt := by
  obtain ⟨es, clock, since, seen, c0, h1, F, hs, hD, h2, rest⟩ := h
  exact ⟨es, clock, since, seen, c0, hb _ _ h1, F, hs, hD, hr _ h2 rfl, rest⟩

set_option maxRecDepth 100000 in
set_option maxHeartbeats 4000000 in
theorem keys_in (n l n₀ Bm m : Nat) (own : Nat → Prop) (S : List Sp) (J Jx : List Dt → World → Prop) (W : World) (hn0 : n₀ ≤ W.heap.size) (hm : m < n₀) (c1 : W.cell? ⟨Bm, 0, none⟩ = some (.map (some m))) (hP : PLM W m S) (hJ : OwnT W.heap.size J) (hJx : OwnT W.heap.size Jx)
    (hY : ∀ pre x W1, J pre W1 → pre.length < S.length → YieldAt Fence.wide (n - 1) Try.prog l #[dv x] W1 fun e W' =>
      (e = .returned (.bool true) ∧ J (pre ++ [x]) W' ∧ KU n₀ own W1 W' ∧ KeepsFrom W.heap.size W1 W') ∨ (e = .returned (.bool false) ∧ Jx (pre ++ [x]) W' ∧ KeepsFrom W.heap.size W1 W'))
    (h0 : J [] W) :
    CallsIn Fence.wide n Try.prog 60 #[.func (.yield l) #[] #[], .pointer (some ⟨Bm, 0, none⟩)] W fun e W' => (∃ v, e = .returned v) ∧ ((∃ xs, KeysOfS S xs ∧ J xs W') ∨ (∃ pre, True ∧ Jx pre W')) := by
  have mixed := mixed
  obtain ⟨D, hown, hT⟩ := hP
  have hsl := hown.size_le
  refine callsIn_of_wp Try.func60 rfl trivial ?_ rfl
  simp only [Try.ntmps60, List.size_toArray, List.length_cons, List.length_nil, Nat.reduceAdd, Nat.reduceSub, Array.replicate_succ, Array.replicate_zero, List.push_toArray, List.append_toArray, List.nil_append, List.cons_append]
  gi_wp2_with (first
    | (gi_at_range; refine wpListIn_range_own _ rfl _ 63 rfl 24 74 law Try.underlying63 _ m S.length _ rfl hown ?_; intro w0 hrg0 hg0 hs0)
    | gi_in)
  go_frame
  gi_loopw [3] (fun _ wr => ∃ (left : Lit → Bool) (cnt : Nat) (cs : List Dt), wr.ranges Try.prog 24 plR m W.heap.size S.length D left cnt ∧ cs.length + cnt ≤ Maps.size D ∧ Coll D left cs ∧ J cs wr)
    (fun _ wr => wr.rangeLeft m W.heap.size)
  case atStart =>
    exact ⟨_, _, [], hrg0, by simp, coll_start D, hJ [] W w0 none h0 hg0 (fun r e => by cases e)⟩
  case round =>
    obtain ⟨left, cnt, cs, hrg, hcs, hC, hJs⟩ := hrel
    gi_wp2_with (first
      | (gi_at_next; refine wpListIn_next_ranges _ rfl _ rfl 24 law plR dv id (fun key kl hk => by obtain ⟨x, hx, _⟩ := keyOf_dot_inv hk; exact ⟨x, hx⟩) (fun v _ _ => ⟨v, rfl⟩) m W.heap.size S.length _ _ _ rfl hrg ?_ ?_)
      | gi_in)
    · intro hc0 hl0
      gi_wp2
      go_end0
      exact ⟨⟨_, rfl⟩, Or.inl ⟨cs, ⟨hC.1, hC.2.1, fun d hd => by rw [hC.2.2 d hd, (hT d hd).1]; simp [hl0]⟩, hJs⟩⟩
    · intro x1 x2 c kk yd yp w2 cnt2 hkey hlk hv hat hrg2 hlt hg2 hs2 hen
      obtain ⟨x', ex, hxw, rfl⟩ := keyOf_dot_inv hkey
      obtain rfl : (x1, x2) = x' := (agg_eq (x1, x2) x').1 ex
      have hwl : W.heap.size < wr.heap.size := hrg.lt
      have hJ2 : J cs w2 := hJ cs wr w2 (some W.heap.size) hJs hg2 (fun r e => by
        cases e
        obtain ⟨es, clock, since, seen, c0, _, _, _, _, hr, _⟩ := hrg
        exact ⟨Nat.le_refl _, _, hr, Or.inl rfl⟩)
      have hJ3 := hJ2
      replace hJ3 : J cs (w2.alloc (.cells #[.int .i64 x1, .int .i64 x2] 24)) := hJ.alloc _ hJ2
      have hrg3 := hrg2.alloc (.cells #[.int .i64 x1, .int .i64 x2] 24)
      obtain ⟨fn, tmps, assign, body, hy, hR⟩ := hY cs (x1, x2) _ hJ3 (by omega)
      unfold dv at hy
      clear hs2
      gi_wp2
      refine ⟨fun h => by simp [Fence.wide] at h, hR.mono ?_⟩
      rintro e W3 (⟨rfl, hJ4, hk4, hf4⟩ | ⟨rfl, hJ4, hf4⟩)
      · gi_wp2
        have hrg4 := ranges_kept hrg3 (fun es c he => hk4.maps m hm es c he) (fun o ho hc => hf4.same _ o (Nat.le_refl _) ho hc)
        go_roundw
        case rel => exact ⟨_, cnt2, cs ++ [(x1, x2)], hrg4, by simp; omega, hC.step hxw hlk hat, hJ4⟩
        case measure => rw [hrg4.left_eq, hrg.left_eq]; exact hlt
      · gi_wp2
        refine bodyPost_ret (results_none rfl _ _ _) rfl ?_
        exact ⟨⟨_, rfl⟩, Or.inr ⟨_, trivial, hJ4⟩⟩

/-- Of a map that is none. -/
theorem keys_none (n l Bm : Nat) (J Jx : List Dt → World → Prop) (W : World) (c1 : W.cell? ⟨Bm, 0, none⟩ = some (.map none)) (hJ : OwnT W.heap.size J) (h0 : J [] W) :
    CallsIn Fence.wide n Try.prog 60 #[.func (.yield l) #[] #[], .pointer (some ⟨Bm, 0, none⟩)] W fun e W' => (∃ v, e = .returned v) ∧ ((∃ xs, KeysOfS [] xs ∧ J xs W') ∨ (∃ pre, True ∧ Jx pre W')) := by
  have mixed := mixed
  refine callsIn_of_wp Try.func60 rfl trivial ?_ rfl
  simp only [Try.ntmps60, List.size_toArray, List.length_cons, List.length_nil, Nat.reduceAdd, Nat.reduceSub, Array.replicate_succ, Array.replicate_zero, List.push_toArray, List.append_toArray, List.nil_append, List.cons_append]
  have hrg := run_range_nilMap (P := Try.prog) W 63 24 74 Try.underlying63
  have hnx : ∀ ty, (Instr.next (.pointer (some ⟨W.heap.size, 0, none⟩)) false ty).run Try.prog (W.alloc (.mapIter none 0 #[] 0)) = _ := fun ty => run_next_nilMap _ ty 0 0 #[]
  gi_wp2
  refine wpIn_loop_rounds 1 ?_
  rw [roundsIn_succ]
  gi_wp2
  go_end0
  exact ⟨⟨_, rfl⟩, Or.inl ⟨[], ⟨List.nodup_nil, fun d hd => by simp at hd, fun d _ => by simp [lk]⟩, hJ [] W _ none h0 (World.grownBy_alloc W _ none) (fun r e => by cases e)⟩⟩
end

section
set_option linter.unusedVariables false
set_option linter.unusedSimpArgs false
open Go.RowKit Go.Shelf

attribute [local go_sem] Oper.semAt_some

theorem keys_made (mo : Option Nat) (w : World) : Calls Try.prog 38 #[.map mo] w fun e w' => e = .returned (.func (.func 60) #[] #[.pointer (some ⟨w.heap.size, 0, none⟩)]) ∧ w' = w.alloc (.cells #[.map mo] 63) := by
  go_enter Try.func38, Try.ntmps38
  go_wp2
  go_ret
  refine ⟨?_, ?_⟩
  · first | rfl | simp
  · first | rfl | simp

/-- What was there is as it was. -/
def NB (w w' : World) : Prop := w.heap.size ≤ w'.heap.size ∧ (∀ j, j < w.heap.size → w'.heap[j]? = w.heap[j]?) ∧ Sm w w'
theorem NB.trans {a b c : World} (h : NB a b) (k : NB b c) : NB a c := ⟨Nat.le_trans h.1 k.1, fun j hj => (k.2.1 j (Nat.lt_of_lt_of_le hj h.1)).trans (h.2.1 j hj), h.2.2.trans k.2.2⟩
theorem NB.of {w w' : World} (h : Below w.heap.size w w') : NB w w' := ⟨h.size, fun j hj => h.block j hj, Sm.b h⟩
theorem NB.ka {w w' : World} {A : Nat → Prop} (h : NB w w') : KA w w' A A := KA.refl h.1 h.2.1 h.2.2

/-- What the closure does, where the map lies below. -/
theorem keys_seq {w : World} {n n₀ Bm : Nat} {own : Nat → Prop} {mv : Value} {S : List Sp} (hn0 : n₀ ≤ w.heap.size) (c1 : w.cell? ⟨Bm, 0, none⟩ = some mv) (hP : PlB n₀ w mv S) :
    SeqU n Try.prog 60 #[.pointer (some ⟨Bm, 0, none⟩)] (fun x : Dt => #[Value.agg #[.int .i64 x.1, .int .i64 x.2]]) (KU n₀ own) (KeysOfS S) (fun _ => True) S.length w := fun l J Jx W hb hJ hJx hY h0 => by
  have c1' := (hb.cell (p := ⟨Bm, 0, none⟩) (cell_in c1)).trans c1
  rcases hP with ⟨rfl, rfl⟩ | ⟨m, rfl, hm, hP⟩
  · exact keys_none n l Bm J Jx W c1' hJ h0
  · exact keys_in n l n₀ Bm m own S J Jx W (Nat.le_trans hn0 hb.size) hm c1' (hP.same (hb.block m (by omega))) hJ hJx hY h0

set_option maxRecDepth 100000 in
set_option maxHeartbeats 4000000 in
theorem append_any (Bm : Nat) (mv : Value) (S : List Sp) (w : World) (c1 : w.cell? ⟨Bm, 0, none⟩ = some mv) (hP : PlV w mv S) (hs : S.length ≤ 1000000) :
    Calls Try.prog 59 #[.slice none 0 0, .func (.func 60) #[] #[.pointer (some ⟨Bm, 0, none⟩)]] w fun e w' => ∃ v xs, e = .returned v ∧ KeysOfS S xs ∧ w'.ownsRow w.heap.size 24 2 v xs.length (flat xs) ∧ NB w w' := by
  obtain ⟨i0, hi, hz0, hz1, hz2⟩ := info_parts Try.infoDD
  obtain ⟨V, hV⟩ : ∃ V, V = w.alloc (.cells #[.slice none 0 0] 29) := ⟨_, rfl⟩
  have hbV : Below w.heap.size w V := by rw [hV]; exact (Below.refl _ w).alloc (Nat.le_refl _) _
  have hVz : V.heap.size = w.heap.size + 1 := by rw [hV]; simp
  have hbx : V.heap[w.heap.size]? = some (.cells #[.slice none 0 0] 29 (0, 0)) := by rw [hV]; exact World.alloc_heap_new w _
  obtain ⟨Bs, hBs'⟩ : ∃ Bs, Bs = w.heap.size := ⟨_, rfl⟩
  have hBs : Bs < V.heap.size := by omega
  have HNs : Hid (S.length ≤ 1000000) := hid hs
  have hI0 : RI V Bs [] V := ⟨⟨_, by rw [hBs']; exact hbx, World.ownsRow_nil _ _ _ _⟩, Nat.le_refl _, fun j _ _ => rfl, Sm.refl _⟩
  have hseq : SeqU (3 - 1) Try.prog 60 #[.pointer (some ⟨Bm, 0, none⟩)] (fun x : Dt => #[Value.agg #[.int .i64 x.1, .int .i64 x.2]]) (KU V.heap.size (fun k => V.heap.size ≤ k ∨ k = Bs)) (KeysOfS S) (fun _ => True) S.length V :=
    keys_seq (mv := mv) (Nat.le_refl _) ((hbV.cell (p := ⟨Bm, 0, none⟩) (cell_in c1)).trans c1) (hP.below hbV).b
  have HB := hid hBs'
  have HV := hid hV
  have HVZ := hid hVz
  have HBV := hid hbV
  clear hs hV hVz hbV hbx hBs' c1 hP
  refine (callsIn_wide (n := 3)).1 ?_
  refine callsIn_of_wp_marks Try.func59 rfl trivial ?_ rfl
  simp only [Try.ntmps59, List.size_toArray, List.length_cons, List.length_nil, Nat.reduceAdd, Nat.reduceSub, Array.replicate_succ, Array.replicate_zero, List.push_toArray, List.append_toArray, List.nil_append, List.cons_append]
  gi_wp2_with fail
  rw [← HV.out, ← HB.out]
  refine range_up (α := Dt) (gf := 60) rfl (enters_of Try.func60 (by kernel_rfl) rfl) hseq (fun h k => h.trans k) (fun W l o o' hl ho hc _ => KU.put W l o o' hl ho hc) (Below.refl _ _) (fun _ => rfl)
    (RI V Bs) (fun _ _ _ => False) (RI.own hBs) (fun _ _ _ _ _ h _ _ => h) hI0
    (fun x a' W => ∃ u, a' = { tmps := #[.slice none 0 0, .func (.func 60) #[] #[.pointer (some ⟨Bm, 0, none⟩)], .pointer (some ⟨Bs, 0, none⟩), undef, .slice none 0 0, .pointer (some ⟨u, 0, none⟩), .func (.func 60) #[] #[.pointer (some ⟨Bm, 0, none⟩)], .agg #[.int .i64 x.1, .int .i64 x.2], undef, undef, undef, undef, undef], defers := [] } ∧ W.heap[u]? = some (.cells #[.int .i64 x.1, .int .i64 x.2] 24 (0, 0)) ∧ V.heap.size ≤ u) ?ownax ?assign ?body ?done (fun _ _ _ _ _ _ h _ => h.elim)
  case ownax =>
    rintro x a' _ A B row ⟨u, e, h1, h2⟩ hg hrow
    refine ⟨u, e, (hg.block u (Array.getElem?_eq_some_iff.1 h1).1 (fun e' => ?_)).trans h1, h2⟩
    obtain ⟨_, ob, hob, ht'⟩ := hrow u e'.symm
    rw [h1] at hob
    cases hob
    rcases ht' with ht' | ⟨cs, fz, ht'⟩
    · cases ht'
    · cases ht'
  case assign =>
    rintro l pre x W K hI hK
    have hg := World.grownBy_alloc W (.cells #[.int .i64 x.1, .int .i64 x.2] 24) none
    have hfin := hid (hK { tmps := #[.slice none 0 0, .func (.func 60) #[] #[.pointer (some ⟨Bm, 0, none⟩)], .pointer (some ⟨Bs, 0, none⟩), undef, .slice none 0 0, .pointer (some ⟨W.heap.size, 0, none⟩), .func (.func 60) #[] #[.pointer (some ⟨Bm, 0, none⟩)], .agg #[.int .i64 x.1, .int .i64 x.2], undef, undef, undef, undef, undef], defers := [] } (W.alloc (.cells #[.int .i64 x.1, .int .i64 x.2] 24)) (KeepsFrom.of_grownBy hg (fun j e => by cases e)) (KU.below ((Below.refl _ W).alloc (Nat.le_refl _) _) hI.size) (hI.alloc hBs _) ⟨W.heap.size, rfl, World.alloc_heap_new W _, hI.size⟩)
    clear hK hg hI
    gi_wp2
    exact hfin.out
  case body =>
    rintro l' pre x a' W ⟨⟨v, h1, h2⟩, h3, h4, h5⟩ ⟨u, rfl, hu, hul⟩ hlen
    obtain ⟨x1, x2⟩ := x
    have e0 : W.cell? ⟨u, 0, none⟩ = some (.int .i64 x1) := by simp [World.cell?, hu]
    have e1 : W.cell? ⟨u, 1, none⟩ = some (.int .i64 x2) := by simp [World.cell?, hu]
    have cb := h1.cell
    have hpl : pre.length < 1000000 := Nat.lt_of_lt_of_le hlen HNs.out
    gi_wp2_with (first
      | (gi_at_builtin; refine wpListIn_append_own _ rfl _ _ 29 rfl V.heap.size 24 i0 (.agg #[.int .i64 0, .int .i64 0]) 2 16 Try.underlying29 hi hz0 hz1 hz2 rfl (by decide) _ _ _ rfl (h2.alloc _) ⟨W.heap.size, 0, none⟩ 1 1 [.int .i64 x1, .int .i64 x2] rfl rfl (cell_two _ _ _) (by simp [Value.oneCell']) (by unfold maxLen; omega) (by omega) (by simp; omega) ?_; intro v' w2 hown' hg hnil; obtain ⟨g', cap', rfl⟩ := ownsRow_succ hown'; obtain ⟨q1, q2, HQ⟩ := RI.app (x := (x1, x2)) hBs h3 h4 h5 h1 h2 hown' hg; clear hown' hg hnil)
      | gi_in)
    exact ⟨HQ.out.2.1, HQ.out.2.2, HQ.out.1⟩

  case done =>
    rintro D ys W hD hS' ⟨⟨v, h1, h2⟩, h3, h4, h5⟩ hK
    have cb := h1.cell
    have hz := HVZ.out
    have hfin : Hid (∃ v' xs, Ending.returned v = .returned v' ∧ KeysOfS S xs ∧ (W.putObj D (.deferred none)).ownsRow w.heap.size 24 2 v' xs.length (flat xs) ∧ NB w (W.putObj D (.deferred none))) := hid ⟨v, ys, rfl, hS', owns_base (ownsRow_putObj h2 (.deferred none) hK rfl) (by omega), ⟨by simp [World.putObj]; omega, fun j hj => (World.putObj_heap_other (by omega)).trans ((h4 j (by omega) (by rw [HB.out]; omega)).trans (HBV.out.block j hj)), (Sm.b HBV.out).trans (h5.trans ⟨rfl, rfl, rfl⟩)⟩⟩
    clear h1 h2 h3 h4 hz
    gi_wp2
    refine ⟨by simp, .inl ⟨_, _, rfl, run_takeDeferred hK, ?_⟩⟩
    refine ⟨_, results_tmp rfl _ _ _, ?_⟩
    exact hfin.out

theorem collect_any (Bm : Nat) (mv : Value) (S : List Sp) (w : World) (c1 : w.cell? ⟨Bm, 0, none⟩ = some mv) (hP : PlV w mv S) (hs : S.length ≤ 1000000) :
    Calls Try.prog 37 #[.func (.func 60) #[] #[.pointer (some ⟨Bm, 0, none⟩)]] w fun e w' => ∃ v xs, e = .returned v ∧ KeysOfS S xs ∧ w'.ownsRow w.heap.size 24 2 v xs.length (flat xs) ∧ NB w w' := by
  have HA := (append_any Bm mv S w c1 hP hs).mono (R' := fun e w' => ∃ v, e = .returned v ∧ Hid (∃ xs, KeysOfS S xs ∧ w'.ownsRow w.heap.size 24 2 v xs.length (flat xs) ∧ NB w w')) (fun e w' h => by
    obtain ⟨v, xs, h1, h2⟩ := h
    exact ⟨v, h1, hid ⟨xs, h2⟩⟩)
  clear c1 hP hs
  go_enter Try.func37, Try.ntmps37
  go_wp2_with (go_at_call 59; refine HA.mono ?_; rintro e W ⟨v, rfl, HF⟩)
  go_ret
  obtain ⟨xs, h⟩ := HF.out
  exact ⟨v, xs, rfl, h⟩
end

section
set_option linter.unusedVariables false
set_option linter.unusedSimpArgs false
open Go.RowKit Go.Shelf

attribute [local go_sem] Oper.semAt_some

theorem Tk.pth_len {S : List Sp} {r : Dt → Nat} (h : Tk S r) (b : Dt) : (pth S b).length ≤ S.length := by
  unfold pth
  exact h.up_len _ _

set_option maxRecDepth 100000 in
set_option maxHeartbeats 4000000 in
theorem path_tt (t : Nat) (l : List Mv) (A : Nat → Prop) (d : Dt) (w : World) (h : TT w t l A) (hd : Dw d) :
    Calls Try.prog 20 #[.pointer (some ⟨t, 0, none⟩), dv d] w fun e w' => ∃ A', RowOf w w' A' (pth (run l) d) e ∧ TT w' t l A' ∧ KA w w' A A' := by
  obtain ⟨d1, d2⟩ := d
  have hmxo : Try.prog.follows .mixedOrders = true := by kernel_rfl
  obtain ⟨i0, hi, hz0, hz1, hz2⟩ := info_parts Try.infoDD
  obtain ⟨W0, hW0⟩ : ∃ W0, W0 = (w.alloc (.cells #[.int .i64 d1, .int .i64 d2] 24)).alloc (.cells #[.slice none 0 0] 29) := ⟨_, rfl⟩
  have hB0 : Below w.heap.size w W0 := by rw [hW0]; exact ((Below.refl _ w).alloc (Nat.le_refl _) _).alloc (by simp) _
  have hsz : W0.heap.size = w.heap.size + 2 := by rw [hW0]; simp
  have hb0 : W0.heap[w.heap.size]? = some (.cells #[.int .i64 d1, .int .i64 d2] 24 (0, 0)) := by rw [hW0]; exact (Below.heap_alloc _ _ _ (by simp)).trans (World.alloc_heap_new w _)
  have hb1 : W0.heap[w.heap.size + 1]? = some (.cells #[.slice none 0 0] 29 (0, 0)) := by
    rw [hW0]
    have := World.alloc_heap_new (w.alloc (.cells #[.int .i64 d1, .int .i64 d2] 24)) (.cells #[.slice none 0 0] 29)
    rw [World.size_alloc] at this
    exact this
  have hT0 : TT W0.drew t l A := (h.below hB0).same (Nat.le_refl _) (fun j _ => rfl)
  have hAH : ∀ j, w.heap.size ≤ j → ¬ A j := fun j hj e => by have := h.lt _ e; omega
  have HN := (now_tt hT0).mono (R' := fun e W1 => e = .returned (.pointer (some ⟨t, 3, none⟩)) ∧ (W1.cell? ⟨w.heap.size, 0, none⟩ = some (.int .i64 d1) ∧ W1.cell? ⟨w.heap.size, 1, none⟩ = some (.int .i64 d2)) ∧ Calls Try.prog 41 #[.pointer (some ⟨t, 3, none⟩), .agg #[.int .i64 d1, .int .i64 d2]] W1 fun e V => e = .returned (.func (.func 62) #[] #[.pointer (some ⟨W1.heap.size, 0, none⟩), .pointer (some ⟨W1.heap.size + 1, 0, none⟩)]) ∧ (V.cell? ⟨w.heap.size, 0, none⟩ = some (.int .i64 d1) ∧ V.cell? ⟨w.heap.size, 1, none⟩ = some (.int .i64 d2)) ∧ Hid (∃ S r pl A', V.heap.size = W1.heap.size + 2 ∧ Tk S r ∧ Ws S ∧ S.length ≤ 1000 ∧ (∀ d, pth S d = pth (run l) d) ∧ V.cell? ⟨W1.heap.size, 0, none⟩ = some (.pointer (some ⟨t, 3, none⟩)) ∧ V.cell? ⟨t, 3, none⟩ = some pl ∧ V.cell? ⟨W1.heap.size + 1, 0, none⟩ = some (.int .i64 d1) ∧ V.cell? ⟨W1.heap.size + 1, 1, none⟩ = some (.int .i64 d2) ∧ PlB V.heap.size V pl S ∧ V.heap[w.heap.size + 1]? = some (.cells #[.slice none 0 0] 29 (0, 0)) ∧ TT V t l A' ∧ KA w V A A' ∧ ¬ A' (w.heap.size + 1) ∧ w.heap.size + 2 ≤ W1.heap.size)) (fun e W1 hh => by
    obtain ⟨e1, gs, S, lg, fd, pl, kd, fl, B, A', h1, h2, h3, h4, h5⟩ := hh
    obtain ⟨q1, q2, q3, q4⟩ := h1.lk_run
    obtain ⟨r, hr⟩ := h1.tk
    obtain ⟨s1, s2, s3⟩ := h1.spots
    have hz : W0.heap.size ≤ W1.heap.size := h5.size
    have c0 : W1.heap[w.heap.size]? = _ := (h5.keep w.heap.size (by show _ < W0.heap.size; omega) (hAH _ (Nat.le_refl _))).trans hb0
    have c1 : W1.heap[w.heap.size + 1]? = _ := (h5.keep (w.heap.size + 1) (by show _ < W0.heap.size; omega) (hAH _ (by omega))).trans hb1
    have htb := h1.tb
    unfold TB at htb
    have htw := (Array.getElem?_eq_some_iff.1 htb).1
    refine ⟨e1, ⟨by simp [World.cell?, c0], by simp [World.cell?, c0]⟩, ?_⟩
    refine (up_made t 3 (d1, d2) W1).mono ?_
    rintro e V ⟨e2, hV⟩
    have hbV : Below W1.heap.size W1 V := by rw [hV]; exact ((Below.refl _ W1).alloc (Nat.le_refl _) _).alloc (by simp) _
    have hVz : V.heap.size = W1.heap.size + 2 := by rw [hV]; simp
    have k0 := (hbV.block w.heap.size (by omega)).trans c0
    have k1 := (hbV.block (w.heap.size + 1) (by omega)).trans c1
    have kt := (hbV.block t htw).trans htb
    have b0 : V.heap[W1.heap.size]? = some (.cells #[.pointer (some ⟨t, 3, none⟩)] 86 (0, 0)) := by rw [hV]; exact (Below.heap_alloc _ _ _ (by simp)).trans (World.alloc_heap_new W1 _)
    have b1 : V.heap[W1.heap.size + 1]? = some (.cells #[.int .i64 d1, .int .i64 d2] 24 (0, 0)) := by
      rw [hV]
      have := World.alloc_heap_new (W1.alloc (.cells #[.pointer (some ⟨t, 3, none⟩)] 86)) (.cells #[.int .i64 d1, .int .i64 d2] 24)
      rw [World.size_alloc] at this
      exact this
    refine ⟨e2, ⟨by simp [World.cell?, k0], by simp [World.cell?, k0]⟩, hid ⟨S, r, pl, A', hVz, hr, s1, s3, q4, by simp [World.cell?, b0], by simp [World.cell?, kt], by simp [World.cell?, b1], by simp [World.cell?, b1], (h1.sb.v.below hbV).b, k1, (h1.tt h2 h3 h4).below hbV, ?_, fun e => ?_, by omega⟩⟩
    · exact (KA.pre h.lt (hB0.trans ((((Far.refl W0).drewN 1).below).mono hB0.size)) h5).post hbV
    · rcases h5.new _ e with e | e
      · exact hAH _ (by omega) e
      · have : W0.drew.heap.size = W0.heap.size := rfl
        omega)
  have hS0 : W0.drew.cell? ⟨w.heap.size, 0, none⟩ = some (.int .i64 d1) ∧ W0.drew.cell? ⟨w.heap.size, 1, none⟩ = some (.int .i64 d2) := ⟨by show W0.cell? _ = _; simp [World.cell?, hb0], by show W0.cell? _ = _; simp [World.cell?, hb0]⟩
  have HW := hid hW0
  have hTw : t < w.heap.size := h.lt t h.at_
  clear hW0 hB0 hb0 hb1 hAH hT0 h hsz
  refine (callsIn_wide (n := 3)).1 ?_
  refine callsIn_of_wp_marks Try.func20 rfl trivial ?_ rfl
  simp only [Try.ntmps20, List.size_toArray, List.length_cons, List.length_nil, Nat.reduceAdd, Nat.reduceSub, Array.replicate_succ, Array.replicate_zero, List.push_toArray, List.append_toArray, List.nil_append, List.cons_append]
  gi_wp2_with fail
  rw [← HW.out]
  refine wpIn_wide.2 ?_
  refine wp_region_held_drew (S := fun w' => w'.cell? ⟨w.heap.size, 0, none⟩ = some (.int .i64 d1) ∧ w'.cell? ⟨w.heap.size, 1, none⟩ = some (.int .i64 d2)) hmxo hS0 ?_
  intro _
  obtain ⟨y0, y1⟩ := hS0
  have hS0 := And.intro y0 y1
  refine wpAnyH_ready (rs := [0, 2]) (by kernel_rfl) (by simp) ?_
  refine AllReadyH.cons rfl (fun K hK => ?_) (AllReadyH.cons rfl (fun K hK => ?_) AllReadyH.nil)
  · go_simp
    refine hK.out _ _ hS0 (fun _ => ?_)
    clear hK K
    refine wpAnyH_ready (rs := [1, 2]) (by kernel_rfl) (by simp) ?_
    refine AllReadyH.cons rfl (fun K hK => ?_) (AllReadyH.cons rfl (fun K hK => ?_) AllReadyH.nil)
    · go_simp
      refine HN.mono ?_
      rintro e W1 ⟨rfl, S1, HU⟩
      refine hK.out _ _ S1 (fun _ => ?_)
      clear hK K
      clear y0 y1
      obtain ⟨y0, y1⟩ := S1
      have S1 := And.intro y0 y1
      refine wpAnyH_ready (rs := [2]) (by kernel_rfl) (by simp) ?_
      refine AllReadyH.cons rfl (fun K hK => ?_) AllReadyH.nil
      go_simp
      refine hK.out _ _ S1 (fun _ => ?_)
      clear hK K
      refine wpAnyH_ready (rs := [3]) (by kernel_rfl) (by simp) ?_
      refine AllReadyH.cons rfl (fun K hK => ?_) AllReadyH.nil
      go_simp
      refine HU.mono ?_
      rintro e V ⟨rfl, S2, HF⟩
      refine hK.out _ _ S2 (fun _ => ?_)
      clear hK K
      refine wpAnyH_done (by kernel_rfl) ?_ _
      clear HN HU S1 S2 hS0
      obtain ⟨ub, hub⟩ : ∃ ub, ub = W1.heap.size := ⟨_, rfl⟩
      rw [← hub] at HF ⊢
      clear hub
      obtain ⟨S, r, pl, A', hVz, hr, s1, s3, q4, b0, bt, b1, b2, hP, hbx, hTT, hKA, hnA, hub⟩ := HF.out
      clear HF
      obtain ⟨Bs, hBs'⟩ : ∃ Bs, Bs = w.heap.size + 1 := ⟨_, rfl⟩
      have hBs : Bs < V.heap.size := by omega
      have HNs : Hid ((pth S (d1, d2)).length ≤ 1000000) := hid (by have := hr.pth_len (d1, d2); omega)
      have hI0 : RI V Bs [] V := ⟨⟨_, by rw [hBs']; exact hbx, World.ownsRow_nil _ _ _ _⟩, Nat.le_refl _, fun j _ _ => rfl, Sm.refl _⟩
      have hseq : SeqU (3 - 1) Try.prog 62 #[.pointer (some ⟨ub, 0, none⟩), .pointer (some ⟨ub + 1, 0, none⟩)] (fun x : Dt => #[Value.agg #[.int .i64 x.1, .int .i64 x.2]]) (KU V.heap.size (fun k => V.heap.size ≤ k ∨ k = Bs)) (fun xs => xs = pth S (d1, d2)) (fun pre => pre <+: pth S (d1, d2)) (pth S (d1, d2)).length V :=
        up_seq (t := t) (o := 3) (mv := pl) (fun k h1 h2 => by omega) hr s1 hd (Nat.le_refl _) (by omega) (by omega) (by omega) b0 bt b1 b2 hP
      have HB := hid hBs'
      have HVZ := hid hVz
      clear hVz
      gi_wp2_with fail
      rw [← hBs']
      clear hBs' hr s1 s3 b0 bt b1 b2 hP hbx
      refine range_up (α := Dt) (gf := 62) rfl (enters_of Try.func62 (by kernel_rfl) rfl) hseq (fun h k => h.trans k) (fun W l o o' hl ho hc _ => KU.put W l o o' hl ho hc) (Below.refl _ _) (fun _ => rfl)
        (RI V Bs) (fun _ _ _ => False) (RI.own hBs) (fun _ _ _ _ _ h _ _ => h) hI0
        (fun x a' W => ∃ u, a' = { tmps := #[.pointer (some ⟨t, 0, none⟩), .agg #[.int .i64 d1, .int .i64 d2], undef, .pointer (some ⟨w.heap.size, 0, none⟩), .slice none 0 0, .pointer (some ⟨Bs, 0, none⟩), .pointer (some ⟨u, 0, none⟩), .pointer (some ⟨t, 0, none⟩), .pointer (some ⟨t, 3, none⟩), .agg #[.int .i64 d1, .int .i64 d2], .func (.func 62) #[] #[.pointer (some ⟨ub, 0, none⟩), .pointer (some ⟨ub + 1, 0, none⟩)], .agg #[.int .i64 x.1, .int .i64 x.2], undef, undef, undef, undef, undef], defers := [] } ∧ W.heap[u]? = some (.cells #[.int .i64 x.1, .int .i64 x.2] 24 (0, 0)) ∧ V.heap.size ≤ u) ?ownax ?assign ?body ?done (fun _ _ _ _ _ _ h _ => h.elim)
      case ownax =>
        rintro x a' _ A B row ⟨u, e, h1, h2⟩ hg hrow
        refine ⟨u, e, (hg.block u (Array.getElem?_eq_some_iff.1 h1).1 (fun e' => ?_)).trans h1, h2⟩
        obtain ⟨_, ob, hob, ht'⟩ := hrow u e'.symm
        rw [h1] at hob
        cases hob
        rcases ht' with ht' | ⟨cs, fz, ht'⟩
        · cases ht'
        · cases ht'
      case assign =>
        rintro l pre x W K hI hK
        have hg := World.grownBy_alloc W (.cells #[.int .i64 x.1, .int .i64 x.2] 24) none
        have hfin := hid (hK { tmps := #[.pointer (some ⟨t, 0, none⟩), .agg #[.int .i64 d1, .int .i64 d2], undef, .pointer (some ⟨w.heap.size, 0, none⟩), .slice none 0 0, .pointer (some ⟨Bs, 0, none⟩), .pointer (some ⟨W.heap.size, 0, none⟩), .pointer (some ⟨t, 0, none⟩), .pointer (some ⟨t, 3, none⟩), .agg #[.int .i64 d1, .int .i64 d2], .func (.func 62) #[] #[.pointer (some ⟨ub, 0, none⟩), .pointer (some ⟨ub + 1, 0, none⟩)], .agg #[.int .i64 x.1, .int .i64 x.2], undef, undef, undef, undef, undef], defers := [] } (W.alloc (.cells #[.int .i64 x.1, .int .i64 x.2] 24)) (KeepsFrom.of_grownBy hg (fun j e => by cases e)) (KU.below ((Below.refl _ W).alloc (Nat.le_refl _) _) hI.size) (hI.alloc hBs _) ⟨W.heap.size, rfl, World.alloc_heap_new W _, hI.size⟩)
        clear hK hg hI
        gi_wp2
        exact hfin.out
      case body =>
        rintro l' pre x a' W ⟨⟨v, h1, h2⟩, h3, h4, h5⟩ ⟨u, rfl, hu, hul⟩ hlen
        obtain ⟨x1, x2⟩ := x
        have e0 : W.cell? ⟨u, 0, none⟩ = some (.int .i64 x1) := by simp [World.cell?, hu]
        have e1 : W.cell? ⟨u, 1, none⟩ = some (.int .i64 x2) := by simp [World.cell?, hu]
        have cb := h1.cell
        have hpl : pre.length < 1000000 := Nat.lt_of_lt_of_le hlen HNs.out
        gi_wp2_with (first
          | (gi_at_builtin; refine wpListIn_append_own _ rfl _ _ 29 rfl V.heap.size 24 i0 (.agg #[.int .i64 0, .int .i64 0]) 2 16 Try.underlying29 hi hz0 hz1 hz2 rfl (by decide) _ _ _ rfl (h2.alloc _) ⟨W.heap.size, 0, none⟩ 1 1 [.int .i64 x1, .int .i64 x2] rfl rfl (cell_two _ _ _) (by simp [Value.oneCell']) (by unfold maxLen; omega) (by omega) (by simp; omega) ?_; intro v' w2 hown' hg hnil; obtain ⟨g', cap', rfl⟩ := ownsRow_succ hown'; obtain ⟨q1, q2, HQ⟩ := RI.app (x := (x1, x2)) hBs h3 h4 h5 h1 h2 hown' hg; clear hown' hg hnil)
          | gi_in)
        exact ⟨HQ.out.2.1, HQ.out.2.2, HQ.out.1⟩

      case done =>
        rintro D ys W hD hS' ⟨⟨v, h1, h2⟩, h3, h4, h5⟩ hK
        subst hS'
        rw [q4] at h2
        have cb := h1.cell
        have hfin : Hid (∃ A'', RowOf w (W.putObj D (.deferred none)) A'' (pth (run l) (d1, d2)) (.returned v) ∧ TT (W.putObj D (.deferred none)) t l A'' ∧ KA w (W.putObj D (.deferred none)) A A'') := hid ⟨A', ⟨v, rfl, owns_base (ownsRow_putObj h2 (.deferred none) hK rfl) hKA.size, fun j hj e => by have := (h2.lt j hj).1; have := hTT.lt j e; omega⟩, hTT.same (by simp [World.putObj]; omega) (fun j hj => (World.putObj_heap_other (by have := hTT.lt j hj; omega)).trans (h4 j (hTT.lt j hj) (fun e => hnA (by rw [← HB.out, ← e]; exact hj)))), by have := hKA.size; simp [World.putObj]; omega, fun j hj hA => (World.putObj_heap_other (by have := hKA.size; omega)).trans ((h4 j (by have := hKA.size; omega) (by rw [HB.out]; omega)).trans (hKA.keep j hj hA)), hKA.new, hKA.sm.trans (h5.trans ⟨rfl, rfl, rfl⟩)⟩
        clear h1 h2 h3 h4 hKA hTT hnA
        gi_wp2
        refine ⟨by simp, .inl ⟨_, _, rfl, run_takeDeferred hK, ?_⟩⟩
        refine ⟨_, results_tmp rfl _ _ _, ?_⟩
        exact hfin.out
    · go_simp
      refine hK.out _ _ hS0 (fun _ => ?_)
      clear hK K
      refine wpAnyH_ready (rs := [1]) (by kernel_rfl) (by simp) ?_
      refine AllReadyH.cons rfl (fun K hK => ?_) AllReadyH.nil
      go_simp
      refine HN.mono ?_
      rintro e W1 ⟨rfl, S1, HU⟩
      refine hK.out _ _ S1 (fun _ => ?_)
      clear hK K
      refine wpAnyH_ready (rs := [3]) (by kernel_rfl) (by simp) ?_
      refine AllReadyH.cons rfl (fun K hK => ?_) AllReadyH.nil
      go_simp
      refine HU.mono ?_
      rintro e V ⟨rfl, S2, HF⟩
      refine hK.out _ _ S2 (fun _ => ?_)
      clear hK K
      refine wpAnyH_done (by kernel_rfl) ?_ _
      clear HN HU S1 S2 hS0
      obtain ⟨ub, hub⟩ : ∃ ub, ub = W1.heap.size := ⟨_, rfl⟩
      rw [← hub] at HF ⊢
      clear hub
      obtain ⟨S, r, pl, A', hVz, hr, s1, s3, q4, b0, bt, b1, b2, hP, hbx, hTT, hKA, hnA, hub⟩ := HF.out
      clear HF
      obtain ⟨Bs, hBs'⟩ : ∃ Bs, Bs = w.heap.size + 1 := ⟨_, rfl⟩
      have hBs : Bs < V.heap.size := by omega
      have HNs : Hid ((pth S (d1, d2)).length ≤ 1000000) := hid (by have := hr.pth_len (d1, d2); omega)
      have hI0 : RI V Bs [] V := ⟨⟨_, by rw [hBs']; exact hbx, World.ownsRow_nil _ _ _ _⟩, Nat.le_refl _, fun j _ _ => rfl, Sm.refl _⟩
      have hseq : SeqU (3 - 1) Try.prog 62 #[.pointer (some ⟨ub, 0, none⟩), .pointer (some ⟨ub + 1, 0, none⟩)] (fun x : Dt => #[Value.agg #[.int .i64 x.1, .int .i64 x.2]]) (KU V.heap.size (fun k => V.heap.size ≤ k ∨ k = Bs)) (fun xs => xs = pth S (d1, d2)) (fun pre => pre <+: pth S (d1, d2)) (pth S (d1, d2)).length V :=
        up_seq (t := t) (o := 3) (mv := pl) (fun k h1 h2 => by omega) hr s1 hd (Nat.le_refl _) (by omega) (by omega) (by omega) b0 bt b1 b2 hP
      have HB := hid hBs'
      have HVZ := hid hVz
      clear hVz
      gi_wp2_with fail
      rw [← hBs']
      clear hBs' hr s1 s3 b0 bt b1 b2 hP hbx
      refine range_up (α := Dt) (gf := 62) rfl (enters_of Try.func62 (by kernel_rfl) rfl) hseq (fun h k => h.trans k) (fun W l o o' hl ho hc _ => KU.put W l o o' hl ho hc) (Below.refl _ _) (fun _ => rfl)
        (RI V Bs) (fun _ _ _ => False) (RI.own hBs) (fun _ _ _ _ _ h _ _ => h) hI0
        (fun x a' W => ∃ u, a' = { tmps := #[.pointer (some ⟨t, 0, none⟩), .agg #[.int .i64 d1, .int .i64 d2], undef, .pointer (some ⟨w.heap.size, 0, none⟩), .slice none 0 0, .pointer (some ⟨Bs, 0, none⟩), .pointer (some ⟨u, 0, none⟩), .pointer (some ⟨t, 0, none⟩), .pointer (some ⟨t, 3, none⟩), .agg #[.int .i64 d1, .int .i64 d2], .func (.func 62) #[] #[.pointer (some ⟨ub, 0, none⟩), .pointer (some ⟨ub + 1, 0, none⟩)], .agg #[.int .i64 x.1, .int .i64 x.2], undef, undef, undef, undef, undef], defers := [] } ∧ W.heap[u]? = some (.cells #[.int .i64 x.1, .int .i64 x.2] 24 (0, 0)) ∧ V.heap.size ≤ u) ?ownax ?assign ?body ?done (fun _ _ _ _ _ _ h _ => h.elim)
      case ownax =>
        rintro x a' _ A B row ⟨u, e, h1, h2⟩ hg hrow
        refine ⟨u, e, (hg.block u (Array.getElem?_eq_some_iff.1 h1).1 (fun e' => ?_)).trans h1, h2⟩
        obtain ⟨_, ob, hob, ht'⟩ := hrow u e'.symm
        rw [h1] at hob
        cases hob
        rcases ht' with ht' | ⟨cs, fz, ht'⟩
        · cases ht'
        · cases ht'
      case assign =>
        rintro l pre x W K hI hK
        have hg := World.grownBy_alloc W (.cells #[.int .i64 x.1, .int .i64 x.2] 24) none
        have hfin := hid (hK { tmps := #[.pointer (some ⟨t, 0, none⟩), .agg #[.int .i64 d1, .int .i64 d2], undef, .pointer (some ⟨w.heap.size, 0, none⟩), .slice none 0 0, .pointer (some ⟨Bs, 0, none⟩), .pointer (some ⟨W.heap.size, 0, none⟩), .pointer (some ⟨t, 0, none⟩), .pointer (some ⟨t, 3, none⟩), .agg #[.int .i64 d1, .int .i64 d2], .func (.func 62) #[] #[.pointer (some ⟨ub, 0, none⟩), .pointer (some ⟨ub + 1, 0, none⟩)], .agg #[.int .i64 x.1, .int .i64 x.2], undef, undef, undef, undef, undef], defers := [] } (W.alloc (.cells #[.int .i64 x.1, .int .i64 x.2] 24)) (KeepsFrom.of_grownBy hg (fun j e => by cases e)) (KU.below ((Below.refl _ W).alloc (Nat.le_refl _) _) hI.size) (hI.alloc hBs _) ⟨W.heap.size, rfl, World.alloc_heap_new W _, hI.size⟩)
        clear hK hg hI
        gi_wp2
        exact hfin.out
      case body =>
        rintro l' pre x a' W ⟨⟨v, h1, h2⟩, h3, h4, h5⟩ ⟨u, rfl, hu, hul⟩ hlen
        obtain ⟨x1, x2⟩ := x
        have e0 : W.cell? ⟨u, 0, none⟩ = some (.int .i64 x1) := by simp [World.cell?, hu]
        have e1 : W.cell? ⟨u, 1, none⟩ = some (.int .i64 x2) := by simp [World.cell?, hu]
        have cb := h1.cell
        have hpl : pre.length < 1000000 := Nat.lt_of_lt_of_le hlen HNs.out
        gi_wp2_with (first
          | (gi_at_builtin; refine wpListIn_append_own _ rfl _ _ 29 rfl V.heap.size 24 i0 (.agg #[.int .i64 0, .int .i64 0]) 2 16 Try.underlying29 hi hz0 hz1 hz2 rfl (by decide) _ _ _ rfl (h2.alloc _) ⟨W.heap.size, 0, none⟩ 1 1 [.int .i64 x1, .int .i64 x2] rfl rfl (cell_two _ _ _) (by simp [Value.oneCell']) (by unfold maxLen; omega) (by omega) (by simp; omega) ?_; intro v' w2 hown' hg hnil; obtain ⟨g', cap', rfl⟩ := ownsRow_succ hown'; obtain ⟨q1, q2, HQ⟩ := RI.app (x := (x1, x2)) hBs h3 h4 h5 h1 h2 hown' hg; clear hown' hg hnil)
          | gi_in)
        exact ⟨HQ.out.2.1, HQ.out.2.2, HQ.out.1⟩

      case done =>
        rintro D ys W hD hS' ⟨⟨v, h1, h2⟩, h3, h4, h5⟩ hK
        subst hS'
        rw [q4] at h2
        have cb := h1.cell
        have hfin : Hid (∃ A'', RowOf w (W.putObj D (.deferred none)) A'' (pth (run l) (d1, d2)) (.returned v) ∧ TT (W.putObj D (.deferred none)) t l A'' ∧ KA w (W.putObj D (.deferred none)) A A'') := hid ⟨A', ⟨v, rfl, owns_base (ownsRow_putObj h2 (.deferred none) hK rfl) hKA.size, fun j hj e => by have := (h2.lt j hj).1; have := hTT.lt j e; omega⟩, hTT.same (by simp [World.putObj]; omega) (fun j hj => (World.putObj_heap_other (by have := hTT.lt j hj; omega)).trans (h4 j (hTT.lt j hj) (fun e => hnA (by rw [← HB.out, ← e]; exact hj)))), by have := hKA.size; simp [World.putObj]; omega, fun j hj hA => (World.putObj_heap_other (by have := hKA.size; omega)).trans ((h4 j (by have := hKA.size; omega) (by rw [HB.out]; omega)).trans (hKA.keep j hj hA)), hKA.new, hKA.sm.trans (h5.trans ⟨rfl, rfl, rfl⟩)⟩
        clear h1 h2 h3 h4 hKA hTT hnA
        gi_wp2
        refine ⟨by simp, .inl ⟨_, _, rfl, run_takeDeferred hK, ?_⟩⟩
        refine ⟨_, results_tmp rfl _ _ _, ?_⟩
        exact hfin.out
  · go_simp
    refine hK.out _ _ hS0 (fun _ => ?_)
    clear hK K
    refine wpAnyH_ready (rs := [0]) (by kernel_rfl) (by simp) ?_
    refine AllReadyH.cons rfl (fun K hK => ?_) AllReadyH.nil
    go_simp
    refine hK.out _ _ hS0 (fun _ => ?_)
    clear hK K
    refine wpAnyH_ready (rs := [1]) (by kernel_rfl) (by simp) ?_
    refine AllReadyH.cons rfl (fun K hK => ?_) AllReadyH.nil
    go_simp
    refine HN.mono ?_
    rintro e W1 ⟨rfl, S1, HU⟩
    refine hK.out _ _ S1 (fun _ => ?_)
    clear hK K
    refine wpAnyH_ready (rs := [3]) (by kernel_rfl) (by simp) ?_
    refine AllReadyH.cons rfl (fun K hK => ?_) AllReadyH.nil
    go_simp
    refine HU.mono ?_
    rintro e V ⟨rfl, S2, HF⟩
    refine hK.out _ _ S2 (fun _ => ?_)
    clear hK K
    refine wpAnyH_done (by kernel_rfl) ?_ _
    clear HN HU S1 S2 hS0
    obtain ⟨ub, hub⟩ : ∃ ub, ub = W1.heap.size := ⟨_, rfl⟩
    rw [← hub] at HF ⊢
    clear hub
    obtain ⟨S, r, pl, A', hVz, hr, s1, s3, q4, b0, bt, b1, b2, hP, hbx, hTT, hKA, hnA, hub⟩ := HF.out
    clear HF
    obtain ⟨Bs, hBs'⟩ : ∃ Bs, Bs = w.heap.size + 1 := ⟨_, rfl⟩
    have hBs : Bs < V.heap.size := by omega
    have HNs : Hid ((pth S (d1, d2)).length ≤ 1000000) := hid (by have := hr.pth_len (d1, d2); omega)
    have hI0 : RI V Bs [] V := ⟨⟨_, by rw [hBs']; exact hbx, World.ownsRow_nil _ _ _ _⟩, Nat.le_refl _, fun j _ _ => rfl, Sm.refl _⟩
    have hseq : SeqU (3 - 1) Try.prog 62 #[.pointer (some ⟨ub, 0, none⟩), .pointer (some ⟨ub + 1, 0, none⟩)] (fun x : Dt => #[Value.agg #[.int .i64 x.1, .int .i64 x.2]]) (KU V.heap.size (fun k => V.heap.size ≤ k ∨ k = Bs)) (fun xs => xs = pth S (d1, d2)) (fun pre => pre <+: pth S (d1, d2)) (pth S (d1, d2)).length V :=
      up_seq (t := t) (o := 3) (mv := pl) (fun k h1 h2 => by omega) hr s1 hd (Nat.le_refl _) (by omega) (by omega) (by omega) b0 bt b1 b2 hP
    have HB := hid hBs'
    have HVZ := hid hVz
    clear hVz
    gi_wp2_with fail
    rw [← hBs']
    clear hBs' hr s1 s3 b0 bt b1 b2 hP hbx
    refine range_up (α := Dt) (gf := 62) rfl (enters_of Try.func62 (by kernel_rfl) rfl) hseq (fun h k => h.trans k) (fun W l o o' hl ho hc _ => KU.put W l o o' hl ho hc) (Below.refl _ _) (fun _ => rfl)
      (RI V Bs) (fun _ _ _ => False) (RI.own hBs) (fun _ _ _ _ _ h _ _ => h) hI0
      (fun x a' W => ∃ u, a' = { tmps := #[.pointer (some ⟨t, 0, none⟩), .agg #[.int .i64 d1, .int .i64 d2], undef, .pointer (some ⟨w.heap.size, 0, none⟩), .slice none 0 0, .pointer (some ⟨Bs, 0, none⟩), .pointer (some ⟨u, 0, none⟩), .pointer (some ⟨t, 0, none⟩), .pointer (some ⟨t, 3, none⟩), .agg #[.int .i64 d1, .int .i64 d2], .func (.func 62) #[] #[.pointer (some ⟨ub, 0, none⟩), .pointer (some ⟨ub + 1, 0, none⟩)], .agg #[.int .i64 x.1, .int .i64 x.2], undef, undef, undef, undef, undef], defers := [] } ∧ W.heap[u]? = some (.cells #[.int .i64 x.1, .int .i64 x.2] 24 (0, 0)) ∧ V.heap.size ≤ u) ?ownax ?assign ?body ?done (fun _ _ _ _ _ _ h _ => h.elim)
    case ownax =>
      rintro x a' _ A B row ⟨u, e, h1, h2⟩ hg hrow
      refine ⟨u, e, (hg.block u (Array.getElem?_eq_some_iff.1 h1).1 (fun e' => ?_)).trans h1, h2⟩
      obtain ⟨_, ob, hob, ht'⟩ := hrow u e'.symm
      rw [h1] at hob
      cases hob
      rcases ht' with ht' | ⟨cs, fz, ht'⟩
      · cases ht'
      · cases ht'
    case assign =>
      rintro l pre x W K hI hK
      have hg := World.grownBy_alloc W (.cells #[.int .i64 x.1, .int .i64 x.2] 24) none
      have hfin := hid (hK { tmps := #[.pointer (some ⟨t, 0, none⟩), .agg #[.int .i64 d1, .int .i64 d2], undef, .pointer (some ⟨w.heap.size, 0, none⟩), .slice none 0 0, .pointer (some ⟨Bs, 0, none⟩), .pointer (some ⟨W.heap.size, 0, none⟩), .pointer (some ⟨t, 0, none⟩), .pointer (some ⟨t, 3, none⟩), .agg #[.int .i64 d1, .int .i64 d2], .func (.func 62) #[] #[.pointer (some ⟨ub, 0, none⟩), .pointer (some ⟨ub + 1, 0, none⟩)], .agg #[.int .i64 x.1, .int .i64 x.2], undef, undef, undef, undef, undef], defers := [] } (W.alloc (.cells #[.int .i64 x.1, .int .i64 x.2] 24)) (KeepsFrom.of_grownBy hg (fun j e => by cases e)) (KU.below ((Below.refl _ W).alloc (Nat.le_refl _) _) hI.size) (hI.alloc hBs _) ⟨W.heap.size, rfl, World.alloc_heap_new W _, hI.size⟩)
      clear hK hg hI
      gi_wp2
      exact hfin.out
    case body =>
      rintro l' pre x a' W ⟨⟨v, h1, h2⟩, h3, h4, h5⟩ ⟨u, rfl, hu, hul⟩ hlen
      obtain ⟨x1, x2⟩ := x
      have e0 : W.cell? ⟨u, 0, none⟩ = some (.int .i64 x1) := by simp [World.cell?, hu]
      have e1 : W.cell? ⟨u, 1, none⟩ = some (.int .i64 x2) := by simp [World.cell?, hu]
      have cb := h1.cell
      have hpl : pre.length < 1000000 := Nat.lt_of_lt_of_le hlen HNs.out
      gi_wp2_with (first
        | (gi_at_builtin; refine wpListIn_append_own _ rfl _ _ 29 rfl V.heap.size 24 i0 (.agg #[.int .i64 0, .int .i64 0]) 2 16 Try.underlying29 hi hz0 hz1 hz2 rfl (by decide) _ _ _ rfl (h2.alloc _) ⟨W.heap.size, 0, none⟩ 1 1 [.int .i64 x1, .int .i64 x2] rfl rfl (cell_two _ _ _) (by simp [Value.oneCell']) (by unfold maxLen; omega) (by omega) (by simp; omega) ?_; intro v' w2 hown' hg hnil; obtain ⟨g', cap', rfl⟩ := ownsRow_succ hown'; obtain ⟨q1, q2, HQ⟩ := RI.app (x := (x1, x2)) hBs h3 h4 h5 h1 h2 hown' hg; clear hown' hg hnil)
        | gi_in)
      exact ⟨HQ.out.2.1, HQ.out.2.2, HQ.out.1⟩

    case done =>
      rintro D ys W hD hS' ⟨⟨v, h1, h2⟩, h3, h4, h5⟩ hK
      subst hS'
      rw [q4] at h2
      have cb := h1.cell
      have hfin : Hid (∃ A'', RowOf w (W.putObj D (.deferred none)) A'' (pth (run l) (d1, d2)) (.returned v) ∧ TT (W.putObj D (.deferred none)) t l A'' ∧ KA w (W.putObj D (.deferred none)) A A'') := hid ⟨A', ⟨v, rfl, owns_base (ownsRow_putObj h2 (.deferred none) hK rfl) hKA.size, fun j hj e => by have := (h2.lt j hj).1; have := hTT.lt j e; omega⟩, hTT.same (by simp [World.putObj]; omega) (fun j hj => (World.putObj_heap_other (by have := hTT.lt j hj; omega)).trans (h4 j (hTT.lt j hj) (fun e => hnA (by rw [← HB.out, ← e]; exact hj)))), by have := hKA.size; simp [World.putObj]; omega, fun j hj hA => (World.putObj_heap_other (by have := hKA.size; omega)).trans ((h4 j (by have := hKA.size; omega) (by rw [HB.out]; omega)).trans (hKA.keep j hj hA)), hKA.new, hKA.sm.trans (h5.trans ⟨rfl, rfl, rfl⟩)⟩
      clear h1 h2 h3 h4 hKA hTT hnA
      gi_wp2
      refine ⟨by simp, .inl ⟨_, _, rfl, run_takeDeferred hK, ?_⟩⟩
      refine ⟨_, results_tmp rfl _ _ _, ?_⟩
      exact hfin.out
end

section
open Go.Shelf

def ren : Ren := ⟨fun | 6 => 78 | 15 => 89 | 14 => 88 | 28 => 106 | 29 => 107 | 20 => 98 | 21 => 99 | 22 => 100 | 23 => 101 | 24 => 102 | 25 => 103 | 26 => 104 | 27 => 105 | 46 => 110 | 47 => 111 | 48 => 112 | 49 => 113 | 50 => 114 | 57 => 116 | n => n, fun | 22 => 29 | 24 => 24 | 25 => 119 | 3 => 3 | 39 => 116 | 0 => 0 | 53 => 145 | 55 => 147 | 4 => 4 | 46 => 139 | 45 => 138 | 50 => 101 | 5 => 5 | 9 => 9 | 66 => 148 | 70 => 152 | 76 => 155 | 77 => 156 | n => n, fun n => n⟩

theorem lays : SlLaysF0.n6 Try.prog ren := {
  mixed := by kernel_rfl
  f6 := ⟨Try.f78.name, by decide, Try.func78.trans (congrArg some (by kernel_rfl))⟩
  f14 := ⟨Try.f88.name, by decide, Try.func88.trans (congrArg some (by kernel_rfl))⟩
  f15 := Try.func89.trans (congrArg some (by kernel_rfl))
  f20 := ⟨Try.f98.name, by decide, Try.func98.trans (congrArg some (by kernel_rfl))⟩
  f21 := ⟨Try.f99.name, by decide, Try.func99.trans (congrArg some (by kernel_rfl))⟩
  f22 := ⟨Try.f100.name, by decide, Try.func100.trans (congrArg some (by kernel_rfl))⟩
  f23 := ⟨Try.f101.name, by decide, Try.func101.trans (congrArg some (by kernel_rfl))⟩
  f24 := ⟨Try.f102.name, by decide, Try.func102.trans (congrArg some (by kernel_rfl))⟩
  f25 := ⟨Try.f103.name, by decide, Try.func103.trans (congrArg some (by kernel_rfl))⟩
  f26 := ⟨Try.f104.name, by decide, Try.func104.trans (congrArg some (by kernel_rfl))⟩
  f27 := ⟨Try.f105.name, by decide, Try.func105.trans (congrArg some (by kernel_rfl))⟩
  f28 := Try.func106.trans (congrArg some (by kernel_rfl))
  f29 := Try.func107.trans (congrArg some (by kernel_rfl))
  f46 := ⟨Try.f110.name, by decide, Try.func110.trans (congrArg some (by kernel_rfl))⟩
  f47 := Try.func111.trans (congrArg some (by kernel_rfl))
  f48 := Try.func112.trans (congrArg some (by kernel_rfl))
  f49 := ⟨Try.f113.name, by decide, Try.func113.trans (congrArg some (by kernel_rfl))⟩
  f50 := ⟨Try.f114.name, by decide, Try.func114.trans (congrArg some (by kernel_rfl))⟩
  f57 := ⟨Try.f116.name, by decide, Try.func116.trans (congrArg some (by kernel_rfl))⟩
  t0 := Try.underlying0
  a0 := Try.isAgg0
  z0 := Try.sizeOf0
  v0 := Try.zeroValue0
  t3 := Try.underlying3
  a3 := Try.isAgg3
  z3 := Try.sizeOf3
  v3 := Try.zeroValue3
  t4 := Try.underlying4
  a4 := Try.isAgg4
  z4 := Try.sizeOf4
  v4 := Try.zeroValue4
  t5 := Try.underlying5
  a5 := Try.isAgg5
  z5 := Try.sizeOf5
  v5 := Try.zeroValue5
  t9 := Try.underlying9
  a9 := Try.isAgg9
  z9 := Try.sizeOf9
  v9 := Try.zeroValue9
  t22 := Try.underlying29
  a22 := Try.isAgg29
  z22 := Try.sizeOf29
  v22 := Try.zeroValue29
  t25 := Try.underlying119
  a25 := Try.isAgg119
  z25 := Try.sizeOf119
  v25 := Try.zeroValue119
  t39 := Try.underlying116
  a39 := Try.isAgg116
  z39 := Try.sizeOf116
  v39 := Try.zeroValue116
  t45 := Try.underlying138
  a45 := Try.isAgg138
  z45 := Try.sizeOf138
  v45 := Try.zeroValue138
  t46 := Try.underlying139
  a46 := Try.isAgg139
  z46 := Try.sizeOf139
  v46 := Try.zeroValue139
  t50 := Try.underlying101
  a50 := Try.isAgg101
  z50 := Try.sizeOf101
  v50 := Try.zeroValue101
  t53 := Try.underlying145
  a53 := Try.isAgg145
  z53 := Try.sizeOf145
  v53 := Try.zeroValue145
  t55 := Try.underlying147
  a55 := Try.isAgg147
  z55 := Try.sizeOf147
  v55 := Try.zeroValue147
  t66 := Try.underlying148
  a66 := Try.isAgg148
  z66 := Try.sizeOf148
  v66 := Try.zeroValue148
  t70 := Try.underlying152
  a70 := Try.isAgg152
  z70 := Try.sizeOf152
  v70 := Try.zeroValue152
  t76 := Try.underlying155
  a76 := Try.isAgg155
  z76 := Try.sizeOf155
  v76 := Try.zeroValue155
  t77 := Try.underlying156
  a77 := Try.isAgg156
  z77 := Try.sizeOf156
  v77 := Try.zeroValue156
}
end
end Go.Proofs.Ytplcohjpchfkkaa
