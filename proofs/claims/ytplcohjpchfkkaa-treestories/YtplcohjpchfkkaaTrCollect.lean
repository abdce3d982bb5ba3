/- Keys, AppendSeq, Collect over the map of places. -/
import Derived.Test.YtplcohjpchfkkaaMPlaces
import Derived.WalkKit
import Derived.WalkSpells
import Derived.WalkLawsBesides
import Derived.Sort.OwnSorted
import Derived.Sort.MapsRangeIn
import Derived.Laws.IdiomRangeMap
namespace Go.Proofs.Ytplcohjpchfkkaa
section
open Go.RowKit Go.Sort Go.Maps

/-- The slice of n dots in block g, of this capacity, is of the call's own and holds L. -/
abbrev Own (w : World) (base g n c : Nat) (L : List Dt) : Prop := w.ownsRow base 24 2 (.slice (some ⟨g, 0, none⟩) n c) n (flat L)

theorem Own.ps {w : World} {base g n c : Nat} {L : List Dt} (h : Own w base g n c L) (hl : L.length = n) : PS w (some ⟨g, 0, none⟩) n c L := by
  have hc := h.cells (g := g) rfl
  rcases h.2 with ⟨h0, _⟩ | ⟨g', cap', cur, hv, hg, hb, hn, hcap, _, _⟩
  · cases h0
  · cases hv
    exact ⟨hl, hn, hcap, fun h => (by cases h), fun ad ha j u hj => (by cases ha; exact hc j u hj)⟩

/-- What the library's sort does to a row of dots each of which stands there once. -/
def SortSays : Prop := ∀ (base g c : Nat) (ds : List Dt) (w : World), Own w base g ds.length c ds → ds.Nodup → ds.length ≤ 1000000 →
  Calls Try.prog 78 #[.slice (some ⟨g, 0, none⟩) ds.length c, .func (.func 79) #[] #[]] w fun e w' =>
    e = .returned (.tuple #[]) ∧ Own w' base g ds.length c (rise ds) ∧ w.grownBy w' (some g)

/-- The dots that were met so far. -/
def Coll (D : DataW Unit) (left : Lit → Bool) (cs : List Dt) : Prop := cs.Nodup ∧ Dws cs ∧ ∀ d, Dw d → (d ∈ cs ↔ Maps.has D (kl d) = true ∧ left (kl d) = false)

theorem coll_start (D : DataW Unit) : Coll D (Maps.has D) [] := ⟨List.nodup_nil, fun d hd => by simp at hd, fun d _ => by cases Maps.has D (kl d) <;> simp⟩

theorem Coll.step {D : DataW Unit} {left : Lit → Bool} {cs : List Dt} (h : Coll D left cs) {x : Dt} (hx : Dw x) {y : DataW Unit} (hlk : left (kl x) = true) (hat : ∀ zd, D.atKey (kl x) zd = y) :
    Coll D (fun z => left z && !z.sameKey (kl x)) (cs ++ [x]) := by
  have hhas : Maps.has D (kl x) = true := has_true_of_atKey hat
  have hnew : x ∉ cs := fun hm => by have := ((h.2.2 x hx).1 hm).2; rw [hlk] at this; cases this
  refine ⟨List.nodup_append.2 ⟨h.1, by simp, fun a ha b hb => by simp at hb; subst hb; exact fun e => hnew (e ▸ ha)⟩, fun d hd => ?_, fun d hd => ?_⟩
  · rcases List.mem_append.1 hd with hd | hd
    · exact h.2.1 d hd
    · simp at hd; exact hd ▸ hx
  · by_cases hdx : d = x
    · subst hdx
      simp [hhas, WideAt.sameKey_self (kl_isKey d)]
    · have hs : (kl d).sameKey (kl x) = false := sameKey_ne (fun e => hdx (kl_inj hd hx e))
      simp [h.2.2 d hd, hdx, hs]

theorem cell_two_new1 (w : World) (o : Obj) (x y : Value) (T : TypeId) : ∀ j u, ([x, y] : List Value)[j]? = some u → ((w.alloc o).alloc (.cells #[x, y] T)).cell? ((⟨w.heap.size + 1, 0, none⟩ : Addr).add j) = some u := by
  have := cell_two_new (w.alloc o) x y T
  simpa using this

theorem nodup_rise_length {l : List Dt} (h : l.Nodup) : (rise l).length = l.length :=
  ((List.perm_ext_iff_of_nodup (up_nodup (up_rise l)) h).2 (fun d => mem_rise d l)).length_eq

set_option maxRecDepth 100000 in
set_option maxHeartbeats 2000000 in
theorem row_has (hsort : SortSays) (b m : Nat) (D : DataW Unit) (S : List Dt) (w : World) (hown : w.ownsMap Try.prog 24 (plainElem (H := Unit) Try.prog 3) b m D) (hS : ∀ d, Dw d → (Maps.has D (kl d) = true ↔ d ∈ S)) (hw : Dws S) (hm : m ≤ 1000000) :
    Calls Try.prog 57 #[.map (some b)] w fun e w' => ∃ g c, e = .returned (.slice (some ⟨g, 0, none⟩) (rise S).length c) ∧ Own w' w.heap.size g (rise S).length c (rise S) ∧ Below w.heap.size w w' := by
  obtain ⟨i0, hi, hz0, hz1, hz2⟩ := info_parts Try.info24
  have hbl := hown.lt
  have hsz := hown.size_le
  go_enter Try.func57, Try.ntmps57
  go_wp2_with (first
    | (at_len; refine wpList_len_own _ rfl _ 106 rfl 24 3 Try.underlying106 _ b m _ rfl hown ?_)
    | (at_make; refine wpList_make_own _ rfl _ _ 29 rfl w.heap.size 24 i0 (.agg #[.int .i64 0, .int .i64 0]) 2 Try.underlying29 hi hz0 hz1 _ _ _ (Maps.size D) rfl rfl rfl (by rw [hz2]; omega) (by unfold maxLen; omega) (Nat.le_refl _) ?_; intro w1 hrow1 hg1)
    | (at_range; refine wpList_range_own _ rfl _ 106 rfl 24 3 law Try.underlying106 _ b m _ rfl (hown.kept hg1 (by simp)) ?_; intro w0 hrg0 hg0 hs0)
    | go_in)
  go_frame
  go_loopw [3] (fun v wr => ∃ (left : Lit → Bool) (cnt : Nat) (cs : List Dt), wr.ranges Try.prog 24 (plainElem (H := Unit) Try.prog 3) b w1.heap.size m D left cnt ∧ cs.length + cnt ≤ Maps.size D ∧
      wr.ownsRow w.heap.size 24 2 v cs.length (flat cs) ∧ v ≠ .slice none 0 0 ∧ Coll D left cs ∧ Below w.heap.size w wr)
    (fun _ wr => wr.rangeLeft b w1.heap.size)
  case atStart =>
    exact ⟨_, _, [], hrg0, by simp, hrow1.kept hg0 (Or.inr (by simp [Value.ownBlock])), by simp, coll_start D,
      ((Below.refl _ _).grown hg1 (Nat.le_refl _) (fun j hj => by cases hj)).grown hg0 hg1.size (fun j hj => by cases hj)⟩
  case round =>
    obtain ⟨left, cnt, cs, hrg, hcs, hrow, hnn, hC, hnx⟩ := hrel
    go_wp2_with (first
      | (at_next; refine wpList_next_ranges _ rfl _ rfl 24 law (plainElem (H := Unit) Try.prog 3) dv (Value.int .i64) (fun key kl hk => by obtain ⟨x, hx, _⟩ := keyOf_dot_inv hk; exact ⟨x, hx⟩) (fun v y hv => by obtain ⟨c, rfl, _⟩ := plainElem_int_inv Try.underlying3 hv; exact ⟨c, rfl⟩) b w1.heap.size m _ _ _ rfl hrg ?_ ?_)
      | go_in)
    · intro hc0 hl0
      rcases hrow.2 with ⟨hnil, _⟩ | ⟨g, cap, cur, rfl, hbase, hb, h1, h2, h3, h4⟩
      · exact absurd hnil hnn
      have hc := hsort w.heap.size g cap cs wr hrow hC.1 (by omega)
      have hrs : rise cs = rise S := up_ext (up_rise _) (up_rise _) (fun d => by
        rw [mem_rise, mem_rise]
        constructor
        · intro hd
          have hdw := hC.2.1 d hd
          exact (hS d hdw).1 ((hC.2.2 d hdw).1 hd).1
        · intro hd
          have hdw := hw d hd
          exact (hC.2.2 d hdw).2 ⟨(hS d hdw).2 hd, hl0 _⟩)
      have hk : Hid (rise cs = rise S ∧ cs.length = (rise S).length) := hid ⟨hrs, by rw [← hrs]; exact (nodup_rise_length hC.1).symm⟩
      clear hrs hc0 hl0
      go_wp2_with (go_at_call 78; refine hc.mono ?_; rintro e w' ⟨rfl, ho', hg'⟩)
      go_ret
      obtain ⟨hrs, hcl⟩ := hk.out
      rw [hrs, hcl] at ho'
      refine ⟨g, cap, by rw [hcl]; rfl, ho', hnx.grown hg' hnx.size (fun j hj => by cases hj; exact hbase)⟩
    · intro x1 x2 c kk yd yp w2 cnt2 hkey hlk hv hat hrg2 hlt hg2 hs2 hen
      obtain ⟨x', ex, hxw, rfl⟩ := keyOf_dot_inv hkey
      obtain rfl : (x1, x2) = x' := (agg_eq (x1, x2) x').1 ex
      have hrow2 := hrow.kept hg2 (Or.inr (row_ne_iter hrow hrg).symm)
      clear hs2
      go_wp2_with (first
        | (at_builtin; refine wpList_append_own _ rfl _ _ 29 rfl w.heap.size 24 i0 (.agg #[.int .i64 0, .int .i64 0]) 2 16 Try.underlying29 hi hz0 hz1 hz2 rfl (by decide) _ _ _ rfl ((hrow2.alloc _).alloc _) ⟨w2.heap.size + 1, 0, none⟩ 1 1 [.int .i64 x1, .int .i64 x2] rfl rfl (cell_two_new1 _ _ _ _ _) (by simp [Value.oneCell']) (by unfold maxLen at *; omega) (by omega) (by have := hnx.size; have := hg2.size; simp; omega) ?_; intro v' w3 hown' hg3 hnil3; go_frame)
        | go_in)
      have hrg3 := ((hrg2.alloc _).alloc _).kept hg3 (row_ne_low hrow2 hbl) (row_ne_iter hrow2 hrg2)
      go_roundw
      case rel =>
        refine ⟨_, cnt2, cs ++ [(x1, x2)], hrg3, by simp; omega, by simpa [flat_append, flat] using hown', fun hv' => by have := (hnil3.1 hv').2; omega, hC.step hxw hlk hat, ?_⟩
        exact (((hnx.grown hg2 hnx.size (fun j hj => by cases hj; exact hg1.size)).alloc (by have := hnx.size; have := hg2.size; omega) _).alloc (by have := hnx.size; have := hg2.size; simp; omega) _).grown hg3 (by have := hnx.size; have := hg2.size; simp; omega) (fun j hj => (hrow2.lt j hj).1)
      case measure => rw [hrg3.left_eq, hrg.left_eq]; exact hlt

theorem row_any (hsort : SortSays) (b m : Nat) (f : Dt → Option Int) (S : List Dt) (w : World) (hdm : DM w b m f) (hS : ∀ d, Dw d → ((f d).isSome = true ↔ d ∈ S)) (hw : Dws S) (hm : m ≤ 1000000) :
    Calls Try.prog 57 #[.map (some b)] w fun e w' => ∃ g c, e = .returned (.slice (some ⟨g, 0, none⟩) (rise S).length c) ∧ Own w' w.heap.size g (rise S).length c (rise S) ∧ Below w.heap.size w w' := by
  obtain ⟨D, hown, hT⟩ := hdm
  exact row_has hsort b m D S w hown (fun d hd => by rw [(hT d hd).1]; exact hS d hd) hw hm
end

section
set_option linter.unusedVariables false
set_option linter.unusedSimpArgs false
open Go.RowKit Go.Shelf Go.Sort Go.Maps

/-- These are a map's keys, each once. -/
def KeysOfS (S : List Sp) (xs : List Dt) : Prop := xs.Nodup ∧ Dws xs ∧ ∀ d, Dw d → (d ∈ xs ↔ (lk S d).isSome = true)

theorem ranges_kept {W W' : World} {b r n : Nat} {D : DataW Unit} {left : Lit → Bool} {cnt : Nat} (h : W.ranges Try.prog 24 plR b r n D left cnt) (hb : ∀ es c, W.heap[b]? = some (.map es c) → W'.heap[b]? = some (.map es c)) (hr : ∀ o, W.heap[r]? = some o → o.isCells = false → W'.heap[r]? = some o) : W'.ranges Try.prog 24 plR b r n D left cnt := by
  obtain ⟨es, clock, since, seen, c0, h1, F, hs, hD, h2, rest⟩ := h
  exact ⟨es, clock, since, seen, c0, hb _ _ h1, F, hs, hD, hr _ h2 rfl, rest⟩

set_option maxRecDepth 100000 in
set_option maxHeartbeats 4000000 in
theorem keys_in (n l n₀ Bm m : Nat) (own : Nat → Prop) (S : List Sp) (J Jx : List Dt → World → Prop) (W : World) (hn0 : n₀ ≤ W.heap.size) (hm : m < n₀) (c1 : W.cell? ⟨Bm, 0, none⟩ = some (.map (some m))) (hP : PLM W m S) (hJ : OwnT W.heap.size J) (hJx : OwnT W.heap.size Jx)
    (hY : ∀ pre x W1, J pre W1 → pre.length < S.length → YieldAt Fence.wide (n - 1) Try.prog l #[dv x] W1 fun e W' =>
      (e = .returned (.bool true) ∧ J (pre ++ [x]) W' ∧ KU n₀ own W1 W' ∧ KeepsFrom W.heap.size W1 W') ∨ (e = .returned (.bool false) ∧ Jx (pre ++ [x]) W' ∧ KeepsFrom W.heap.size W1 W'))
    (h0 : J [] W) :
    CallsIn Fence.wide n Try.prog 60 #[.func (.yield l) #[] #[], .pointer (some ⟨Bm, 0, none⟩)] W fun e W' => (∃ v, e = .returned v) ∧ ((∃ xs, KeysOfS S xs ∧ J xs W') ∨ (∃ pre, True ∧ Jx pre W')) := by
  have mixed := mixed
  obtain ⟨D, hown, hT⟩ := hP
  have hsl := hown.size_le
  refine callsIn_of_wp Try.func60 rfl trivial ?_ rfl
  simp only [Try.ntmps60, List.size_toArray, List.length_cons, List.length_nil, Nat.reduceAdd, Nat.reduceSub, Array.replicate_succ, Array.replicate_zero, List.push_toArray, List.append_toArray, List.nil_append, List.cons_append]
  gi_wp2_with (first
    | (gi_at_range; refine wpListIn_range_own _ rfl _ 63 rfl 24 74 law Try.underlying63 _ m S.length _ rfl hown ?_; intro w0 hrg0 hg0 hs0)
    | gi_in)
  go_frame
  gi_loopw [3] (fun _ wr => ∃ (left : Lit → Bool) (cnt : Nat) (cs : List Dt), wr.ranges Try.prog 24 plR m W.heap.size S.length D left cnt ∧ cs.length + cnt ≤ Maps.size D ∧ Coll D left cs ∧ J cs wr)
    (fun _ wr => wr.rangeLeft m W.heap.size)
  case atStart =>
    exact ⟨_, _, [], hrg0, by simp, coll_start D, hJ [] W w0 none h0 hg0 (fun r e => by cases e)⟩
  case round =>
    obtain ⟨left, cnt, cs, hrg, hcs, hC, hJs⟩ := hrel
    gi_wp2_with (first
      | (gi_at_next; refine wpListIn_next_ranges _ rfl _ rfl 24 law plR dv id (fun key kl hk => by obtain ⟨x, hx, _⟩ := keyOf_dot_inv hk; exact ⟨x, hx⟩) (fun v _ _ => ⟨v, rfl⟩) m W.heap.size S.length _ _ _ rfl hrg ?_ ?_)
      | gi_in)
    · intro hc0 hl0
      gi_wp2
      go_end0
      exact ⟨⟨_, rfl⟩, Or.inl ⟨cs, ⟨hC.1, hC.2.1, fun d hd => by rw [hC.2.2 d hd, (hT d hd).1]; simp [hl0]⟩, hJs⟩⟩
    · intro x1 x2 c kk yd yp w2 cnt2 hkey hlk hv hat hrg2 hlt hg2 hs2 hen
      obtain ⟨x', ex, hxw, rfl⟩ := keyOf_dot_inv hkey
      obtain rfl : (x1, x2) = x' := (agg_eq (x1, x2) x').1 ex
      have hwl : W.heap.size < wr.heap.size := hrg.lt
      have hJ2 : J cs w2 := hJ cs wr w2 (some W.heap.size) hJs hg2 (fun r e => by
        cases e
        obtain ⟨es, clock, since, seen, c0, _, _, _, _, hr, _⟩ := hrg
        exact ⟨Nat.le_refl _, _, hr, Or.inl rfl⟩)
      have hJ3 := hJ2
      replace hJ3 : J cs (w2.alloc (.cells #[.int .i64 x1, .int .i64 x2] 24)) := hJ.alloc _ hJ2
      have hrg3 := hrg2.alloc (.cells #[.int .i64 x1, .int .i64 x2] 24)
      obtain ⟨fn, tmps, assign, body, hy, hR⟩ := hY cs (x1, x2) _ hJ3 (by omega)
      unfold dv at hy
      clear hs2
      gi_wp2
      refine ⟨fun h => by simp [Fence.wide] at h, hR.mono ?_⟩
      rintro e W3 (⟨rfl, hJ4, hk4, hf4⟩ | ⟨rfl, hJ4, hf4⟩)
      · gi_wp2
        have hrg4 := ranges_kept hrg3 (fun es c he => hk4.maps m hm es c he) (fun o ho hc => hf4.same _ o (Nat.le_refl _) ho hc)
        go_roundw
        case rel => exact ⟨_, cnt2, cs ++ [(x1, x2)], hrg4, by simp; omega, hC.step hxw hlk hat, hJ4⟩
        case measure => rw [hrg4.left_eq, hrg.left_eq]; exact hlt
      · gi_wp2
        refine bodyPost_ret (results_none rfl _ _ _) rfl ?_
        exact ⟨⟨_, rfl⟩, Or.inr ⟨_, trivial, hJ4⟩⟩

/-- Of a map that is none. -/
theorem keys_none (n l Bm : Nat) (J Jx : List Dt → World → Prop) (W : World) (c1 : W.cell? ⟨Bm, 0, none⟩ = some (.map none)) (hJ : OwnT W.heap.size J) (h0 : J [] W) :
    CallsIn Fence.wide n Try.prog 60 #[.func (.yield l) #[] #[], .pointer (some ⟨Bm, 0, none⟩)] W fun e W' => (∃ v, e = .returned v) ∧ ((∃ xs, KeysOfS [] xs ∧ J xs W') ∨ (∃ pre, True ∧ Jx pre W')) := by
  have mixed := mixed
  refine callsIn_of_wp Try.func60 rfl trivial ?_ rfl
  simp only [Try.ntmps60, List.size_toArray, List.length_cons, List.length_nil, Nat.reduceAdd, Nat.reduceSub, Array.replicate_succ, Array.replicate_zero, List.push_toArray, List.append_toArray, List.nil_append, List.cons_append]
  have hrg := run_range_nilMap (P := Try.prog) W 63 24 74 Try.underlying63
  have hnx : ∀ ty, (Instr.next (.pointer (some ⟨W.heap.size, 0, none⟩)) false ty).run Try.prog (W.alloc (.mapIter none 0 #[] 0)) = _ := fun ty => run_next_nilMap _ ty 0 0 #[]
  gi_wp2
  refine wpIn_loop_rounds 1 ?_
  rw [roundsIn_succ]
  gi_wp2
  go_end0
  exact ⟨⟨_, rfl⟩, Or.inl ⟨[], ⟨List.nodup_nil, fun d hd => by simp at hd, fun d _ => by simp [lk]⟩, hJ [] W _ none h0 (World.grownBy_alloc W _ none) (fun r e => by cases e)⟩⟩
end

section
set_option linter.unusedVariables false
set_option linter.unusedSimpArgs false
open Go.RowKit Go.Shelf

attribute [local go_sem] Oper.semAt_some

theorem keys_made (mo : Option Nat) (w : World) : Calls Try.prog 38 #[.map mo] w fun e w' => e = .returned (.func (.func 60) #[] #[.pointer (some ⟨w.heap.size, 0, none⟩)]) ∧ w' = w.alloc (.cells #[.map mo] 63) := by
  go_enter Try.func38, Try.ntmps38
  go_wp2
  go_ret
  refine ⟨?_, ?_⟩
  · first | rfl | simp
  · first | rfl | simp

/-- What was there is as it was. -/
def NB (w w' : World) : Prop := w.heap.size ≤ w'.heap.size ∧ (∀ j, j < w.heap.size → w'.heap[j]? = w.heap[j]?) ∧ Sm w w'
theorem NB.trans {a b c : World} (h : NB a b) (k : NB b c) : NB a c := ⟨Nat.le_trans h.1 k.1, fun j hj => (k.2.1 j (Nat.lt_of_lt_of_le hj h.1)).trans (h.2.1 j hj), h.2.2.trans k.2.2⟩
theorem NB.of {w w' : World} (h : Below w.heap.size w w') : NB w w' := ⟨h.size, fun j hj => h.block j hj, Sm.b h⟩
theorem NB.ka {w w' : World} {A : Nat → Prop} (h : NB w w') : KA w w' A A := KA.refl h.1 h.2.1 h.2.2

/-- What the closure does, where the map lies below. -/
theorem keys_seq {w : World} {n n₀ Bm : Nat} {own : Nat → Prop} {mv : Value} {S : List Sp} (hn0 : n₀ ≤ w.heap.size) (c1 : w.cell? ⟨Bm, 0, none⟩ = some mv) (hP : PlB n₀ w mv S) :
    SeqU n Try.prog 60 #[.pointer (some ⟨Bm, 0, none⟩)] (fun x : Dt => #[Value.agg #[.int .i64 x.1, .int .i64 x.2]]) (KU n₀ own) (KeysOfS S) (fun _ => True) S.length w := fun l J Jx W hb hJ hJx hY h0 => by
  have c1' := (hb.cell (p := ⟨Bm, 0, none⟩) (cell_in c1)).trans c1
  rcases hP with ⟨rfl, rfl⟩ | ⟨m, rfl, hm, hP⟩
  · exact keys_none n l Bm J Jx W c1' hJ h0
  · exact keys_in n l n₀ Bm m own S J Jx W (Nat.le_trans hn0 hb.size) hm c1' (hP.same (hb.block m (by omega))) hJ hJx hY h0

set_option maxRecDepth 100000 in
set_option maxHeartbeats 4000000 in
theorem append_any (Bm : Nat) (mv : Value) (S : List Sp) (w : World) (c1 : w.cell? ⟨Bm, 0, none⟩ = some mv) (hP : PlV w mv S) (hs : S.length ≤ 1000000) :
    Calls Try.prog 59 #[.slice none 0 0, .func (.func 60) #[] #[.pointer (some ⟨Bm, 0, none⟩)]] w fun e w' => ∃ v xs, e = .returned v ∧ KeysOfS S xs ∧ w'.ownsRow w.heap.size 24 2 v xs.length (flat xs) ∧ NB w w' := by
  obtain ⟨i0, hi, hz0, hz1, hz2⟩ := info_parts Try.infoDD
  obtain ⟨V, hV⟩ : ∃ V, V = w.alloc (.cells #[.slice none 0 0] 29) := ⟨_, rfl⟩
  have hbV : Below w.heap.size w V := by rw [hV]; exact (Below.refl _ w).alloc (Nat.le_refl _) _
  have hVz : V.heap.size = w.heap.size + 1 := by rw [hV]; simp
  have hbx : V.heap[w.heap.size]? = some (.cells #[.slice none 0 0] 29 (0, 0)) := by rw [hV]; exact World.alloc_heap_new w _
  obtain ⟨Bs, hBs'⟩ : ∃ Bs, Bs = w.heap.size := ⟨_, rfl⟩
  have hBs : Bs < V.heap.size := by omega
  have HNs : Hid (S.length ≤ 1000000) := hid hs
  have hI0 : RI V Bs [] V := ⟨⟨_, by rw [hBs']; exact hbx, World.ownsRow_nil _ _ _ _⟩, Nat.le_refl _, fun j _ _ => rfl, Sm.refl _⟩
  have hseq : SeqU (3 - 1) Try.prog 60 #[.pointer (some ⟨Bm, 0, none⟩)] (fun x : Dt => #[Value.agg #[.int .i64 x.1, .int .i64 x.2]]) (KU V.heap.size (fun k => V.heap.size ≤ k ∨ k = Bs)) (KeysOfS S) (fun _ => True) S.length V :=
    keys_seq (mv := mv) (Nat.le_refl _) ((hbV.cell (p := ⟨Bm, 0, none⟩) (cell_in c1)).trans c1) (hP.below hbV).b
  have HB := hid hBs'
  have HV := hid hV
  have HVZ := hid hVz
  have HBV := hid hbV
  clear hs hV hVz hbV hbx hBs' c1 hP
  refine (callsIn_wide (n := 3)).1 ?_
  refine callsIn_of_wp_marks Try.func59 rfl trivial ?_ rfl
  simp only [Try.ntmps59, List.size_toArray, List.length_cons, List.length_nil, Nat.reduceAdd, Nat.reduceSub, Array.replicate_succ, Array.replicate_zero, List.push_toArray, List.append_toArray, List.nil_append, List.cons_append]
  gi_wp2_with fail
  rw [← HV.out, ← HB.out]
  refine range_up (α := Dt) (gf := 60) rfl (enters_of Try.func60 (by kernel_rfl) rfl) hseq (fun h k => h.trans k) (fun W l o o' hl ho hc _ => KU.put W l o o' hl ho hc) (Below.refl _ _) (fun _ => rfl)
    (RI V Bs) (fun _ _ _ => False) (RI.own hBs) (fun _ _ _ _ _ h _ _ => h) hI0
    (fun x a' W => ∃ u, a' = { tmps := #[.slice none 0 0, .func (.func 60) #[] #[.pointer (some ⟨Bm, 0, none⟩)], .pointer (some ⟨Bs, 0, none⟩), undef, .slice none 0 0, .pointer (some ⟨u, 0, none⟩), .func (.func 60) #[] #[.pointer (some ⟨Bm, 0, none⟩)], .agg #[.int .i64 x.1, .int .i64 x.2], undef, undef, undef, undef, undef], defers := [] } ∧ W.heap[u]? = some (.cells #[.int .i64 x.1, .int .i64 x.2] 24 (0, 0)) ∧ V.heap.size ≤ u) ?ownax ?assign ?body ?done (fun _ _ _ _ _ _ h _ => h.elim)
  case ownax =>
    rintro x a' _ A B row ⟨u, e, h1, h2⟩ hg hrow
    refine ⟨u, e, (hg.block u (Array.getElem?_eq_some_iff.1 h1).1 (fun e' => ?_)).trans h1, h2⟩
    obtain ⟨_, ob, hob, ht'⟩ := hrow u e'.symm
    rw [h1] at hob
    cases hob
    rcases ht' with ht' | ⟨cs, fz, ht'⟩
    · cases ht'
    · cases ht'
  case assign =>
    rintro l pre x W K hI hK
    have hg := World.grownBy_alloc W (.cells #[.int .i64 x.1, .int .i64 x.2] 24) none
    have hfin := hid (hK { tmps := #[.slice none 0 0, .func (.func 60) #[] #[.pointer (some ⟨Bm, 0, none⟩)], .pointer (some ⟨Bs, 0, none⟩), undef, .slice none 0 0, .pointer (some ⟨W.heap.size, 0, none⟩), .func (.func 60) #[] #[.pointer (some ⟨Bm, 0, none⟩)], .agg #[.int .i64 x.1, .int .i64 x.2], undef, undef, undef, undef, undef], defers := [] } (W.alloc (.cells #[.int .i64 x.1, .int .i64 x.2] 24)) (KeepsFrom.of_grownBy hg (fun j e => by cases e)) (KU.below ((Below.refl _ W).alloc (Nat.le_refl _) _) hI.size) (hI.alloc hBs _) ⟨W.heap.size, rfl, World.alloc_heap_new W _, hI.size⟩)
    clear hK hg hI
    gi_wp2
    exact hfin.out
  case body =>
    rintro l' pre x a' W ⟨⟨v, h1, h2⟩, h3, h4, h5⟩ ⟨u, rfl, hu, hul⟩ hlen
    obtain ⟨x1, x2⟩ := x
    have e0 : W.cell? ⟨u, 0, none⟩ = some (.int .i64 x1) := by simp [World.cell?, hu]
    have e1 : W.cell? ⟨u, 1, none⟩ = some (.int .i64 x2) := by simp [World.cell?, hu]
    have cb := h1.cell
    have hpl : pre.length < 1000000 := Nat.lt_of_lt_of_le hlen HNs.out
    gi_wp2_with (first
      | (gi_at_builtin; refine wpListIn_append_own _ rfl _ _ 29 rfl V.heap.size 24 i0 (.agg #[.int .i64 0, .int .i64 0]) 2 16 Try.underlying29 hi hz0 hz1 hz2 rfl (by decide) _ _ _ rfl (h2.alloc _) ⟨W.heap.size, 0, none⟩ 1 1 [.int .i64 x1, .int .i64 x2] rfl rfl (cell_two _ _ _) (by simp [Value.oneCell']) (by unfold maxLen; omega) (by omega) (by simp; omega) ?_; intro v' w2 hown' hg hnil; obtain ⟨g', cap', rfl⟩ := ownsRow_succ hown'; obtain ⟨q1, q2, HQ⟩ := RI.app (x := (x1, x2)) hBs h3 h4 h5 h1 h2 hown' hg; clear hown' hg hnil)
      | gi_in)
    exact ⟨HQ.out.2.1, HQ.out.2.2, HQ.out.1⟩

  case done =>
    rintro D ys W hD hS' ⟨⟨v, h1, h2⟩, h3, h4, h5⟩ hK
    have cb := h1.cell
    have hz := HVZ.out
    have hfin : Hid (∃ v' xs, Ending.returned v = .returned v' ∧ KeysOfS S xs ∧ (W.putObj D (.deferred none)).ownsRow w.heap.size 24 2 v' xs.length (flat xs) ∧ NB w (W.putObj D (.deferred none))) := hid ⟨v, ys, rfl, hS', owns_base (ownsRow_putObj h2 (.deferred none) hK rfl) (by omega), ⟨by simp [World.putObj]; omega, fun j hj => (World.putObj_heap_other (by omega)).trans ((h4 j (by omega) (by rw [HB.out]; omega)).trans (HBV.out.block j hj)), (Sm.b HBV.out).trans (h5.trans ⟨rfl, rfl, rfl⟩)⟩⟩
    clear h1 h2 h3 h4 hz
    gi_wp2
    refine ⟨by simp, .inl ⟨_, _, rfl, run_takeDeferred hK, ?_⟩⟩
    refine ⟨_, results_tmp rfl _ _ _, ?_⟩
    exact hfin.out

theorem collect_any (Bm : Nat) (mv : Value) (S : List Sp) (w : World) (c1 : w.cell? ⟨Bm, 0, none⟩ = some mv) (hP : PlV w mv S) (hs : S.length ≤ 1000000) :
    Calls Try.prog 37 #[.func (.func 60) #[] #[.pointer (some ⟨Bm, 0, none⟩)]] w fun e w' => ∃ v xs, e = .returned v ∧ KeysOfS S xs ∧ w'.ownsRow w.heap.size 24 2 v xs.length (flat xs) ∧ NB w w' := by
  have HA := (append_any Bm mv S w c1 hP hs).mono (R' := fun e w' => ∃ v, e = .returned v ∧ Hid (∃ xs, KeysOfS S xs ∧ w'.ownsRow w.heap.size 24 2 v xs.length (flat xs) ∧ NB w w')) (fun e w' h => by
    obtain ⟨v, xs, h1, h2⟩ := h
    exact ⟨v, h1, hid ⟨xs, h2⟩⟩)
  clear c1 hP hs
  go_enter Try.func37, Try.ntmps37
  go_wp2_with (go_at_call 59; refine HA.mono ?_; rintro e W ⟨v, rfl, HF⟩)
  go_ret
  obtain ⟨xs, h⟩ := HF.out
  exact ⟨v, xs, rfl, h⟩
end
end Go.Proofs.Ytplcohjpchfkkaa
