/- A disk in memory, as its callers see it. -/
import Derived.Test.YtegikicpffoglaaDkMay
import Derived.Laws.AppendOwnNone
import Derived.OwnWalk
import Derived.Deep.AppendLies
import Derived.Maps.RangeWalk
namespace Go.Proofs.Ytegikicpffoglaa
section
set_option linter.unusedVariables false
set_option linter.unusedSimpArgs false
open Go.RowKit

theorem run_eql_nil5 (w : World) (a : Option Addr) (l c : Nat) : (binOp BinOp.eql 22 (Value.slice a l c) (Value.slice none 0 0)).run Try.prog w = .ok (.bool a.isNone) w := by
  simp [binOp, go_sem, run_equal_slice_nil w 22 5 a l c Try.underlying22]

theorem row_slice {w : World} {B n : Nat} {v : Value} {xs : List Value} (h : w.ownsRow B 5 1 v n xs) : ∃ a c, v = .slice a n c := by
  rcases h.2 with ⟨e, h0⟩ | ⟨g, cap, cur, e, _⟩
  · exact ⟨none, 0, by rw [e, h0]⟩
  · exact ⟨_, _, e⟩

theorem src_cells {w : World} {ad : Addr} {m : Nat} {L : List Int} (h : Src w (some ad) m L) : ∀ j u, (L.map (Value.int .u8))[j]? = some u → w.cell? (ad.add j) = some u := by
  intro j u hj
  rw [List.getElem?_map, Option.map_eq_some_iff] at hj
  obtain ⟨x, hx, rfl⟩ := hj
  have hp : 0 < m := by rw [← h.1]; exact Nat.lt_of_le_of_lt (Nat.zero_le _) (List.getElem?_eq_some_iff.1 hx).1
  obtain ⟨ad', e, hc⟩ := h.2 hp
  cases e
  exact hc j x hx

/-- Bytes put behind a row of one's own. -/
theorem run_app {w : World} (ty : TypeId) {v : Value} {n : Nat} {xs : List Value} (h : w.ownsRow 0 5 1 v n xs) (ao : Option Addr) (m c : Nat) (L : List Int) (hs : Src w ao m L) (h0 : ao = none → c = 0) (hb : n + m ≤ 16777216) :
    ∃ a' c' w', (Builtin.append_ #[22, 22] ty #[v, .slice ao m c]).run Try.prog w = .ok (.slice a' (n + m) c') w' ∧ w'.ownsRow 0 5 1 (.slice a' (n + m) c') (n + m) (xs ++ L.map (Value.int .u8)) ∧ w.grownBy w' v.ownBlock ∧ ((Value.slice a' (n + m) c').ownBlock = v.ownBlock ∨ (Value.slice a' (n + m) c').ownBlock = some w.heap.size) := by
  obtain ⟨i0, hi, hz0, hz1, hz2⟩ := info_parts Try.info5
  cases ao with
  | none =>
    have hm : m = 0 := by
      rcases Nat.eq_zero_or_pos m with h | h
      · exact h
      · obtain ⟨ad, e, _⟩ := hs.2 h
        cases e
    subst hm
    obtain rfl : L = [] := List.eq_nil_of_length_eq_zero hs.1
    rw [h0 rfl]
    obtain ⟨a', c', e'⟩ := row_slice h
    subst e'
    exact ⟨a', c', w, run_append_owned_none (P := Try.prog) w 0 22 ty 5 i0 1 Try.underlying22 hi _ n xs h, by simpa using h, World.grownBy.refl _ _, Or.inl rfl⟩
  | some ad =>
    obtain ⟨v', w', h1, h2, h3, _, h5⟩ := run_append_own_at (P := Try.prog) w 0 22 ty 5 i0 _ 1 1 Try.underlying22 hi hz0 hz1 hz2 rfl (by decide) v n xs h ad m c (L.map (Value.int .u8)) (by rw [List.length_map, hs.1, Nat.mul_one]) (src_cells hs) (by simp [Value.oneCell']) (by unfold maxLen; omega) (by omega) (Nat.zero_le _)
    obtain ⟨a', c', e'⟩ := row_slice h2
    subst e'
    exact ⟨a', c', w', h1, h2, h3, h5⟩

theorem wp_app {w : World} {o : Oper} {a : Act} {K : Act → World → Prop} {Q : Exit → Act → World → Prop} (s x : Operand) (ho : o.op = .call { callee := .builtin .append, args := #[s, x], argTypes := #[22, 22] })
    {v : Value} {n : Nat} {xs : List Value} (hs : a.eval s = v) (h : w.ownsRow 0 5 1 v n xs) (ao : Option Addr) (m c : Nat) (L : List Int) (hx : a.eval x = .slice ao m c) (hsr : Src w ao m L) (h0 : ao = none → c = 0) (hb : n + m ≤ 16777216) (H : Nat) (hH : w.heap.size = H)
    (hK : ∀ a' c' w', w'.ownsRow 0 5 1 (.slice a' (n + m) c') (n + m) (xs ++ L.map (Value.int .u8)) → w.grownBy w' v.ownBlock → ((Value.slice a' (n + m) c').ownBlock = v.ownBlock ∨ (Value.slice a' (n + m) c').ownBlock = some H) → K (a.put o.dst (.slice a' (n + m) c')) w') : o.wp Try.prog a w K Q := by
  obtain ⟨a', c', w', hr, h2, h3, h4⟩ := run_app o.type h ao m c L hsr h0 hb
  unfold Oper.wp execOp
  simp only [ho, resolve, invoke, builtin, Sem.run_bind, Sem.run_pure, Result.andThen_ok, List.map_toArray, List.map_cons, List.map_nil, hs, hx, hr]
  exact hK a' c' w' h2 h3 (by rw [← hH]; exact h4)

/-- At a step of a region that draws its order. -/
theorem step_app {w : World} {ops : Array Oper} {o : Oper} {a : Act} {K : Act → World → Prop} {Q : Exit → Act → World → Prop} {E : Prop} (hgd : o.guard = none) (s x : Operand) (ho : o.op = .call { callee := .builtin .append, args := #[s, x], argTypes := #[22, 22] })
    {v : Value} {n : Nat} {xs : List Value} (hs : a.eval s = v) (h : w.ownsRow 0 5 1 v n xs) (ao : Option Addr) (m c : Nat) (L : List Int) (hx : a.eval x = .slice ao m c) (hsr : Src w ao m L) (h0 : ao = none → c = 0) (hb : n + m ≤ 16777216) (H : Nat) (hH : w.heap.size = H)
    (hK : ∀ a' c' w', w'.ownsRow 0 5 1 (.slice a' (n + m) c') (n + m) (xs ++ L.map (Value.int .u8)) → w.grownBy w' v.ownBlock → ((Value.slice a' (n + m) c').ownBlock = v.ownBlock ∨ (Value.slice a' (n + m) c').ownBlock = some H) → K (a.put o.dst (.slice a' (n + m) c')) w') :
    if Region.wanted o (yielded ops a.tmps) = true then Oper.wp Try.prog o a w K Q else E := by
  rw [if_pos (by unfold Region.wanted; rw [hgd])]
  exact wp_app s x ho hs h ao m c L hx hsr h0 hb H hH hK

set_option maxRecDepth 100000 in
set_option maxHeartbeats 4000000 in
theorem clone_any {a : Option Addr} {n c : Nat} {L : List Int} {w : World} (hs : Src w a n L) (hn : n ≤ 16777216) (h0 : a = none → n = 0 ∧ c = 0) : Calls Try.prog 33 #[.slice a n c] w fun e w' => ∃ a' c', e = .returned (.slice a' n c') ∧ w'.ownsRow w.heap.size 5 1 (.slice a' n c') n (L.map (Value.int .u8)) ∧ Below w.heap.size w w' := by
  obtain ⟨i0, hi, hz0, hz1, hz2⟩ := info_parts Try.info5
  have hq := run_eql_nil5
  have hl := hs.1
  cases a with
  | none =>
    obtain ⟨rfl, rfl⟩ := h0 rfl
    obtain rfl : L = [] := List.eq_nil_of_length_eq_zero hl
    go_enter Try.func33, Try.ntmps33
    go_wp2
    go_ret
    exact ⟨none, 0, rfl, World.ownsRow_nil _ _ _ _, Below.refl _ _⟩
  | some ad =>
    have hw : RowKit.Below w.heap.size w (w.alloc (.cells #[] 5)) := (Below.refl _ w).alloc (Nat.le_refl _) _
    have ho : (w.alloc (.cells #[] 5)).ownsRow w.heap.size 5 1 (.slice (some ⟨w.heap.size, 0, none⟩) 0 0) 0 [] := World.ownsRow_made w #[] 0 (Nat.le_refl _) (by unfold maxLen; omega) rfl
    have hs1 := hid (hs.below hw)
    have hc1 : Hid (∀ j u, (L.map (Value.int .u8))[j]? = some u → (w.alloc (.cells #[] 5)).cell? (ad.add j) = some u) := hid (fun j u hj => by
      rw [List.getElem?_map, Option.map_eq_some_iff] at hj
      obtain ⟨x, hx, rfl⟩ := hj
      have hp : 0 < n := by rw [← hl]; exact Nat.lt_of_le_of_lt (Nat.zero_le _) (List.getElem?_eq_some_iff.1 hx).1
      obtain ⟨ad', e, hc⟩ := hs1.out.2 hp
      cases e
      exact hc j x hx)
    have HL := hid hl
    clear hs hl h0
    go_enter Try.func33, Try.ntmps33
    go_wp2_with (first
      | (at_builtin; refine wpList_append_own _ rfl _ _ 22 rfl w.heap.size 5 i0 _ 1 1 Try.underlying22 hi hz0 hz1 hz2 rfl (by decide) _ 0 [] rfl ho ad n c (L.map (Value.int .u8)) rfl (by rw [List.length_map, HL.out]; simp) hc1.out (by simp [Value.oneCell']) (by unfold maxLen; omega) (by omega) (by simp) ?_; intro v5 w5 ho5 hg5 hn5))
    go_ret
    obtain ⟨a', c', e'⟩ := row_slice ho5
    rw [Nat.zero_add] at e'
    refine ⟨a', c', by rw [e']; rfl, ?_, hw.grown hg5 (by simp) (fun j hj => (ho.lt j hj).1)⟩
    rw [e'] at ho5
    simpa using ho5
end

section
set_option linter.unusedVariables false
set_option linter.unusedSimpArgs false
open Go.RowKit

theorem cell_blk {w : World} {b i : Nat} {cs : Array Value} {ty : TypeId} {f : Nat × Nat} {v : Value} (h : w.heap[b]? = some (.cells cs ty f)) (hv : cs[i]? = some v) : w.cell? ⟨b, i, none⟩ = some v := by
  simp [World.cell?, h, hv]
theorem frz_blk {w : World} {b i : Nat} {cs : Array Value} {ty : TypeId} (h : w.heap[b]? = some (.cells cs ty (0, 0))) : w.frozen? ⟨b, i, none⟩ = false := frozen_of_row w b i _ ty h

theorem set_blk {w : World} {b i : Nat} {cs : Array Value} {ty : TypeId} {f : Nat × Nat} (v : Value) (h : w.heap[b]? = some (.cells cs ty f)) : (w.setCell ⟨b, i, none⟩ v).heap[b]? = some (.cells (cs.setIfInBounds i v) ty f) := by
  simp [World.setCell, Array.getElem?_modify, h]

theorem row_base {w : World} {B n : Nat} {v : Value} {xs : List Value} (h : w.ownsRow B 5 1 v n xs) : w.ownsRow 0 5 1 v n xs := by
  refine ⟨h.1, ?_⟩
  rcases h.2 with h' | ⟨g, cap, cur, e, hb, r⟩
  · exact Or.inl h'
  · exact Or.inr ⟨g, cap, cur, e, Nat.zero_le _, r⟩
theorem Below.grownBy {w w' : World} (h : Below w.heap.size w w') {row : Option Nat} : w.grownBy w' row := ⟨h.os, h.tape, h.output, h.size, fun k hk _ => h.block k hk⟩
theorem set_grown {w w' : World} {g : Nat} (h : w.grownBy w' (some g)) (i : Nat) (v : Value) : w.grownBy (w'.setCell ⟨g, i, none⟩ v) (some g) :=
  ⟨h.os, h.tape, h.output, by simpa using h.size, fun k hk hne => (Below.heap_setCell _ _ _ _ (fun e => hne (by rw [e]))).trans (h.block k hk hne)⟩

/-- A row of one's own as a source of bytes. -/
theorem own_src {w : World} {B : Nat} {v : Value} {L : List Int} (h : w.ownsRow B 5 1 v L.length (L.map (Value.int .u8))) : ∃ a c, v = .slice a L.length c ∧ Src w a L.length L ∧ (a = none → c = 0) ∧ L.length ≤ c ∧ c ≤ maxLen := by
  rcases h.2 with ⟨e, h0⟩ | ⟨g, cap, cur, e, hb, hg, hn, hc, hs, ht⟩
  · rw [h0]
    exact ⟨none, 0, e, ⟨h0, fun h => absurd h (by omega)⟩, fun _ => rfl, Nat.le_refl _, by unfold maxLen; omega⟩
  · refine ⟨some ⟨g, 0, none⟩, cap, e, ⟨rfl, fun hp => ⟨_, rfl, fun j v hj => ?_⟩⟩, ⟨(fun e => by cases e), hn, hc⟩⟩
    subst e
    have := h.cells (g := g) rfl j (.int .u8 v) (by rw [List.getElem?_map, hj]; rfl)
    exact this

set_option maxRecDepth 100000 in
set_option maxHeartbeats 4000000 in
theorem shorten_any (g : Nat) (v : Value) (b : List Int) (s n : Nat) (w : World) (hg : w.heap[g]? = some (.cells #[v, .int .i64 (s : Int)] 60 (0, 0))) (hr : w.ownsRow 0 5 1 v b.length (b.map (Value.int .u8))) (hl : b.length ≤ 16777216) (hs : s ≤ b.length) (hn : n ≤ 9223372036854775807) :
    Calls Try.prog 44 #[.pointer (some ⟨g, 0, none⟩), .int .i64 (n : Int)] w fun e w' => e = .returned (.tuple #[]) ∧ ∃ v', w'.heap[g]? = some (.cells #[v', .int .i64 ((min s n : Nat) : Int)] 60 (0, 0)) ∧ w'.ownsRow 0 5 1 v' (b.take n).length ((b.take n).map (Value.int .u8)) ∧ w.grownBy w' (some g) ∧ (∀ k, v'.ownBlock = some k → v.ownBlock = some k ∨ w.heap.size ≤ k) := by
  obtain ⟨a, c, rfl, hsrc, han, hlc, hcm⟩ := own_src hr
  have c0 : w.cell? ⟨g, 0, none⟩ = some (.slice a b.length c) := cell_blk hg rfl
  have c1 : w.cell? ⟨g, 1, none⟩ = some (.int .i64 (s : Int)) := cell_blk hg rfl
  unfold maxLen at hcm
  by_cases hnl : b.length ≤ n
  · have e1 : b.take n = b := List.take_of_length_le hnl
    have e2 : min s n = s := by omega
    rw [e1, e2]
    have R := hid (And.intro hg hr)
    clear hg hr hsrc e1 e2
    go_enter Try.func44, Try.ntmps44
    go_wp2
    (try simp only [Exit.inBlock, Exit.then])
    refine bodyPost_ret (results_none rfl _ _ _) rfl ?_
    exact ⟨rfl, _, R.out.1, R.out.2, World.grownBy.refl _ _, fun k hk => Or.inl hk⟩
  · have hlt : n < b.length := by omega
    have hgl := (Array.getElem?_eq_some_iff.1 hg).1
    have f0 := frz_blk (i := 0) hg
    have f1 := frz_blk (i := 1) hg
    have hs2 := src_take hsrc n (by omega)
    have hcl := clone_any (w := w) hs2 (c := c) (by omega) (fun e => by
      obtain ⟨ad, e', _⟩ := hsrc.2 (by omega)
      rw [e] at e'
      cases e')
    have R := hid hg
    have HR := hid hr
    have hmin : (min (s : Int) (n : Int)) = ((min s n : Nat) : Int) := by omega
    clear hg hr hsrc hs2
    go_enter Try.func44, Try.ntmps44
    go_wp2_with (first
      | (go_at_call 33; refine hcl.mono ?_; rintro e w1 ⟨a1, c1, rfl, ho1, hb1⟩; have g1 := (hb1.block g hgl).trans R.out; have c01 : w1.cell? ⟨g, 0, none⟩ = some (.slice a b.length c) := cell_blk g1 rfl; have c11 : w1.cell? ⟨g, 1, none⟩ = some (.int .i64 (s : Int)) := cell_blk g1 rfl; have f01 := frz_blk (i := 0) g1; have f11 := frz_blk (i := 1) g1; have G1 := hid g1; clear g1))
    all_goals go_end0
    all_goals
      refine ⟨rfl, .slice a1 n c1, ?_, ?_, ?_, ?_⟩
      · rw [set_blk (i := 1) _ (set_blk (i := 0) _ G1.out)]
        simp
        omega
      · rw [show min n b.length = n by omega, ← List.map_take]
        refine row_kept5 (row_base ho1) (fun k hk => ?_)
        have := (ho1.lt k hk).1
        rw [Below.heap_setCell _ _ _ _ (by simp; omega), Below.heap_setCell _ _ _ _ (by simp; omega)]
      · exact set_grown (set_grown (Below.grownBy hb1) _ _) _ _
      · exact fun k hk => Or.inr (ho1.lt k hk).1
end

section
set_option linter.unusedVariables false
set_option linter.unusedSimpArgs false
open Go.RowKit Go.Sort Go.Maps

/-- The entry that a range comes to. -/
theorem entry_file {S : List (Nm × Fi)} {D : DataW Unit} (hT : ∀ n, Maps.has D (.string n) = (lk S n).isSome ∧ D.atKey (.string n) (pz none) = pz ((lk S n).map Fi.g)) {n : Nm} {o : Option Nat} {y : DataW Unit × List MemPlace} (hv : pR (pvo o) = some y) (hat : ∀ zd, D.atKey (.string n) zd = y.1) : ∃ f, lk S n = some f ∧ o = some f.g := by
  have hh : Maps.has D (.string n) = true := has_true_of_atKey hat
  rw [(hT n).1] at hh
  obtain ⟨f, hf⟩ := Option.isSome_iff_exists.1 hh
  refine ⟨f, hf, ?_⟩
  have h1 := (hT n).2
  rw [hat, hf] at h1
  rw [pR_mk] at hv
  have h2 : pz o = y.1 := by rw [← Option.some.inj hv]
  exact pz_inj (h2.trans h1)

theorem sum_snoc (S : List (Nm × Fi)) (f : Fi → Nat) (ss : List Nm) (x : Nm) : ((ss ++ [x]).map (fun n => at_ f (lk S n))).sum = (ss.map (fun n => at_ f (lk S n))).sum + at_ f (lk S x) := by simp

/-- What was met so far is no more than all. -/
theorem sum_le (f : Fi → Nat) : ∀ (ss : List Nm) {S : List (Nm × Fi)}, Asc S → ss.Nodup → (ss.map (fun n => at_ f (lk S n))).sum ≤ sm f S
  | [], _, _, _ => Nat.zero_le _
  | x :: r, S, hA, hn => by
    obtain ⟨h1, h2⟩ := List.nodup_cons.1 hn
    have ih := sum_le f r (asc_wo x hA) h2
    have e : r.map (fun n => at_ f (lk (wo S x) n)) = r.map (fun n => at_ f (lk S n)) := List.map_congr_left (fun n hn' => by
      rw [lk_wo, if_neg (fun e => h1 (by rw [← e]; exact hn'))])
    rw [e] at ih
    have := sm_wo f x hA
    simp only [List.map_cons, List.sum_cons]
    omega

set_option maxRecDepth 100000 in
set_option maxHeartbeats 4000000 in
theorem room_any (d m : Nat) (cv : Value) (room : Nat) (off : Bool) (S : List (Nm × Fi)) (A : Nat → Prop) (w : World) (h : DA w d m cv room off S A) :
    Calls Try.prog 18 #[.pointer (some ⟨d, 0, none⟩)] w fun e w' => e = .returned (.int .i64 ((room - sm (fun f => f.b.length) S : Nat) : Int)) ∧ Below w.heap.size w w' := by
  have c0 : w.cell? ⟨d, 0, none⟩ = some (.int .i64 (room : Int)) := cell_blk h.blk rfl
  have c1 : w.cell? ⟨d, 1, none⟩ = some (.map (some m)) := cell_blk h.blk rfl
  obtain ⟨D, hown, hsz, hpm, hT⟩ := h.map.full h.asc
  have hmlt := hown.lt
  have hfits := h.fits
  have hsm := h.small
  have HD := hid h
  have HT := hid hT
  have HP := hid hpm
  clear h hT hpm hsz
  go_enter Try.func18, Try.ntmps18
  go_wp2_with (first
    | (at_range; refine wpList_range_own _ rfl _ 51 rfl 9 57 law Try.underlying51 _ m S.length _ rfl hown ?_; intro w0 hrg0 hg0 hs0)
    | go_in)
  go_frame
  go_loopw [3] (fun v wr => ∃ (left : Lit → Bool) (cnt : Nat) (ss : List Nm), wr.ranges Try.prog 9 pR m w.heap.size S.length D left cnt ∧ Collected D left ss ∧ v = .int .i64 ((room - (ss.map (fun n => at_ (fun f => f.b.length) (lk S n))).sum : Nat) : Int) ∧ Below w.heap.size w wr) (fun _ wr => wr.rangeLeft m w.heap.size)
  case atStart =>
    exact ⟨_, _, [], hrg0, Collected.start D, by simp, (Below.refl _ _).grown hg0 (Nat.le_refl _) (fun j hj => by cases hj)⟩
  case round =>
    obtain ⟨left, cnt, ss, hrg, hC, rfl, hnx⟩ := hrel
    go_wp2_with (first
      | (at_next; refine wpList_next_ranges _ rfl _ rfl 9 law pR encStr pvo (fun key kl hk => by obtain ⟨x, hx, _⟩ := Maps.keyOf_str Try.underlying9 hk; exact ⟨x, hx⟩) (fun v y hv => by obtain ⟨o, ho, _⟩ := pR_some hv; exact ⟨o, ho⟩) m w.heap.size S.length _ _ _ rfl hrg ?_ ?_)
      | go_in)
    · intro hc0 hl0
      have hp := (hC.perm hown law Try.underlying9 hl0).trans HP.out
      have hs := sm_perm (fun f : Fi => f.b.length) HD.out.asc hp
      have HS := hid hs
      clear hp hs hl0 hc0
      go_wp2
      go_ret
      rw [HS.out]
      exact ⟨rfl, hnx⟩
    · intro x o kl yd yp w2 cnt2 hkey hlk hv hat hrg2 hlt hg2 hs2 hen
      obtain ⟨x', ex, rfl, _⟩ := Maps.keyOf_str Try.underlying9 hkey
      obtain rfl := encStr_inj ex
      obtain ⟨f, hf, rfl⟩ := entry_file HT.out hv hat
      have hfile := HD.out.files.file x f hf
      have hgl := (Array.getElem?_eq_some_iff.1 hfile).1
      have hC2 := hC.step hlk hat
      have hle := sum_le (fun f : Fi => f.b.length) (ss ++ [x]) HD.out.asc hC2.1
      rw [sum_snoc, hf] at hle
      have hb2 : Below w.heap.size w w2 := hnx.grown hg2 hnx.size (fun j hj => by cases hj; exact Nat.le_refl _)
      obtain ⟨a, c, hav, _⟩ := own_src (HD.out.files.row x f hf)
      have cf : w2.cell? ⟨f.g, 0, none⟩ = some (.slice a f.b.length c) := by
        rw [hb2.cell (by exact hgl), cell_blk hfile rfl, hav]; rfl
      obtain ⟨T, hT⟩ : ∃ T, T = (ss.map (fun n => at_ (fun f : Fi => f.b.length) (lk S n))).sum := ⟨_, rfl⟩
      have hE := hid (sum_snoc S (fun f : Fi => f.b.length) ss x)
      rw [hf] at hE
      rw [← hT] at hle hE ⊢
      have hle2 : T + f.b.length ≤ room := by
        have : at_ (fun f : Fi => f.b.length) (some f) = f.b.length := rfl
        omega
      have he1 : ((room - T : Nat) : Int) - (f.b.length : Int) = ((room - (T + f.b.length) : Nat) : Int) := by omega
      have hC3 := hid hC2
      have HB := hid hb2
      clear hs2 hC2 hle hb2 hfile hat hv hlk hkey hT ex
      simp only [pvo] at hen ⊢
      go_wp2_with go_in
      go_roundw
      case rel =>
        refine ⟨_, cnt2, ss ++ [x], hrg2, hC3.out, ?_, HB.out⟩
        rw [hE.out]
        simp [at_]
      case measure => rw [hrg2.left_eq, hrg.left_eq]; exact hlt
end

section
set_option linter.unusedVariables false
set_option linter.unusedSimpArgs false
open Go.RowKit Go.Sort Go.Maps

section
variable {α β γ : Type}
/-- Each turned into another, by its name. -/
def mq (g : Nm → α → β) (S : List (Nm × α)) : List (Nm × β) := S.map (fun p => (p.1, g p.1 p.2))
theorem lk_mq (g : Nm → α → β) : ∀ (S : List (Nm × α)) (n : Nm), lk (mq g S) n = (lk S n).map (g n)
  | [], n => rfl
  | (k, b) :: r, n => by
    have := lk_mq g r n
    simp only [mq, List.map_cons, lk] at this ⊢
    by_cases e : k = n
    · subst e
      rw [if_pos rfl, if_pos rfl]; rfl
    · rw [if_neg e, if_neg e, this]
theorem asc_mq (g : Nm → α → β) : ∀ {S : List (Nm × α)}, Asc S → Asc (mq g S)
  | [], _ => trivial
  | (k, b) :: r, h => ⟨fun p hp => by
      obtain ⟨q, hq, rfl⟩ := List.mem_map.1 hp
      exact h.1 q hq, asc_mq g h.2⟩
theorem mp_mq (g : Nm → α → β) (h : β → γ) (f : α → γ) (S : List (Nm × α)) (H : ∀ n a, h (g n a) = f a) : mp h (mq g S) = mp f S := by simp [mp, mq, H]
theorem len_mq (g : Nm → α → β) (S : List (Nm × α)) : (mq g S).length = S.length := by simp [mq]
theorem sm_mq_le (f : β → Nat) (f' : α → Nat) (g : Nm → α → β) (H : ∀ n a, f (g n a) ≤ f' a) : ∀ (S : List (Nm × α)), sm f (mq g S) ≤ sm f' S
  | [] => Nat.le_refl _
  | (k, b) :: r => by
    have h1 := sm_mq_le f f' g H r
    have h2 := H k b
    simp only [mq, List.map_cons, sm] at h1 ⊢
    omega
end

/-- How many bytes are left: what is sure, and so many of the tail. -/
def lft (k s l : Nat) : Nat := s + min k (l - s)
/-- A file whose tail is torn. -/
def Fl.torn (k : Nat) (f : Fl) : Fl := ⟨f.b.take (lft k f.s f.b.length), lft k f.s f.b.length⟩
def Fi.torn (k : Nat) (v : Value) (f : Fi) : Fi := ⟨f.b.take (lft k f.s f.b.length), lft k f.s f.b.length, f.g, v⟩
theorem lft_le {k s l : Nat} (h : s ≤ l) : lft k s l ≤ l := by unfold lft; omega
/-- Torn, if it isn't still to come. -/
def trn (left : Lit → Bool) (V : Nm → Value) (k : Nat) (n : Nm) (f : Fi) : Fi := if left (.string n) = true then f else f.torn k (V n)
theorem trn_g (left : Lit → Bool) (V : Nm → Value) (k : Nat) (n : Nm) (f : Fi) : (trn left V k n f).g = f.g := by unfold trn; split <;> rfl

theorem samekey_str (m n : Nm) : (Lit.string m).sameKey (.string n) = decide (m = n) := by
  by_cases h : m = n
  · subst h; simp [Lit.sameKey]
  · simp [Lit.sameKey, h]

theorem tear_step (left : Lit → Bool) (V : Nm → Value) (k : Nat) (S : List (Nm × Fi)) {n : Nm} {f : Fi} (hf : lk S n = some f) (v' : Value) :
    lk (mq (trn (fun z => left z && !z.sameKey (.string n)) (fun m => if m = n then v' else V m) k) S) = fun m => if m = n then some (f.torn k v') else lk (mq (trn left V k) S) m := by
  funext m
  rw [lk_mq, lk_mq]
  by_cases e : m = n
  · subst e
    rw [if_pos rfl, hf]
    simp [trn, samekey_str]
  · rw [if_neg e]
    have : ∀ f' : Fi, trn (fun z => left z && !z.sameKey (.string n)) (fun m => if m = n then v' else V m) k m f' = trn left V k m f' := fun f' => by
      unfold trn
      simp only [samekey_str]
      simp [e]
    cases lk S m with
    | none => rfl
    | some f' => simp [this]

theorem tear_start (V : Nm → Value) (k : Nat) (S : List (Nm × Fi)) (left : Lit → Bool) (hT : ∀ n, left (.string n) = (lk S n).isSome) : lk (mq (trn left V k) S) = lk S := by
  funext m
  rw [lk_mq]
  cases h : lk S m with
  | none => rfl
  | some f =>
    have : left (.string m) = true := by rw [hT, h]; rfl
    simp [trn, this]

theorem tear_end (V : Nm → Value) (k : Nat) (S : List (Nm × Fi)) (left : Lit → Bool) (hl : ∀ kl, left kl = false) : mp Fi.fl (mq (trn left V k) S) = mp (fun f => f.fl.torn k) S :=
  mp_mq _ _ _ _ (fun n a => by unfold trn; rw [hl]; rfl)

theorem FW.off {w : World} {M : Nm → Option Fi} {A : Nat → Prop} (h : FW w M A) {d : Nat} {cs : Array Value} {ty : TypeId} (hd : w.heap[d]? = some (.cells cs ty (0, 0))) (hty : ty ≠ 60) (hty2 : ty ≠ 5) {n : Nm} {f : Fi} (e : M n = some f) : f.g ≠ d ∧ f.v.ownBlock ≠ some d := by
  refine ⟨fun e' => ?_, fun e' => ?_⟩
  · have := h.file n f e
    rw [e', hd] at this
    simp at this
    exact hty this.2
  · obtain ⟨_, cs', hc⟩ := row_lt5 (h.row n f e) e'
    rw [hd] at hc
    simp at hc
    exact hty2 hc.2

/-- One's own, and what is new since r. -/
def Ax (A : Nat → Prop) (r : Nat) (w : World) : Nat → Prop := fun j => A j ∨ (r < j ∧ j < w.heap.size)
end

section
set_option linter.unusedVariables false
set_option linter.unusedSimpArgs false
open Go.RowKit Go.Sort Go.Maps

/-- A disk: its room, whether its power is off, the cut that is to come, its files. -/
structure Dk where
  room : Nat
  off : Bool
  due : Option (Nat × Nat × Nat)
  F : List (Nm × Fl)

/-- The cut in memory. -/
def CT (w : World) (cv : Value) (due : Option (Nat × Nat × Nat)) (A P : Nat → Prop) : Prop :=
  (due = none ∧ cv = .pointer none) ∨ ∃ o p k c, due = some (o, p, k) ∧ cv = .pointer (some ⟨c, 0, none⟩) ∧ w.heap[c]? = some (.cells #[.int .i64 (o : Int), .int .i64 (p : Int), .int .i64 (k : Int)] 76 (0, 0)) ∧ ¬ A c ∧ ¬ P c ∧ o ≤ 9223372036854775807 ∧ p ≤ 9223372036854775807 ∧ k ≤ 9223372036854775807

/-- A disk whose blocks are none of P's. -/
def DK (w : World) (d : Nat) (D : Dk) (P : Nat → Prop) : Prop :=
  ∃ m cv S A, DA w d m cv D.room D.off S A ∧ CT w cv D.due A P ∧ mp Fi.fl S = D.F ∧ ∀ j, P j → j < w.heap.size ∧ ¬ A j

/-- P's blocks are as they were. -/
structure KP (w w' : World) (P : Nat → Prop) : Prop where
  size : w.heap.size ≤ w'.heap.size
  keep : ∀ j, j < w.heap.size → P j → w'.heap[j]? = w.heap[j]?
  sm : Sm w w'

theorem KP.refl (w : World) (P : Nat → Prop) : KP w w P := ⟨Nat.le_refl _, fun _ _ _ => rfl, Sm.refl _⟩
theorem KP.trans {a b c : World} {P : Nat → Prop} (h : KP a b P) (k : KP b c P) : KP a c P :=
  ⟨Nat.le_trans h.size k.size, fun j hj hP => (k.keep j (Nat.lt_of_lt_of_le hj h.size) hP).trans (h.keep j hj hP), h.sm.trans k.sm⟩
theorem KP.below {w w' : World} {P : Nat → Prop} (h : Below w.heap.size w w') : KP w w' P := ⟨h.size, fun j hj _ => h.block j hj, Sm.b h⟩
theorem KP.less {w w' : World} {P Q : Nat → Prop} (h : KP w w' P) (hq : ∀ j, Q j → P j) : KP w w' Q := ⟨h.size, fun j hj hQ => h.keep j hj (hq j hQ), h.sm⟩

theorem CT.ka {w w' : World} {cv : Value} {due : Option (Nat × Nat × Nat)} {A A' P : Nat → Prop} (h : CT w cv due A P) (k : KA w w' A A') : CT w' cv due A' P := by
  rcases h with h | ⟨o, p, q, c, h1, h2, h3, h4, h5, h6⟩
  · exact Or.inl h
  · have hl := (Array.getElem?_eq_some_iff.1 h3).1
    refine Or.inr ⟨o, p, q, c, h1, h2, (k.keep c hl h4).trans h3, fun e => ?_, h5, h6⟩
    rcases k.new c e with e | e
    · exact h4 e
    · omega

/-- What kept all that isn't the disk's own keeps P's. -/
theorem KA.kp {w w' : World} {A A' P : Nat → Prop} (k : KA w w' A A') (hP : ∀ j, P j → j < w.heap.size ∧ ¬ A j) : KP w w' P ∧ ∀ j, P j → j < w'.heap.size ∧ ¬ A' j := by
  refine ⟨⟨k.size, fun j hj h => k.keep j hj (hP j h).2, k.sm⟩, fun j h => ⟨Nat.lt_of_lt_of_le (hP j h).1 k.size, fun e => ?_⟩⟩
  rcases k.new j e with e | e
  · exact (hP j h).2 e
  · exact absurd (hP j h).1 (by omega)

theorem DK.of {w w' : World} {d m : Nat} {cv : Value} {room : Nat} {off : Bool} {due : Option (Nat × Nat × Nat)} {S' : List (Nm × Fi)} {F : List (Nm × Fl)} {A A' P : Nat → Prop} (hc : CT w cv due A P) (hP : ∀ j, P j → j < w.heap.size ∧ ¬ A j) (k : KA w w' A A') (h : DA w' d m cv room off S' A') (hF : mp Fi.fl S' = F) : DK w' d ⟨room, off, due, F⟩ P ∧ KP w w' P :=
  ⟨⟨m, cv, S', A', h, hc.ka k, hF, (k.kp hP).2⟩, (k.kp hP).1⟩

theorem DK.below {w w' : World} {d : Nat} {D : Dk} {P : Nat → Prop} (h : DK w d D P) (hb : Below w.heap.size w w') : DK w' d D P := by
  obtain ⟨m, cv, S, A, hD, hc, hF, hP⟩ := h
  exact ⟨m, cv, S, A, hD.below hb, hc.ka (KA.below hb), hF, ((KA.below hb).kp hP).2⟩

/-- What is made since is none of the disk's either. -/
theorem DK.more {w w' : World} {d : Nat} {D : Dk} {P : Nat → Prop} (h : DK w d D P) (hb : Below w.heap.size w w') : DK w' d D (fun j => P j ∨ (w.heap.size ≤ j ∧ j < w'.heap.size)) := by
  obtain ⟨m, cv, S, A, hD, hc, hF, hP⟩ := h
  have hk := KA.below (A := A) hb
  refine ⟨m, cv, S, A, hD.below hb, ?_, hF, fun j hj => ?_⟩
  · rcases hc.ka hk with h | ⟨o, p, q, c, h1, h2, h3, h4, h5, h6⟩
    · exact Or.inl h
    · rcases hc with ⟨_, h'⟩ | ⟨_, _, _, c', _, h2', h3', _⟩
      · rw [h2] at h'; cases h'
      · rw [h2] at h2'
        obtain rfl : c = c' := by simpa using h2'
        have hl := (Array.getElem?_eq_some_iff.1 h3').1
        exact Or.inr ⟨o, p, q, c, h1, h2, h3, h4, fun e => by
          rcases e with e | e
          · exact h5 e
          · omega, h6⟩
  · rcases hj with hj | hj
    · exact (hk.kp hP).2 j hj
    · exact ⟨hj.2, fun e => by have := hD.lt j e; omega⟩

theorem DK.less {w : World} {d : Nat} {D : Dk} {P Q : Nat → Prop} (h : DK w d D P) (hq : ∀ j, Q j → P j) : DK w d D Q := by
  obtain ⟨m, cv, S, A, hD, hc, hF, hP⟩ := h
  refine ⟨m, cv, S, A, hD, ?_, hF, fun j hj => hP j (hq j hj)⟩
  rcases hc with h | ⟨o, p, q, c, h1, h2, h3, h4, h5, h6⟩
  · exact Or.inl h
  · exact Or.inr ⟨o, p, q, c, h1, h2, h3, h4, fun e => h5 (hq c e), h6⟩

/-- Where P's blocks alone turn, the disk is as it was. -/
theorem DK.same {w w' : World} {d : Nat} {D : Dk} {P : Nat → Prop} (h : DK w d D P) (hz : w.heap.size ≤ w'.heap.size) (hs : ∀ j, j < w.heap.size → ¬ P j → w'.heap[j]? = w.heap[j]?) : DK w' d D P := by
  obtain ⟨m, cv, S, A, hD, hc, hF, hP⟩ := h
  refine ⟨m, cv, S, A, hD.same (fun j hj => hs j (hD.lt j hj) (fun e => (hP j e).2 hj)) hz, ?_, hF, fun j hj => ⟨Nat.lt_of_lt_of_le (hP j hj).1 hz, (hP j hj).2⟩⟩
  rcases hc with h | ⟨o, p, q, c, h1, h2, h3, h4, h5, h6⟩
  · exact Or.inl h
  · exact Or.inr ⟨o, p, q, c, h1, h2, (hs c (Array.getElem?_eq_some_iff.1 h3).1 h5).trans h3, h4, h5, h6⟩

theorem DK.lt {w : World} {d : Nat} {D : Dk} {P : Nat → Prop} (h : DK w d D P) : d < w.heap.size ∧ ¬ P d := by
  obtain ⟨m, cv, S, A, hD, hc, hF, hP⟩ := h
  exact ⟨hD.lt d hD.own.1, fun e => (hP d e).2 hD.own.1⟩

/-- What is known of the files. -/
structure Good (D : Dk) : Prop where
  asc : Asc D.F
  few : D.F.length ≤ 100
  fits : sm Fl.n D.F ≤ D.room
  small : D.room ≤ 16777216
  nice : ∀ n f, lk D.F n = some f → n.length ≤ 32 ∧ Bts f.b ∧ f.s ≤ f.b.length
theorem DK.good {w : World} {d : Nat} {D : Dk} {P : Nat → Prop} (h : DK w d D P) : Good D := by
  obtain ⟨m, cv, S, A, hD, hc, hF, hP⟩ := h
  refine ⟨hF ▸ (asc_mp _).2 hD.asc, by rw [← hF, len_mp]; exact hD.few, by rw [← hF, sm_mp]; exact hD.fits, hD.small, fun n f e => ?_⟩
  rw [← hF, lk_mp] at e
  obtain ⟨f', h1, rfl⟩ := Option.map_eq_some_iff.1 e
  exact ⟨hD.nice n f' h1, (hD.files.ok n f' h1).1, (hD.files.ok n f' h1).2⟩

/-- What an operation does, of which so much is done (none: whole): the files, the error. -/
abbrev Ef := Option Nat → List (Nm × Fl) → List (Nm × Fl) × Nat
def fz : Option Fl → Fl
  | none => ⟨[], 0⟩
  | some f => f
def eApp (room : Nat) (n : Nm) (b : List Int) : Ef := fun p F =>
  if mayB n = false then (F, 61) else if room - sm Fl.n F < b.length ∨ (lk F n = none ∧ 100 ≤ F.length) then (F, 72)
  else (put F n ⟨(fz (lk F n)).b ++ b.take (p.getD b.length), (fz (lk F n)).s⟩, 0)
def eSync (n : Nm) : Ef := fun p F =>
  match lk F n with
  | none => (F, 70)
  | some f => if p = none then (put F n ⟨f.b, f.b.length⟩, 0) else (F, 0)
def Fl.cutTo (k : Nat) (f : Fl) : Fl := if f.b.length ≤ k then f else ⟨f.b.take k, min f.s k⟩
def eSho (n : Nm) (k : Int) : Ef := fun p F =>
  match lk F n with
  | none => (F, 70)
  | some f => if k < 0 then (F, 1) else if p = some 0 then (F, 0) else (put F n (f.cutTo k.toNat), 0)

/-- An operation. -/
def operD (e : Ef) (D : Dk) : Dk × Nat :=
  if D.off = true then (D, 71) else
  match D.due with
  | none => (⟨D.room, false, none, (e none D.F).1⟩, (e none D.F).2)
  | some (0, p, k) => (⟨D.room, true, none, mp (Fl.torn k) (e (some p) D.F).1⟩, 71)
  | some (o + 1, p, k) => (⟨D.room, false, some (o, p, k), (e none D.F).1⟩, (e none D.F).2)
end
end Go.Proofs.Ytegikicpffoglaa
