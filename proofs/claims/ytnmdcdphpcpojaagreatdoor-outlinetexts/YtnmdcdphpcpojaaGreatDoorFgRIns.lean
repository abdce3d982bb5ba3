/- The reference: Insert. -/
import Derived.Test.YtnmdcdphpcpojaaGreatDoorFgSame
import Derived.Shelf.SlSortCmp.QuietGrown
import Derived.BigQuiet
import Derived.Test.YtnmdcdphpcpojaaGreatDoorTrMath
import Derived.Test.YtnmdcdphpcpojaaGreatDoorFgNil
import Derived.Deep.CutRange
namespace Go.Proofs.YtnmdcdphpcpojaaGreatDoor
section
set_option linter.unusedVariables false
open Go.RowKit
open Go.Sort (grow)

/-- A character's cells, as the reference lays them. -/
def Cr.rc (c : Cr) : Array Value := #[.int .i64 c.id.1, .int .i64 c.id.2, .int .i64 c.at_.1, .int .i64 c.at_.2, .int .i64 (if c.sd then 1 else 0), .int .i64 c.ch, .bool c.seen]

/-- A slice holds these characters. -/
structure RT (w : World) (a : Option Addr) (n c : Nat) (T : List Cr) : Prop where
  len : T.length = n
  cap : n ≤ c
  max : c ≤ maxLen
  nil : a = none → n = 0 ∧ c = 0
  at_ : 0 < n → ∃ g o, a = some ⟨g, o, none⟩ ∧ g < w.heap.size ∧ ∀ i (hi : i < T.length) (j : Nat) (u : Value), (T[i]).rc.toList[j]? = some u → w.cell? ⟨g, o + i * 7 + j, none⟩ = some u

theorem RT.below {w w' : World} {a : Option Addr} {n c : Nat} {T : List Cr} (h : RT w a n c T) (hb : Below w.heap.size w w') : RT w' a n c T :=
  ⟨h.len, h.cap, h.max, h.nil, fun hp => by
    obtain ⟨g, o, e, hg, hx⟩ := h.at_ hp
    exact ⟨g, o, e, Nat.lt_of_lt_of_le hg hb.size, fun i hi j u hj => by rw [hb.cell (p := ⟨g, o + i * 7 + j, none⟩) hg]; exact hx i hi j u hj⟩⟩

/-- One of its characters. -/
structure RcAt (w : World) (g o : Nat) (x : Cr) : Prop where
  lt : g < w.heap.size
  c0 : w.cell? ⟨g, o, none⟩ = some (.int .i64 x.id.1)
  c1 : w.cell? ⟨g, o + 1, none⟩ = some (.int .i64 x.id.2)
  c2 : w.cell? ⟨g, o + 2, none⟩ = some (.int .i64 x.at_.1)
  c3 : w.cell? ⟨g, o + 3, none⟩ = some (.int .i64 x.at_.2)
  c4 : w.cell? ⟨g, o + 4, none⟩ = some (.int .i64 (if x.sd then 1 else 0))
  c5 : w.cell? ⟨g, o + 5, none⟩ = some (.int .i64 x.ch)
  c6 : w.cell? ⟨g, o + 6, none⟩ = some (.bool x.seen)

theorem RT.at {w : World} {a : Option Addr} {n c : Nat} {T : List Cr} (h : RT w a n c T) {k : Nat} (hk : k < n) : ∃ g o, a = some ⟨g, o, none⟩ ∧ RcAt w g (o + k * 7) (T[k]'(by rw [h.len]; exact hk)) := by
  obtain ⟨g, o, e, hg, hx⟩ := h.at_ (by omega)
  have hk' : k < T.length := by rw [h.len]; exact hk
  exact ⟨g, o, e, hg, hx k hk' 0 _ rfl, hx k hk' 1 _ rfl, hx k hk' 2 _ rfl, hx k hk' 3 _ rfl, hx k hk' 4 _ rfl, hx k hk' 5 _ rfl, hx k hk' 6 _ rfl⟩

/-- Where a character lies in the row; -1: there is none. -/
def atI (T : List Cr) (d : Dt) : Int := if ∃ c ∈ T, c.id = d then (T.findIdx (fun c => decide (c.id = d)) : Int) else -1

theorem atI_at {T : List Cr} {d : Dt} {k : Nat} {x : Cr} (hx : T[k]? = some x) (he : x.id = d) (hb : ∀ c ∈ T.take k, c.id ≠ d) : atI T d = k := by
  unfold atI
  rw [if_pos ⟨x, List.mem_of_getElem? hx, he⟩]
  congr 1
  have hk := (List.getElem?_eq_some_iff.1 hx).1
  refine (List.findIdx_eq hk).2 ⟨?_, fun j hj => ?_⟩
  · have : T[k] = x := (List.getElem?_eq_some_iff.1 hx).2
    rw [this]
    simpa using he
  · simp only [decide_eq_false_iff_not]
    refine hb _ ?_
    rw [List.mem_take_iff_getElem]
    exact ⟨j, by omega, rfl⟩

theorem atI_no {T : List Cr} {d : Dt} (h : ∀ c ∈ T, c.id ≠ d) : atI T d = -1 := by
  unfold atI
  rw [if_neg (fun ⟨c, hc, e⟩ => h c hc e)]

set_option maxRecDepth 100000 in
set_option maxHeartbeats 2000000 in
theorem rat_any (a : Option Addr) (n c : Nat) (T : List Cr) (d : Dt) (w : World) (h : RT w a n c T) (hn : n ≤ 1000000) :
    Calls Tryz.prog 71 #[.agg #[.slice a n c], dv d] w fun e w' => e = .returned (.int .i64 (atI T d)) ∧ Below w.heap.size w w' := by
  obtain ⟨d1, d2⟩ := d
  have mixed := mixed
  obtain ⟨W0, hW0⟩ : ∃ W0, W0 = (w.alloc (.cells #[.slice a n c] 62)).alloc (.cells #[.int .i64 d1, .int .i64 d2] 24) := ⟨_, rfl⟩
  have hB0 : Below w.heap.size w W0 := by rw [hW0]; exact ((Below.refl _ w).alloc (Nat.le_refl _) _).alloc (by simp) _
  have hb1 : W0.heap[w.heap.size]? = some (.cells #[.slice a n c] 62 (0, 0)) := by rw [hW0]; exact (Below.heap_alloc _ _ _ (by simp)).trans (World.alloc_heap_new w _)
  have hb2 : W0.heap[w.heap.size + 1]? = some (.cells #[.int .i64 d1, .int .i64 d2] 24 (0, 0)) := by
    rw [hW0]
    have := World.alloc_heap_new (w.alloc (.cells #[.slice a n c] 62)) (.cells #[.int .i64 d1, .int .i64 d2] 24)
    rwa [World.size_alloc] at this
  have hcap := h.cap
  have hmax := h.max
  unfold maxLen at hmax
  have HL := hid h.len
  go_enter Tryz.func71, Tryz.ntmps71
  go_wp2
  rw [← hW0]
  have hWH := hid hW0
  clear hW0
  go_loopw [5] (fun i wr => ∃ k : Nat, k ≤ n ∧ i = .int .i64 k ∧ Hid (∀ x ∈ T.take k, x.id ≠ (d1, d2)) ∧ Hid (∃ q, wr = W0.drewN q)) (fun i _ => n - (intOf i).toNat)
  case atStart => exact ⟨0, by omega, rfl, hid (by simp), hid ⟨0, rfl⟩⟩
  case round =>
    obtain ⟨k, hk, rfl, hno, hq⟩ := hrel
    have hBr : Below w.heap.size w wr := by obtain ⟨q, e⟩ := hq.out; rw [e]; exact hB0.trans (((Far.refl W0).drewN q).below.mono hB0.size)
    have e1 : ∀ m, (wr.drewN m).cell? ⟨w.heap.size, 0, none⟩ = some (.slice a n c) := fun m => by obtain ⟨q, e⟩ := hq.out; subst e; show W0.cell? ⟨w.heap.size, 0, none⟩ = _; simp [World.cell?, hb1]
    have e2 : ∀ m, (wr.drewN m).cell? ⟨w.heap.size + 1, 0, none⟩ = some (.int .i64 d1) := fun m => by obtain ⟨q, e⟩ := hq.out; subst e; show W0.cell? ⟨w.heap.size + 1, 0, none⟩ = _; simp [World.cell?, hb2]
    have e3 : ∀ m, (wr.drewN m).cell? ⟨w.heap.size + 1, 1, none⟩ = some (.int .i64 d2) := fun m => by obtain ⟨q, e⟩ := hq.out; subst e; show W0.cell? ⟨w.heap.size + 1, 1, none⟩ = _; simp [World.cell?, hb2]
    have e10 : wr.cell? ⟨w.heap.size, 0, none⟩ = some (.slice a n c) := e1 0
    by_cases hlt : k < n
    · obtain ⟨g, o, rfl, hat⟩ := (h.below hBr).at hlt
      have hkT : k < T.length := by rw [HL.out]; exact hlt
      obtain ⟨x, hx⟩ : ∃ x, x = T[k]'hkT := ⟨_, rfl⟩
      have hxk : Hid (T[k]? = some x) := hid (by rw [hx]; exact List.getElem?_eq_getElem hkT)
      have hts : Hid (T.take (k + 1) = T.take k ++ [x]) := hid (by rw [hx]; exact List.take_succ_eq_append_getElem hkT)
      rw [← hx] at hat
      clear hx hkT
      have C0 : ∀ m, (wr.drewN m).cell? ⟨g, o + k * 7, none⟩ = some (.int .i64 x.id.1) := fun _ => hat.c0
      have C1 : ∀ m, (wr.drewN m).cell? ⟨g, o + k * 7 + 1, none⟩ = some (.int .i64 x.id.2) := fun _ => hat.c1
      obtain ⟨x1, hx1⟩ : ∃ x1, x1 = x.id.1 := ⟨_, rfl⟩
      obtain ⟨x2, hx2⟩ : ∃ x2, x2 = x.id.2 := ⟨_, rfl⟩
      have hxi : Hid (x.id = (x1, x2)) := hid (by rw [hx1, hx2])
      rw [← hx1] at C0
      rw [← hx2] at C1
      clear hx1 hx2 hat
      have hk1 : (k : Int) < (n : Int) := by omega
      have hk0 : (0 : Int) ≤ (k : Int) := by omega
      by_cases h1 : x1 = d1
      · subst h1
        by_cases h2 : x2 = d2
        · subst h2
          have hat := hid (atI_at hxk.out hxi.out hno.out)
          go_wp2_with fail
          go_quiet (fail)
          go_wp2
          go_ret
          exact ⟨by rw [hat.out]; rfl, hBr.trans (((Far.refl wr).drewN _).below.mono hBr.size)⟩
        · have hne : x.id ≠ (x1, d2) := fun e => h2 (by rw [hxi.out] at e; exact (Prod.mk.inj e).2)
          have hnx : Hid (∀ y ∈ T.take (k + 1), y.id ≠ (x1, d2)) := hid (fun y hy => by rw [hts.out] at hy; rcases List.mem_append.1 hy with h | h; exact hno.out y h; simp at h; rw [h]; exact hne)
          clear hne
          go_wp2_with fail
          go_quiet (fail)
          go_wp2
          go_roundw
          case rel => exact ⟨k + 1, by omega, by go_num, hnx, hid (drew_more hq.out _)⟩
          case measure => simp [intOf]; omega
      · have hne : x.id ≠ (d1, d2) := fun e => h1 (by rw [hxi.out] at e; exact (Prod.mk.inj e).1)
        have hnx : Hid (∀ y ∈ T.take (k + 1), y.id ≠ (d1, d2)) := hid (fun y hy => by rw [hts.out] at hy; rcases List.mem_append.1 hy with h | h; exact hno.out y h; simp at h; rw [h]; exact hne)
        clear hne
        go_wp2_with fail
        go_quiet (fail)
        go_wp2
        go_roundw
        case rel => exact ⟨k + 1, by omega, by go_num, hnx, hid (drew_more hq.out _)⟩
        case measure => simp [intOf]; omega
    · obtain rfl : k = n := by omega
      have hat := hid (atI_no (T := T) (d := (d1, d2)) (by have := hno.out; rw [List.take_of_length_le (by rw [HL.out]; exact Nat.le_refl _)] at this; exact this))
      go_wp2
      go_ret
      exact ⟨by rw [hat.out]; rfl, hBr⟩
end

section
set_option linter.unusedVariables false
set_option linter.unusedSimpArgs false
open Go.RowKit

theorem Tryz.infoC : (Tryz.prog.info? 68).map (fun i => (i.zero, i.size, i.bytes)) = some (some (.agg #[.int .i64 0, .int .i64 0, .int .i64 0, .int .i64 0, .int .i64 0, .int .i64 0, .bool false]), 7, 56) := by kernel_rfl

/-- The cells of a row of characters. -/
def flatC (T : List Cr) : List Value := T.flatMap (fun c => c.rc.toList)

theorem rc_len (c : Cr) : c.rc.toList.length = 7 := rfl

theorem flatC_length (T : List Cr) : (flatC T).length = T.length * 7 := by
  unfold flatC
  induction T with
  | nil => rfl
  | cons c r ih => rw [List.flatMap_cons, List.length_append, ih, rc_len, List.length_cons]; omega

theorem flatC_append (T U : List Cr) : flatC (T ++ U) = flatC T ++ flatC U := by unfold flatC; rw [List.flatMap_append]

theorem flatC_get : ∀ (T : List Cr) (i : Nat) (hi : i < T.length) (j : Nat), j < 7 → (flatC T)[i * 7 + j]? = (T[i]).rc.toList[j]?
  | [], i, hi, _, _ => by simp at hi
  | c :: r, 0, _, j, hj => by
    unfold flatC
    rw [List.flatMap_cons, Nat.zero_mul, Nat.zero_add, List.getElem?_append_left (by rw [rc_len]; exact hj)]
    rfl
  | c :: r, i + 1, hi, j, hj => by
    have ih := flatC_get r i (by simpa using hi) j hj
    unfold flatC at ih ⊢
    rw [List.flatMap_cons, List.getElem?_append_right (by rw [rc_len]; omega), rc_len, show (i + 1) * 7 + j - 7 = i * 7 + j by omega, ih]
    rfl

theorem flatC_one (T : List Cr) : ∀ u ∈ flatC T, u.oneCell' = true := by
  intro u hu
  unfold flatC at hu
  obtain ⟨c, _, hc⟩ := List.mem_flatMap.1 hu
  simp [Cr.rc] at hc
  rcases hc with rfl | rfl | rfl | rfl | rfl | rfl | rfl <;> rfl

theorem own_rt {w : World} {base n : Nat} {v : Value} {T : List Cr} (h : w.ownsRow base 68 7 v n (flatC T)) : ∃ a c, v = .slice a n c ∧ RT w a n c T := by
  have hl : T.length = n := by have := h.1; rw [flatC_length] at this; omega
  rcases h.2 with ⟨rfl, h0⟩ | ⟨g, cap, cur, rfl, hB, hg, hn, hc, hcs, ht⟩
  · subst h0
    exact ⟨none, 0, rfl, hl, Nat.le_refl _, Nat.zero_le _, fun _ => ⟨rfl, rfl⟩, fun hp => absurd hp (by omega)⟩
  · refine ⟨_, _, rfl, hl, hn, hc, (fun e => by cases e), (fun hp => ⟨g, 0, rfl, (Array.getElem?_eq_some_iff.1 hg).1, fun i hi j u hj => ?_⟩)⟩
    have hj7 : j < 7 := by have := (List.getElem?_eq_some_iff.1 hj).1; rwa [rc_len] at this
    have := h.cells (g := g) rfl (i * 7 + j) u (by rw [flatC_get T i hi j hj7]; exact hj)
    have e : (⟨g, 0, none⟩ : Addr).add (i * 7 + j) = ⟨g, 0 + i * 7 + j, none⟩ := by
      unfold Addr.add
      split
      · rename_i h0
        simp only [Addr.mk.injEq, true_and, and_true]
        omega
      · simp only [Addr.mk.injEq, true_and, and_true]
        omega
    rw [e] at this
    exact this

theorem RT.cells {w : World} {a : Option Addr} {n c : Nat} {T : List Cr} (h : RT w a n c T) {g o : Nat} (ha : a = some ⟨g, o, none⟩) (hp : 0 < n) : ∀ j u, (flatC T)[j]? = some u → w.cell? ((⟨g, o, none⟩ : Addr).add j) = some u := by
  intro j u hj
  obtain ⟨g', o', e, hg, hx⟩ := h.at_ hp
  rw [ha] at e
  cases e
  have hjl := (List.getElem?_eq_some_iff.1 hj).1
  rw [flatC_length] at hjl
  have hd := Nat.div_add_mod j 7
  have hm := Nat.mod_lt j (show 0 < 7 by omega)
  have hi : j / 7 < T.length := by omega
  have e1 : j = j / 7 * 7 + j % 7 := by omega
  have e2 := flatC_get T (j / 7) hi (j % 7) hm
  rw [← e1, hj] at e2
  have e3 := hx (j / 7) hi (j % 7) u e2.symm
  have e : (⟨g, o, none⟩ : Addr).add j = ⟨g, o + j / 7 * 7 + j % 7, none⟩ := by
    unfold Addr.add
    split
    · rename_i h0
      simp only [Addr.mk.injEq, true_and, and_true]
      omega
    · simp only [Addr.mk.injEq, true_and, and_true]
      omega
  rw [e]
  exact e3

/-- append of a row of characters to a row of one's own. -/
theorem wpList_append_chars {w : World} {ops : Array Oper} {rest : List Oper} {o : Oper} {a : Act} {Q : Exit → Act → World → Prop} (hgd : o.guard = none) (s x : Operand) (t : TypeId) (ht : Tryz.prog.underlying t = some (.slice 68))
    (ho : o.op = .call { callee := .builtin .append, args := #[s, x], argTypes := #[t, t] }) (base : Nat) (v : Value) (n : Nat) (U : List Cr) (hs : a.eval s = v) (hown : w.ownsRow base 68 7 v n (flatC U))
    (ao : Option Addr) (m c : Nat) (T : List Cr) (hx : a.eval x = .slice ao m c) (hT : RT w ao m c T) (hb : n + m ≤ 2000000) (hbase : base ≤ w.heap.size)
    (h : ∀ v' w', w'.ownsRow base 68 7 v' (n + m) (flatC (U ++ T)) → w.grownBy w' v.ownBlock → wpList Tryz.prog ops Q rest (a.put o.dst v') w') : wpList Tryz.prog ops Q (o :: rest) a w := by
  obtain ⟨i0, hi, hz0, hz1, hz2⟩ := info_parts Tryz.infoC
  have hl := hT.len
  rcases Nat.eq_zero_or_pos m with hm | hm
  · subst hm
    have e : T = [] := List.eq_nil_of_length_eq_zero hl
    subst e
    cases ao with
    | none =>
      obtain ⟨_, rfl⟩ := hT.nil rfl
      refine wpList_append_own_none hgd s x t ho base 68 i0 7 ht hi v n _ hs hown hx ?_
      exact h v w (by rw [List.append_nil]; exact hown) (World.grownBy.refl _ _)
    | some ad =>
      exact wpList_append_own w hgd s x t ho base 68 i0 _ 7 56 ht hi hz0 hz1 hz2 rfl (by decide) v n (flatC U) hs hown ad 0 c [] hx (by simp) (fun j u hj => by simp at hj) (by simp) (by unfold maxLen; omega) (by omega) hbase
        (fun v' w' h1 h2 _ => h v' w' (by simpa using h1) h2)
  · obtain ⟨g, o', e, hg, hc⟩ := hT.at_ hm
    subst e
    exact wpList_append_own w hgd s x t ho base 68 i0 _ 7 56 ht hi hz0 hz1 hz2 rfl (by decide) v n (flatC U) hs hown ⟨g, o', none⟩ m c (flatC T) hx (by rw [flatC_length, hl]) (hT.cells rfl hm) (flatC_one T) (by unfold maxLen; omega) (by omega) hbase
      (fun v' w' h1 h2 _ => h v' w' (by rw [flatC_append]; exact h1) h2)
end

section
set_option linter.unusedVariables false
set_option linter.unusedSimpArgs false
open Go.RowKit

/-- A row that was made, written out. -/
theorem own_out {w : World} {base n m : Nat} {v : Value} {T U : List Cr} (h : w.ownsRow base 68 7 v m (flatC U)) (he : U = T) (hm : m = n) (hp : 0 < n) : ∃ g cap, v = .slice (some ⟨g, 0, none⟩) n cap ∧ base ≤ g ∧ g < w.heap.size ∧ n ≤ cap ∧ cap ≤ 9223372036854775807 ∧ (∀ j, w.frozen? ⟨g, j, none⟩ = false) ∧ Hid (w.ownsRow base 68 7 (.slice (some ⟨g, 0, none⟩) n cap) n (flatC T)) := by
  subst he
  subst hm
  have hh := h
  rcases h.2 with ⟨rfl, h0⟩ | ⟨g, cap, cur, rfl, hB, hg, hn, hc, hcs, ht⟩
  · omega
  · exact ⟨g, cap, rfl, hB, (Array.getElem?_eq_some_iff.1 hg).1, hn, by unfold maxLen at hc; omega, fun j => by simp [World.frozen?, hg], hid hh⟩

/-- The row's block is one of characters. -/
def CT (w : World) (a : Option Addr) : Prop := ∀ ad, a = some ad → ∃ cs, w.heap[ad.block]? = some (.cells cs 68 (0, 0))

theorem own_ct {w : World} {base n m c : Nat} {a : Option Addr} {xs : List Value} (h : w.ownsRow base 68 7 (.slice a m c) n xs) : CT w a := by
  rcases h.2 with ⟨e, _⟩ | ⟨g, cap, cur, e, _, hg, _⟩
  · cases e; intro ad h; cases h
  · cases e; intro ad h; cases h; exact ⟨_, hg⟩
end

section
set_option linter.unusedVariables false
set_option linter.unusedSimpArgs false
open Go.RowKit

theorem atI_yes {T : List Cr} {d : Dt} (h : ∃ c ∈ T, c.id = d) : ∃ k : Nat, atI T d = (k : Int) := by
  unfold atI
  rw [if_pos h]
  exact ⟨_, rfl⟩

/-- One more character, as it lies behind the row. -/
theorem rt_one {w : World} {b : Nat} {x : Cr} (h : w.heap[b]? = some (.cells x.rc 68 (0, 0))) : RT w (some ⟨b, 0, none⟩) 1 1 [x] := by
  refine ⟨rfl, Nat.le_refl _, by unfold maxLen; omega, (fun e => by cases e), fun _ => ⟨b, 0, rfl, (Array.getElem?_eq_some_iff.1 h).1, fun i hi j u hj => ?_⟩⟩
  have hi0 : i = 0 := by simpa using hi
  subst hi0
  have hj' : x.rc[j]? = some u := by simpa using hj
  simp [World.cell?, h, hj']

theorem grown_block {w w' : World} {o : Option Nat} (h : w.grownBy w' o) {b : Nat} (hb : b < w.heap.size) (ho : some b ≠ o) : w'.heap[b]? = w.heap[b]? := h.block b hb ho

/-- The boxes of Insert. -/
structure Bx5 (W : World) (s : Nat) (a : Option Addr) (n c : Nat) (id at_ : Dt) : Prop where
  b0 : W.heap[s]? = some (.cells #[.slice a n c] 62 (0, 0))
  b1 : W.heap[s + 1]? = some (.cells #[.int .i64 id.1, .int .i64 id.2] 24 (0, 0))
  b2 : W.heap[s + 1 + 1]? = some (.cells #[.int .i64 at_.1, .int .i64 at_.2] 24 (0, 0))
  b3 : W.heap[s + 1 + 1 + 1]? = some (.cells #[.slice none 0 0] 62 (0, 0))
  b4 : W.heap[s + 1 + 1 + 1 + 1]? = some (.cells #[.int .i64 0, .int .i64 0] 24 (0, 0))

theorem Bx5.lt {W : World} {s : Nat} {a : Option Addr} {n c : Nat} {id at_ : Dt} (h : Bx5 W s a n c id at_) : s + 4 < W.heap.size := (Array.getElem?_eq_some_iff.1 h.b4).1

theorem Bx5.of {W W' : World} {s : Nat} {a : Option Addr} {n c : Nat} {id at_ : Dt} (h : Bx5 W s a n c id at_) (hk : ∀ b, b < W.heap.size → W'.heap[b]? = W.heap[b]?) : Bx5 W' s a n c id at_ := by
  have hl := h.lt
  exact ⟨(hk _ (by omega)).trans h.b0, (hk _ (by omega)).trans h.b1, (hk _ (by omega)).trans h.b2, (hk _ (by omega)).trans h.b3, (hk _ (by omega)).trans h.b4⟩

theorem Bx5.facts {W : World} {s : Nat} {a : Option Addr} {n c : Nat} {i1 i2 p1 p2 : Int} (h : Bx5 W s a n c (i1, i2) (p1, p2)) :
    W.cell? ⟨s, 0, none⟩ = some (.slice a n c) ∧ W.cell? ⟨s + 1, 0, none⟩ = some (.int .i64 i1) ∧ W.cell? ⟨s + 1, 1, none⟩ = some (.int .i64 i2) ∧ W.cell? ⟨s + 1 + 1, 0, none⟩ = some (.int .i64 p1) ∧ W.cell? ⟨s + 1 + 1, 1, none⟩ = some (.int .i64 p2) ∧ W.cell? ⟨s + 1 + 1 + 1, 0, none⟩ = some (.slice none 0 0) ∧ W.frozen? ⟨s + 1 + 1 + 1, 0, none⟩ = false ∧ W.cell? ⟨s + 1 + 1 + 1 + 1, 0, none⟩ = some (.int .i64 0) ∧ W.cell? ⟨s + 1 + 1 + 1 + 1, 1, none⟩ = some (.int .i64 0) := by
  obtain ⟨h0, h1, h2, h3, h4⟩ := h
  exact ⟨by simp [World.cell?, h0], by simp [World.cell?, h1], by simp [World.cell?, h1], by simp [World.cell?, h2], by simp [World.cell?, h2], by simp [World.cell?, h3], by simp [World.frozen?, h3], by simp [World.cell?, h4], by simp [World.cell?, h4]⟩

theorem box_set {W : World} {b : Nat} {u v : Value} {T : TypeId} (h : W.heap[b]? = some (.cells #[u] T (0, 0))) : (W.setCell ⟨b, 0, none⟩ v).cell? ⟨b, 0, none⟩ = some v := by
  have h1 : (W.setCell ⟨b, 0, none⟩ v).heap[b]? = some (.cells #[v] T (0, 0)) := by rw [fset_block h]; simp
  simp [World.cell?, h1]

set_option maxRecDepth 100000 in
set_option maxHeartbeats 8000000 in
theorem rinsert_any (a : Option Addr) (n c : Nat) (T : List Cr) (hn : n ≤ 100000) (id at_ : Dt) (side ch : Int) (w : World) (h : RT w a n c T) :
    Calls Tryz.prog 36 #[.agg #[.slice a n c], dv id, dv at_, .int .i64 side, .int .i64 ch] w fun e w' => ∃ a' n' c', e = .returned (.tuple #[.agg #[.slice a' n' c'], .int .i64 (insP T id at_ side ch).1]) ∧ RT w' a' n' c' (insP T id at_ side ch).2 ∧ (a' = a ∨ CT w' a') ∧ Below w.heap.size w w' := by
  obtain ⟨i1, i2⟩ := id
  obtain ⟨p1, p2⟩ := at_
  have mixed := mixed
  obtain ⟨W0, hW0⟩ : ∃ W0, W0 = ((((w.alloc (.cells #[.slice a n c] 62)).alloc (.cells #[.int .i64 i1, .int .i64 i2] 24)).alloc (.cells #[.int .i64 p1, .int .i64 p2] 24)).alloc (.cells #[.slice none 0 0] 62)).alloc (.cells #[.int .i64 0, .int .i64 0] 24) := ⟨_, rfl⟩
  have hB0 : Below w.heap.size w W0 := by rw [hW0]; exact (((((Below.refl _ w).alloc (Nat.le_refl _) _).alloc (by simp) _).alloc (by simp <;> omega) _).alloc (by simp <;> omega) _).alloc (by simp <;> omega) _
  have hbx : Bx5 W0 w.heap.size a n c (i1, i2) (p1, p2) := by
    rw [hW0]
    have h4 := World.alloc_heap_new ((((w.alloc (.cells #[.slice a n c] 62)).alloc (.cells #[.int .i64 i1, .int .i64 i2] 24)).alloc (.cells #[.int .i64 p1, .int .i64 p2] 24)).alloc (.cells #[.slice none 0 0] 62)) (.cells #[.int .i64 0, .int .i64 0] 24)
    have h3 := World.alloc_heap_new (((w.alloc (.cells #[.slice a n c] 62)).alloc (.cells #[.int .i64 i1, .int .i64 i2] 24)).alloc (.cells #[.int .i64 p1, .int .i64 p2] 24)) (.cells #[.slice none 0 0] 62)
    have h2 := World.alloc_heap_new ((w.alloc (.cells #[.slice a n c] 62)).alloc (.cells #[.int .i64 i1, .int .i64 i2] 24)) (.cells #[.int .i64 p1, .int .i64 p2] 24)
    have h1 := World.alloc_heap_new (w.alloc (.cells #[.slice a n c] 62)) (.cells #[.int .i64 i1, .int .i64 i2] 24)
    have h0 := World.alloc_heap_new w (.cells #[.slice a n c] 62)
    simp only [World.size_alloc] at h1 h2 h3 h4
    have up : ∀ (W : World) (o : Obj) (b : Nat) (x : Option Obj), b < W.heap.size → W.heap[b]? = x → (W.alloc o).heap[b]? = x := fun W o b x hb hx => (Below.heap_alloc _ _ _ hb).trans hx
    refine ⟨?_, ?_, ?_, ?_, ?_⟩
    · exact up _ _ _ _ (by simp <;> omega) (up _ _ _ _ (by simp <;> omega) (up _ _ _ _ (by simp <;> omega) (up _ _ _ _ (by simp) h0)))
    · exact up _ _ _ _ (by simp <;> omega) (up _ _ _ _ (by simp <;> omega) (up _ _ _ _ (by simp) h1))
    · exact up _ _ _ _ (by simp <;> omega) (up _ _ _ _ (by simp) h2)
    · exact up _ _ _ _ (by simp) h3
    · exact h4
  have HF : Hid (∀ W, Below W0.heap.size W0 W → Bx5 W w.heap.size a n c (i1, i2) (p1, p2)) := hid (fun W hb => hbx.of (fun b hbl => hb.block _ hbl))
  have Hh := hid h
  have HB0 := hid hB0
  have hat : Hid (∀ W d1 d2, Below W0.heap.size W0 W → Calls Tryz.prog 71 #[.agg #[.slice a n c], .agg #[.int .i64 d1, .int .i64 d2]] W fun e w1 => e = .returned (.int .i64 (atI T (d1, d2))) ∧ Hid (Below W0.heap.size W0 w1)) := hid (fun W d1 d2 hb => (rat_any a n c T (d1, d2) W (h.below (hB0.trans (hb.mono hB0.size))) (by omega)).mono (fun e w1 ⟨he, h1⟩ => ⟨he, hid (hb.trans (h1.mono hb.size))⟩))
  have HW := hid hW0
  -- refused
  have href : Hid (∀ (W : World) (k : Int), Below W0.heap.size W0 W → (W.setCell ⟨w.heap.size + 1 + 1 + 1, 0, none⟩ (.slice a n c)).cell? ⟨w.heap.size + 1 + 1 + 1, 0, none⟩ = some (.slice a n c) ∧ RT (W.setCell ⟨w.heap.size + 1 + 1 + 1, 0, none⟩ (.slice a n c)) a n c T ∧ Below w.heap.size w (W.setCell ⟨w.heap.size + 1 + 1 + 1, 0, none⟩ (.slice a n c))) := hid (fun W k hb => by
    have hb' : Below w.heap.size w (W.setCell ⟨w.heap.size + 1 + 1 + 1, 0, none⟩ (.slice a n c)) := (hB0.trans (hb.mono hB0.size)).setCell (p := ⟨w.heap.size + 1 + 1 + 1, 0, none⟩) (by show w.heap.size ≤ w.heap.size + 1 + 1 + 1; omega) _
    exact ⟨box_set (HF.out W hb).b3, h.below hb', hb'⟩)
  obtain ⟨B, hB⟩ : ∃ B, B = !(mayI (i1, i2) (p1, p2) side) := ⟨_, rfl⟩
  have HMB := hid hB
  obtain ⟨f0, f1, f2, f3, f4, f5, f6, f7, f8⟩ := hbx.facts
  have hl0 := hbx.lt
  clear hW0 h hbx hB0 hB
  go_enter Tryz.func36, Tryz.ntmps36
  go_upto_region 2 with fail
  go_cut [34] from 15 to 34 (fun s wc => s = .bool B ∧ wc = W0)
  case first =>
    rw [← HW.out]
    clear HW hat HF href
    rcases dot_cases (i1, i2) with hz | ⟨hi, hi1, hi2⟩ | ⟨hi, hi0, hi1, hi2⟩
    · cases hz
      have hm : Hid (mayI (0, 0) (p1, p2) side = false) := hid (by unfold mayI; simp)
      go_wp2_with fail
      go_meet
      case rel => exact ⟨by rw [HMB.out, hm.out]; rfl, rfl⟩
    · simp only at hi1 hi2
      by_cases h0 : side = 0
      · subst h0
        rcases dot_cases (p1, p2) with hz | ⟨ha, ha1, ha2⟩ | ⟨ha, ha0, ha1, ha2⟩
        · cases hz
          have hm : Hid (mayI (i1, i2) (0, 0) 0 = false) := hid (by unfold mayI; simp)
          go_wp2_with fail
          go_meet
          case rel => exact ⟨by rw [HMB.out, hm.out]; rfl, rfl⟩
        · simp only at ha1 ha2
          have hm : Hid (mayI (i1, i2) (p1, p2) 0 = true) := hid (by unfold mayI; simp [hi, ha])
          clear hi ha
          go_wp2_with fail
          go_meet
          case rel => exact ⟨by rw [HMB.out, hm.out]; rfl, rfl⟩
        · simp only at ha0 ha1 ha2
          subst ha0
          have hm : Hid (mayI (i1, i2) (0, p2) 0 = true) := hid (by unfold mayI; simp [hi, ha])
          clear hi ha
          go_wp2_with fail
          go_meet
          case rel => exact ⟨by rw [HMB.out, hm.out]; rfl, rfl⟩
      · have hb0 : (side == 0) = false := by simp [h0]
        have hb0' : (side != 0) = true := by simp [h0]
        by_cases h1 : side = 1
        · subst h1
          have hm : Hid (mayI (i1, i2) (p1, p2) 1 = true) := hid (by unfold mayI; simp [hi])
          clear hi
          rcases dot_cases (p1, p2) with hz | ⟨ha, ha1, ha2⟩ | ⟨ha, ha0, ha1, ha2⟩
          · cases hz
            go_wp2_with fail
            go_meet
            case rel => exact ⟨by rw [HMB.out, hm.out]; rfl, rfl⟩
          · simp only at ha1 ha2
            clear ha
            go_wp2_with fail
            go_meet
            case rel => exact ⟨by rw [HMB.out, hm.out]; rfl, rfl⟩
          · simp only at ha0 ha1 ha2
            subst ha0
            clear ha
            go_wp2_with fail
            go_meet
            case rel => exact ⟨by rw [HMB.out, hm.out]; rfl, rfl⟩
        · have hb1 : (side == 1) = false := by simp [h1]
          have hb1' : (side != 1) = true := by simp [h1]
          have hm : Hid (mayI (i1, i2) (p1, p2) side = false) := hid (by unfold mayI; simp [h0, h1])
          clear hi
          go_wp2_with fail
          go_meet
          case rel => exact ⟨by rw [HMB.out, hm.out]; rfl, rfl⟩
    · simp only at hi0 hi1 hi2
      subst hi0
      by_cases h0 : side = 0
      · subst h0
        rcases dot_cases (p1, p2) with hz | ⟨ha, ha1, ha2⟩ | ⟨ha, ha0, ha1, ha2⟩
        · cases hz
          have hm : Hid (mayI (0, i2) (0, 0) 0 = false) := hid (by unfold mayI; simp)
          go_wp2_with fail
          go_meet
          case rel => exact ⟨by rw [HMB.out, hm.out]; rfl, rfl⟩
        · simp only at ha1 ha2
          have hm : Hid (mayI (0, i2) (p1, p2) 0 = true) := hid (by unfold mayI; simp [hi, ha])
          clear hi ha
          go_wp2_with fail
          go_meet
          case rel => exact ⟨by rw [HMB.out, hm.out]; rfl, rfl⟩
        · simp only at ha0 ha1 ha2
          subst ha0
          have hm : Hid (mayI (0, i2) (0, p2) 0 = true) := hid (by unfold mayI; simp [hi, ha])
          clear hi ha
          go_wp2_with fail
          go_meet
          case rel => exact ⟨by rw [HMB.out, hm.out]; rfl, rfl⟩
      · have hb0 : (side == 0) = false := by simp [h0]
        have hb0' : (side != 0) = true := by simp [h0]
        by_cases h1 : side = 1
        · subst h1
          have hm : Hid (mayI (0, i2) (p1, p2) 1 = true) := hid (by unfold mayI; simp [hi])
          clear hi
          rcases dot_cases (p1, p2) with hz | ⟨ha, ha1, ha2⟩ | ⟨ha, ha0, ha1, ha2⟩
          · cases hz
            go_wp2_with fail
            go_meet
            case rel => exact ⟨by rw [HMB.out, hm.out]; rfl, rfl⟩
          · simp only at ha1 ha2
            clear ha
            go_wp2_with fail
            go_meet
            case rel => exact ⟨by rw [HMB.out, hm.out]; rfl, rfl⟩
          · simp only at ha0 ha1 ha2
            subst ha0
            clear ha
            go_wp2_with fail
            go_meet
            case rel => exact ⟨by rw [HMB.out, hm.out]; rfl, rfl⟩
        · have hb1 : (side == 1) = false := by simp [h1]
          have hb1' : (side != 1) = true := by simp [h1]
          have hm : Hid (mayI (0, i2) (p1, p2) side = false) := hid (by unfold mayI; simp [h0, h1])
          clear hi
          go_wp2_with fail
          go_meet
          case rel => exact ⟨by rw [HMB.out, hm.out]; rfl, rfl⟩
  case rest =>
    obtain ⟨rfl, hwc⟩ := hcut
    have hwc := hwc.symm
    subst hwc
    cases B with
    | true =>
      have hm : mayI (i1, i2) (p1, p2) side = false := by have := HMB.out; simpa using this.symm
      have hip : Hid (insP T (i1, i2) (p1, p2) side ch = (1, T)) := hid (by unfold insP; rw [if_pos hm])
      clear hm hat
      go_wp2_with fail
      exact bodyPost_ret (v := .tuple #[.agg #[.slice a n c], .int .i64 1]) (by simp [results, Tryz.results36, go_sem, (href.out W0 0 (Below.refl _ _)).1]) rfl ⟨a, n, c, by rw [hip.out], by rw [hip.out]; exact (href.out W0 0 (Below.refl _ _)).2.1, Or.inl rfl, (href.out W0 0 (Below.refl _ _)).2.2⟩
    | false =>
      have hm : mayI (i1, i2) (p1, p2) side = true := by have := HMB.out; simpa using this.symm
      have hm' : ¬ mayI (i1, i2) (p1, p2) side = false := by rw [hm]; simp
      have hsd : side = 0 ∨ side = 1 := by
        by_cases h0 : side = 0
        · exact Or.inl h0
        · by_cases h1 : side = 1
          · exact Or.inr h1
          · unfold mayI at hm; rw [if_neg h0, if_neg h1] at hm; cases hm
      have HRC : Hid ((⟨(i1, i2), (p1, p2), decide (side = 1), ch, true⟩ : Cr).rc = #[.int .i64 i1, .int .i64 i2, .int .i64 p1, .int .i64 p2, .int .i64 side, .int .i64 ch, .bool true]) := hid (by rcases hsd with rfl | rfl <;> rfl)
      have HEND : Hid (∀ (WN w2 w4 : World) (v2 v4 : Value), Below W0.heap.size W0 WN → WN.grownBy w2 none → w2.ownsRow WN.heap.size 68 7 v2 (0 + n) (flatC ([] ++ T)) → (w2.alloc (.cells #[.int .i64 i1, .int .i64 i2, .int .i64 p1, .int .i64 p2, .int .i64 side, .int .i64 ch, .bool true] 68)).grownBy w4 v2.ownBlock → w4.ownsRow WN.heap.size 68 7 v4 (0 + n + 1) (flatC ([] ++ T ++ [⟨(i1, i2), (p1, p2), decide (side = 1), ch, true⟩])) → ∃ g cap, v4 = .slice (some ⟨g, 0, none⟩) (n + 1) cap ∧ w4.cell? ⟨w.heap.size + 1 + 1 + 1, 0, none⟩ = some (.slice none 0 0) ∧ w4.frozen? ⟨w.heap.size + 1 + 1 + 1, 0, none⟩ = false ∧ w.heap.size + 1 + 1 + 1 < w4.heap.size ∧ Hid ((w4.setCell ⟨w.heap.size + 1 + 1 + 1, 0, none⟩ (.slice (some ⟨g, 0, none⟩) (n + 1) cap)).cell? ⟨w.heap.size + 1 + 1 + 1, 0, none⟩ = some (.slice (some ⟨g, 0, none⟩) (n + 1) cap) ∧ RT (w4.setCell ⟨w.heap.size + 1 + 1 + 1, 0, none⟩ (.slice (some ⟨g, 0, none⟩) (n + 1) cap)) (some ⟨g, 0, none⟩) (n + 1) cap (T ++ [⟨(i1, i2), (p1, p2), decide (side = 1), ch, true⟩]) ∧ CT (w4.setCell ⟨w.heap.size + 1 + 1 + 1, 0, none⟩ (.slice (some ⟨g, 0, none⟩) (n + 1) cap)) (some ⟨g, 0, none⟩) ∧ Below w.heap.size w (w4.setCell ⟨w.heap.size + 1 + 1 + 1, 0, none⟩ (.slice (some ⟨g, 0, none⟩) (n + 1) cap)))) := hid (fun WN w2 w4 v2 v4 hb hg2 ho2 hg4 ho4 => by
        have hbx := HF.out WN hb
        have hlN := hbx.lt
        have hb2 : ∀ j, v2.ownBlock = some j → WN.heap.size ≤ j := fun j hj => (ho2.lt j hj).1
        have hbx4 : Bx5 w4 w.heap.size a n c (i1, i2) (p1, p2) := hbx.of (fun b hbl => by
          have e1 := grown_block hg2 hbl (by simp)
          have e2 := Below.heap_alloc w2 (.cells #[.int .i64 i1, .int .i64 i2, .int .i64 p1, .int .i64 p2, .int .i64 side, .int .i64 ch, .bool true] 68) b (Nat.lt_of_lt_of_le hbl hg2.size)
          have e3 := grown_block hg4 (b := b) (by rw [World.size_alloc]; have := hg2.size; omega) (fun e => by have := hb2 b e.symm; omega)
          exact e3.trans (e2.trans e1))
        obtain ⟨_, _, _, _, _, f5, f6, _, _⟩ := hbx4.facts
        have hl4 := hbx4.lt
        obtain ⟨g, cap, rfl, hgl, hgs, hnc, hcm, hfr, Ho⟩ := own_out (n := n + 1) (T := T ++ [⟨(i1, i2), (p1, p2), decide (side = 1), ch, true⟩]) ho4 (by rw [List.nil_append]) (by omega) (by omega)
        have hb0 : Below w.heap.size w w2 := (HB0.out.trans (hb.mono HB0.out.size)).grown hg2 (HB0.out.trans (hb.mono HB0.out.size)).size (fun j hj => by cases hj)
        have hb1 := hb0.alloc hb0.size (.cells #[.int .i64 i1, .int .i64 i2, .int .i64 p1, .int .i64 p2, .int .i64 side, .int .i64 ch, .bool true] 68)
        have hb4 : Below w.heap.size w w4 := hb1.grown hg4 hb1.size (fun j hj => by have := hb2 j hj; have := HB0.out.size; omega)
        have hbf : Below w.heap.size w (w4.setCell ⟨w.heap.size + 1 + 1 + 1, 0, none⟩ (.slice (some ⟨g, 0, none⟩) (n + 1) cap)) := hb4.setCell (p := ⟨w.heap.size + 1 + 1 + 1, 0, none⟩) (by show w.heap.size ≤ w.heap.size + 1 + 1 + 1; omega) _
        have h2 := World.ownsRow.kept Ho.out (grownBy_setCell' w4 (w.heap.size + 1 + 1 + 1) (.slice (some ⟨g, 0, none⟩) (n + 1) cap)) (Or.inr (by simp [Value.ownBlock]; omega))
        obtain ⟨a', c', e, hr⟩ := own_rt h2
        cases e
        exact ⟨g, cap, rfl, f5, f6, by omega, hid ⟨box_set hbx4.b3, hr, own_ct h2, hbf⟩⟩)
      by_cases hex : ∃ x ∈ T, x.id = (i1, i2)
      · obtain ⟨k, hk⟩ := atI_yes hex
        have hip : Hid (insP T (i1, i2) (p1, p2) side ch = (32, T)) := hid (by unfold insP; rw [if_neg hm', if_pos hex])
        have hc1 := hat.out W0 i1 i2 (Below.refl _ _)
        rw [hk] at hc1
        have hk0 : (0 : Int) ≤ (k : Int) := by omega
        clear hm hm' hsd hat hex HEND hk
        go_wp2_with (go_at_call 71; refine hc1.mono ?_; rintro e w1 ⟨rfl, hw1⟩; obtain ⟨m0, m1, m2, m3, m4, m5, m6, m7, m8⟩ := (HF.out w1 hw1.out).facts; have hl1 := (HF.out w1 hw1.out).lt; clear f0 f1 f2 f3 f4 f5 f6 f7 f8)
        exact bodyPost_ret (v := .tuple #[.agg #[.slice a n c], .int .i64 32]) (by simp [results, Tryz.results36, go_sem, (href.out w1 0 hw1.out).1]) rfl ⟨a, n, c, by rw [hip.out], by rw [hip.out]; exact (href.out w1 0 hw1.out).2.1, Or.inl rfl, (href.out w1 0 hw1.out).2.2⟩
      · have hno := atI_no (fun x hx e => hex ⟨x, hx, e⟩)
        have hc1 := hat.out W0 i1 i2 (Below.refl _ _)
        rw [hno] at hc1
        rcases dot_cases (p1, p2) with hz | ⟨ha, ha1, ha2⟩ | ⟨ha, ha0, ha1, ha2⟩
        · cases hz
          have hip : Hid (insP T (i1, i2) (0, 0) side ch = (0, T ++ [⟨(i1, i2), (0, 0), decide (side = 1), ch, true⟩])) := hid (by unfold insP; rw [if_neg hm', if_neg hex, if_neg (by simp)])
          clear hm hm' hsd hex hno hat
          go_upto_region 9 with (go_at_call 71; refine hc1.mono ?_; rintro e w1 ⟨rfl, HBN⟩; obtain ⟨m0, m1, m2, m3, m4, m5, m6, m7, m8⟩ := (HF.out w1 HBN.out).facts; have hl1 := (HF.out w1 HBN.out).lt; clear f0 f1 f2 f3 f4 f5 f6 f7 f8)
          go_wp2_with (first
            | (have hq := HV2; at_builtin; refine wpList_append_chars rfl _ _ 60 Tryz.underlying60 rfl w1.heap.size v2 (0 + n) ([] ++ T) rfl (HV2.out.alloc _) (some ⟨w2.heap.size, 0, none⟩) 1 1 [⟨(i1, i2), (0, 0), decide (side = 1), ch, true⟩] rfl (rt_one (by rw [HRC.out]; exact World.alloc_heap_new _ _)) (by omega) (by rw [World.size_alloc]; exact Nat.le_trans HG2.out.size (Nat.le_succ _)) ?_; intro v4 w4 ho4 hg4; obtain ⟨g, cap, rfl, k0, k1, k2, HE⟩ := HEND.out w1 w2 w4 v2 v4 HBN.out HG2.out HV2.out hg4 ho4; clear ho4 hg4)
            | (at_builtin; refine wpList_append_chars rfl _ _ 60 Tryz.underlying60 rfl w1.heap.size (.slice none 0 0) 0 [] rfl (World.ownsRow_nil _ _ _ _) a n c T rfl (Hh.out.below (HB0.out.trans (HBN.out.mono HB0.out.size))) (by omega) (Nat.le_refl _) ?_; intro v2 w2 ho2 hg2; have HV2 := hid ho2; have HG2 := hid hg2; obtain ⟨m0, m1, m2, m3, m4, m5, m6, m7, m8⟩ := ((HF.out w1 HBN.out).of (fun b hb => grown_block hg2 hb (by simp [Value.ownBlock]))).facts; clear ho2 hg2))
          exact bodyPost_ret (v := .tuple #[.agg #[.slice (some ⟨g, 0, none⟩) (n + 1) cap], .int .i64 0]) (by simp [results, Tryz.results36, go_sem, HE.out.1]) rfl ⟨_, _, _, by rw [hip.out], by rw [hip.out]; exact HE.out.2.1, Or.inr HE.out.2.2.1, HE.out.2.2.2⟩
        · simp only at ha1 ha2
          have hc2 := fun W hb => hat.out W p1 p2 hb
          by_cases hex2 : ∃ x ∈ T, x.id = (p1, p2)
          · obtain ⟨k, hk⟩ := atI_yes hex2
            have hip : Hid (insP T (i1, i2) (p1, p2) side ch = (0, T ++ [⟨(i1, i2), (p1, p2), decide (side = 1), ch, true⟩])) := hid (by unfold insP; rw [if_neg hm', if_neg hex, if_neg (fun e => e (Or.inr hex2))])
            rw [hk] at hc2
            have hk0 : (0 : Int) ≤ (k : Int) := by omega
            have hk1 : ¬ ((k : Int) < 0) := by omega
            have HC2 := hid hc2
            clear hm hm' hsd hex hex2 hno hk ha hc2 hat
            go_upto_region 9 with (first | (have hq := HBM; go_at_call 71; refine (HC2.out w0 HBM.out).mono ?_; rintro e w1 ⟨rfl, HBN⟩; obtain ⟨m0, m1, m2, m3, m4, m5, m6, m7, m8⟩ := (HF.out w1 HBN.out).facts; have hl1 := (HF.out w1 HBN.out).lt; clear n0 n1 n2 n3 n4 n5 n6 n7 n8) | (go_at_call 71; refine hc1.mono ?_; rintro e w0 ⟨rfl, HBM⟩; obtain ⟨n0, n1, n2, n3, n4, n5, n6, n7, n8⟩ := (HF.out w0 HBM.out).facts; have hl0' := (HF.out w0 HBM.out).lt; clear f0 f1 f2 f3 f4 f5 f6 f7 f8))
            go_wp2_with (first
              | (have hq := HV2; at_builtin; refine wpList_append_chars rfl _ _ 60 Tryz.underlying60 rfl w1.heap.size v2 (0 + n) ([] ++ T) rfl (HV2.out.alloc _) (some ⟨w2.heap.size, 0, none⟩) 1 1 [⟨(i1, i2), (p1, p2), decide (side = 1), ch, true⟩] rfl (rt_one (by rw [HRC.out]; exact World.alloc_heap_new _ _)) (by omega) (by rw [World.size_alloc]; exact Nat.le_trans HG2.out.size (Nat.le_succ _)) ?_; intro v4 w4 ho4 hg4; obtain ⟨g, cap, rfl, k0, k1, k2, HE⟩ := HEND.out w1 w2 w4 v2 v4 HBN.out HG2.out HV2.out hg4 ho4; clear ho4 hg4)
              | (at_builtin; refine wpList_append_chars rfl _ _ 60 Tryz.underlying60 rfl w1.heap.size (.slice none 0 0) 0 [] rfl (World.ownsRow_nil _ _ _ _) a n c T rfl (Hh.out.below (HB0.out.trans (HBN.out.mono HB0.out.size))) (by omega) (Nat.le_refl _) ?_; intro v2 w2 ho2 hg2; have HV2 := hid ho2; have HG2 := hid hg2; obtain ⟨m0, m1, m2, m3, m4, m5, m6, m7, m8⟩ := ((HF.out w1 HBN.out).of (fun b hb => grown_block hg2 hb (by simp [Value.ownBlock]))).facts; clear ho2 hg2))
            exact bodyPost_ret (v := .tuple #[.agg #[.slice (some ⟨g, 0, none⟩) (n + 1) cap], .int .i64 0]) (by simp [results, Tryz.results36, go_sem, HE.out.1]) rfl ⟨_, _, _, by rw [hip.out], by rw [hip.out]; exact HE.out.2.1, Or.inr HE.out.2.2.1, HE.out.2.2.2⟩
          · have hno2 := atI_no (fun x hx e => hex2 ⟨x, hx, e⟩)
            have hip : Hid (insP T (i1, i2) (p1, p2) side ch = (41, T)) := hid (by unfold insP; rw [if_neg hm', if_neg hex, if_pos (by intro e; rcases e with e | e; exact ha e; exact hex2 e)])
            rw [hno2] at hc2
            have HC2 := hid hc2
            clear hm hm' hsd hex hex2 hno hno2 ha hc2 hat HEND
            go_wp2_with (first | (have hq := HBM; go_at_call 71; refine (HC2.out w0 HBM.out).mono ?_; rintro e w1 ⟨rfl, HBN⟩; obtain ⟨m0, m1, m2, m3, m4, m5, m6, m7, m8⟩ := (HF.out w1 HBN.out).facts; have hl1 := (HF.out w1 HBN.out).lt; clear n0 n1 n2 n3 n4 n5 n6 n7 n8) | (go_at_call 71; refine hc1.mono ?_; rintro e w0 ⟨rfl, HBM⟩; obtain ⟨n0, n1, n2, n3, n4, n5, n6, n7, n8⟩ := (HF.out w0 HBM.out).facts; have hl0' := (HF.out w0 HBM.out).lt; clear f0 f1 f2 f3 f4 f5 f6 f7 f8))
            exact bodyPost_ret (v := .tuple #[.agg #[.slice a n c], .int .i64 41]) (by simp [results, Tryz.results36, go_sem, (href.out w1 0 HBN.out).1]) rfl ⟨a, n, c, by rw [hip.out], by rw [hip.out]; exact (href.out w1 0 HBN.out).2.1, Or.inl rfl, (href.out w1 0 HBN.out).2.2⟩
        · simp only at ha0 ha1 ha2
          subst ha0
          have hc2 := fun W hb => hat.out W 0 p2 hb
          by_cases hex2 : ∃ x ∈ T, x.id = (0, p2)
          · obtain ⟨k, hk⟩ := atI_yes hex2
            have hip : Hid (insP T (i1, i2) (0, p2) side ch = (0, T ++ [⟨(i1, i2), (0, p2), decide (side = 1), ch, true⟩])) := hid (by unfold insP; rw [if_neg hm', if_neg hex, if_neg (fun e => e (Or.inr hex2))])
            rw [hk] at hc2
            have hk0 : (0 : Int) ≤ (k : Int) := by omega
            have hk1 : ¬ ((k : Int) < 0) := by omega
            have HC2 := hid hc2
            clear hm hm' hsd hex hex2 hno hk ha hc2 hat
            go_upto_region 9 with (first | (have hq := HBM; go_at_call 71; refine (HC2.out w0 HBM.out).mono ?_; rintro e w1 ⟨rfl, HBN⟩; obtain ⟨m0, m1, m2, m3, m4, m5, m6, m7, m8⟩ := (HF.out w1 HBN.out).facts; have hl1 := (HF.out w1 HBN.out).lt; clear n0 n1 n2 n3 n4 n5 n6 n7 n8) | (go_at_call 71; refine hc1.mono ?_; rintro e w0 ⟨rfl, HBM⟩; obtain ⟨n0, n1, n2, n3, n4, n5, n6, n7, n8⟩ := (HF.out w0 HBM.out).facts; have hl0' := (HF.out w0 HBM.out).lt; clear f0 f1 f2 f3 f4 f5 f6 f7 f8))
            go_wp2_with (first
              | (have hq := HV2; at_builtin; refine wpList_append_chars rfl _ _ 60 Tryz.underlying60 rfl w1.heap.size v2 (0 + n) ([] ++ T) rfl (HV2.out.alloc _) (some ⟨w2.heap.size, 0, none⟩) 1 1 [⟨(i1, i2), (0, p2), decide (side = 1), ch, true⟩] rfl (rt_one (by rw [HRC.out]; exact World.alloc_heap_new _ _)) (by omega) (by rw [World.size_alloc]; exact Nat.le_trans HG2.out.size (Nat.le_succ _)) ?_; intro v4 w4 ho4 hg4; obtain ⟨g, cap, rfl, k0, k1, k2, HE⟩ := HEND.out w1 w2 w4 v2 v4 HBN.out HG2.out HV2.out hg4 ho4; clear ho4 hg4)
              | (at_builtin; refine wpList_append_chars rfl _ _ 60 Tryz.underlying60 rfl w1.heap.size (.slice none 0 0) 0 [] rfl (World.ownsRow_nil _ _ _ _) a n c T rfl (Hh.out.below (HB0.out.trans (HBN.out.mono HB0.out.size))) (by omega) (Nat.le_refl _) ?_; intro v2 w2 ho2 hg2; have HV2 := hid ho2; have HG2 := hid hg2; obtain ⟨m0, m1, m2, m3, m4, m5, m6, m7, m8⟩ := ((HF.out w1 HBN.out).of (fun b hb => grown_block hg2 hb (by simp [Value.ownBlock]))).facts; clear ho2 hg2))
            exact bodyPost_ret (v := .tuple #[.agg #[.slice (some ⟨g, 0, none⟩) (n + 1) cap], .int .i64 0]) (by simp [results, Tryz.results36, go_sem, HE.out.1]) rfl ⟨_, _, _, by rw [hip.out], by rw [hip.out]; exact HE.out.2.1, Or.inr HE.out.2.2.1, HE.out.2.2.2⟩
          · have hno2 := atI_no (fun x hx e => hex2 ⟨x, hx, e⟩)
            have hip : Hid (insP T (i1, i2) (0, p2) side ch = (41, T)) := hid (by unfold insP; rw [if_neg hm', if_neg hex, if_pos (by intro e; rcases e with e | e; exact ha e; exact hex2 e)])
            rw [hno2] at hc2
            have HC2 := hid hc2
            clear hm hm' hsd hex hex2 hno hno2 ha hc2 hat HEND
            go_wp2_with (first | (have hq := HBM; go_at_call 71; refine (HC2.out w0 HBM.out).mono ?_; rintro e w1 ⟨rfl, HBN⟩; obtain ⟨m0, m1, m2, m3, m4, m5, m6, m7, m8⟩ := (HF.out w1 HBN.out).facts; have hl1 := (HF.out w1 HBN.out).lt; clear n0 n1 n2 n3 n4 n5 n6 n7 n8) | (go_at_call 71; refine hc1.mono ?_; rintro e w0 ⟨rfl, HBM⟩; obtain ⟨n0, n1, n2, n3, n4, n5, n6, n7, n8⟩ := (HF.out w0 HBM.out).facts; have hl0' := (HF.out w0 HBM.out).lt; clear f0 f1 f2 f3 f4 f5 f6 f7 f8))
            exact bodyPost_ret (v := .tuple #[.agg #[.slice a n c], .int .i64 41]) (by simp [results, Tryz.results36, go_sem, (href.out w1 0 HBN.out).1]) rfl ⟨a, n, c, by rw [hip.out], by rw [hip.out]; exact (href.out w1 0 HBN.out).2.1, Or.inl rfl, (href.out w1 0 HBN.out).2.2⟩
end
end Go.Proofs.YtnmdcdphpcpojaaGreatDoor
