/- The reference's Put: a row of operations with one more, at its place. -/
import Derived.Test.YtlncokkpdkddlaaGreatWBel
import Derived.Test.YtlncokkpdkddlaaGreatRMathB
import Derived.Deep.CutRange
namespace Go.Proofs.YtlncokkpdkddlaaGreat
section
open Go.RowKit
open Go.Sort (grow)

/-- The slice (a, n, c) holds these operations, wherever their Deps lie. -/
structure RS (w : World) (a : Option Addr) (n c : Nat) (L : List Mo) : Prop where
  len : L.length = n
  cap : n ≤ c
  max : c ≤ maxLen
  nil : a = none → n = 0 ∧ c = 0
  cells : ∀ ad, a = some ad → ∀ j u, (flo L)[j]? = some u → w.cell? (ad.add j) = some u

theorem OS.rs {w : World} {a : Option Addr} {n c : Nat} {L : List Mo} (h : OS w a n c L) : RS w a n c L := ⟨h.len, h.cap, h.max, h.nil, h.cells⟩

theorem RS.below {w w' : World} {a : Option Addr} {n c : Nat} {L : List Mo} (h : RS w a n c L) (hb : RowKit.Below w.heap.size w w') : RS w' a n c L :=
  ⟨h.len, h.cap, h.max, h.nil, fun ad ha j u hj => by
    have := h.cells ad ha j u hj
    rw [hb.cell (cell_in this)]
    exact this⟩

theorem owned_rs {w : World} {base : Nat} {v : Value} {L : List Mo} (h : OwnO w base v L) : ∃ a c, v = .slice a L.length c ∧ RS w a L.length c L := by
  rcases h.2 with ⟨rfl, hl⟩ | ⟨g, cap, cur, rfl, hg, hb, hn, hcap, hsz, ht⟩
  · have : L = [] := List.eq_nil_of_length_eq_zero hl
    subst this
    exact ⟨none, 0, rfl, rfl, Nat.le_refl _, Nat.zero_le _, fun _ => ⟨rfl, rfl⟩, (fun _ h => by cases h)⟩
  · exact ⟨_, _, rfl, rfl, hn, hcap, fun h => (by cases h), fun ad ha j u hj => (by cases ha; exact h.cells (g := g) rfl j u hj)⟩

theorem flo_take_get {L : List Mo} {k j : Nat} {u : Value} (h : (flo (L.take k))[j]? = some u) : (flo L)[j]? = some u := by
  have e : flo L = flo (L.take k) ++ flo (L.drop k) := by rw [← flo_append, List.take_append_drop]
  have hl := (List.getElem?_eq_some_iff.1 h).1
  rw [e, List.getElem?_append_left hl]
  exact h

theorem flo_drop_get {L : List Mo} {k j : Nat} {u : Value} (hk : k ≤ L.length) (h : (flo (L.drop k))[j]? = some u) : (flo L)[k * 14 + j]? = some u := by
  have e : flo L = flo (L.take k) ++ flo (L.drop k) := by rw [← flo_append, List.take_append_drop]
  have hl : (flo (L.take k)).length = k * 14 := by rw [flo_length, List.length_take, Nat.min_eq_left hk]
  rw [e, List.getElem?_append_right (by omega), hl, Nat.add_sub_cancel_left]
  exact h

theorem RS.take {w : World} {a : Option Addr} {n c : Nat} {L : List Mo} (h : RS w a n c L) {k : Nat} (hk : k ≤ n) : RS w a k c (L.take k) :=
  ⟨by rw [List.length_take, h.len, Nat.min_eq_left hk], Nat.le_trans hk h.cap, h.max, fun e => ⟨by have := (h.nil e).1; omega, (h.nil e).2⟩, fun ad ha j u hj => h.cells ad ha j u (flo_take_get hj)⟩

theorem RS.drop {w : World} {g o : Nat} {n c : Nat} {L : List Mo} (h : RS w (some ⟨g, o, none⟩) n c L) {k : Nat} (hk : k ≤ n) : RS w (some ⟨g, o + k * 14, none⟩) (n - k) (c - k) (L.drop k) :=
  ⟨by rw [List.length_drop, h.len], by have := h.cap; omega, by have := h.max; omega, (fun e => by cases e), fun ad ha j u hj => by
    cases ha
    have := h.cells _ rfl (k * 14 + j) u (flo_drop_get (by rw [h.len]; exact hk) hj)
    rw [add_none] at this ⊢
    rw [Nat.add_assoc]
    exact this⟩

theorem RS.no {w : World} {a : Option Addr} {n c : Nat} {L : List Mo} (h : RS w a n c L) : RS w a 0 c [] :=
  ⟨rfl, Nat.zero_le _, h.max, fun e => ⟨rfl, (h.nil e).2⟩, fun _ _ _ _ hj => (by simp [flo] at hj)⟩

theorem RS.at {w : World} {a : Option Addr} {n c : Nat} {L : List Mo} (h : RS w a n c L) (hp : 0 < n) :
    ∃ g o, a = some ⟨g, o, Option.none⟩ ∧ g < w.heap.size ∧ ∀ i (hi : i < L.length), OpAtO w g (o + i * 14) L[i] := by
  have hos : ∀ L' : List Mo, (L'.map fun x => (⟨x.o, x.a, x.n, x.c, x.V⟩ : Mo)) = L' := fun L' => by simp
  cases a with
  | none => have := (h.nil rfl).1; omega
  | some ad =>
    have hc := h.cells ad rfl
    obtain ⟨g, o, sp⟩ := ad
    have hl : 0 < L.length := by rw [h.len]; exact hp
    have h0 := hc 0 (.int .i64 (L[0]).o.id0) (by have := flo_get L 0 hl 0 (by omega); simpa [Mo.cells] using this)
    have hspot : sp = Option.none := by simpa [Addr.add] using World.cell?_spot h0
    subst hspot
    have each : ∀ i (hi : i < L.length) j (_ : j < 14) u, (L[i]).cells[j]? = some u → w.cell? ⟨g, o + i * 14 + j, Option.none⟩ = some u := fun i hi j hj u hu => by
      have := hc (i * 14 + j) u (by rw [flo_get L i hi j hj]; exact hu)
      rw [add_none, ← Nat.add_assoc] at this
      exact this
    refine ⟨g, o, rfl, by have := cell_in h0; simpa [Addr.add] using this, fun i hi => ?_⟩
    exact ⟨each i hi 0 (by omega) _ rfl, each i hi 1 (by omega) _ rfl, each i hi 2 (by omega) _ rfl, each i hi 3 (by omega) _ rfl, each i hi 4 (by omega) _ rfl, each i hi 5 (by omega) _ rfl, each i hi 6 (by omega) _ rfl,
      each i hi 7 (by omega) _ rfl, each i hi 8 (by omega) _ rfl, each i hi 9 (by omega) _ rfl, each i hi 10 (by omega) _ rfl, each i hi 11 (by omega) _ rfl, each i hi 12 (by omega) _ rfl, each i hi 13 (by omega) _ rfl⟩

/-- append of a row of operations to a slice of the call's own. -/
theorem wpList_append_ops {w : World} {ops : Array Oper} {rest : List Oper} {o : Oper} {a : Act} {Q : Exit → Act → World → Prop} (hgd : o.guard = none) (s x : Operand)
    (ho : o.op = .call { callee := .builtin .append, args := #[s, x], argTypes := #[22, 22] }) (base : Nat) (v : Value) (L : List Mo) (hs : a.eval s = v) (hown : OwnO w base v L)
    (ao : Option Addr) (m c : Nat) (L2 : List Mo) (hx : a.eval x = .slice ao m c) (hL : RS w ao m c L2) (hb : L.length + m ≤ 1000000) (hbase : base ≤ w.heap.size)
    (h : ∀ v' w', OwnO w' base v' (L ++ L2) → w.grownBy w' v.ownBlock → wpList Tryz.prog ops Q rest (a.put o.dst v') w') : wpList Tryz.prog ops Q (o :: rest) a w := by
  obtain ⟨i0, hi, hz0, hz1, hz2⟩ := info_parts Tryz.infoOp
  cases ao with
  | none =>
    obtain ⟨rfl, rfl⟩ := hL.nil rfl
    have : L2 = [] := List.eq_nil_of_length_eq_zero hL.len
    subst this
    refine wpList_append_own_none hgd s x 22 ho base 36 i0 14 Tryz.underlying22 hi v L.length (flo L) hs hown hx ?_
    exact h v w (by simpa using hown) (World.grownBy.refl _ _)
  | some ad =>
    refine wpList_append_own w hgd s x 22 ho base 36 i0 _ 14 136 Tryz.underlying22 hi hz0 hz1 hz2 rfl (by decide) v L.length (flo L) hs hown ad m c (flo L2) hx (by rw [flo_length, hL.len]) (hL.cells ad rfl) (flo_one L2) (by unfold maxLen; omega) (by omega) hbase
      (fun v' w' h1 h2 _ => h v' w' ?_ h2)
    show World.ownsRow _ _ _ _ _ (List.length _) _
    rw [List.length_append, flo_append, hL.len]
    exact h1

set_option maxRecDepth 100000 in
set_option maxHeartbeats 2000000 in
theorem known_any (a : Option Addr) (n c : Nat) (L : List Mo) (d : Dt) (w : World) (hs : RS w a n c L) (hn : n ≤ 1000000) :
    Calls Tryz.prog 47 #[.slice a n c, dv d] w fun e w' => e = .returned (.bool (hasId (L.map Mo.m) d)) ∧ RowKit.Below w.heap.size w w' := by
  obtain ⟨d1, d2⟩ := d
  have hlen := hs.len
  have hF := ((Far.refl w).alloc (.cells #[.int .i64 d1, .int .i64 d2] 32)).below
  have k0 : (w.alloc (.cells #[.int .i64 d1, .int .i64 d2] 32)).cell? ⟨w.heap.size, 0, none⟩ = some (.int .i64 d1) := by go_simp
  have k1 : (w.alloc (.cells #[.int .i64 d1, .int .i64 d2] 32)).cell? ⟨w.heap.size, 1, none⟩ = some (.int .i64 d2) := by go_simp
  go_enter Tryz.func47, Tryz.ntmps47
  go_wp2
  generalize w.alloc (.cells #[.int .i64 d1, .int .i64 d2] 32) = w0 at *
  go_loopw [5] (fun i wr => ∃ k : Nat, k ≤ n ∧ i = .int .i64 k ∧ Hid (∀ x ∈ L.take k, x.o.id ≠ (d1, d2)) ∧ Hid (RowKit.Below w0.heap.size w0 wr)) (fun i _ => n - (intOf i).toNat)
  case atStart => exact ⟨0, by omega, rfl, hid (by simp), hid (Below.refl _ _)⟩
  case round =>
    obtain ⟨k, hk, rfl, hall, hBr⟩ := hrel
    have hBw := hid (below2 hF hBr.out)
    by_cases hlt : k < n
    · have hkl : k < L.length := by omega
      have hsr := hs.below hBw.out
      obtain ⟨g, o, rfl, hg, _⟩ := hsr.at (by omega)
      have hX : ∀ p : Wb wr, OpAtO p.u g (o + k * 14) L[k] := fun p => by
        obtain ⟨g', o', e, _, hc⟩ := (hsr.below p.h).at (by omega)
        cases e
        exact hc k hkl
      have x0 := fun p => (hX p).c0
      have x1 := fun p => (hX p).c1
      have j0 := (hBr.out.cell (cell_in k0)).trans k0
      have j1 := (hBr.out.cell (cell_in k1)).trans k1
      have y0 : ∀ p : Wb wr, p.u.cell? ⟨w.heap.size, 0, none⟩ = some (.int .i64 d1) := fun p => (p.h.cell (cell_in j0)).trans j0
      have y1 : ∀ p : Wb wr, p.u.cell? ⟨w.heap.size, 1, none⟩ = some (.int .i64 d2) := fun p => (p.h.cell (cell_in j1)).trans j1
      have hst : Hid (∀ x ∈ L.take (k + 1), x ∈ L.take k ∨ x = L[k]) := hid (fun x hx => by
        rw [List.take_succ_eq_append_getElem hkl] at hx
        rcases List.mem_append.1 hx with h | h
        · exact Or.inl h
        · exact Or.inr (List.mem_singleton.1 h))
      have hin : Hid (L[k] ∈ L) := hid (List.getElem_mem hkl)
      generalize L[k] = x at *
      clear hsr hX j0 j1
      haveI : Nonempty (Wb wr) := ⟨⟨wr, Below.refl _ _⟩⟩
      by_cases e0 : x.o.id0 = d1
      · have q0 : (x.o.id0 == d1) = true := by simp [e0]
        by_cases e1 : x.o.id1 = d2
        · have q1 : (x.o.id1 == d2) = true := by simp [e1]
          have hyes : Hid (hasId (L.map Mo.m) (d1, d2) = true) := hid ((hasId_iff _ _).2 (List.mem_map.2 ⟨x.m, List.mem_map.2 ⟨x, hin.out, rfl⟩, by show (x.o.id0, x.o.id1) = (d1, d2); rw [e0, e1]⟩))
          clear e0 e1
          go_wp2_with fail
          refine wp_region_below mixed (by kernel_rfl) ?_
          repeat (go_big_quiet_step (fail))
          refine wpQuiet_nil ?_
          intro _ hw'
          obtain ⟨p, hw''⟩ := hw'
          subst hw''
          go_wp2
          go_ret
          exact ⟨by rw [hyes.out]; rfl, below2 hBw.out p.h⟩
        · have q1 : (x.o.id1 == d2) = false := by simp [e1]
          have hne : Hid (x.o.id ≠ (d1, d2)) := hid (fun h => e1 (congrArg Prod.snd h))
          clear e0 e1
          go_wp2_with fail
          refine wp_region_below mixed (by kernel_rfl) ?_
          repeat (go_big_quiet_step (fail))
          refine wpQuiet_nil ?_
          intro _ hw'
          obtain ⟨p, hw''⟩ := hw'
          subst hw''
          go_wp2
          go_roundw
          case rel =>
            refine ⟨k + 1, by omega, by go_num, hid (fun z hz => ?_), hid (below2 hBr.out p.h)⟩
            rcases hst.out z hz with h | h
            · exact hall.out z h
            · rw [h]; exact hne.out
          case measure => simp [intOf]; omega
      · have q0 : (x.o.id0 == d1) = false := by simp [e0]
        have hne : Hid (x.o.id ≠ (d1, d2)) := hid (fun h => e0 (congrArg Prod.fst h))
        clear e0
        go_wp2_with fail
        refine wp_region_below mixed (by kernel_rfl) ?_
        repeat (go_big_quiet_step (fail))
        refine wpQuiet_nil ?_
        intro _ hw'
        obtain ⟨p, hw''⟩ := hw'
        subst hw''
        go_wp2
        go_roundw
        case rel =>
          refine ⟨k + 1, by omega, by go_num, hid (fun z hz => ?_), hid (below2 hBr.out p.h)⟩
          rcases hst.out z hz with h | h
          · exact hall.out z h
          · rw [h]; exact hne.out
        case measure => simp [intOf]; omega
    · obtain rfl : k = n := by omega
      have hno : Hid (hasId (L.map Mo.m) (d1, d2) = false) := hid (by
        cases h : hasId (L.map Mo.m) (d1, d2) with
        | false => rfl
        | true =>
          obtain ⟨y, hy, hyd⟩ := List.mem_map.1 ((hasId_iff _ _).1 h)
          obtain ⟨z, hz, rfl⟩ := List.mem_map.1 hy
          have h2 := hall.out
          rw [← hlen, List.take_length] at h2
          exact absurd hyd (h2 z hz))
      go_wp2
      go_ret
      exact ⟨by rw [hno.out]; rfl, hBw.out⟩
end

section
open Go.RowKit
open Go.Sort (grow)

theorem own_forms {w : World} {base : Nat} {v : Value} {L : List Mo} (h : OwnO w base v L) : (v = .slice none 0 0 ∧ L = []) ∨ ∃ g cap, v = .slice (some ⟨g, 0, none⟩) L.length cap ∧ base ≤ g ∧ g < w.heap.size ∧ L.length ≤ cap ∧ RS w (some ⟨g, 0, none⟩) L.length cap L := by
  obtain ⟨a, c, e, hr⟩ := owned_rs h
  rcases h.2 with ⟨rfl, hl⟩ | ⟨g, cap, cur, rfl, hg, hb, hn, hcap, hsz, ht⟩
  · exact Or.inl ⟨rfl, List.eq_nil_of_length_eq_zero hl⟩
  · refine Or.inr ⟨g, cap, rfl, hg, (Array.getElem?_eq_some_iff.1 hb).1, hn, ?_⟩
    simp only [Value.slice.injEq] at e
    obtain ⟨rfl, _, rfl⟩ := e
    exact hr

theorem rs_one (w : World) (x : Mo) : RS (w.alloc (.cells (x.o.cells x.dep) 36)) (some ⟨w.heap.size, 0, none⟩) 1 1 [x] :=
  ⟨rfl, Nat.le_refl _, by decide, (fun e => by cases e), fun ad ha j u hj => by
    cases ha
    exact mo_cells _ _ x (opAt_alloc w x.o x.dep 36) j u (by simpa [flo] using hj)⟩

theorem own_kept {w w' : World} {base : Nat} {v : Value} {L : List Mo} (h : OwnO w base v L) (hb : RowKit.Below w.heap.size w w') : OwnO w' base v L := h.kept (below_grown hb) none_or

set_option maxRecDepth 100000 in
set_option maxHeartbeats 4000000 in
theorem put_any (v : Value) (base : Nat) (L : List Mo) (x : Mo) (w : World) (hown : OwnO w base v L) (hn : L.length ≤ 100000) :
    Calls Tryz.prog 48 #[v, ov x.o x.dep] w fun e w' => ∃ v', e = .returned v' ∧ OwnO w' w.heap.size v' (putO L x) ∧ RowKit.Below w.heap.size w w' := by
  have hF := ((Far.refl w).alloc (.cells (x.o.cells x.dep) 36)).below
  have hA := (MapKept.heap_alloc w (.cells (x.o.cells x.dep) 36)).1
  have hpu : Hid (putO L x = L.take (aheadN x L) ++ [x] ++ L.drop (aheadN x L)) := hid rfl
  have hale := aheadN_le x L
  have hal := hid (aheadN_lt x L)
  have haa := hid (aheadN_at x L)
  generalize putO L x = PO at *
  rcases own_forms hown with ⟨rfl, rfl⟩ | ⟨g, cap, rfl, hgb, hgl, hcap, hr⟩
  · have HPU := hid (show PO = [x] by rw [hpu.out]; rfl)
    clear hpu hal haa hale
    go_enter Tryz.func48, Tryz.ntmps48
    go_wp2
    generalize w.alloc (.cells (x.o.cells x.dep) 36) = w0 at *
    have hs0 := hF.size
    go_loopw [5] (fun i wr => i = .int .i64 0 ∧ Hid (RowKit.Below w0.heap.size w0 wr)) (fun _ _ => 0)
    case atStart => exact ⟨rfl, hid (Below.refl _ _)⟩
    case round =>
      obtain ⟨rfl, hBr⟩ := hrel
      have hA' := (hBr.out.block w.heap.size (Array.getElem?_eq_some_iff.1 hA).1).trans hA
      have hsr := hBr.out.size
      haveI : Nonempty (Wb wr) := ⟨⟨wr, Below.refl _ _⟩⟩
      go_wp2_with fail
      refine wp_region_below mixed (by kernel_rfl) ?_
      repeat (go_big_quiet_step (fail))
      refine wpQuiet_nil ?_
      intro _ hw'
      obtain ⟨p, hw''⟩ := hw'
      subst hw''
      have hA2 := (p.h.block w.heap.size (Array.getElem?_eq_some_iff.1 hA').1).trans hA'
      have hBp := hid (below2 hF (below2 hBr.out p.h))
      have hsp := hBp.out.size
      generalize p.u = wp at *
      go_wp2_with (first
        | (at_builtin; have hq := hG2; refine wpList_append_ops rfl _ _ rfl w.heap.size v2 ([] ++ [x]) rfl hO2 none 0 0 [] rfl (⟨rfl, Nat.le_refl _, Nat.zero_le _, fun _ => ⟨rfl, rfl⟩, (fun _ h => by cases h)⟩) (by first | (simp; done) | (simp; omega)) (by omega) ?_; intro v3 w3 hO3 hG3)
        | (at_builtin; have hq := hG1; refine wpList_append_ops rfl _ _ rfl w.heap.size v1 [] rfl (hO1.alloc _) (some ⟨w1.heap.size, 0, none⟩) 1 1 [x] rfl (rs_one w1 x) (by first | (simp; done) | (simp; omega)) (by first | (simp; done) | (simp; omega)) ?_; intro v2 w2 hO2 hG2; have B2 := (B1.alloc hs1 (.cells (x.o.cells x.dep) 36)).grown hG2 (by simp; omega) (fun j hj => (hO1.lt j hj).1); have hs2 := B2.size)
        | (at_builtin; refine wpList_append_ops rfl _ _ rfl w.heap.size (.slice none 0 0) [] rfl (World.ownsRow_nil _ _ _ _) none 0 0 [] rfl (⟨rfl, Nat.le_refl _, Nat.zero_le _, fun _ => ⟨rfl, rfl⟩, (fun _ h => by cases h)⟩) (by first | (simp; done) | (simp; omega)) (by omega) ?_; intro v1 w1 hO1 hG1; have B1 := hBp.out.grown hG1 (by omega) (fun j hj => by cases hj); have hs1 := B1.size; have hb1 := (hG1.block w.heap.size (Array.getElem?_eq_some_iff.1 hA2).1 (fun h => by cases h)).trans hA2; obtain ⟨b0, b1, b2, b3, b4, b5, b6, b7, b8, b9, b10, b11, b12, b13⟩ := opAt_of_block hb1))
      go_ret
      refine ⟨v3, rfl, ?_, B2.grown hG3 (by omega) (fun j hj => (hO2.lt j hj).1)⟩
      rw [HPU.out]
      exact hO3
  · have HPU := hpu
    clear hpu
    obtain ⟨n, hnl⟩ : ∃ n, L.length = n := ⟨_, rfl⟩
    rw [hnl] at hn hcap hr hale
    have hr0 := hr.below hF
    have hmx := hr.max
    unfold maxLen at hmx
    go_enter Tryz.func48, Tryz.ntmps48
    rw [hnl]
    have HN := hid hnl
    have Hr := hid hr
    clear hnl hr
    go_wp2
    generalize w.alloc (.cells (x.o.cells x.dep) 36) = w0 at *
    have hs0 := hF.size
    obtain ⟨K, hK⟩ : ∃ K, aheadN x L = K := ⟨_, rfl⟩
    rw [hK] at hale
    have HK := hid hK
    clear hK
    go_loopw [5] (fun i wr => ∃ k : Nat, k ≤ K ∧ i = .int .i64 k ∧ Hid (RowKit.Below w0.heap.size w0 wr)) (fun i _ => n - (intOf i).toNat)
    case atStart => exact ⟨0, Nat.zero_le _, rfl, hid (Below.refl _ _)⟩
    case round =>
      obtain ⟨k, hk, rfl, hBr⟩ := hrel
      have hA' := (hBr.out.block w.heap.size (Array.getElem?_eq_some_iff.1 hA).1).trans hA
      have hsr := hBr.out.size
      haveI : Nonempty (Wb wr) := ⟨⟨wr, Below.refl _ _⟩⟩
      go_upto_region 2 with fail
      go_cut [18] from 7 to 20 (fun s wc => s = .bool (decide (k < K)) ∧ Hid (RowKit.Below wr.heap.size wr wc))
      case first =>
        by_cases hkn : k < n
        · have hkl : k < L.length := by rw [HN.out]; exact hkn
          have hZ : ∀ p : Wb wr, OpAtO p.u g (0 + k * 14) L[k] := fun p => by
            obtain ⟨g', o', e, _, hc⟩ := ((hr0.below hBr.out).below p.h).at (by omega)
            cases e
            exact hc k hkl
          have hY : ∀ p : Wb wr, OpAt p.u w.heap.size x.o x.dep := fun p => opAt_of_block ((p.h.block _ (Array.getElem?_eq_some_iff.1 hA').1).trans hA')
          have hLess : ∀ p : Wb wr, Calls Tryz.prog 67 #[ov L[k].o L[k].dep, ov x.o x.dep] p.u fun e w'' => e = .returned (.bool (decide (k < K))) ∧ ∃ p' : Wb wr, w'' = p'.u := fun p => by
            have h := rless7_any L[k].o x.o L[k].dep x.dep p.u
            have e : lo L[k].o x.o = decide (k < K) := by
              by_cases hkK : k < K
              · rw [hal.out k hkl (by rw [HK.out]; exact hkK)]
                simp [hkK]
              · have : k = aheadN x L := by rw [HK.out]; omega
                subst this
                rw [haa.out hkl]
                simp [hkK]
            rw [e] at h
            exact far_q h
          rw [Nat.zero_add] at hZ
          generalize L[k] = y at *
          have hd : decide ((k : Int) < (n : Int)) = true := by simp; omega
          have y0 := fun p => (hY p).c0
          have y1 := fun p => (hY p).c1
          have y2 := fun p => (hY p).c2
          have y3 := fun p => (hY p).c3
          have y4 := fun p => (hY p).c4
          have y5 := fun p => (hY p).c5
          have y6 := fun p => (hY p).c6
          have y7 := fun p => (hY p).c7
          have y8 := fun p => (hY p).c8
          have y9 := fun p => (hY p).c9
          have y10 := fun p => (hY p).c10
          have y11 := fun p => (hY p).c11
          have y12 := fun p => (hY p).c12
          have y13 := fun p => (hY p).c13
          have z0 := fun p => (hZ p).c0
          have z1 := fun p => (hZ p).c1
          have z2 := fun p => (hZ p).c2
          have z3 := fun p => (hZ p).c3
          have z4 := fun p => (hZ p).c4
          have z5 := fun p => (hZ p).c5
          have z6 := fun p => (hZ p).c6
          have z7 := fun p => (hZ p).c7
          have z8 := fun p => (hZ p).c8
          have z9 := fun p => (hZ p).c9
          have z10 := fun p => (hZ p).c10
          have z11 := fun p => (hZ p).c11
          have z12 := fun p => (hZ p).c12
          have z13 := fun p => (hZ p).c13
          clear hY hZ
          go_wp2_with fail
          refine wp_region_below mixed (by kernel_rfl) ?_
          repeat (go_big_quiet_step ((first | (go_at_call 67; exact hLess _))))
          refine wpQuiet_nil ?_
          intro _ hw'
          obtain ⟨p, hw''⟩ := hw'
          subst hw''
          go_wp2_with fail
          go_meet
          exact ⟨rfl, hid p.h⟩
        · have hd : decide ((k : Int) < (n : Int)) = false := by simp; omega
          have hKK : decide (k < K) = false := by simp; omega
          go_wp2_with fail
          refine wp_region_below mixed (by kernel_rfl) ?_
          repeat (go_big_quiet_step (fail))
          refine wpQuiet_nil ?_
          intro _ hw'
          obtain ⟨p, hw''⟩ := hw'
          subst hw''
          go_wp2_with fail
          go_meet
          exact ⟨by rw [hKK], hid p.h⟩
      obtain ⟨rfl, hBc⟩ := hcut
      by_cases hkK : k < K
      · have hb : decide (k < K) = true := by simp [hkK]
        rw [hb]
        go_wp2
        go_roundw
        case rel => exact ⟨k + 1, by omega, by go_num, hid (below2 hBr.out hBc.out)⟩
        case measure => simp [intOf]; omega
      · have hb : decide (k < K) = false := by simp [hkK]
        obtain rfl : k = K := by omega
        rw [hb]
        have hA2 := (hBc.out.block w.heap.size (Array.getElem?_eq_some_iff.1 hA').1).trans hA'
        have hBp := hid (below2 hF (below2 hBr.out hBc.out))
        have hsp := hBp.out.size
        have hrp := (hr0.below hBr.out).below hBc.out
        generalize wc = wp at *
        have HPU2 : Hid (PO = L.take k ++ [x] ++ L.drop k) := hid (by rw [HPU.out, HK.out])
        clear HPU
        have HPU := HPU2
        clear HPU2
        have hlt : (L.take k).length = k := by rw [List.length_take, HN.out]; omega
        by_cases hkc : k < cap
        · go_wp2_with (first
            | (at_builtin; have hq := hG2; refine wpList_append_ops rfl _ _ rfl w.heap.size v2 ((L.take k) ++ [x]) rfl hO2 (some ⟨g, k * 14, none⟩) (n - k) (cap - k) (L.drop k) rfl ((by have h := (Hr.out.below B2).drop (k := k) (by omega); rw [Nat.zero_add] at h; exact h)) (by first | (simp; done) | (simp; omega)) (by omega) ?_; intro v3 w3 hO3 hG3)
            | (at_builtin; have hq := hG1; refine wpList_append_ops rfl _ _ rfl w.heap.size v1 (L.take k) rfl (hO1.alloc _) (some ⟨w1.heap.size, 0, none⟩) 1 1 [x] rfl (rs_one w1 x) (by first | (simp; done) | (simp; omega)) (by first | (simp; done) | (simp; omega)) ?_; intro v2 w2 hO2 hG2; have B2 := (B1.alloc hs1 (.cells (x.o.cells x.dep) 36)).grown hG2 (by simp; omega) (fun j hj => (hO1.lt j hj).1); have hs2 := B2.size)
            | (at_builtin; refine wpList_append_ops rfl _ _ rfl w.heap.size (.slice none 0 0) [] rfl (World.ownsRow_nil _ _ _ _) (some ⟨g, 0, none⟩) k cap (L.take k) rfl (hrp.take (by omega)) (by first | (simp; done) | (simp; omega)) (by omega) ?_; intro v1 w1 hO1 hG1; have B1 := hBp.out.grown hG1 (by omega) (fun j hj => by cases hj); have hs1 := B1.size; have hb1 := (hG1.block w.heap.size (Array.getElem?_eq_some_iff.1 hA2).1 (fun h => by cases h)).trans hA2; obtain ⟨b0, b1, b2, b3, b4, b5, b6, b7, b8, b9, b10, b11, b12, b13⟩ := opAt_of_block hb1))
          go_ret
          refine ⟨v3, rfl, ?_, B2.grown hG3 (by omega) (fun j hj => (hO2.lt j hj).1)⟩
          rw [HPU.out]
          exact hO3
        · obtain rfl : k = cap := by omega
          obtain rfl : k = n := by omega
          have hdn : Hid (L.drop k = []) := hid (List.drop_of_length_le (by rw [HN.out]; exact Nat.le_refl _))
          have HPU2 : Hid (PO = L.take k ++ [x] ++ []) := hid (by rw [HPU.out, hdn.out])
          clear HPU
          have HPU := HPU2
          go_wp2_with (first
            | (at_builtin; have hq := hG2; refine wpList_append_ops rfl _ _ rfl w.heap.size v2 ((L.take k) ++ [x]) rfl hO2 (some ⟨g, 0, none⟩) 0 0 [] rfl (⟨rfl, Nat.le_refl _, Nat.zero_le _, (fun e => by cases e), fun _ _ _ _ hj => (by simp [flo] at hj)⟩) (by first | (simp; done) | (simp; omega)) (by omega) ?_; intro v3 w3 hO3 hG3)
            | (at_builtin; have hq := hG1; refine wpList_append_ops rfl _ _ rfl w.heap.size v1 (L.take k) rfl (hO1.alloc _) (some ⟨w1.heap.size, 0, none⟩) 1 1 [x] rfl (rs_one w1 x) (by first | (simp; done) | (simp; omega)) (by first | (simp; done) | (simp; omega)) ?_; intro v2 w2 hO2 hG2; have B2 := (B1.alloc hs1 (.cells (x.o.cells x.dep) 36)).grown hG2 (by simp; omega) (fun j hj => (hO1.lt j hj).1); have hs2 := B2.size)
            | (at_builtin; refine wpList_append_ops rfl _ _ rfl w.heap.size (.slice none 0 0) [] rfl (World.ownsRow_nil _ _ _ _) (some ⟨g, 0, none⟩) k k (L.take k) rfl (hrp.take (by omega)) (by first | (simp; done) | (simp; omega)) (by omega) ?_; intro v1 w1 hO1 hG1; have B1 := hBp.out.grown hG1 (by omega) (fun j hj => by cases hj); have hs1 := B1.size; have hb1 := (hG1.block w.heap.size (Array.getElem?_eq_some_iff.1 hA2).1 (fun h => by cases h)).trans hA2; obtain ⟨b0, b1, b2, b3, b4, b5, b6, b7, b8, b9, b10, b11, b12, b13⟩ := opAt_of_block hb1))
          go_ret
          refine ⟨v3, rfl, ?_, B2.grown hG3 (by omega) (fun j hj => (hO2.lt j hj).1)⟩
          rw [HPU.out]
          exact hO3
end
end Go.Proofs.YtlncokkpdkddlaaGreat
