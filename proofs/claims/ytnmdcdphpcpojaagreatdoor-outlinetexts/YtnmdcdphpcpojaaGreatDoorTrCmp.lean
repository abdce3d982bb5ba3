/- cmp.Compare of texts; turn: which move is done first. -/
import Derived.Test.YtnmdcdphpcpojaaGreatDoorTrInsG
import Derived.Test.YtnmdcdphpcpojaaGreatDoorMKeys
import Derived.Test.YtnmdcdphpcpojaaGreatDoorOParts
namespace Go.Proofs.YtnmdcdphpcpojaaGreatDoor
section
set_option linter.unusedVariables false
open Go.RowKit Go.Lib
open Go.Sort (grow)

/-- Appends one dot to a row of one's own. -/
theorem wpList_append_dot1 {w : World} {ops : Array Oper} {rest : List Oper} {o : Oper} {a : Act} {Q : Exit → Act → World → Prop} (hgd : o.guard = none) (s x : Operand)
    (ho : o.op = .call { callee := .builtin .append, args := #[s, x], argTypes := #[32, 32] }) (base : Nat) (v : Value) (n : Nat) (xs : List Value) (hs : a.eval s = v) (hown : w.ownsRow base 24 2 v n xs)
    (vb : Nat) (u1 u2 : Value) (hx : a.eval x = .slice (some ⟨vb, 0, none⟩) 1 1) (hv : w.cell? ⟨vb, 0, none⟩ = some u1) (hv2 : w.cell? ⟨vb, 1, none⟩ = some u2) (hu1 : u1.oneCell' = true) (hu2 : u2.oneCell' = true) (hb : n + 1 ≤ 1000001) (hbase : base ≤ w.heap.size)
    (h : ∀ g cap w', w'.ownsRow base 24 2 (.slice (some ⟨g, 0, none⟩) (n + 1) cap) (n + 1) (xs ++ [u1, u2]) → w.grownBy w' v.ownBlock → (v.ownBlock = some g ∨ g = w.heap.size) → wpList Tryz.prog ops Q rest (a.put o.dst (.slice (some ⟨g, 0, none⟩) (n + 1) cap)) w') : wpList Tryz.prog ops Q (o :: rest) a w := by
  obtain ⟨i0, hi, hz0, hz1, hz2⟩ := info_parts Tryz.infoDot2
  refine wpList_append_lies w hgd s x 32 ho base 24 i0 _ 2 16 Tryz.underlying32 hi hz0 hz1 hz2 rfl (by decide) v n xs hs hown ⟨vb, 0, none⟩ 1 1 [u1, u2] hx rfl (fun j y hj => ?_) (fun y hy => by simp at hy; rcases hy with rfl | rfl; exact hu1; exact hu2) (by decide) (by unfold maxLen; omega) (by omega) hbase _ rfl ?_
  · rw [Addr.add_lit]
    rcases j with _ | _ | j
    · simp at hj; subst hj; exact hv
    · simp at hj; subst hj; exact hv2
    · simp at hj
  · intro g cap w' h1 h2 h3 _
    exact h g cap w' h1 h2 h3

set_option maxRecDepth 100000 in
set_option maxHeartbeats 4000000 in
/-- slices.Insert of one dot, anywhere in a row of one's own. -/
theorem dinsert_any (base : Nat) (v : Value) (n i vb : Nat) (xs : List Value) (u1 u2 : Value) (w : World) (hi : i ≤ n) (hn : n ≤ 1000000) (hbase : base ≤ w.heap.size) (hown : w.ownsRow base 24 2 v n xs) (hvb : v.ownBlock ≠ some vb)
    (hv : w.heap[vb]? = some (.cells #[u1, u2] 24 (0, 0))) (h1 : ∀ y ∈ xs, y.oneCell' = true) (hu1 : u1.oneCell' = true) (hu2 : u2.oneCell' = true) :
    Calls Tryz.prog 156 #[v, .int .i64 i, .slice (some ⟨vb, 0, none⟩) 1 1] w fun e w' =>
      ∃ g c, e = .returned (.slice (some ⟨g, 0, none⟩) (n + 1) c) ∧ w'.ownsRow base 24 2 (.slice (some ⟨g, 0, none⟩) (n + 1) c) (n + 1) (xs.take (i * 2) ++ [u1, u2] ++ xs.drop (i * 2)) ∧ w.grownBy w' v.ownBlock ∧ (v.ownBlock = some g ∨ g = w.heap.size) := by
  have hxl : xs.length = n * 2 := hown.1
  have hv0 : w.cell? ⟨vb, 0, none⟩ = some u1 := by simp [World.cell?, hv]
  have hv2 : w.cell? ⟨vb, 1, none⟩ = some u2 := by simp [World.cell?, hv]
  by_cases hin : i = n
  · subst hin
    have hcase : (v = .slice none 0 0 ∧ i = 0) ∨ ∃ g c, v = .slice (some ⟨g, 0, none⟩) i c ∧ i ≤ c ∧ c ≤ maxLen := by
      rcases hown.2 with h | ⟨g, cap, cur, e, _, _, hnc, hc, _⟩
      · exact Or.inl h
      · exact Or.inr ⟨g, cap, e, hnc, hc⟩
    have HOWN := hid hown
    have hlist : xs.take (i * 2) ++ [u1, u2] ++ xs.drop (i * 2) = xs ++ [u1, u2] := by rw [List.take_of_length_le (by omega), List.drop_of_length_le (by omega), List.append_nil]
    obtain ⟨Z, hZ⟩ : ∃ Z, xs.take (i * 2) ++ [u1, u2] ++ xs.drop (i * 2) = Z := ⟨_, rfl⟩
    rw [hZ] at hlist ⊢
    have HL := hid hlist
    clear hlist hown hZ
    rcases hcase with ⟨rfl, rfl⟩ | ⟨g, c, rfl, hnc, hcm⟩
    · go_enter Tryz.func156, Tryz.ntmps156
      go_wp2_with (at_builtin; refine wpList_append_dot1 rfl _ _ rfl base (.slice none 0 0) 0 xs rfl HOWN.out vb u1 u2 rfl hv0 hv2 hu1 hu2 (by omega) hbase ?_; intro g7 c7 w7 ho7 hg7 hat7)
      all_goals (go_ret; exact ⟨g7, c7, rfl, by rw [HL.out]; exact ho7, hg7, hat7⟩)
    · unfold maxLen at hcm
      have hz1 : ((i : Int) == (i : Int)) = true := by simp
      go_enter Tryz.func156, Tryz.ntmps156
      go_wp2_with (at_builtin; refine wpList_append_dot1 rfl _ _ rfl base (.slice (some ⟨g, 0, none⟩) i c) i xs rfl HOWN.out vb u1 u2 rfl hv0 hv2 hu1 hu2 (by omega) hbase ?_; intro g7 c7 w7 ho7 hg7 hat7)
      all_goals (go_ret; exact ⟨g7, c7, rfl, by rw [HL.out]; exact ho7, hg7, hat7⟩)
  · obtain ⟨g, c, rfl, hnc⟩ : ∃ g c, v = .slice (some ⟨g, 0, none⟩) n c ∧ n ≤ c := by
      rcases hown.2 with ⟨_, h⟩ | ⟨g, cap, cur, e, _, _, hnc, _⟩
      · omega
      · exact ⟨g, cap, e, hnc⟩
    have hvg : vb ≠ g := fun e => hvb (by rw [e]; rfl)
    by_cases hroom : n + 1 ≤ c
    · refine (dins_shift base g n c i vb xs u1 u2 w (by omega) hroom hn hown hvg hv h1 hu1 hu2).mono ?_
      rintro e w' ⟨rfl, rfl⟩
      obtain ⟨us, hus, hw⟩ := own_wider2 hown hroom
      have hw' : w.drew.ownsRow base 24 2 (.slice (some ⟨g, 0, none⟩) (n + 1) c) (n + 1) (xs ++ us) := hw
      have hdl : (xs.drop (i * 2)).length = (n - i) * 2 := by rw [List.length_drop, hxl]; omega
      have hA := own_setCells2 (xs.drop (i * 2)) ((i + 1) * 2) _ _ hw' (by rw [hdl]; omega)
      have hB := own_setCells2 [u1, u2] (i * 2) _ _ hA.1 (by simp; omega)
      refine ⟨g, c, rfl, ?_, ((grownBy_drew1 _ _).trans hA.2).trans hB.2, Or.inl rfl⟩
      have e := ins_listM xs us [u1, u2] (i * 2) ((i + 1) * 2) (by omega) hus (by simp; omega)
      rw [e]
      exact hB.1
    · refine (dins_grow base g n c i vb xs u1 u2 w (by omega) (by omega) hnc hn hbase hown hv h1 hu1 hu2).mono ?_
      rintro e w' ⟨G, rfl, h2, h3⟩
      exact ⟨w.heap.size, G, rfl, h2, ⟨h3.os, h3.tape, h3.output, h3.size, fun k hk _ => h3.block k hk (by simp)⟩, Or.inr rfl⟩

theorem flat_take10 (L : List Dt) (k : Nat) : flat (L.take k) = (flat L).take (k * 2) := by
  have h1 : flat L = flat (L.take k) ++ flat (L.drop k) := by rw [← flat_append, List.take_append_drop]
  by_cases hk : k ≤ L.length
  · have h2 : (flat (L.take k)).length = k * 2 := by rw [flat_length, List.length_take]; omega
    rw [h1, List.take_left' h2]
  · rw [List.take_of_length_le (by omega), List.take_of_length_le (by rw [flat_length]; omega)]

/-- The same, told in dots. -/
theorem dinsert_dots (base : Nat) (v : Value) (i vb : Nat) (L : List Dt) (d : Dt) (w : World) (hi : i ≤ L.length) (hn : L.length ≤ 1000000) (hbase : base ≤ w.heap.size) (hown : w.ownsRow base 24 2 v L.length (flat L)) (hvb : v.ownBlock ≠ some vb)
    (hv : w.heap[vb]? = some (.cells #[.int .i64 d.1, .int .i64 d.2] 24 (0, 0))) :
    Calls Tryz.prog 156 #[v, .int .i64 i, .slice (some ⟨vb, 0, none⟩) 1 1] w fun e w' =>
      ∃ g c, e = .returned (.slice (some ⟨g, 0, none⟩) (L.length + 1) c) ∧ w'.ownsRow base 24 2 (.slice (some ⟨g, 0, none⟩) (L.length + 1) c) (L.length + 1) (flat (L.take i ++ [d] ++ L.drop i)) ∧ w.grownBy w' v.ownBlock ∧ (v.ownBlock = some g ∨ g = w.heap.size) := by
  refine (dinsert_any base v L.length i vb (flat L) _ _ w hi hn hbase hown hvb hv (flat_one L) rfl rfl).mono ?_
  rintro e w' ⟨g, c, rfl, h2, h3, h4⟩
  refine ⟨g, c, rfl, ?_, h3, h4⟩
  rw [flat_append, flat_append, flat_take10, flat_drop]
  exact h2
end

section
open Go.RowKit
open Go.Sort (grow)

/-- What the first dot has of an actor, and what lies behind it. -/
def hdv : List Dt → Int → Int
  | [], _ => 0
  | d :: _, y => if d.1 = y then d.2 else 0
end

section
open Go.RowKit

theorem grownBy_setCell (w : World) (b o : Nat) (v : Value) : w.grownBy (w.setCell ⟨b, o, none⟩ v) (some b) := by
  refine ⟨rfl, rfl, rfl, by simp [World.setCell], fun k _ hne => ?_⟩
  have : b ≠ k := fun e => hne (by rw [e])
  simp [World.setCell, Array.getElem?_modify, this]
end

section
set_option linter.unusedVariables false
open Go.RowKit Go.Sort Go.Maps

abbrev Rf := Dt → Option (Nat × Nat × Nat)

/-- The blocks under one, in order. -/
def kidB (S : List Sp) (p : Dt) : List Dt := (kidS S p).map Sp.b

/-- The rows, each of its own. -/
structure RW (w : World) (S : List Sp) (f : Rf) (B : Nat → Prop) : Prop where
  row : ∀ p, w.ownsRow 0 24 2 (slv (f p)) (kidB S p).length (flat (kidB S p))
  own : ∀ p q, f p = some q → B q.1
  apart : ∀ p p' q q', f p = some q → f p' = some q' → q.1 = q'.1 → p = p'
  nz : ∀ p, kidB S p = [] → f p = none

/-- A row of one's own stays where its block is as it was. -/
theorem row_kept {w w' : World} {o : Option (Nat × Nat × Nat)} {n : Nat} {xs : List Value} (h : w.ownsRow 0 24 2 (slv o) n xs) (hk : ∀ q, o = some q → w'.heap[q.1]? = w.heap[q.1]?) : w'.ownsRow 0 24 2 (slv o) n xs := by
  refine ⟨h.1, ?_⟩
  rcases h.2 with h' | ⟨g, cap, cur, e, hb, hg, hn, hc, hs, ht⟩
  · exact Or.inl h'
  · refine Or.inr ⟨g, cap, cur, e, hb, ?_, hn, hc, hs, ht⟩
    cases o with
    | none => simp [slv] at e
    | some q =>
      simp only [slv, Value.slice.injEq, Option.some.injEq, Addr.mk.injEq, and_true] at e
      have := hk q rfl
      rw [e.1] at this
      rw [this]
      exact hg

theorem row_block {w : World} {q : Nat × Nat × Nat} {n : Nat} {xs : List Value} (h : w.ownsRow 0 24 2 (slv (some q)) n xs) : q.2.1 = n ∧ n ≤ q.2.2 ∧ q.2.2 ≤ maxLen ∧ ∃ cs, w.heap[q.1]? = some (.cells cs 24 (0, 0)) := by
  rcases h.2 with ⟨e, _⟩ | ⟨g, cap, cur, e, hb, hg, hn, hc, hs, ht⟩
  · simp [slv] at e
  · simp only [slv, Value.slice.injEq, Option.some.injEq, Addr.mk.injEq, and_true] at e
    obtain ⟨e1, e2, e3⟩ := e
    exact ⟨e2, by rw [e3]; exact hn, by rw [e3]; exact hc, cur, by rw [e1]; exact hg⟩

theorem RW.kept {w w' : World} {S : List Sp} {f : Rf} {B : Nat → Prop} (h : RW w S f B) (hk : ∀ p q, f p = some q → w'.heap[q.1]? = w.heap[q.1]?) : RW w' S f B :=
  ⟨fun p => row_kept (h.row p) (hk p), h.own, h.apart, h.nz⟩

theorem RW.mono {w : World} {S : List Sp} {f : Rf} {B B' : Nat → Prop} (h : RW w S f B) (hb : ∀ j, B j → B' j) : RW w S f B' := ⟨h.row, fun p q e => hb _ (h.own p q e), h.apart, h.nz⟩

theorem RW.perm {w : World} {S S' : List Sp} {f : Rf} {B : Nat → Prop} (h : RW w S f B) (hn : (S.map Sp.b).Nodup) (hp : S.Perm S') : RW w S' f B := by
  have e : ∀ p, kidB S p = kidB S' p := fun p => by unfold kidB; rw [kidS_perm hn hp p]
  exact ⟨fun p => by rw [← e p]; exact h.row p, h.own, h.apart, fun p hp' => h.nz p (by rw [e p]; exact hp')⟩

/-- As it is read. -/
theorem row_ps {w : World} {o : Option (Nat × Nat × Nat)} {L : List Dt} (h : w.ownsRow 0 24 2 (slv o) L.length (flat L)) : ∃ a c, slv o = .slice a L.length c ∧ PS w a L.length c L := by
  rcases h.2 with ⟨e, h0⟩ | ⟨g, cap, cur, e, hb, hg, hn, hc, hs, ht⟩
  · rw [h0]
    refine ⟨none, 0, e, ⟨by omega, Nat.le_refl _, by unfold maxLen; omega, fun _ => ⟨rfl, rfl⟩, fun ad e => by cases e⟩⟩
  · refine ⟨some ⟨g, 0, none⟩, cap, e, ⟨rfl, hn, hc, fun e => (by cases e), fun ad e' j u hj => ?_⟩⟩
    cases e'
    rw [Addr.add_lit, Nat.zero_add]
    have hown : w.ownsRow 0 24 2 (.slice (some ⟨g, 0, none⟩) L.length cap) L.length (flat L) := ⟨h.1, Or.inr ⟨g, cap, cur, rfl, hb, hg, hn, hc, hs, ht⟩⟩
    have hjn : j < L.length * 2 := by
      have := (List.getElem?_eq_some_iff.1 hj).1
      rw [flat_length] at this
      exact this
    rw [World.ownsRow.cellAt hown j hjn]
    exact hj

/-- The two maps, or none. -/
def SB (w : World) (pl kd : Value) (S : List Sp) (B : Nat → Prop) : Prop :=
  (pl = .map none ∧ kd = .map none ∧ S = []) ∨ ∃ m k f, pl = .map (some m) ∧ kd = .map (some k) ∧ m ≠ k ∧ B m ∧ B k ∧ PLM w m S ∧ KM w k S.length f ∧ RW w S f B

theorem SB.v {w : World} {pl kd : Value} {S : List Sp} {B : Nat → Prop} (h : SB w pl kd S B) : PlV w pl S := by
  rcases h with ⟨h1, _, h2⟩ | ⟨m, k, f, h1, h2, _, _, _, h3, _⟩
  · exact Or.inl ⟨h1, h2⟩
  · exact Or.inr ⟨m, h1, h3⟩

theorem SB.mono {w : World} {pl kd : Value} {S : List Sp} {B B' : Nat → Prop} (h : SB w pl kd S B) (hb : ∀ j, B j → B' j) : SB w pl kd S B' := by
  rcases h with h | ⟨m, k, f, h1, h2, h3, h4, h5, h6, h7, h8⟩
  · exact Or.inl h
  · exact Or.inr ⟨m, k, f, h1, h2, h3, hb _ h4, hb _ h5, h6, h7, h8.mono hb⟩

theorem SB.kept {w w' : World} {pl kd : Value} {S : List Sp} {B : Nat → Prop} (h : SB w pl kd S B) (hk : ∀ j, B j → w'.heap[j]? = w.heap[j]?) : SB w' pl kd S B := by
  rcases h with h | ⟨m, k, f, h1, h2, h3, h4, h5, h6, h7, h8⟩
  · exact Or.inl h
  · exact Or.inr ⟨m, k, f, h1, h2, h3, h4, h5, h6.same (hk m h4), h7.same (hk k h5), h8.kept (fun p q e => hk _ (h8.own p q e))⟩

theorem SB.perm {w : World} {pl kd : Value} {S S' : List Sp} {B : Nat → Prop} (h : SB w pl kd S B) (hn : (S.map Sp.b).Nodup) (hp : S.Perm S') : SB w pl kd S' B := by
  rcases h with ⟨h1, h2, h3⟩ | ⟨m, k, f, h1, h2, h3, h4, h5, h6, h7, h8⟩
  · subst h3
    exact Or.inl ⟨h1, h2, List.nil_perm.1 hp⟩
  · exact Or.inr ⟨m, k, f, h1, h2, h3, h4, h5, h6.perm hn hp, by rw [← hp.length_eq]; exact h7, h8.perm hn hp⟩

/-- What is under a parent, as the map of rows tells it. -/
theorem SB.look {w : World} {pl kd : Value} {S : List Sp} {B : Nat → Prop} (h : SB w pl kd S B) {p : Dt} (hp : Dw p) : ∃ a c, (Instr.lookup 114 kd (dv p) false).run Tryz.prog w = .ok (.slice a (kidB S p).length c) w ∧ PS w a (kidB S p).length c (kidB S p) := by
  rcases h with ⟨_, h2, h3⟩ | ⟨m, k, f, h1, h2, h3, h4, h5, h6, h7, h8⟩
  · subst h2 h3
    exact ⟨none, 0, sl_nil w hp, ⟨rfl, Nat.le_refl _, by unfold maxLen; omega, fun _ => ⟨rfl, rfl⟩, fun ad e => by cases e⟩⟩
  · subst h2
    obtain ⟨a, c, e, hps⟩ := row_ps (h8.row p)
    exact ⟨a, c, by rw [h7.look hp, e], hps⟩

/-- The tree's block. -/
def TB (w : World) (t : Nat) (lg fd dn pl kd : Value) : Prop := w.heap[t]? = some (.cells #[lg, fd, dn, pl, kd] 134 (0, 0))

/-- What is no memory is as it was. -/
def Sm (w w' : World) : Prop := w'.os = w.os ∧ w'.tape = w.tape ∧ w'.output = w.output
theorem Sm.refl (w : World) : Sm w w := ⟨rfl, rfl, rfl⟩
theorem Sm.trans {a b c : World} (h : Sm a b) (k : Sm b c) : Sm a c := ⟨k.1.trans h.1, k.2.1.trans h.2.1, k.2.2.trans h.2.2⟩
theorem Sm.g {w w' : World} {row : Option Nat} (h : w.grownBy w' row) : Sm w w' := ⟨h.os, h.tape, h.output⟩
theorem Sm.b {n : Nat} {w w' : World} (h : Below n w w') : Sm w w' := ⟨h.os, h.tape, h.output⟩

/-- All other blocks are as they were. -/
structure KB (w w' : World) (B : Nat → Prop) (t : Nat) : Prop where
  size : w.heap.size ≤ w'.heap.size
  keep : ∀ j, j < w.heap.size → ¬ B j → j ≠ t → w'.heap[j]? = w.heap[j]?
  sm : Sm w w'

/-- What is one's own behind it: what was, and what is new. -/
def Bn (w w' : World) (B : Nat → Prop) (j : Nat) : Prop := B j ∨ (w.heap.size ≤ j ∧ j < w'.heap.size)

theorem kidB_lay {S : List Sp} {s : Sp} (h : ((S ++ [s]).map Sp.b).Nodup) : kidB (S ++ [s]) s.p = (kidB S s.p).take (rkL kdl (kidS S s.p) s) ++ [s.b] ++ (kidB S s.p).drop (rkL kdl (kidS S s.p) s) := by
  unfold kidB
  rw [kidS_lay h]
  unfold insL
  simp [List.map_take, List.map_drop]

theorem kidB_lay_else {S : List Sp} {s : Sp} (h : ((S ++ [s]).map Sp.b).Nodup) {p : Dt} (hp : p ≠ s.p) : kidB (S ++ [s]) p = kidB S p := by
  unfold kidB
  rw [kidS_lay_else h hp]

theorem kidB_lift {S : List Sp} (h : (S.map Sp.b).Nodup) {s : Sp} (hs : s ∈ S) : kidB (lift S s.b) s.p = (kidB S s.p).take (rkL kdl (kidS S s.p) s) ++ (kidB S s.p).drop (rkL kdl (kidS S s.p) s + 1) := by
  unfold kidB
  rw [kidS_lift h hs]
  simp [List.map_take, List.map_drop]

theorem kidB_lift_else {S : List Sp} (h : (S.map Sp.b).Nodup) {s : Sp} (hs : s ∈ S) {p : Dt} (hp : p ≠ s.p) : kidB (lift S s.b) p = kidB S p := by
  unfold kidB
  rw [kidS_lift_else h hs hp]

/-- A block is laid: its row is another one, the others are as they were. -/
theorem RW.lay {w w' : World} {S : List Sp} {f : Rf} {B B' : Nat → Prop} (h : RW w S f B) {s : Sp} (hn : ((S ++ [s]).map Sp.b).Nodup) {q : Nat × Nat × Nat}
    (hr : w'.ownsRow 0 24 2 (slv (some q)) ((kidB S s.p).length + 1) (flat ((kidB S s.p).take (rkL kdl (kidS S s.p) s) ++ [s.b] ++ (kidB S s.p).drop (rkL kdl (kidS S s.p) s)))) (hb : ∀ j, B j → B' j) (hq : B' q.1) (hne : ∀ p, p ≠ s.p → ∀ q', f p = some q' → q'.1 ≠ q.1) (hk : ∀ p, p ≠ s.p → ∀ q', f p = some q' → w'.heap[q'.1]? = w.heap[q'.1]?) :
    RW w' (S ++ [s]) (fun e => if e = s.p then some q else f e) B' := by
  have hle := rk_le kdl (kidS S s.p) s
  have hl : (kidB S s.p).length = (kidS S s.p).length := by unfold kidB; rw [List.length_map]
  have e1 : (kidB (S ++ [s]) s.p).length = (kidB S s.p).length + 1 := by
    rw [kidB_lay hn, List.length_append, List.length_append, List.length_take, List.length_drop, List.length_singleton]
    omega
  refine ⟨fun p => ?_, fun p q' e => ?_, fun p p' q1 q2 e1 e2 e3 => ?_, fun p hp => ?_⟩
  · by_cases e : p = s.p
    · subst e
      simp only [if_true]
      rw [e1, kidB_lay hn]
      exact hr
    · simp only [e, if_false]
      rw [kidB_lay_else hn e]
      exact row_kept (h.row p) (hk p e)
  · by_cases e' : p = s.p
    · simp only [e', if_true, Option.some.injEq] at e
      rw [← e]; exact hq
    · simp only [e', if_false] at e
      exact hb _ (h.own p q' e)
  · by_cases a1 : p = s.p
    · by_cases a2 : p' = s.p
      · rw [a1, a2]
      · simp only [a1, if_true, Option.some.injEq] at e1
        simp only [a2, if_false] at e2
        exact absurd (e3.symm.trans (by rw [e1])) (hne p' a2 q2 e2)
    · by_cases a2 : p' = s.p
      · simp only [a2, if_true, Option.some.injEq] at e2
        simp only [a1, if_false] at e1
        exact absurd (e3.trans (by rw [e2])) (hne p a1 q1 e1)
      · simp only [a1, if_false] at e1
        simp only [a2, if_false] at e2
        exact h.apart p p' q1 q2 e1 e2 e3
  · by_cases e : p = s.p
    · subst e
      rw [hp] at e1
      simp at e1
    · simp only [e, if_false]
      rw [kidB_lay_else hn e] at hp
      exact h.nz p hp
end

section
set_option linter.unusedVariables false
open Go.RowKit Go.Sort Go.Maps

/-- The two maps are there. -/
structure SM (w W : World) (t m k : Nat) (f : Rf) (lg fd dn : Value) (S : List Sp) (B : Nat → Prop) : Prop where
  tb : TB W t lg fd dn (.map (some m)) (.map (some k))
  ne : m ≠ k
  bm : Bn w W B m
  bk : Bn w W B k
  pm : PLM W m S
  km : KM W k S.length f
  rw : RW W S f (Bn w W B)
  kb : KB w W B t

theorem map_cells {w : World} {m : Nat} {D : DataW Unit} {n j : Nat} {R : Value → Option (DataW Unit × List MemPlace)} {cs : Array Value} {ty : TypeId} {fz : Nat × Nat} (h : w.ownsMap Tryz.prog 24 R m n D) (hj : w.heap[j]? = some (.cells cs ty fz)) : j ≠ m := by
  obtain ⟨es, clock, h1, _⟩ := h
  intro e
  rw [e, h1] at hj
  cases hj

theorem PLM.cells {w : World} {m : Nat} {S : List Sp} (h : PLM w m S) {j : Nat} {cs : Array Value} {ty : TypeId} {fz : Nat × Nat} (hj : w.heap[j]? = some (.cells cs ty fz)) : j ≠ m := by
  obtain ⟨D, ho, _⟩ := h
  exact map_cells ho hj
theorem KM.cells {w : World} {k n : Nat} {f : Rf} (h : KM w k n f) {j : Nat} {cs : Array Value} {ty : TypeId} {fz : Nat × Nat} (hj : w.heap[j]? = some (.cells cs ty fz)) : j ≠ k := by
  obtain ⟨D, ho, _⟩ := h
  exact map_cells ho hj

theorem lay_fin {w W1 W2 W3 W4 W5 W6 : World} {t m k : Nat} {f : Rf} {lg fd dn : Value} {S : List Sp} {B : Nat → Prop} {s : Sp} (hBt : ¬ B t) (hBs : ∀ j, B j → j < w.heap.size) (htw : t < w.heap.size) (hs : SM w W1 t m k f lg fd dn S B) (hnd : ((S ++ [s]).map Sp.b).Nodup)
    (h2 : Below W1.heap.size W1 W2) (h3 : PLM W3 m (S ++ [s])) (g3 : W2.grownBy W3 (some m)) (g4 : W3.grownBy W4 none) (g5 : W4.grownBy W5 (slv (f s.p)).ownBlock) {g c : Nat}
    (ho : W5.ownsRow 0 24 2 (.slice (some ⟨g, 0, none⟩) ((kidB S s.p).length + 1) c) ((kidB S s.p).length + 1) (flat ((kidB S s.p).take (rkL kdl (kidS S s.p) s) ++ [s.b] ++ (kidB S s.p).drop (rkL kdl (kidS S s.p) s))))
    (hg : (slv (f s.p)).ownBlock = some g ∨ g = W4.heap.size) (h6 : KM W6 k (S.length + 1) (fun e => if e = s.p then some (g, (kidB S s.p).length + 1, c) else f e)) (g6 : W5.grownBy W6 (some k)) :
    TB W6 t lg fd dn (.map (some m)) (.map (some k)) ∧ SB W6 (.map (some m)) (.map (some k)) (S ++ [s]) (Bn w W6 B) ∧ KB w W6 B t := by
  have hz1 : w.heap.size ≤ W1.heap.size := hs.kb.size
  have hz2 := h2.size
  have hz3 := g3.size
  have hz4 := g4.size
  have hz5 := g5.size
  have hz6 := g6.size
  have hrow : ∀ p q, f p = some q → q.1 < W1.heap.size ∧ q.1 ≠ m ∧ q.1 ≠ k ∧ q.1 ≠ t := fun p q e => by
    have h := hs.rw.row p
    rw [e] at h
    obtain ⟨_, _, _, cs, hc⟩ := row_block h
    refine ⟨(Array.getElem?_eq_some_iff.1 hc).1, hs.pm.cells hc, hs.km.cells hc, fun e' => ?_⟩
    have := hs.tb
    unfold TB at this
    rw [← e', hc] at this
    simp at this
  have hob : ∀ j, (slv (f s.p)).ownBlock = some j → ∃ q, f s.p = some q ∧ q.1 = j := fun j hj => by
    cases e : f s.p with
    | none => rw [e] at hj; simp [slv, Value.ownBlock] at hj
    | some q => rw [e] at hj; exact ⟨q, rfl, by simpa [slv, Value.ownBlock] using hj⟩
  have stay : ∀ j, j < W1.heap.size → j ≠ m → j ≠ k → (∀ q, f s.p = some q → j ≠ q.1) → W6.heap[j]? = W1.heap[j]? := fun j hj hm hk hq => by
    have a2 := h2.block j hj
    have a3 := g3.block j (by omega) (by simpa using hm)
    have a4 := g4.block j (by omega) (by simp)
    have a5 := g5.block j (by omega) (fun e => by obtain ⟨q, e1, e2⟩ := hob j e.symm; exact hq q e1 e2.symm)
    have a6 := g6.block j (by omega) (by simpa using hk)
    exact a6.trans (a5.trans (a4.trans (a3.trans a2)))
  have htm : t ≠ m := hs.pm.cells hs.tb
  have htk : t ≠ k := hs.km.cells hs.tb
  have hmw : m < W1.heap.size := hs.pm.lt
  have hkw : k < W1.heap.size := hs.km.lt
  have tbs := (stay t (by omega) htm htk (fun q e e' => (hrow _ _ e).2.2.2 e'.symm)).trans hs.tb
  have hbn : ∀ j, Bn w W1 B j → Bn w W6 B j := fun j hj => hj.imp id (fun h => ⟨h.1, by omega⟩)
  have hgc : ∃ cs, W5.heap[g]? = some (.cells cs 24 (0, 0)) := by
    obtain ⟨_, _, _, cs, hc⟩ := row_block (q := (g, (kidB S s.p).length + 1, c)) ho
    exact ⟨cs, hc⟩
  obtain ⟨cs, hgc⟩ := hgc
  have hgW := (Array.getElem?_eq_some_iff.1 hgc).1
  have hgk : g ≠ k := by
    rcases hg with e | e
    · obtain ⟨q, e1, e2⟩ := hob g e
      have := (hrow _ _ e1).2.2.1
      rwa [e2] at this
    · omega
  have hgm : g ≠ m := by
    rcases hg with e | e
    · obtain ⟨q, e1, e2⟩ := hob g e
      have := (hrow _ _ e1).2.1
      rwa [e2] at this
    · omega
  have m6 : W6.heap[m]? = W3.heap[m]? := by
    have a4 := g4.block m (by omega) (by simp)
    have a5 := g5.block m (by omega) (fun e => by obtain ⟨q, e1, e2⟩ := hob m e.symm; exact (hrow _ _ e1).2.1 e2)
    have a6 := g6.block m (by omega) (by simpa using hs.ne)
    exact a6.trans (a5.trans a4)
  have o6 : W6.heap[g]? = W5.heap[g]? := g6.block g hgW (by simpa using hgk)
  refine ⟨tbs, Or.inr ⟨m, k, _, rfl, rfl, hs.ne, hbn _ hs.bm, hbn _ hs.bk, h3.same m6, by rw [List.length_append]; exact h6, ?_⟩, ⟨by omega, fun j hj hB hjt => ?_, hs.kb.sm.trans ((Sm.b h2).trans ((Sm.g g3).trans ((Sm.g g4).trans ((Sm.g g5).trans (Sm.g g6)))))⟩⟩
  · refine hs.rw.lay hnd (w' := W6) (q := (g, (kidB S s.p).length + 1, c)) (row_kept (o := some (g, (kidB S s.p).length + 1, c)) ho (fun q e => by cases e; exact o6)) hbn ?_ (fun p hp q' e => ?_) (fun p hp q' e => ?_)
    · rcases hg with e | e
      · obtain ⟨q, e1, e2⟩ := hob g e
        have := hs.rw.own _ _ e1
        rw [e2] at this
        exact hbn _ this
      · exact Or.inr ⟨by show w.heap.size ≤ g; omega, by show g < W6.heap.size; omega⟩
    · intro e2
      rcases hg with e3 | e3
      · obtain ⟨q, e4, e5⟩ := hob g e3
        exact hp (hs.rw.apart p s.p q' q e e4 (e2.trans e5.symm))
      · have := (hrow _ _ e).1
        have e2' : q'.1 = g := e2
        omega
    · obtain ⟨h1, h2', h3', _⟩ := hrow _ _ e
      exact stay _ h1 h2' h3' (fun q e4 e5 => hp (hs.rw.apart p s.p q' q e e4 e5))
  · have hnm : ∀ x, Bn w W1 B x → j ≠ x := fun x hx e => by
      subst e
      rcases hx with hx | hx
      · exact hB hx
      · omega
    refine (stay j (by omega) (hnm m hs.bm) (hnm k hs.bk) (fun q e => hnm _ (hs.rw.own _ _ e))).trans (hs.kb.keep j hj hB hjt)
end

section

theorem run_key (p1 p2 : Int) (ky : ByteArray) (w : World) : (Instr.field 113 (.agg #[.int .i64 p1, .int .i64 p2, .string ky]) 1).run Tryz.prog w = .ok (.string ky) w := by
  simp [Instr.field, run_underlying Tryz.underlying113, asAgg, part, Result.andThen, go_sem]
end

section
set_option linter.unusedVariables false
set_option linter.unusedSimpArgs false
open Go.RowKit

/-- Below 0, 0 or above 0. -/
def cmpS (a b : ByteArray) : Int := if bl (kb a) (kb b) then -1 else if bl (kb b) (kb a) then 1 else 0

theorem nan_any (a : ByteArray) (w : World) : Calls Tryz.prog 194 #[.string a] w fun e w' => e = .returned (.bool false) ∧ w' = w := by
  go_enter Tryz.func194, Tryz.ntmps194
  go_wp2
  go_ret
  refine ⟨?_, ?_⟩
  · first | rfl | simp
  · first | rfl | trivial

set_option maxHeartbeats 1000000 in
theorem scmp_any (a b : ByteArray) (w : World) : Calls Tryz.prog 181 #[.string a, .string b] w fun e w' => e = .returned (.int .i64 (cmpS a b)) ∧ w' = w := by
  go_enter Tryz.func181, Tryz.ntmps181
  go_wp2_with (go_at_call 194; refine (nan_any _ _).mono ?_; rintro e w1 ⟨rfl, rfl⟩)
  · rename_i h
    have h' : bl (kb a) (kb b) = true := h
    have hr : cmpS a b = -1 := by unfold cmpS; rw [if_pos h']
    go_ret
    refine ⟨?_, ?_⟩
    · rw [hr]; rfl
    · first | rfl | trivial
  · rename_i h1 _ _ h2
    have hne : kb a ≠ kb b := fun e => by
      have e' : a.toList = b.toList := e
      rw [e'] at h2
      simp at h2
    have h3 : bl (kb a) (kb b) = false := h1
    have hr : cmpS a b = 1 := by
      unfold cmpS
      rw [if_neg (by rw [h3]; simp), if_pos (bl_total h3 hne)]
    go_ret
    refine ⟨?_, ?_⟩
    · rw [hr]; rfl
    · first | rfl | trivial
  · rename_i h1 h2
    have he : kb a = kb b := by
      show a.toList = b.toList
      simpa using h2
    have hr : cmpS a b = 0 := by
      unfold cmpS
      rw [he, bl_irrefl]
      rfl
    go_ret
    refine ⟨?_, ?_⟩
    · rw [hr]; rfl
    · first | rfl | trivial
/-- What an entry's block says first: its identity, its time. -/
structure EnT (w : World) (g : Nat) (m : Mv) : Prop where
  c0 : w.cell? ⟨g, 0, none⟩ = some (.int .i64 m.id.1)
  c1 : w.cell? ⟨g, 1, none⟩ = some (.int .i64 m.id.2)
  c2 : w.cell? ⟨g, 2, none⟩ = some (.int .i64 m.time)

theorem EnT.below {w w' : World} {g : Nat} {m : Mv} (h : EnT w g m) (hb : Below w.heap.size w w') : EnT w' g m :=
  ⟨(hb.cell (p := ⟨g, 0, none⟩) (cell_in h.c0)).trans h.c0, (hb.cell (p := ⟨g, 1, none⟩) (cell_in h.c1)).trans h.c1, (hb.cell (p := ⟨g, 2, none⟩) (cell_in h.c2)).trans h.c2⟩

/-- Below 0 or above 0, as a move is done ahead of another one or behind it. -/
def turnI (a b : Mv) : Int := orI (cmpi a.time b.time) (ordI a.id b.id)

theorem turn_lt (a b : Mv) : decide (turnI a b < 0) = mvl a b := by
  unfold turnI orI cmpi ordI mvl
  by_cases h1 : a.time < b.time
  · simp [h1]
  · by_cases h2 : b.time < a.time
    · have : ¬ a.time = b.time := by omega
      simp [h1, h2, this]
    · have : a.time = b.time := by omega
      cases h3 : dl a.id b.id
      · cases h4 : dl b.id a.id <;> simp [this, h3, h4]
      · simp [this, h3]

set_option maxRecDepth 100000 in
set_option maxHeartbeats 4000000 in
theorem turn_any (g1 g2 : Nat) (m1 m2 : Mv) (w : World) (h1 : EnT w g1 m1) (h2 : EnT w g2 m2) :
    Calls Tryz.prog 98 #[.pointer (some ⟨g1, 0, none⟩), .pointer (some ⟨g2, 0, none⟩)] w fun e w' => e = .returned (.int .i64 (turnI m1 m2)) ∧ Below w.heap.size w w' := by
  have mixed := mixed
  have hmxo : Tryz.prog.follows .mixedOrders = true := by kernel_rfl
  have HS : Hid (∀ W, Below w.heap.size w W → (W.cell? ⟨g1, 0, none⟩ = some (.int .i64 m1.id.1) ∧ W.cell? ⟨g1, 1, none⟩ = some (.int .i64 m1.id.2) ∧ W.cell? ⟨g1, 2, none⟩ = some (.int .i64 m1.time) ∧ W.cell? ⟨g2, 0, none⟩ = some (.int .i64 m2.id.1) ∧ W.cell? ⟨g2, 1, none⟩ = some (.int .i64 m2.id.2) ∧ W.cell? ⟨g2, 2, none⟩ = some (.int .i64 m2.time))) := hid (fun W hb => ⟨(h1.below hb).c0, (h1.below hb).c1, (h1.below hb).c2, (h2.below hb).c0, (h2.below hb).c1, (h2.below hb).c2⟩)
  have HB0 : Hid (Below w.heap.size w w.drew) := hid ((Far.refl w).drewN 1).below
  have hS0 := HS.out _ HB0.out
  have hr : Hid (turnI m1 m2 = orI (cmpi m1.time m2.time) (ordI m1.id m2.id)) := hid rfl
  clear h1 h2
  go_enter Tryz.func98, Tryz.ntmps98
  go_wp2_with fail
  refine wp_region_held_drew (S := fun w' => w'.cell? ⟨g1, 0, none⟩ = some (.int .i64 m1.id.1) ∧ w'.cell? ⟨g1, 1, none⟩ = some (.int .i64 m1.id.2) ∧ w'.cell? ⟨g1, 2, none⟩ = some (.int .i64 m1.time) ∧ w'.cell? ⟨g2, 0, none⟩ = some (.int .i64 m2.id.1) ∧ w'.cell? ⟨g2, 1, none⟩ = some (.int .i64 m2.id.2) ∧ w'.cell? ⟨g2, 2, none⟩ = some (.int .i64 m2.time)) hmxo hS0 ?_
  intro _
  refine wpAnyH_take (i := 0) (v := .pointer (some ⟨g1, 0, none⟩)) rfl (by kernel_rfl) (by kernel_rfl) (by kernel_rfl) (fun _ _ _ h => h) (Or.inl ⟨by kernel_rfl, fun w hSw => ?_⟩) hS0 ?_
  · obtain ⟨d1, d2, d3, d4, d5, d6⟩ := hSw; go_simp
  simp only [Act.put, List.getElem_toArray, List.getElem_cons_succ, List.getElem_cons_zero, List.setIfInBounds_toArray, List.set_cons_zero, List.set_cons_succ]
  refine wpAnyH_take (i := 1) (v := .pointer (some ⟨g1, 0, none⟩)) rfl (by kernel_rfl) (by kernel_rfl) (by kernel_rfl) (fun _ _ _ h => h) (Or.inl ⟨by kernel_rfl, fun w hSw => ?_⟩) hS0 ?_
  · obtain ⟨d1, d2, d3, d4, d5, d6⟩ := hSw; go_simp
  simp only [Act.put, List.getElem_toArray, List.getElem_cons_succ, List.getElem_cons_zero, List.setIfInBounds_toArray, List.set_cons_zero, List.set_cons_succ]
  refine wpAnyH_take (i := 2) (v := .pointer (some ⟨g1, 0, none⟩)) rfl (by kernel_rfl) (by kernel_rfl) (by kernel_rfl) (fun _ _ _ h => h) (Or.inl ⟨by kernel_rfl, fun w hSw => ?_⟩) hS0 ?_
  · obtain ⟨d1, d2, d3, d4, d5, d6⟩ := hSw; go_simp
  simp only [Act.put, List.getElem_toArray, List.getElem_cons_succ, List.getElem_cons_zero, List.setIfInBounds_toArray, List.set_cons_zero, List.set_cons_succ]
  refine wpAnyH_take (i := 3) (v := .pointer (some ⟨g1, 2, none⟩)) rfl (by kernel_rfl) (by kernel_rfl) (by kernel_rfl) (fun _ _ _ h => h) (Or.inl ⟨by kernel_rfl, fun w hSw => ?_⟩) hS0 ?_
  · obtain ⟨d1, d2, d3, d4, d5, d6⟩ := hSw; go_simp
  simp only [Act.put, List.getElem_toArray, List.getElem_cons_succ, List.getElem_cons_zero, List.setIfInBounds_toArray, List.set_cons_zero, List.set_cons_succ]
  refine wpAnyH_take (i := 4) (v := .int .i64 m1.time) rfl (by kernel_rfl) (by kernel_rfl) (by kernel_rfl) (fun _ _ _ h => h) (Or.inl ⟨by kernel_rfl, fun w hSw => ?_⟩) hS0 ?_
  · obtain ⟨d1, d2, d3, d4, d5, d6⟩ := hSw; go_simp
  simp only [Act.put, List.getElem_toArray, List.getElem_cons_succ, List.getElem_cons_zero, List.setIfInBounds_toArray, List.set_cons_zero, List.set_cons_succ]
  refine wpAnyH_take (i := 5) (v := .pointer (some ⟨g2, 0, none⟩)) rfl (by kernel_rfl) (by kernel_rfl) (by kernel_rfl) (fun _ _ _ h => h) (Or.inl ⟨by kernel_rfl, fun w hSw => ?_⟩) hS0 ?_
  · obtain ⟨d1, d2, d3, d4, d5, d6⟩ := hSw; go_simp
  simp only [Act.put, List.getElem_toArray, List.getElem_cons_succ, List.getElem_cons_zero, List.setIfInBounds_toArray, List.set_cons_zero, List.set_cons_succ]
  refine wpAnyH_take (i := 6) (v := .pointer (some ⟨g2, 0, none⟩)) rfl (by kernel_rfl) (by kernel_rfl) (by kernel_rfl) (fun _ _ _ h => h) (Or.inl ⟨by kernel_rfl, fun w hSw => ?_⟩) hS0 ?_
  · obtain ⟨d1, d2, d3, d4, d5, d6⟩ := hSw; go_simp
  simp only [Act.put, List.getElem_toArray, List.getElem_cons_succ, List.getElem_cons_zero, List.setIfInBounds_toArray, List.set_cons_zero, List.set_cons_succ]
  refine wpAnyH_take (i := 7) (v := .pointer (some ⟨g2, 0, none⟩)) rfl (by kernel_rfl) (by kernel_rfl) (by kernel_rfl) (fun _ _ _ h => h) (Or.inl ⟨by kernel_rfl, fun w hSw => ?_⟩) hS0 ?_
  · obtain ⟨d1, d2, d3, d4, d5, d6⟩ := hSw; go_simp
  simp only [Act.put, List.getElem_toArray, List.getElem_cons_succ, List.getElem_cons_zero, List.setIfInBounds_toArray, List.set_cons_zero, List.set_cons_succ]
  refine wpAnyH_take (i := 8) (v := .pointer (some ⟨g2, 2, none⟩)) rfl (by kernel_rfl) (by kernel_rfl) (by kernel_rfl) (fun _ _ _ h => h) (Or.inl ⟨by kernel_rfl, fun w hSw => ?_⟩) hS0 ?_
  · obtain ⟨d1, d2, d3, d4, d5, d6⟩ := hSw; go_simp
  simp only [Act.put, List.getElem_toArray, List.getElem_cons_succ, List.getElem_cons_zero, List.setIfInBounds_toArray, List.set_cons_zero, List.set_cons_succ]
  refine wpAnyH_take (i := 9) (v := .int .i64 m2.time) rfl (by kernel_rfl) (by kernel_rfl) (by kernel_rfl) (fun _ _ _ h => h) (Or.inl ⟨by kernel_rfl, fun w hSw => ?_⟩) hS0 ?_
  · obtain ⟨d1, d2, d3, d4, d5, d6⟩ := hSw; go_simp
  simp only [Act.put, List.getElem_toArray, List.getElem_cons_succ, List.getElem_cons_zero, List.setIfInBounds_toArray, List.set_cons_zero, List.set_cons_succ]
  refine wpAnyH_take (i := 11) (v := .pointer (some ⟨g1, 0, none⟩)) rfl (by kernel_rfl) (by kernel_rfl) (by kernel_rfl) (fun _ _ _ h => h) (Or.inl ⟨by kernel_rfl, fun w hSw => ?_⟩) hS0 ?_
  · obtain ⟨d1, d2, d3, d4, d5, d6⟩ := hSw; go_simp
  simp only [Act.put, List.getElem_toArray, List.getElem_cons_succ, List.getElem_cons_zero, List.setIfInBounds_toArray, List.set_cons_zero, List.set_cons_succ]
  refine wpAnyH_take (i := 12) (v := .pointer (some ⟨g1, 0, none⟩)) rfl (by kernel_rfl) (by kernel_rfl) (by kernel_rfl) (fun _ _ _ h => h) (Or.inl ⟨by kernel_rfl, fun w hSw => ?_⟩) hS0 ?_
  · obtain ⟨d1, d2, d3, d4, d5, d6⟩ := hSw; go_simp
  simp only [Act.put, List.getElem_toArray, List.getElem_cons_succ, List.getElem_cons_zero, List.setIfInBounds_toArray, List.set_cons_zero, List.set_cons_succ]
  refine wpAnyH_take (i := 13) (v := .pointer (some ⟨g1, 0, none⟩)) rfl (by kernel_rfl) (by kernel_rfl) (by kernel_rfl) (fun _ _ _ h => h) (Or.inl ⟨by kernel_rfl, fun w hSw => ?_⟩) hS0 ?_
  · obtain ⟨d1, d2, d3, d4, d5, d6⟩ := hSw; go_simp
  simp only [Act.put, List.getElem_toArray, List.getElem_cons_succ, List.getElem_cons_zero, List.setIfInBounds_toArray, List.set_cons_zero, List.set_cons_succ]
  refine wpAnyH_take (i := 14) (v := .pointer (some ⟨g1, 0, none⟩)) rfl (by kernel_rfl) (by kernel_rfl) (by kernel_rfl) (fun _ _ _ h => h) (Or.inl ⟨by kernel_rfl, fun w hSw => ?_⟩) hS0 ?_
  · obtain ⟨d1, d2, d3, d4, d5, d6⟩ := hSw; go_simp
  simp only [Act.put, List.getElem_toArray, List.getElem_cons_succ, List.getElem_cons_zero, List.setIfInBounds_toArray, List.set_cons_zero, List.set_cons_succ]
  refine wpAnyH_take (i := 15) (v := .agg #[.int .i64 m1.id.1, .int .i64 m1.id.2]) rfl (by kernel_rfl) (by kernel_rfl) (by kernel_rfl) (fun _ _ _ h => h) (Or.inl ⟨by kernel_rfl, fun w hSw => ?_⟩) hS0 ?_
  · obtain ⟨d1, d2, d3, d4, d5, d6⟩ := hSw; go_simp
  simp only [Act.put, List.getElem_toArray, List.getElem_cons_succ, List.getElem_cons_zero, List.setIfInBounds_toArray, List.set_cons_zero, List.set_cons_succ]
  refine wpAnyH_take (i := 16) (v := .pointer (some ⟨g2, 0, none⟩)) rfl (by kernel_rfl) (by kernel_rfl) (by kernel_rfl) (fun _ _ _ h => h) (Or.inl ⟨by kernel_rfl, fun w hSw => ?_⟩) hS0 ?_
  · obtain ⟨d1, d2, d3, d4, d5, d6⟩ := hSw; go_simp
  simp only [Act.put, List.getElem_toArray, List.getElem_cons_succ, List.getElem_cons_zero, List.setIfInBounds_toArray, List.set_cons_zero, List.set_cons_succ]
  refine wpAnyH_take (i := 17) (v := .pointer (some ⟨g2, 0, none⟩)) rfl (by kernel_rfl) (by kernel_rfl) (by kernel_rfl) (fun _ _ _ h => h) (Or.inl ⟨by kernel_rfl, fun w hSw => ?_⟩) hS0 ?_
  · obtain ⟨d1, d2, d3, d4, d5, d6⟩ := hSw; go_simp
  simp only [Act.put, List.getElem_toArray, List.getElem_cons_succ, List.getElem_cons_zero, List.setIfInBounds_toArray, List.set_cons_zero, List.set_cons_succ]
  refine wpAnyH_take (i := 18) (v := .pointer (some ⟨g2, 0, none⟩)) rfl (by kernel_rfl) (by kernel_rfl) (by kernel_rfl) (fun _ _ _ h => h) (Or.inl ⟨by kernel_rfl, fun w hSw => ?_⟩) hS0 ?_
  · obtain ⟨d1, d2, d3, d4, d5, d6⟩ := hSw; go_simp
  simp only [Act.put, List.getElem_toArray, List.getElem_cons_succ, List.getElem_cons_zero, List.setIfInBounds_toArray, List.set_cons_zero, List.set_cons_succ]
  refine wpAnyH_take (i := 19) (v := .pointer (some ⟨g2, 0, none⟩)) rfl (by kernel_rfl) (by kernel_rfl) (by kernel_rfl) (fun _ _ _ h => h) (Or.inl ⟨by kernel_rfl, fun w hSw => ?_⟩) hS0 ?_
  · obtain ⟨d1, d2, d3, d4, d5, d6⟩ := hSw; go_simp
  simp only [Act.put, List.getElem_toArray, List.getElem_cons_succ, List.getElem_cons_zero, List.setIfInBounds_toArray, List.set_cons_zero, List.set_cons_succ]
  refine wpAnyH_take (i := 20) (v := .agg #[.int .i64 m2.id.1, .int .i64 m2.id.2]) rfl (by kernel_rfl) (by kernel_rfl) (by kernel_rfl) (fun _ _ _ h => h) (Or.inl ⟨by kernel_rfl, fun w hSw => ?_⟩) hS0 ?_
  · obtain ⟨d1, d2, d3, d4, d5, d6⟩ := hSw; go_simp
  simp only [Act.put, List.getElem_toArray, List.getElem_cons_succ, List.getElem_cons_zero, List.setIfInBounds_toArray, List.set_cons_zero, List.set_cons_succ]
  refine wpAnyH_ready (rs := [10]) (by kernel_rfl) (by simp) ?_
  refine AllReadyH.cons rfl (fun K hK => ?_) AllReadyH.nil
  go_simp
  refine (cmp_any m1.time m2.time _).mono ?_
  rintro e U1 ⟨rfl, rfl⟩

  refine hK.out _ _ hS0 (fun _ => ?_)
  clear hK K

  refine wpAnyH_ready (rs := [21]) (by kernel_rfl) (by simp) ?_
  refine AllReadyH.cons rfl (fun K hK => ?_) AllReadyH.nil
  go_simp
  refine (torder_any m1.id m2.id _).mono ?_
  rintro e U2 ⟨rfl, hb1⟩
  have HB1 : Hid (Below w.heap.size w U2) := hid (HB0.out.trans (hb1.mono HB0.out.size))
  have hS1 := HS.out _ HB1.out
  refine hK.out _ _ hS1 (fun _ => ?_)
  clear hK K

  refine wpAnyH_ready (rs := [22]) (by kernel_rfl) (by simp) ?_
  refine AllReadyH.cons rfl (fun K hK => ?_) AllReadyH.nil
  go_simp
  have HB2 : Hid (Below w.heap.size w (U2.alloc (.cells #[.int .i64 (cmpi m1.time m2.time), .int .i64 (ordI m1.id m2.id)] 3))) := hid (HB1.out.alloc HB1.out.size _)
  have hS2 := HS.out _ HB2.out
  refine hK.out _ _ hS2 (fun _ => ?_)
  clear hK K
  have hA := World.alloc_heap_new U2 (.cells #[.int .i64 (cmpi m1.time m2.time), .int .i64 (ordI m1.id m2.id)] 3)
  have hor := or_any U2.heap.size 2 (cmpi m1.time m2.time) (ordI m1.id m2.id) (U2.alloc (.cells #[.int .i64 (cmpi m1.time m2.time), .int .i64 (ordI m1.id m2.id)] 3)) (by simp only [World.cell?, hA]; rfl) (by simp only [World.cell?, hA]; rfl)
  refine wpAnyH_ready (rs := [23]) (by kernel_rfl) (by simp) ?_
  refine AllReadyH.cons rfl (fun K hK => ?_) AllReadyH.nil
  go_simp
  refine (hor).mono ?_
  rintro e U3 ⟨rfl, rfl⟩

  refine hK.out _ _ hS2 (fun _ => ?_)
  clear hK K

  refine wpAnyH_take (i := 24) (v := .int .i64 (orI (cmpi m1.time m2.time) (ordI m1.id m2.id))) rfl (by kernel_rfl) (by kernel_rfl) (by kernel_rfl) (fun _ _ _ h => h) (Or.inl ⟨by kernel_rfl, fun w hSw => ?_⟩) hS2 ?_
  · obtain ⟨d1, d2, d3, d4, d5, d6⟩ := hSw; go_simp
  simp only [Act.put, List.getElem_toArray, List.getElem_cons_succ, List.getElem_cons_zero, List.setIfInBounds_toArray, List.set_cons_zero, List.set_cons_succ]
  refine wpAnyH_done (by kernel_rfl) ?_ _
  go_wp2
  go_ret
  exact ⟨by rw [hr.out]; rfl, HB2.out⟩
end
end Go.Proofs.YtnmdcdphpcpojaaGreatDoor
