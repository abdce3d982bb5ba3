/- A place's key, of the place itself. -/
import Derived.Test.YtplcohjpchfkkaaOParts
import Derived.Test.YtplcohjpchfkkaaFgIns
import Derived.Test.YtplcohjpchfkkaaTrInsA
import Derived.Test.YtplcohjpchfkkaaGBase
namespace Go.Proofs.Ytplcohjpchfkkaa
section
set_option linter.unusedVariables false
open Go.RowKit Go.Sort Go.Maps

abbrev Rf := Dt → Option (Nat × Nat × Nat)

/-- The blocks under one, in order. -/
def kidB (S : List Sp) (p : Dt) : List Dt := (kidS S p).map Sp.b

/-- The rows, each of its own. -/
structure RW (w : World) (S : List Sp) (f : Rf) (B : Nat → Prop) : Prop where
  row : ∀ p, w.ownsRow 0 24 2 (slv (f p)) (kidB S p).length (flat (kidB S p))
  own : ∀ p q, f p = some q → B q.1
  apart : ∀ p p' q q', f p = some q → f p' = some q' → q.1 = q'.1 → p = p'
  nz : ∀ p, kidB S p = [] → f p = none

/-- A row of one's own stays where its block is as it was. -/
theorem row_kept {w w' : World} {o : Option (Nat × Nat × Nat)} {n : Nat} {xs : List Value} (h : w.ownsRow 0 24 2 (slv o) n xs) (hk : ∀ q, o = some q → w'.heap[q.1]? = w.heap[q.1]?) : w'.ownsRow 0 24 2 (slv o) n xs := by
  refine ⟨h.1, ?_⟩
  rcases h.2 with h' | ⟨g, cap, cur, e, hb, hg, hn, hc, hs, ht⟩
  · exact Or.inl h'
  · refine Or.inr ⟨g, cap, cur, e, hb, ?_, hn, hc, hs, ht⟩
    cases o with
    | none => simp [slv] at e
    | some q =>
      simp only [slv, Value.slice.injEq, Option.some.injEq, Addr.mk.injEq, and_true] at e
      have := hk q rfl
      rw [e.1] at this
      rw [this]
      exact hg

theorem row_block {w : World} {q : Nat × Nat × Nat} {n : Nat} {xs : List Value} (h : w.ownsRow 0 24 2 (slv (some q)) n xs) : q.2.1 = n ∧ n ≤ q.2.2 ∧ q.2.2 ≤ maxLen ∧ ∃ cs, w.heap[q.1]? = some (.cells cs 24 (0, 0)) := by
  rcases h.2 with ⟨e, _⟩ | ⟨g, cap, cur, e, hb, hg, hn, hc, hs, ht⟩
  · simp [slv] at e
  · simp only [slv, Value.slice.injEq, Option.some.injEq, Addr.mk.injEq, and_true] at e
    obtain ⟨e1, e2, e3⟩ := e
    exact ⟨e2, by rw [e3]; exact hn, by rw [e3]; exact hc, cur, by rw [e1]; exact hg⟩

theorem RW.kept {w w' : World} {S : List Sp} {f : Rf} {B : Nat → Prop} (h : RW w S f B) (hk : ∀ p q, f p = some q → w'.heap[q.1]? = w.heap[q.1]?) : RW w' S f B :=
  ⟨fun p => row_kept (h.row p) (hk p), h.own, h.apart, h.nz⟩

theorem RW.mono {w : World} {S : List Sp} {f : Rf} {B B' : Nat → Prop} (h : RW w S f B) (hb : ∀ j, B j → B' j) : RW w S f B' := ⟨h.row, fun p q e => hb _ (h.own p q e), h.apart, h.nz⟩

theorem RW.perm {w : World} {S S' : List Sp} {f : Rf} {B : Nat → Prop} (h : RW w S f B) (hn : (S.map Sp.b).Nodup) (hp : S.Perm S') : RW w S' f B := by
  have e : ∀ p, kidB S p = kidB S' p := fun p => by unfold kidB; rw [kidS_perm hn hp p]
  exact ⟨fun p => by rw [← e p]; exact h.row p, h.own, h.apart, fun p hp' => h.nz p (by rw [e p]; exact hp')⟩

/-- As it is read. -/
theorem row_ps {w : World} {o : Option (Nat × Nat × Nat)} {L : List Dt} (h : w.ownsRow 0 24 2 (slv o) L.length (flat L)) : ∃ a c, slv o = .slice a L.length c ∧ PS w a L.length c L := by
  rcases h.2 with ⟨e, h0⟩ | ⟨g, cap, cur, e, hb, hg, hn, hc, hs, ht⟩
  · rw [h0]
    refine ⟨none, 0, e, ⟨by omega, Nat.le_refl _, by unfold maxLen; omega, fun _ => ⟨rfl, rfl⟩, fun ad e => by cases e⟩⟩
  · refine ⟨some ⟨g, 0, none⟩, cap, e, ⟨rfl, hn, hc, fun e => (by cases e), fun ad e' j u hj => ?_⟩⟩
    cases e'
    rw [Addr.add_lit, Nat.zero_add]
    have hown : w.ownsRow 0 24 2 (.slice (some ⟨g, 0, none⟩) L.length cap) L.length (flat L) := ⟨h.1, Or.inr ⟨g, cap, cur, rfl, hb, hg, hn, hc, hs, ht⟩⟩
    have hjn : j < L.length * 2 := by
      have := (List.getElem?_eq_some_iff.1 hj).1
      rw [flat_length] at this
      exact this
    rw [World.ownsRow.cellAt hown j hjn]
    exact hj

/-- The two maps, or none. -/
def SB (w : World) (pl kd : Value) (S : List Sp) (B : Nat → Prop) : Prop :=
  (pl = .map none ∧ kd = .map none ∧ S = []) ∨ ∃ m k f, pl = .map (some m) ∧ kd = .map (some k) ∧ m ≠ k ∧ B m ∧ B k ∧ PLM w m S ∧ KM w k S.length f ∧ RW w S f B

theorem SB.v {w : World} {pl kd : Value} {S : List Sp} {B : Nat → Prop} (h : SB w pl kd S B) : PlV w pl S := by
  rcases h with ⟨h1, _, h2⟩ | ⟨m, k, f, h1, h2, _, _, _, h3, _⟩
  · exact Or.inl ⟨h1, h2⟩
  · exact Or.inr ⟨m, h1, h3⟩

theorem SB.mono {w : World} {pl kd : Value} {S : List Sp} {B B' : Nat → Prop} (h : SB w pl kd S B) (hb : ∀ j, B j → B' j) : SB w pl kd S B' := by
  rcases h with h | ⟨m, k, f, h1, h2, h3, h4, h5, h6, h7, h8⟩
  · exact Or.inl h
  · exact Or.inr ⟨m, k, f, h1, h2, h3, hb _ h4, hb _ h5, h6, h7, h8.mono hb⟩

theorem SB.kept {w w' : World} {pl kd : Value} {S : List Sp} {B : Nat → Prop} (h : SB w pl kd S B) (hk : ∀ j, B j → w'.heap[j]? = w.heap[j]?) : SB w' pl kd S B := by
  rcases h with h | ⟨m, k, f, h1, h2, h3, h4, h5, h6, h7, h8⟩
  · exact Or.inl h
  · exact Or.inr ⟨m, k, f, h1, h2, h3, h4, h5, h6.same (hk m h4), h7.same (hk k h5), h8.kept (fun p q e => hk _ (h8.own p q e))⟩

theorem SB.perm {w : World} {pl kd : Value} {S S' : List Sp} {B : Nat → Prop} (h : SB w pl kd S B) (hn : (S.map Sp.b).Nodup) (hp : S.Perm S') : SB w pl kd S' B := by
  rcases h with ⟨h1, h2, h3⟩ | ⟨m, k, f, h1, h2, h3, h4, h5, h6, h7, h8⟩
  · subst h3
    exact Or.inl ⟨h1, h2, List.nil_perm.1 hp⟩
  · exact Or.inr ⟨m, k, f, h1, h2, h3, h4, h5, h6.perm hn hp, by rw [← hp.length_eq]; exact h7, h8.perm hn hp⟩

/-- What is under a parent, as the map of rows tells it. -/
theorem SB.look {w : World} {pl kd : Value} {S : List Sp} {B : Nat → Prop} (h : SB w pl kd S B) {p : Dt} (hp : Dw p) : ∃ a c, (Instr.lookup 64 kd (dv p) false).run Try.prog w = .ok (.slice a (kidB S p).length c) w ∧ PS w a (kidB S p).length c (kidB S p) := by
  rcases h with ⟨_, h2, h3⟩ | ⟨m, k, f, h1, h2, h3, h4, h5, h6, h7, h8⟩
  · subst h2 h3
    exact ⟨none, 0, sl_nil w hp, ⟨rfl, Nat.le_refl _, by unfold maxLen; omega, fun _ => ⟨rfl, rfl⟩, fun ad e => by cases e⟩⟩
  · subst h2
    obtain ⟨a, c, e, hps⟩ := row_ps (h8.row p)
    exact ⟨a, c, by rw [h7.look hp, e], hps⟩

/-- The tree's block. -/
def TB (w : World) (t : Nat) (lg fd dn pl kd : Value) : Prop := w.heap[t]? = some (.cells #[lg, fd, dn, pl, kd] 68 (0, 0))

/-- What is no memory is as it was. -/
def Sm (w w' : World) : Prop := w'.os = w.os ∧ w'.tape = w.tape ∧ w'.output = w.output
theorem Sm.refl (w : World) : Sm w w := ⟨rfl, rfl, rfl⟩
theorem Sm.trans {a b c : World} (h : Sm a b) (k : Sm b c) : Sm a c := ⟨k.1.trans h.1, k.2.1.trans h.2.1, k.2.2.trans h.2.2⟩
theorem Sm.g {w w' : World} {row : Option Nat} (h : w.grownBy w' row) : Sm w w' := ⟨h.os, h.tape, h.output⟩
theorem Sm.b {n : Nat} {w w' : World} (h : Below n w w') : Sm w w' := ⟨h.os, h.tape, h.output⟩

/-- All other blocks are as they were. -/
structure KB (w w' : World) (B : Nat → Prop) (t : Nat) : Prop where
  size : w.heap.size ≤ w'.heap.size
  keep : ∀ j, j < w.heap.size → ¬ B j → j ≠ t → w'.heap[j]? = w.heap[j]?
  sm : Sm w w'

/-- What is one's own behind it: what was, and what is new. -/
def Bn (w w' : World) (B : Nat → Prop) (j : Nat) : Prop := B j ∨ (w.heap.size ≤ j ∧ j < w'.heap.size)

theorem kidB_lay {S : List Sp} {s : Sp} (h : ((S ++ [s]).map Sp.b).Nodup) : kidB (S ++ [s]) s.p = (kidB S s.p).take (rkL kdl (kidS S s.p) s) ++ [s.b] ++ (kidB S s.p).drop (rkL kdl (kidS S s.p) s) := by
  unfold kidB
  rw [kidS_lay h]
  unfold insL
  simp [List.map_take, List.map_drop]

theorem kidB_lay_else {S : List Sp} {s : Sp} (h : ((S ++ [s]).map Sp.b).Nodup) {p : Dt} (hp : p ≠ s.p) : kidB (S ++ [s]) p = kidB S p := by
  unfold kidB
  rw [kidS_lay_else h hp]

theorem kidB_lift {S : List Sp} (h : (S.map Sp.b).Nodup) {s : Sp} (hs : s ∈ S) : kidB (lift S s.b) s.p = (kidB S s.p).take (rkL kdl (kidS S s.p) s) ++ (kidB S s.p).drop (rkL kdl (kidS S s.p) s + 1) := by
  unfold kidB
  rw [kidS_lift h hs]
  simp [List.map_take, List.map_drop]

theorem kidB_lift_else {S : List Sp} (h : (S.map Sp.b).Nodup) {s : Sp} (hs : s ∈ S) {p : Dt} (hp : p ≠ s.p) : kidB (lift S s.b) p = kidB S p := by
  unfold kidB
  rw [kidS_lift_else h hs hp]

/-- A block is laid: its row is another one, the others are as they were. -/
theorem RW.lay {w w' : World} {S : List Sp} {f : Rf} {B B' : Nat → Prop} (h : RW w S f B) {s : Sp} (hn : ((S ++ [s]).map Sp.b).Nodup) {q : Nat × Nat × Nat}
    (hr : w'.ownsRow 0 24 2 (slv (some q)) ((kidB S s.p).length + 1) (flat ((kidB S s.p).take (rkL kdl (kidS S s.p) s) ++ [s.b] ++ (kidB S s.p).drop (rkL kdl (kidS S s.p) s)))) (hb : ∀ j, B j → B' j) (hq : B' q.1) (hne : ∀ p, p ≠ s.p → ∀ q', f p = some q' → q'.1 ≠ q.1) (hk : ∀ p, p ≠ s.p → ∀ q', f p = some q' → w'.heap[q'.1]? = w.heap[q'.1]?) :
    RW w' (S ++ [s]) (fun e => if e = s.p then some q else f e) B' := by
  have hle := rk_le kdl (kidS S s.p) s
  have hl : (kidB S s.p).length = (kidS S s.p).length := by unfold kidB; rw [List.length_map]
  have e1 : (kidB (S ++ [s]) s.p).length = (kidB S s.p).length + 1 := by
    rw [kidB_lay hn, List.length_append, List.length_append, List.length_take, List.length_drop, List.length_singleton]
    omega
  refine ⟨fun p => ?_, fun p q' e => ?_, fun p p' q1 q2 e1 e2 e3 => ?_, fun p hp => ?_⟩
  · by_cases e : p = s.p
    · subst e
      simp only [if_true]
      rw [e1, kidB_lay hn]
      exact hr
    · simp only [e, if_false]
      rw [kidB_lay_else hn e]
      exact row_kept (h.row p) (hk p e)
  · by_cases e' : p = s.p
    · simp only [e', if_true, Option.some.injEq] at e
      rw [← e]; exact hq
    · simp only [e', if_false] at e
      exact hb _ (h.own p q' e)
  · by_cases a1 : p = s.p
    · by_cases a2 : p' = s.p
      · rw [a1, a2]
      · simp only [a1, if_true, Option.some.injEq] at e1
        simp only [a2, if_false] at e2
        exact absurd (e3.symm.trans (by rw [e1])) (hne p' a2 q2 e2)
    · by_cases a2 : p' = s.p
      · simp only [a2, if_true, Option.some.injEq] at e2
        simp only [a1, if_false] at e1
        exact absurd (e3.trans (by rw [e2])) (hne p a1 q1 e1)
      · simp only [a1, if_false] at e1
        simp only [a2, if_false] at e2
        exact h.apart p p' q1 q2 e1 e2 e3
  · by_cases e : p = s.p
    · subst e
      rw [hp] at e1
      simp at e1
    · simp only [e, if_false]
      rw [kidB_lay_else hn e] at hp
      exact h.nz p hp
end

section
set_option linter.unusedVariables false
open Go.RowKit Go.Sort Go.Maps

/-- The two maps are there. -/
structure SM (w W : World) (t m k : Nat) (f : Rf) (lg fd dn : Value) (S : List Sp) (B : Nat → Prop) : Prop where
  tb : TB W t lg fd dn (.map (some m)) (.map (some k))
  ne : m ≠ k
  bm : Bn w W B m
  bk : Bn w W B k
  pm : PLM W m S
  km : KM W k S.length f
  rw : RW W S f (Bn w W B)
  kb : KB w W B t

theorem map_cells {w : World} {m : Nat} {D : DataW Unit} {n j : Nat} {R : Value → Option (DataW Unit × List MemPlace)} {cs : Array Value} {ty : TypeId} {fz : Nat × Nat} (h : w.ownsMap Try.prog 24 R m n D) (hj : w.heap[j]? = some (.cells cs ty fz)) : j ≠ m := by
  obtain ⟨es, clock, h1, _⟩ := h
  intro e
  rw [e, h1] at hj
  cases hj

theorem PLM.cells {w : World} {m : Nat} {S : List Sp} (h : PLM w m S) {j : Nat} {cs : Array Value} {ty : TypeId} {fz : Nat × Nat} (hj : w.heap[j]? = some (.cells cs ty fz)) : j ≠ m := by
  obtain ⟨D, ho, _⟩ := h
  exact map_cells ho hj
theorem KM.cells {w : World} {k n : Nat} {f : Rf} (h : KM w k n f) {j : Nat} {cs : Array Value} {ty : TypeId} {fz : Nat × Nat} (hj : w.heap[j]? = some (.cells cs ty fz)) : j ≠ k := by
  obtain ⟨D, ho, _⟩ := h
  exact map_cells ho hj

theorem lay_fin {w W1 W2 W3 W4 W5 W6 : World} {t m k : Nat} {f : Rf} {lg fd dn : Value} {S : List Sp} {B : Nat → Prop} {s : Sp} (hBt : ¬ B t) (hBs : ∀ j, B j → j < w.heap.size) (htw : t < w.heap.size) (hs : SM w W1 t m k f lg fd dn S B) (hnd : ((S ++ [s]).map Sp.b).Nodup)
    (h2 : Below W1.heap.size W1 W2) (h3 : PLM W3 m (S ++ [s])) (g3 : W2.grownBy W3 (some m)) (g4 : W3.grownBy W4 none) (g5 : W4.grownBy W5 (slv (f s.p)).ownBlock) {g c : Nat}
    (ho : W5.ownsRow 0 24 2 (.slice (some ⟨g, 0, none⟩) ((kidB S s.p).length + 1) c) ((kidB S s.p).length + 1) (flat ((kidB S s.p).take (rkL kdl (kidS S s.p) s) ++ [s.b] ++ (kidB S s.p).drop (rkL kdl (kidS S s.p) s))))
    (hg : (slv (f s.p)).ownBlock = some g ∨ g = W4.heap.size) (h6 : KM W6 k (S.length + 1) (fun e => if e = s.p then some (g, (kidB S s.p).length + 1, c) else f e)) (g6 : W5.grownBy W6 (some k)) :
    TB W6 t lg fd dn (.map (some m)) (.map (some k)) ∧ SB W6 (.map (some m)) (.map (some k)) (S ++ [s]) (Bn w W6 B) ∧ KB w W6 B t := by
  have hz1 : w.heap.size ≤ W1.heap.size := hs.kb.size
  have hz2 := h2.size
  have hz3 := g3.size
  have hz4 := g4.size
  have hz5 := g5.size
  have hz6 := g6.size
  have hrow : ∀ p q, f p = some q → q.1 < W1.heap.size ∧ q.1 ≠ m ∧ q.1 ≠ k ∧ q.1 ≠ t := fun p q e => by
    have h := hs.rw.row p
    rw [e] at h
    obtain ⟨_, _, _, cs, hc⟩ := row_block h
    refine ⟨(Array.getElem?_eq_some_iff.1 hc).1, hs.pm.cells hc, hs.km.cells hc, fun e' => ?_⟩
    have := hs.tb
    unfold TB at this
    rw [← e', hc] at this
    simp at this
  have hob : ∀ j, (slv (f s.p)).ownBlock = some j → ∃ q, f s.p = some q ∧ q.1 = j := fun j hj => by
    cases e : f s.p with
    | none => rw [e] at hj; simp [slv, Value.ownBlock] at hj
    | some q => rw [e] at hj; exact ⟨q, rfl, by simpa [slv, Value.ownBlock] using hj⟩
  have stay : ∀ j, j < W1.heap.size → j ≠ m → j ≠ k → (∀ q, f s.p = some q → j ≠ q.1) → W6.heap[j]? = W1.heap[j]? := fun j hj hm hk hq => by
    have a2 := h2.block j hj
    have a3 := g3.block j (by omega) (by simpa using hm)
    have a4 := g4.block j (by omega) (by simp)
    have a5 := g5.block j (by omega) (fun e => by obtain ⟨q, e1, e2⟩ := hob j e.symm; exact hq q e1 e2.symm)
    have a6 := g6.block j (by omega) (by simpa using hk)
    exact a6.trans (a5.trans (a4.trans (a3.trans a2)))
  have htm : t ≠ m := hs.pm.cells hs.tb
  have htk : t ≠ k := hs.km.cells hs.tb
  have hmw : m < W1.heap.size := hs.pm.lt
  have hkw : k < W1.heap.size := hs.km.lt
  have tbs := (stay t (by omega) htm htk (fun q e e' => (hrow _ _ e).2.2.2 e'.symm)).trans hs.tb
  have hbn : ∀ j, Bn w W1 B j → Bn w W6 B j := fun j hj => hj.imp id (fun h => ⟨h.1, by omega⟩)
  have hgc : ∃ cs, W5.heap[g]? = some (.cells cs 24 (0, 0)) := by
    obtain ⟨_, _, _, cs, hc⟩ := row_block (q := (g, (kidB S s.p).length + 1, c)) ho
    exact ⟨cs, hc⟩
  obtain ⟨cs, hgc⟩ := hgc
  have hgW := (Array.getElem?_eq_some_iff.1 hgc).1
  have hgk : g ≠ k := by
    rcases hg with e | e
    · obtain ⟨q, e1, e2⟩ := hob g e
      have := (hrow _ _ e1).2.2.1
      rwa [e2] at this
    · omega
  have hgm : g ≠ m := by
    rcases hg with e | e
    · obtain ⟨q, e1, e2⟩ := hob g e
      have := (hrow _ _ e1).2.1
      rwa [e2] at this
    · omega
  have m6 : W6.heap[m]? = W3.heap[m]? := by
    have a4 := g4.block m (by omega) (by simp)
    have a5 := g5.block m (by omega) (fun e => by obtain ⟨q, e1, e2⟩ := hob m e.symm; exact (hrow _ _ e1).2.1 e2)
    have a6 := g6.block m (by omega) (by simpa using hs.ne)
    exact a6.trans (a5.trans a4)
  have o6 : W6.heap[g]? = W5.heap[g]? := g6.block g hgW (by simpa using hgk)
  refine ⟨tbs, Or.inr ⟨m, k, _, rfl, rfl, hs.ne, hbn _ hs.bm, hbn _ hs.bk, h3.same m6, by rw [List.length_append]; exact h6, ?_⟩, ⟨by omega, fun j hj hB hjt => ?_, hs.kb.sm.trans ((Sm.b h2).trans ((Sm.g g3).trans ((Sm.g g4).trans ((Sm.g g5).trans (Sm.g g6)))))⟩⟩
  · refine hs.rw.lay hnd (w' := W6) (q := (g, (kidB S s.p).length + 1, c)) (row_kept (o := some (g, (kidB S s.p).length + 1, c)) ho (fun q e => by cases e; exact o6)) hbn ?_ (fun p hp q' e => ?_) (fun p hp q' e => ?_)
    · rcases hg with e | e
      · obtain ⟨q, e1, e2⟩ := hob g e
        have := hs.rw.own _ _ e1
        rw [e2] at this
        exact hbn _ this
      · exact Or.inr ⟨by show w.heap.size ≤ g; omega, by show g < W6.heap.size; omega⟩
    · intro e2
      rcases hg with e3 | e3
      · obtain ⟨q, e4, e5⟩ := hob g e3
        exact hp (hs.rw.apart p s.p q' q e e4 (e2.trans e5.symm))
      · have := (hrow _ _ e).1
        have e2' : q'.1 = g := e2
        omega
    · obtain ⟨h1, h2', h3', _⟩ := hrow _ _ e
      exact stay _ h1 h2' h3' (fun q e4 e5 => hp (hs.rw.apart p s.p q' q e e4 e5))
  · have hnm : ∀ x, Bn w W1 B x → j ≠ x := fun x hx e => by
      subst e
      rcases hx with hx | hx
      · exact hB hx
      · omega
    refine (stay j (by omega) (hnm m hs.bm) (hnm k hs.bk) (fun q e => hnm _ (hs.rw.own _ _ e))).trans (hs.kb.keep j hj hB hjt)
end

section

theorem run_key (p1 p2 : Int) (ky : ByteArray) (w : World) : (Instr.field 74 (.agg #[.int .i64 p1, .int .i64 p2, .string ky]) 1).run Try.prog w = .ok (.string ky) w := by
  simp [Instr.field, run_underlying Try.underlying74, asAgg, part, Result.andThen, go_sem]
end
end Go.Proofs.Ytplcohjpchfkkaa
