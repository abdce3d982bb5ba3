/- What a tree has behind a row of moves; what follows for each block. No function of the program. -/
import Derived.Test.YtnmdcdphpcpojaaGreatDoorOlTree
import Derived.Test.YtnmdcdphpcpojaaGreatDoorFgSame
import Derived.Test.YtnmdcdphpcpojaaGreatDoorTrMath
import Derived.BigQuiet
import Derived.Deep.RegionHeld
namespace Go.Proofs.YtnmdcdphpcpojaaGreatDoor
section
set_option linter.unusedVariables false
open Go.RowKit Go.Shelf

/-- A line of a tree's. -/
def undLn (x : Dt × Nat × List UInt8) : Ln := ⟨x.1, x.2.1, x.2.2⟩

/-- A map of texts: what each text tells; it lies in blocks of which P holds. -/
def XP (P : Nat → Prop) (W : World) (mv : Value) (σ : Dt → List UInt8) : Prop := ∀ d, Dw d → ∃ pv, ∀ V, KP P W V → (Instr.lookup 29 mv (dv d) false).run Tryz.prog V = .ok pv V ∧ Calls Tryz.prog 42 #[pv] V fun e w' => e = .returned (.string ⟨(σ d).toArray⟩) ∧ Below V.heap.size V w'

theorem XP.next {P P' : Nat → Prop} {W W' : World} {mv : Value} {σ : Dt → List UInt8} (h : XP P W mv σ) (hk : KP P W W') (hp : ∀ j, P j → P' j) : XP P' W' mv σ := fun d hd => by
  obtain ⟨pv, hpv⟩ := h d hd
  exact ⟨pv, fun V hV => hpv V (hk.trans (hV.mono hp))⟩

/-- The function that goes down. -/
def dnV (bt bo bx bd : Nat) : Value := .func (.func 40) #[] #[.pointer (some ⟨bt, 0, none⟩), .pointer (some ⟨bo, 0, none⟩), .pointer (some ⟨bx, 0, none⟩), .pointer (some ⟨bd, 0, none⟩)]

/-- The four boxes, the lines that came; P: blocks that are neither the tree's nor the lines'. -/
structure UI (P : Nat → Prop) (t : Nat) (l : List Mv) (mv : Value) (bt bo bx bd n0 : Nat) (L : List Ln) (V : World) : Prop where
  row : ∃ vo Q, TP V t l Q ∧ (∀ j, P j → Q j ∧ j ≠ bo ∧ vo.ownBlock ≠ some j) ∧ Q bo ∧ (∀ g, vo.ownBlock = some g → Q g) ∧ V.heap[bo]? = some (.cells #[vo] 43 (0, 0)) ∧ V.ownsRow n0 54 4 vo L.length (flLn L)
  pt : P bt ∧ P bx ∧ P bd
  cbt : V.heap[bt]? = some (.cells #[.pointer (some ⟨t, 0, none⟩)] 28 (0, 0))
  cbx : V.heap[bx]? = some (.cells #[mv] 29 (0, 0))
  cbd : V.heap[bd]? = some (.cells #[dnV bt bo bx bd] 90 (0, 0))
  le : n0 ≤ V.heap.size

theorem UI.lt {P : Nat → Prop} {t : Nat} {l : List Mv} {mv : Value} {bt bo bx bd n0 : Nat} {L : List Ln} {V : World} (h : UI P t l mv bt bo bx bd n0 L V) : ∀ j, P j → j < V.heap.size := by
  obtain ⟨vo, Q, h1, h2, _⟩ := h.row
  exact fun j hj => h1.lt j (h2 j hj).1

theorem UI.mono {P P' : Nat → Prop} {t : Nat} {l : List Mv} {mv : Value} {bt bo bx bd n0 : Nat} {L : List Ln} {V : World} (h : UI P t l mv bt bo bx bd n0 L V) (hp : ∀ j, P' j → P j) (hb : P' bt ∧ P' bx ∧ P' bd) : UI P' t l mv bt bo bx bd n0 L V := by
  obtain ⟨vo, Q, h1, h2, h3⟩ := h.row
  exact ⟨⟨vo, Q, h1, fun j hj => h2 j (hp j hj), h3⟩, hb, h.cbt, h.cbx, h.cbd, h.le⟩

/-- New memory: blocks of it may be held besides. -/
theorem UI.more {P P' : Nat → Prop} {t : Nat} {l : List Mv} {mv : Value} {bt bo bx bd n0 : Nat} {L : List Ln} {V V' : World} (h : UI P t l mv bt bo bx bd n0 L V) (hb : Below V.heap.size V V') (hq : ∀ j, P' j → P j ∨ (V.heap.size ≤ j ∧ j < V'.heap.size)) (hp : ∀ j, P j → P' j) : UI P' t l mv bt bo bx bd n0 L V' := by
  obtain ⟨vo, Q, h1, h2, h3, h4, h5, h6⟩ := h.row
  have hlt := fun j hj => hb.block j (h.lt j hj)
  refine ⟨⟨vo, fun j => Q j ∨ (V.heap.size ≤ j ∧ j < V'.heap.size), h1.turn hb.size (fun j hj _ => hb.block j hj) (fun j hj => hj), fun j hj => ?_, Or.inl h3, fun g hg => Or.inl (h4 g hg), (hb.block bo (h1.lt _ h3)).trans h5, lns_below h6 hb⟩, ⟨hp _ h.pt.1, hp _ h.pt.2.1, hp _ h.pt.2.2⟩, (hlt _ h.pt.1).trans h.cbt, (hlt _ h.pt.2.1).trans h.cbx, (hlt _ h.pt.2.2).trans h.cbd, Nat.le_trans h.le hb.size⟩
  rcases hq j hj with e | e
  · exact ⟨Or.inl (h2 j e).1, (h2 j e).2⟩
  · refine ⟨Or.inr e, fun e' => ?_, fun e' => ?_⟩
    · have := h1.lt _ h3; omega
    · have := h1.lt _ (h4 j e'); omega

theorem UI.kept {P : Nat → Prop} {t : Nat} {l : List Mv} {mv : Value} {bt bo bx bd n0 : Nat} {L : List Ln} {V V' : World} (h : UI P t l mv bt bo bx bd n0 L V) (hb : Below V.heap.size V V') : KP P V V' := ⟨hb.size, fun j hj => hb.block j (h.lt j hj), Sm.b hb⟩

/-- Kids, in new memory. -/
theorem kids_tn {t : Nat} {l : List Mv} {P : Nat → Prop} (d : Dt) {W : World} (h : TP W t l P) (hd : Dw d) : Calls Tryz.prog 41 #[.pointer (some ⟨t, 0, none⟩), dv d] W fun e W' => ∃ a c, e = .returned (.slice a (kidD (run l) d).length c) ∧ PS W' a (kidD (run l) d).length c (kidD (run l) d) ∧ TP W' t l (fun j => P j ∨ ∃ ad, a = some ad ∧ ad.block = j) ∧ KP P W W' ∧ ∀ ad, a = some ad → W.heap.size ≤ ad.block ∧ ad.block < W'.heap.size := by
  obtain ⟨A, hT, hA⟩ := h
  refine (kids_tt t l A d W hT hd).mono ?_
  rintro e W' ⟨A', ⟨v, e1, ho, hv⟩, h2, h3⟩
  have ho' := ho
  obtain ⟨a, c, rfl, hps⟩ := owned_ps ho rfl
  refine ⟨a, c, e1, hps, ⟨A', h2, fun j hj => ?_⟩, ⟨h3.size, fun j hj => h3.keep j (hA j hj).2 (hA j hj).1, h3.sm⟩, ?_⟩
  · rcases hj with hj | ⟨ad, rfl, rfl⟩
    · exact foreign h3 (hA j hj)
    · rcases ho.2 with ⟨e', _⟩ | ⟨g, cap, cur, e', _, hg, _⟩
      · simp at e'
      · simp only [Value.slice.injEq, Option.some.injEq] at e'
        rw [e'.1]
        exact ⟨hv _ (by rw [e'.1]; rfl), (Array.getElem?_eq_some_iff.1 hg).1⟩
  · rintro ad rfl
    rcases ho.2 with ⟨e', _⟩ | ⟨g, cap, cur, e', hb, hg, _⟩
    · simp at e'
    · simp only [Value.slice.injEq, Option.some.injEq] at e'
      rw [e'.1]
      exact ⟨hb, (Array.getElem?_eq_some_iff.1 hg).1⟩

/-- Behind Kids. -/
theorem UI.kids {P : Nat → Prop} {t : Nat} {l : List Mv} {mv : Value} {bt bo bx bd n0 : Nat} {L : List Ln} {V : World} (h : UI P t l mv bt bo bx bd n0 L V) (d : Dt) (hd : Dw d) : Calls Tryz.prog 41 #[.pointer (some ⟨t, 0, none⟩), dv d] V fun e V' => ∃ a c, e = .returned (.slice a (kidD (run l) d).length c) ∧ PS V' a (kidD (run l) d).length c (kidD (run l) d) ∧ UI (fun j => P j ∨ ∃ ad, a = some ad ∧ ad.block = j) t l mv bt bo bx bd n0 L V' ∧ KP P V V' := by
  obtain ⟨vo, Q, h1, h2, h3, h4, h5, h6⟩ := h.row
  refine (kids_tn d h1 hd).mono ?_
  rintro e V' ⟨a, c, e1, hps, k1, k2, k3⟩
  have kb := fun j hj => k2.keep j (h2 j hj).1
  refine ⟨a, c, e1, hps, ⟨⟨vo, _, k1, fun j hj => ?_, Or.inl h3, fun g hg => Or.inl (h4 g hg), (k2.keep bo h3).trans h5, ?_⟩, ⟨Or.inl h.pt.1, Or.inl h.pt.2.1, Or.inl h.pt.2.2⟩, (kb _ h.pt.1).trans h.cbt, (kb _ h.pt.2.1).trans h.cbx, (kb _ h.pt.2.2).trans h.cbd, Nat.le_trans h.le k2.size⟩, k2.mono (fun j hj => (h2 j hj).1)⟩
  · rcases hj with hj | ⟨ad, rfl, rfl⟩
    · exact ⟨Or.inl (h2 j hj).1, (h2 j hj).2⟩
    · have hg := k3 ad rfl
      refine ⟨Or.inr ⟨ad, rfl, rfl⟩, fun e' => ?_, fun e' => ?_⟩
      · have := h1.lt _ h3; omega
      · have := h1.lt _ (h4 _ e'); omega
  · have hs := k2.sm
    rcases h6 with ⟨l1, ⟨rfl, l2⟩ | ⟨g, cap, cur, rfl, hb, hgb, hr⟩⟩
    · exact ⟨l1, Or.inl ⟨rfl, l2⟩⟩
    · exact ⟨l1, Or.inr ⟨g, cap, cur, rfl, hb, (k2.keep g (h4 g rfl)).trans hgb, hr⟩⟩

/-- A line is appended, and the row is laid into its box. -/
theorem UI.app {P : Nat → Prop} {t : Nat} {l : List Mv} {mv : Value} {bt bo bx bd n0 : Nat} {L : List Ln} {V : World} {vo : Value} {Q : Nat → Prop} (h : UI P t l mv bt bo bx bd n0 L V) (h1 : TP V t l Q) (h2 : ∀ j, P j → Q j ∧ j ≠ bo ∧ vo.ownBlock ≠ some j) (h3 : Q bo) (h4 : ∀ g, vo.ownBlock = some g → Q g) (h5 : V.heap[bo]? = some (.cells #[vo] 43 (0, 0))) (h6 : V.ownsRow n0 54 4 vo L.length (flLn L)) (x : Ln) (hn : L.length ≤ 1000000) :
    ∃ a5 n5 c5 w', (Builtin.append_ #[43, 43] 43 #[vo, .slice (some ⟨V.heap.size, 0, none⟩) 1 1]).run Tryz.prog (V.alloc (.cells x.cells.toArray 54)) = .ok (.slice a5 n5 c5) w' ∧
      w'.cell? ⟨bo, 0, none⟩ = some vo ∧ w'.frozen? ⟨bo, 0, none⟩ = false ∧ UI P t l mv bt bo bx bd n0 (L ++ [x]) (w'.setCell ⟨bo, 0, none⟩ (.slice a5 n5 c5)) ∧ KP P V (w'.setCell ⟨bo, 0, none⟩ (.slice a5 n5 c5)) ∧ KP P V w' := by
  obtain ⟨i0, hi, hz0, hz1, hz2⟩ := info_parts Tryz.infoLn
  have hbl : Below V.heap.size V (V.alloc (.cells x.cells.toArray 54)) := (Below.refl _ V).alloc (Nat.le_refl _) _
  have hx := LnS.new V x
  obtain ⟨v', w', e1, e2, e3, _, e4⟩ := run_append_own_at (P := Tryz.prog) (V.alloc (.cells x.cells.toArray 54)) n0 43 43 54 i0 _ 4 40 Tryz.underlying43 hi hz0 hz1 hz2 rfl (by decide) vo L.length (flLn L) (lns_below h6 hbl) ⟨V.heap.size, 0, none⟩ 1 1 (flLn [x]) (by rw [flLn_length]; rfl) (hx.allcells rfl (by decide)) (flLn_one [x]) (by unfold maxLen; omega) (by omega) (Nat.le_trans h.le hbl.size)
  obtain ⟨a5, c5, hv5, _⟩ := own_lns (T := L ++ [x]) (by rw [flLn_append]; exact e2)
  have hz : V.heap.size + 1 ≤ w'.heap.size := by have := e3.size; simpa using this
  have hk : ∀ j, j < V.heap.size → vo.ownBlock ≠ some j → w'.heap[j]? = V.heap[j]? := fun j hj hne => (e3.block j (by simp; omega) (fun e => hne e.symm)).trans (hbl.block j hj)
  have hbo := h1.lt _ h3
  have hvo : vo.ownBlock ≠ some bo := fun e => by
    obtain ⟨_, _, cs, hcs⟩ := lns_own h6 e
    rw [h5] at hcs
    cases hcs
  have hb5 := (hk bo hbo hvo).trans h5
  have hvn : v'.ownBlock ≠ some bo := fun e => by
    rcases e4 with e4 | e4
    · rw [e4] at e; exact hvo e
    · rw [e4] at e
      simp at e
      omega
  have hz2' : (w'.setCell ⟨bo, 0, none⟩ v').heap.size = w'.heap.size := by simp
  have hk2 : ∀ j, j < V.heap.size → vo.ownBlock ≠ some j → j ≠ bo → (w'.setCell ⟨bo, 0, none⟩ v').heap[j]? = V.heap[j]? := fun j hj h hne => (Below.heap_setCell _ _ _ j (by simpa using hne)).trans (hk j hj h)
  have hsm : Sm V w' := Sm.trans (Sm.b hbl) (Sm.g e3)
  have hsm2 : Sm V (w'.setCell ⟨bo, 0, none⟩ v') := hsm.trans ⟨rfl, rfl, rfl⟩
  have hkP : ∀ j, P j → (w'.setCell ⟨bo, 0, none⟩ v').heap[j]? = V.heap[j]? := fun j hj => hk2 j (h.lt j hj) (h2 j hj).2.2 (h2 j hj).2.1
  have he1 := e1
  rw [hv5] at he1
  have hUI : UI P t l mv bt bo bx bd n0 (L ++ [x]) (w'.setCell ⟨bo, 0, none⟩ v') := by
    refine ⟨⟨v', fun j => Q j ∨ (V.heap.size ≤ j ∧ j < w'.heap.size), ?_, fun j hj => ?_, Or.inl h3, fun g hg => ?_, ?_, ?_⟩, h.pt, (hkP _ h.pt.1).trans h.cbt, (hkP _ h.pt.2.1).trans h.cbx, (hkP _ h.pt.2.2).trans h.cbd, by rw [hz2']; have := h.le; omega⟩
    · refine h1.turn (by rw [hz2']; omega) (fun j hj hq => ?_) (fun j hj => by rw [hz2']; exact hj)
      exact hk2 j hj (fun e => hq (h4 j e)) (fun e => hq (by rw [e]; exact h3))
    · refine ⟨Or.inl (h2 j hj).1, (h2 j hj).2.1, fun e => ?_⟩
      rcases e4 with e4 | e4
      · rw [e4] at e; exact (h2 j hj).2.2 e
      · rw [e4] at e
        have := h.lt j hj
        simp at e
        omega
    · rcases e4 with e4 | e4
      · rw [e4] at hg; exact Or.inl (h4 g hg)
      · have hlt := (lns_own e2 hg).2.1
        rw [e4] at hg
        simp at hg
        exact Or.inr ⟨by omega, hlt⟩
    · have := set_heap hb5 0 v'
      simpa using this
    · rw [List.length_append, flLn_append]
      refine e2.kept (row := some bo) (grownBy_setCell _ bo 0 _) ?_
      exact Or.inr (fun e => hvn e)
  have hKP : KP P V (w'.setCell ⟨bo, 0, none⟩ v') := ⟨by rw [hz2']; omega, hkP, hsm2⟩
  rw [hv5] at hUI hKP
  exact ⟨a5, _, c5, w', he1, by simp [World.cell?, hb5], Lib.frozen_of_heap hb5 0, hUI, hKP, ⟨by omega, fun j hj => hk j (h.lt j hj) (h2 j hj).2.2, hsm⟩⟩
end

section
set_option linter.unusedVariables false
set_option linter.unusedSimpArgs false
open Go.RowKit Go.Shelf

/-- The lines of the first so many kids. -/
def olch (S : List Sp) (σ : Dt → List UInt8) (f d : Nat) (K : List Dt) : List Ln := (K.flatMap (fun b => (b, d, σ b) :: undF S σ f b (d + 1))).map undLn

theorem olch_snoc (S : List Sp) (σ : Dt → List UInt8) (f d : Nat) (K : List Dt) (b : Dt) : olch S σ f d (K ++ [b]) = olch S σ f d K ++ [⟨b, d, σ b⟩] ++ (undF S σ f b (d + 1)).map undLn := by
  unfold olch
  rw [List.flatMap_append, List.map_append, List.append_assoc]
  simp [undLn]

theorem olch_len (S : List Sp) (σ : Dt → List UInt8) (f d : Nat) (p : Dt) (k : Nat) : (olch S σ f d ((kidD S p).take k)).length ≤ (undF S σ (f + 1) p d).length := by
  unfold olch
  rw [List.length_map]
  show _ ≤ ((kidD S p).flatMap _).length
  conv => rhs; rw [← List.take_append_drop k (kidD S p), List.flatMap_append, List.length_append]
  omega

theorem olch_step (S : List Sp) (σ : Dt → List UInt8) (f d : Nat) (p : Dt) (k : Nat) (hk : k < (kidD S p).length) : (olch S σ f d ((kidD S p).take k)).length + 1 + (undF S σ f ((kidD S p)[k]) (d + 1)).length ≤ (undF S σ (f + 1) p d).length := by
  have h := olch_len S σ f d p (k + 1)
  rw [List.take_succ_eq_append_getElem hk, olch_snoc, List.length_append, List.length_append, List.length_map] at h
  simpa using h

theorem oladd_block (ad : Addr) (j : Nat) : (ad.add j).block = ad.block := by unfold Addr.add; split <;> rfl

theorem olps_kept {w w' : World} {a : Option Addr} {n c : Nat} {L : List Dt} (h : PS w a n c L) (hb : ∀ ad, a = some ad → w'.heap[ad.block]? = w.heap[ad.block]?) : PS w' a n c L :=
  ⟨h.len, h.cap, h.max, h.nil, fun ad ha j u hj => (World.cell?_of_block (by rw [oladd_block]; exact hb ad ha)).trans (h.cells ad ha j u hj)⟩

theorem olappend_step {P : Program} {ops : Array Oper} {o : Oper} {a : Act} {w : World} {K : Act → World → Prop} {Q : Exit → Act → World → Prop} (s x : Operand) (t : TypeId) (v u v' : Value) (w' : World)
    (hgd : o.guard = none) (hop : o.op = Op.call { callee := Callee.builtin Builtin.append, args := #[s, x], argTypes := #[t, t] }) (hs : a.eval s = v) (hx : a.eval x = u)
    (hrun : (Builtin.append_ #[t, t] o.type #[v, u]).run P w = .ok v' w') (hK : K (a.put o.dst v') w') :
    if Region.wanted o (yielded ops a.tmps) = true then Oper.wp P o a w K Q else K (a.put o.dst undef) w := by
  simp only [Region.wanted, hgd, if_true]
  unfold Oper.wp
  simp [execOp, hop, resolve, invoke, builtin, hs, hx, hrun, Result.andThen, Oper.upon]
  exact hK

/-- What a line's coming wants, ahead of a call that makes new memory alone. -/
theorem UI.line {P : Nat → Prop} {t : Nat} {l : List Mv} {mv : Value} {bt bo bx bd n0 : Nat} {L : List Ln} {V : World} (h : UI P t l mv bt bo bx bd n0 L V) (hn : L.length ≤ 1000000) : ∃ vo, V.cell? ⟨bo, 0, none⟩ = some vo ∧ ∀ V', Below V.heap.size V V' → V'.cell? ⟨bo, 0, none⟩ = some vo ∧ ∀ x : Ln,
    (V'.alloc (.cells x.cells.toArray 54)).cell? ⟨bo, 0, none⟩ = some vo ∧ KP P V' (V'.alloc (.cells x.cells.toArray 54)) ∧ ∃ a5 n5 c5 w', (Builtin.append_ #[43, 43] 43 #[vo, .slice (some ⟨V'.heap.size, 0, none⟩) 1 1]).run Tryz.prog (V'.alloc (.cells x.cells.toArray 54)) = .ok (.slice a5 n5 c5) w' ∧
      w'.cell? ⟨bo, 0, none⟩ = some vo ∧ w'.frozen? ⟨bo, 0, none⟩ = false ∧ UI P t l mv bt bo bx bd n0 (L ++ [x]) (w'.setCell ⟨bo, 0, none⟩ (.slice a5 n5 c5)) ∧ KP P V' (w'.setCell ⟨bo, 0, none⟩ (.slice a5 n5 c5)) ∧ KP P V' w' := by
  obtain ⟨vo, Q, h1, h2, h3, h4, h5, h6⟩ := h.row
  refine ⟨vo, by rw [Lib.cell_of_heap h5]; rfl, fun V' hb => ?_⟩
  have h5' := (hb.block bo (h1.lt _ h3)).trans h5
  have hU' : UI P t l mv bt bo bx bd n0 L V' := h.more hb (fun j hj => Or.inl hj) (fun j hj => hj)
  refine ⟨by rw [Lib.cell_of_heap h5']; rfl, fun x => ?_⟩
  have hba : Below V'.heap.size V' (V'.alloc (.cells x.cells.toArray 54)) := (Below.refl _ V').alloc (Nat.le_refl _) _
  have h5a := (hba.block bo (Array.getElem?_eq_some_iff.1 h5').1).trans h5'
  exact ⟨by rw [Lib.cell_of_heap h5a]; rfl, hU'.kept hba, hU'.app (h1.below hb) h2 h3 h4 h5' (lns_below h6 hb) x hn⟩

set_option maxRecDepth 100000 in
set_option maxHeartbeats 4000000 in
theorem down_any (t : Nat) (l : List Mv) (mv : Value) (bt bo bx bd n0 : Nat) (σ : Dt → List UInt8) (r : Dt → Nat) (hr : Tk (run l) r) (hdw : ∀ s ∈ run l, Dw s.b) : ∀ (f : Nat) (p : Dt) (d : Nat) (P : Nat → Prop) (L : List Ln) (V : World), bel (run l) r p < f → Dw p → d + f ≤ 100000 → UI P t l mv bt bo bx bd n0 L V → XP P V mv σ → L.length + (undF (run l) σ f p d).length ≤ 100000 →
    Calls Tryz.prog 40 #[dv p, .int .i64 d, .pointer (some ⟨bt, 0, none⟩), .pointer (some ⟨bo, 0, none⟩), .pointer (some ⟨bx, 0, none⟩), .pointer (some ⟨bd, 0, none⟩)] V fun e V' => e = .returned (.tuple #[]) ∧ UI P t l mv bt bo bx bd n0 (L ++ (undF (run l) σ f p d).map undLn) V' ∧ KP P V V' := by
  intro f
  induction f with
  | zero => intro p d P L V h; omega
  | succ f ih =>
    intro p d P L V hbl hp hdf hU hX hlen
    obtain ⟨p1, p2⟩ := p
    have mixed := mixed
    have hmxo : Tryz.prog.follows .mixedOrders = true := by kernel_rfl
    obtain ⟨K, hK⟩ : ∃ K, K = kidD (run l) (p1, p2) := ⟨_, rfl⟩
    obtain ⟨n, hn⟩ : ∃ n, n = K.length := ⟨_, rfl⟩
    obtain ⟨V0, hV0⟩ : ∃ V0, V0 = V.alloc (.cells #[.int .i64 p1, .int .i64 p2] 24) := ⟨_, rfl⟩
    have hB0 : Below V.heap.size V V0 := by rw [hV0]; exact (Below.refl _ V).alloc (Nat.le_refl _) _
    have hb0 : V0.heap[V.heap.size]? = some (.cells #[.int .i64 p1, .int .i64 p2] 24 (0, 0)) := by rw [hV0]; exact World.alloc_heap_new V _
    have hU0 : UI (fun j => P j ∨ j = V.heap.size) t l mv bt bo bx bd n0 L V0 := hU.more hB0 (fun j hj => hj.imp id (fun e => by subst e; exact ⟨Nat.le_refl _, by rw [hV0]; simp⟩)) (fun j hj => Or.inl hj)
    have hX0 : XP (fun j => P j ∨ j = V.heap.size) V0 mv σ := hX.next (hU.kept hB0) (fun j hj => Or.inl hj)
    have hKD := hU0.kids (p1, p2) hp
    rw [← hK, ← hn] at hKD
    have q0 : V0.cell? ⟨bt, 0, none⟩ = some (.pointer (some ⟨t, 0, none⟩)) := by rw [Lib.cell_of_heap hU0.cbt]; rfl
    have q1 : V0.cell? ⟨V.heap.size, 0, none⟩ = some (.int .i64 p1) := by rw [Lib.cell_of_heap hb0]; rfl
    have q2 : V0.cell? ⟨V.heap.size, 1, none⟩ = some (.int .i64 p2) := by rw [Lib.cell_of_heap hb0]; rfl
    have HV0 := hid hV0
    have HK0 := hid (hU.kept hB0)
    have HX0 := hid hX0
    have HP := hid hU.pt
    have HKE := hid hK
    have HN := hid hn
    have HLEN := hid hlen
    have hnl : n ≤ 100000 := by
      have h1 := olch_len (run l) σ f d (p1, p2) (kidD (run l) (p1, p2)).length
      rw [List.take_length] at h1
      have h2 : (kidD (run l) (p1, p2)).length ≤ (olch (run l) σ f d (kidD (run l) (p1, p2))).length := by
        unfold olch
        rw [List.length_map]
        generalize kidD (run l) (p1, p2) = K
        induction K with
        | nil => simp
        | cons b K ihK => rw [List.flatMap_cons, List.length_append, List.length_cons, List.length_cons]; omega
      rw [hn, hK]
      omega
    clear hV0 hU hB0 hb0 hU0 hX hX0 hK hn hlen
    show Calls Tryz.prog 40 #[.agg #[.int .i64 p1, .int .i64 p2], .int .i64 d, .pointer (some ⟨bt, 0, none⟩), .pointer (some ⟨bo, 0, none⟩), .pointer (some ⟨bx, 0, none⟩), .pointer (some ⟨bd, 0, none⟩)] V _
    go_enter Tryz.func40, Tryz.ntmps40
    go_upto_region 1 with fail
    rw [← HV0.out]
    go_wp2_with (go_at_call 41; refine hKD.mono ?_; rintro e V1 ⟨a, c, rfl, hps, hU1, hK1⟩)
    obtain ⟨P1, hP1⟩ : ∃ P1 : Nat → Prop, P1 = fun j => (P j ∨ j = V.heap.size) ∨ ∃ ad, a = some ad ∧ ad.block = j := ⟨_, rfl⟩
    rw [← hP1] at hU1
    have HPS := hid hps
    have HU1 := hid hU1
    have HX1 := hid (HX0.out.next hK1 (P' := P1) (fun j hj => by rw [hP1]; exact Or.inl hj))
    have HK1 := hid (HK0.out.trans (hK1.mono (fun j hj => Or.inl hj)))
    have HPA : Hid (∀ ad, a = some ad → P1 ad.block) := hid (fun ad h => by rw [hP1]; exact Or.inr ⟨ad, h, rfl⟩)
    have HPP : Hid (∀ j, P j → P1 j) := hid (fun j h => by rw [hP1]; exact Or.inl (Or.inl h))
    have HPB := hid hU1.pt
    clear hps hU1 hK1 hP1 hKD q0 q1 q2
    go_loopw [14] (fun i wr => ∃ k : Nat, k ≤ n ∧ i = .int .i64 k ∧ Hid (UI P1 t l mv bt bo bx bd n0 (L ++ olch (run l) σ f d (K.take k)) wr ∧ KP P1 V1 wr)) (fun i _ => n - (intOf i).toNat)
    case atStart => exact ⟨0, by omega, rfl, hid ⟨by rw [List.take_zero]; show UI P1 t l mv bt bo bx bd n0 (L ++ []) V1; rw [List.append_nil]; exact HU1.out, KP.refl _ _⟩⟩
    case round =>
      obtain ⟨k, hk, rfl, HR⟩ := hrel
      by_cases hlt : k < n
      · have hkK : k < K.length := by rw [← HN.out]; exact hlt
        obtain ⟨g, o, rfl, hg, hat⟩ := (olps_kept HPS.out (fun ad h => HR.out.2.keep _ (HPA.out ad h))).at (by omega)
        have hc := hat k hkK
        obtain ⟨b, hb⟩ : ∃ b, b = K[k] := ⟨_, rfl⟩
        rw [← hb] at hc
        have HTS : Hid (K.take (k + 1) = K.take k ++ [b]) := hid (by rw [hb]; exact List.take_succ_eq_append_getElem hkK)
        have hbk : b ∈ kidD (run l) (p1, p2) := by rw [hb, ← HKE.out]; exact List.getElem_mem hkK
        have HBD : Hid (bel (run l) r b < f ∧ Dw b) := hid ⟨by have := (kidD_bel hr hbk).1; omega, by
          obtain ⟨s, hs, e⟩ := List.mem_map.1 (kidD_bel hr hbk).2.2
          rw [← e]; exact hdw s hs⟩
        have HLS : Hid ((L ++ olch (run l) σ f d (K.take k) ++ [(⟨b, d, σ b⟩ : Ln)]).length + (undF (run l) σ f b (d + 1)).length ≤ 100000) := hid (by
          have h1 := olch_step (run l) σ f d (p1, p2) k (by rw [← HKE.out]; exact hkK)
          have h2 := HLEN.out
          have h3 : (kidD (run l) (p1, p2))[k]'(by rw [← HKE.out]; exact hkK) = b := by rw [hb]; congr 1; exact HKE.out.symm
          rw [h3, ← HKE.out] at h1
          rw [List.length_append, List.length_append, List.length_singleton]
          omega)
        have hLl : (L ++ olch (run l) σ f d (K.take k)).length ≤ 1000000 := by
          have := HLS.out
          rw [List.length_append] at this
          omega
        clear hat hb hkK hbk
        obtain ⟨b1, b2⟩ := b
        obtain ⟨c0, c1⟩ := hc
        go_upto_region 4 with fail
        obtain ⟨V2, hV2⟩ : ∃ V2, V2 = wr.alloc (.cells #[.int .i64 b1, .int .i64 b2] 24) := ⟨_, rfl⟩
        obtain ⟨q9, hq9⟩ : ∃ q9, q9 = wr.heap.size := ⟨_, rfl⟩
        have hB2 : Below wr.heap.size wr V2 := by rw [hV2]; exact (Below.refl _ wr).alloc (Nat.le_refl _) _
        have hb9 : V2.heap[q9]? = some (.cells #[.int .i64 b1, .int .i64 b2] 24 (0, 0)) := by rw [hV2, hq9]; exact World.alloc_heap_new wr _
        obtain ⟨P2, hP2⟩ : ∃ P2 : Nat → Prop, P2 = fun j => P1 j ∨ j = q9 := ⟨_, rfl⟩
        have hU2 : UI P2 t l mv bt bo bx bd n0 (L ++ olch (run l) σ f d (K.take k)) V2 := HR.out.1.more hB2 (fun j hj => by rw [hP2] at hj; exact hj.imp id (fun e => ⟨by omega, by rw [e, hq9, hV2]; simp⟩)) (fun j hj => by rw [hP2]; exact Or.inl hj)
        have hK2 : KP P1 wr V2 := HR.out.1.kept hB2
        have hX2 : XP P2 V2 mv σ := HX1.out.next (HR.out.2.trans hK2) (fun j hj => by rw [hP2]; exact Or.inl hj)
        obtain ⟨pv, hpv⟩ := hX2 (b1, b2) HBD.out.2
        obtain ⟨vo, co, hLN⟩ := hU2.line hLl
        have hVd : Below V2.heap.size V2 V2.drew := ((Far.refl V2).drewN 1).below
        have HS : Hid (∀ W, KP P2 V2 W → (W.cell? ⟨q9, 0, none⟩ = some (.int .i64 b1) ∧ W.cell? ⟨q9, 1, none⟩ = some (.int .i64 b2) ∧ W.cell? ⟨bx, 0, none⟩ = some mv ∧ (Instr.lookup 29 mv (.agg #[.int .i64 b1, .int .i64 b2]) false).run Tryz.prog W = .ok pv W)) := hid (fun W hW => by
          have h9 := (hW.keep q9 (by rw [hP2]; exact Or.inr rfl)).trans hb9
          have hx := (hW.keep bx hU2.pt.2.1).trans hU2.cbx
          exact ⟨by rw [Lib.cell_of_heap h9]; rfl, by rw [Lib.cell_of_heap h9]; rfl, by rw [Lib.cell_of_heap hx]; rfl, (hpv W hW).1⟩)
        have hS0 := HS.out V2.drew (hU2.kept hVd)
        have co0 : V2.drew.cell? ⟨bo, 0, none⟩ = some vo := (hLN _ hVd).1
        obtain ⟨tx, htx⟩ : ∃ tx, tx = σ (b1, b2) := ⟨_, rfl⟩
        have HSTR : Calls Tryz.prog 42 #[pv] V2.drew fun e V3 => e = .returned (.string ⟨tx.toArray⟩) ∧ (V3.cell? ⟨q9, 0, none⟩ = some (.int .i64 b1) ∧ V3.cell? ⟨q9, 1, none⟩ = some (.int .i64 b2) ∧ V3.cell? ⟨bx, 0, none⟩ = some mv ∧ (Instr.lookup 29 mv (.agg #[.int .i64 b1, .int .i64 b2]) false).run Tryz.prog V3 = .ok pv V3) ∧ V3.cell? ⟨bo, 0, none⟩ = some vo ∧
            ((V3.alloc (.cells #[.int .i64 b1, .int .i64 b2, .int .i64 d, .string ⟨tx.toArray⟩] 54)).cell? ⟨q9, 0, none⟩ = some (.int .i64 b1) ∧ (V3.alloc (.cells #[.int .i64 b1, .int .i64 b2, .int .i64 d, .string ⟨tx.toArray⟩] 54)).cell? ⟨q9, 1, none⟩ = some (.int .i64 b2) ∧ (V3.alloc (.cells #[.int .i64 b1, .int .i64 b2, .int .i64 d, .string ⟨tx.toArray⟩] 54)).cell? ⟨bx, 0, none⟩ = some mv ∧ (Instr.lookup 29 mv (.agg #[.int .i64 b1, .int .i64 b2]) false).run Tryz.prog (V3.alloc (.cells #[.int .i64 b1, .int .i64 b2, .int .i64 d, .string ⟨tx.toArray⟩] 54)) = .ok pv (V3.alloc (.cells #[.int .i64 b1, .int .i64 b2, .int .i64 d, .string ⟨tx.toArray⟩] 54))) ∧
            (V3.alloc (.cells #[.int .i64 b1, .int .i64 b2, .int .i64 d, .string ⟨tx.toArray⟩] 54)).cell? ⟨bo, 0, none⟩ = some vo ∧ ∃ a5 n5 c5 w5, (Builtin.append_ #[43, 43] 43 #[vo, .slice (some ⟨V3.heap.size, 0, none⟩) 1 1]).run Tryz.prog (V3.alloc (.cells #[.int .i64 b1, .int .i64 b2, .int .i64 d, .string ⟨tx.toArray⟩] 54)) = .ok (.slice a5 n5 c5) w5 ∧
            w5.cell? ⟨bo, 0, none⟩ = some vo ∧ w5.frozen? ⟨bo, 0, none⟩ = false ∧ (w5.cell? ⟨q9, 0, none⟩ = some (.int .i64 b1) ∧ w5.cell? ⟨q9, 1, none⟩ = some (.int .i64 b2) ∧ w5.cell? ⟨bx, 0, none⟩ = some mv ∧ (Instr.lookup 29 mv (.agg #[.int .i64 b1, .int .i64 b2]) false).run Tryz.prog w5 = .ok pv w5) ∧
            ((w5.setCell ⟨bo, 0, none⟩ (.slice a5 n5 c5)).cell? ⟨q9, 0, none⟩ = some (.int .i64 b1) ∧ (w5.setCell ⟨bo, 0, none⟩ (.slice a5 n5 c5)).cell? ⟨q9, 1, none⟩ = some (.int .i64 b2) ∧ (w5.setCell ⟨bo, 0, none⟩ (.slice a5 n5 c5)).cell? ⟨bx, 0, none⟩ = some mv ∧ (Instr.lookup 29 mv (.agg #[.int .i64 b1, .int .i64 b2]) false).run Tryz.prog (w5.setCell ⟨bo, 0, none⟩ (.slice a5 n5 c5)) = .ok pv (w5.setCell ⟨bo, 0, none⟩ (.slice a5 n5 c5))) ∧
            Hid (UI P2 t l mv bt bo bx bd n0 (L ++ olch (run l) σ f d (K.take k) ++ [(⟨(b1, b2), d, σ (b1, b2)⟩ : Ln)]) (w5.setCell ⟨bo, 0, none⟩ (.slice a5 n5 c5)) ∧ KP P2 V2 (w5.setCell ⟨bo, 0, none⟩ (.slice a5 n5 c5))) := by
          refine ((hpv V2.drew (hU2.kept hVd)).2).mono ?_
          rintro e V3 ⟨rfl, hb3⟩
          have hb23 : Below V2.heap.size V2 V3 := hVd.trans (hb3.mono hVd.size)
          have kp3 := hU2.kept hb23
          obtain ⟨m1, m2⟩ := hLN V3 hb23
          obtain ⟨m3, m4, a5, n5, c5, w5, m5, m6, m7, m8, m9, m10⟩ := m2 ⟨(b1, b2), d, σ (b1, b2)⟩
          rw [htx]
          exact ⟨rfl, HS.out V3 kp3, m1, HS.out _ (kp3.trans m4), m3, a5, n5, c5, w5, m5, m6, m7, HS.out _ (kp3.trans m10), HS.out _ (kp3.trans m9), hid ⟨m8, kp3.trans m9⟩⟩
        have HX2 := hid hX2
        have HK2 := hid hK2
        have HP2 := hid hP2
        have HQ9 := hid hq9
        rw [← hV2, ← hq9]
        clear hq9 hB2 hb9 hU2 hK2 hX2 hpv hLN hVd hV2 hP2 HS htx co
        refine wp_region_held_drew (S := fun w' => w'.cell? ⟨q9, 0, none⟩ = some (.int .i64 b1) ∧ w'.cell? ⟨q9, 1, none⟩ = some (.int .i64 b2) ∧ w'.cell? ⟨bx, 0, none⟩ = some mv ∧ (Instr.lookup 29 mv (.agg #[.int .i64 b1, .int .i64 b2]) false).run Tryz.prog w' = .ok pv w') hmxo hS0 ?_
        intro _
        refine wpAnyH_take (i := 1) (v := .agg #[.int .i64 b1, .int .i64 b2]) rfl (by kernel_rfl) (by kernel_rfl) (by kernel_rfl) (fun _ _ _ h => h) (Or.inl ⟨by kernel_rfl, fun w hSw => ?_⟩) hS0 ?_
        · obtain ⟨e1, e2, e3, e4⟩ := hSw; go_simp
        simp only [Act.put, List.getElem_toArray, List.getElem_cons_succ, List.getElem_cons_zero, List.setIfInBounds_toArray, List.set_cons_zero, List.set_cons_succ]
        refine wpAnyH_take (i := 2) (v := .int .i64 d) rfl (by kernel_rfl) (by kernel_rfl) (by kernel_rfl) (fun _ _ _ h => h) (Or.inl ⟨by kernel_rfl, fun w hSw => ?_⟩) hS0 ?_
        · obtain ⟨e1, e2, e3, e4⟩ := hSw; go_simp
        simp only [Act.put, List.getElem_toArray, List.getElem_cons_succ, List.getElem_cons_zero, List.setIfInBounds_toArray, List.set_cons_zero, List.set_cons_succ]
        refine wpAnyH_take (i := 3) (v := mv) rfl (by kernel_rfl) (by kernel_rfl) (by kernel_rfl) (fun _ _ _ h => h) (Or.inl ⟨by kernel_rfl, fun w hSw => ?_⟩) hS0 ?_
        · obtain ⟨e1, e2, e3, e4⟩ := hSw; go_simp
        simp only [Act.put, List.getElem_toArray, List.getElem_cons_succ, List.getElem_cons_zero, List.setIfInBounds_toArray, List.set_cons_zero, List.set_cons_succ]
        refine wpAnyH_take (i := 4) (v := .agg #[.int .i64 b1, .int .i64 b2]) rfl (by kernel_rfl) (by kernel_rfl) (by kernel_rfl) (fun _ _ _ h => h) (Or.inl ⟨by kernel_rfl, fun w hSw => ?_⟩) hS0 ?_
        · obtain ⟨e1, e2, e3, e4⟩ := hSw; go_simp
        simp only [Act.put, List.getElem_toArray, List.getElem_cons_succ, List.getElem_cons_zero, List.setIfInBounds_toArray, List.set_cons_zero, List.set_cons_succ]
        refine wpAnyH_take (i := 5) (v := pv) rfl (by kernel_rfl) (by kernel_rfl) (by kernel_rfl) (fun _ _ _ h => h) (Or.inl ⟨by kernel_rfl, fun w hSw => ?_⟩) hS0 ?_
        · obtain ⟨e1, e2, e3, e4⟩ := hSw; go_simp
        simp only [Act.put, List.getElem_toArray, List.getElem_cons_succ, List.getElem_cons_zero, List.setIfInBounds_toArray, List.set_cons_zero, List.set_cons_succ]
        refine wpAnyH_ready (rs := [0, 6]) (by kernel_rfl) (by simp) ?_
        refine AllReadyH.cons rfl (fun K hK => ?_) (AllReadyH.cons rfl (fun K hK => ?_) AllReadyH.nil)
        · go_simp
          refine hK.out _ _ hS0 (fun _ => ?_)
          clear hK K
          refine wpAnyH_ready (rs := [6]) (by kernel_rfl) (by simp) ?_
          refine AllReadyH.cons rfl (fun K hK => ?_) AllReadyH.nil
          go_simp
          refine HSTR.mono ?_
          rintro e V3 ⟨rfl, hS3, co3, HF3⟩
          refine hK.out _ _ hS3 (fun _ => ?_)
          clear hK K
          obtain ⟨hS4, co4, a5, n5, c5, w5, hrun, hc5, hf5, hS5, hS6, HF5⟩ := HF3
          refine wpAnyH_take (i := 7) (v := .agg #[.int .i64 b1, .int .i64 b2, .int .i64 d, .string ⟨tx.toArray⟩]) rfl (by kernel_rfl) (by kernel_rfl) (by kernel_rfl) (fun _ _ _ h => h) (Or.inl ⟨by kernel_rfl, fun w hSw => ?_⟩) hS3 ?_
          · obtain ⟨e1, e2, e3, e4⟩ := hSw; go_simp
          simp only [Act.put, List.getElem_toArray, List.getElem_cons_succ, List.getElem_cons_zero, List.setIfInBounds_toArray, List.set_cons_zero, List.set_cons_succ]
          refine wpAnyH_ready (rs := [8]) (by kernel_rfl) (by simp) ?_
          refine AllReadyH.cons rfl (fun K hK => ?_) AllReadyH.nil
          go_simp
          refine hK.out _ _ hS4 (fun _ => ?_)
          clear hK K
          refine wpAnyH_ready (rs := [9]) (by kernel_rfl) (by simp) ?_
          refine AllReadyH.cons rfl (fun K hK => ?_) AllReadyH.nil
          refine olappend_step _ _ 43 vo _ _ w5 rfl rfl rfl rfl hrun ?_
          refine hK.out _ _ hS5 (fun _ => ?_)
          clear hK K
          simp only [Act.put, List.getElem_toArray, List.getElem_cons_succ, List.getElem_cons_zero, List.setIfInBounds_toArray, List.set_cons_zero, List.set_cons_succ]
          refine wpAnyH_ready (rs := [10]) (by kernel_rfl) (by simp) ?_
          refine AllReadyH.cons rfl (fun K hK => ?_) AllReadyH.nil
          go_simp
          refine hK.out _ _ hS6 (fun _ => ?_)
          clear hK K
          refine wpAnyH_done (by kernel_rfl) ?_ _
          obtain ⟨hU5, hK5⟩ := HF5.out
          obtain ⟨V5, hV5⟩ : ∃ V5, V5 = w5.setCell ⟨bo, 0, none⟩ (.slice a5 n5 c5) := ⟨_, rfl⟩
          rw [← hV5] at hU5 hK5 hS6 ⊢
          clear hV5 hrun hc5 hf5 hS5 hS4 co4 hS3 co3 HF5 HSTR hS0 co0
          obtain ⟨s1, s2, _, _⟩ := hS6
          have s3 : V5.cell? ⟨bd, 0, none⟩ = some (.func (.func 40) #[] #[.pointer (some ⟨bt, 0, none⟩), .pointer (some ⟨bo, 0, none⟩), .pointer (some ⟨bx, 0, none⟩), .pointer (some ⟨bd, 0, none⟩)]) := by rw [Lib.cell_of_heap hU5.cbd]; rfl
          have HIH := hid (ih (b1, b2) (d + 1) P2 _ V5 HBD.out.1 HBD.out.2 (by omega) hU5 (HX2.out.next hK5 (fun _ h => h)) HLS.out)
          have HK5 := hid hK5
          clear hU5 hK5
          go_wp2_with (go_at_call 40; refine HIH.out.mono ?_; rintro e V6 ⟨rfl, hU6, hK6⟩)
          go_roundw
          case rel =>
            refine ⟨k + 1, by omega, by go_num, hid ⟨?_, ?_⟩⟩
            · rw [HTS.out, olch_snoc, ← List.append_assoc, ← List.append_assoc]
              exact hU6.mono (fun j hj => by rw [HP2.out]; exact Or.inl hj) HPB.out
            · refine HR.out.2.trans ((HK2.out.mono (fun j hj => hj)).trans (((HK5.out.trans hK6)).mono (fun j hj => by rw [HP2.out]; exact Or.inl hj)))
          case measure => simp [intOf]; omega
        · go_simp
          refine HSTR.mono ?_
          rintro e V3 ⟨rfl, hS3, co3, HF3⟩
          refine hK.out _ _ hS3 (fun _ => ?_)
          clear hK K
          obtain ⟨hS4, co4, a5, n5, c5, w5, hrun, hc5, hf5, hS5, hS6, HF5⟩ := HF3
          refine wpAnyH_take (i := 7) (v := .agg #[.int .i64 b1, .int .i64 b2, .int .i64 d, .string ⟨tx.toArray⟩]) rfl (by kernel_rfl) (by kernel_rfl) (by kernel_rfl) (fun _ _ _ h => h) (Or.inl ⟨by kernel_rfl, fun w hSw => ?_⟩) hS3 ?_
          · obtain ⟨e1, e2, e3, e4⟩ := hSw; go_simp
          simp only [Act.put, List.getElem_toArray, List.getElem_cons_succ, List.getElem_cons_zero, List.setIfInBounds_toArray, List.set_cons_zero, List.set_cons_succ]
          refine wpAnyH_ready (rs := [0, 8]) (by kernel_rfl) (by simp) ?_
          refine AllReadyH.cons rfl (fun K hK => ?_) (AllReadyH.cons rfl (fun K hK => ?_) AllReadyH.nil)
          · go_simp
            refine hK.out _ _ hS3 (fun _ => ?_)
            clear hK K
            refine wpAnyH_ready (rs := [8]) (by kernel_rfl) (by simp) ?_
            refine AllReadyH.cons rfl (fun K hK => ?_) AllReadyH.nil
            go_simp
            refine hK.out _ _ hS4 (fun _ => ?_)
            clear hK K
            refine wpAnyH_ready (rs := [9]) (by kernel_rfl) (by simp) ?_
            refine AllReadyH.cons rfl (fun K hK => ?_) AllReadyH.nil
            refine olappend_step _ _ 43 vo _ _ w5 rfl rfl rfl rfl hrun ?_
            refine hK.out _ _ hS5 (fun _ => ?_)
            clear hK K
            simp only [Act.put, List.getElem_toArray, List.getElem_cons_succ, List.getElem_cons_zero, List.setIfInBounds_toArray, List.set_cons_zero, List.set_cons_succ]
            refine wpAnyH_ready (rs := [10]) (by kernel_rfl) (by simp) ?_
            refine AllReadyH.cons rfl (fun K hK => ?_) AllReadyH.nil
            go_simp
            refine hK.out _ _ hS6 (fun _ => ?_)
            clear hK K
            refine wpAnyH_done (by kernel_rfl) ?_ _
            obtain ⟨hU5, hK5⟩ := HF5.out
            obtain ⟨V5, hV5⟩ : ∃ V5, V5 = w5.setCell ⟨bo, 0, none⟩ (.slice a5 n5 c5) := ⟨_, rfl⟩
            rw [← hV5] at hU5 hK5 hS6 ⊢
            clear hV5 hrun hc5 hf5 hS5 hS4 co4 hS3 co3 HF5 HSTR hS0 co0
            obtain ⟨s1, s2, _, _⟩ := hS6
            have s3 : V5.cell? ⟨bd, 0, none⟩ = some (.func (.func 40) #[] #[.pointer (some ⟨bt, 0, none⟩), .pointer (some ⟨bo, 0, none⟩), .pointer (some ⟨bx, 0, none⟩), .pointer (some ⟨bd, 0, none⟩)]) := by rw [Lib.cell_of_heap hU5.cbd]; rfl
            have HIH := hid (ih (b1, b2) (d + 1) P2 _ V5 HBD.out.1 HBD.out.2 (by omega) hU5 (HX2.out.next hK5 (fun _ h => h)) HLS.out)
            have HK5 := hid hK5
            clear hU5 hK5
            go_wp2_with (go_at_call 40; refine HIH.out.mono ?_; rintro e V6 ⟨rfl, hU6, hK6⟩)
            go_roundw
            case rel =>
              refine ⟨k + 1, by omega, by go_num, hid ⟨?_, ?_⟩⟩
              · rw [HTS.out, olch_snoc, ← List.append_assoc, ← List.append_assoc]
                exact hU6.mono (fun j hj => by rw [HP2.out]; exact Or.inl hj) HPB.out
              · refine HR.out.2.trans ((HK2.out.mono (fun j hj => hj)).trans (((HK5.out.trans hK6)).mono (fun j hj => by rw [HP2.out]; exact Or.inl hj)))
            case measure => simp [intOf]; omega
          · go_simp
            refine hK.out _ _ hS4 (fun _ => ?_)
            clear hK K
            refine wpAnyH_ready (rs := [0]) (by kernel_rfl) (by simp) ?_
            refine AllReadyH.cons rfl (fun K hK => ?_) AllReadyH.nil
            go_simp
            refine hK.out _ _ hS4 (fun _ => ?_)
            clear hK K
            refine wpAnyH_ready (rs := [9]) (by kernel_rfl) (by simp) ?_
            refine AllReadyH.cons rfl (fun K hK => ?_) AllReadyH.nil
            refine olappend_step _ _ 43 vo _ _ w5 rfl rfl rfl rfl hrun ?_
            refine hK.out _ _ hS5 (fun _ => ?_)
            clear hK K
            simp only [Act.put, List.getElem_toArray, List.getElem_cons_succ, List.getElem_cons_zero, List.setIfInBounds_toArray, List.set_cons_zero, List.set_cons_succ]
            refine wpAnyH_ready (rs := [10]) (by kernel_rfl) (by simp) ?_
            refine AllReadyH.cons rfl (fun K hK => ?_) AllReadyH.nil
            go_simp
            refine hK.out _ _ hS6 (fun _ => ?_)
            clear hK K
            refine wpAnyH_done (by kernel_rfl) ?_ _
            obtain ⟨hU5, hK5⟩ := HF5.out
            obtain ⟨V5, hV5⟩ : ∃ V5, V5 = w5.setCell ⟨bo, 0, none⟩ (.slice a5 n5 c5) := ⟨_, rfl⟩
            rw [← hV5] at hU5 hK5 hS6 ⊢
            clear hV5 hrun hc5 hf5 hS5 hS4 co4 hS3 co3 HF5 HSTR hS0 co0
            obtain ⟨s1, s2, _, _⟩ := hS6
            have s3 : V5.cell? ⟨bd, 0, none⟩ = some (.func (.func 40) #[] #[.pointer (some ⟨bt, 0, none⟩), .pointer (some ⟨bo, 0, none⟩), .pointer (some ⟨bx, 0, none⟩), .pointer (some ⟨bd, 0, none⟩)]) := by rw [Lib.cell_of_heap hU5.cbd]; rfl
            have HIH := hid (ih (b1, b2) (d + 1) P2 _ V5 HBD.out.1 HBD.out.2 (by omega) hU5 (HX2.out.next hK5 (fun _ h => h)) HLS.out)
            have HK5 := hid hK5
            clear hU5 hK5
            go_wp2_with (go_at_call 40; refine HIH.out.mono ?_; rintro e V6 ⟨rfl, hU6, hK6⟩)
            go_roundw
            case rel =>
              refine ⟨k + 1, by omega, by go_num, hid ⟨?_, ?_⟩⟩
              · rw [HTS.out, olch_snoc, ← List.append_assoc, ← List.append_assoc]
                exact hU6.mono (fun j hj => by rw [HP2.out]; exact Or.inl hj) HPB.out
              · refine HR.out.2.trans ((HK2.out.mono (fun j hj => hj)).trans (((HK5.out.trans hK6)).mono (fun j hj => by rw [HP2.out]; exact Or.inl hj)))
            case measure => simp [intOf]; omega
      · obtain rfl : k = n := by omega
        have HFIN : Hid (UI P t l mv bt bo bx bd n0 (L ++ (undF (run l) σ (f + 1) (p1, p2) d).map undLn) wr ∧ KP P V wr) := hid (by
          have h1 := HR.out.1
          rw [HN.out, List.take_length, HKE.out] at h1
          exact ⟨h1.mono HPP.out HP.out, HK1.out.trans (HR.out.2.mono HPP.out)⟩)
        go_wp2
        refine bodyPost_end (results_none rfl _ _ _) rfl ?_
        exact ⟨rfl, HFIN.out⟩
end

section
set_option linter.unusedVariables false
open Go.RowKit

/-- The moves that a tree has, behind these. -/
def tr (L : List Mv) : List Mv := L.foldl mvL []

theorem Lg.run_tk {l : List Mv} (h : Lg l) : ∃ r, Tk (run l) r := by
  have := h.tk l.length
  rwa [List.take_length] at this

theorem run_dw {l : List Mv} (h : ∀ m ∈ l, Dw m.id ∧ Dw m.block ∧ Dw m.parent) : ∀ s ∈ run l, Dw s.b ∧ Dw s.p := fun s hs => by
  obtain ⟨m, hm, rfl⟩ := run_mem hs
  exact ⟨(h m hm).2.1, (h m hm).2.2⟩
end
end Go.Proofs.YtnmdcdphpcpojaaGreatDoor
