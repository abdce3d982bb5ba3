/- A tree that is nil: Move, Took, the state. -/
import Derived.Test.YtplcohjpchfkkaaRMathB
import Derived.Test.YtplcohjpchfkkaaORChk1
namespace Go.Proofs.Ytplcohjpchfkkaa
section

/-- A block that is had; a character of a block that is had. -/
def isBlk (B : List Mop) (V : List Dt) (b : Dt) : Prop := ∃ y ∈ B, hasv V y.1.id = true ∧ y.1.kind = 3 ∧ y.1.bl0 = y.1.id0 ∧ y.1.bl1 = y.1.id1 ∧ y.1.id = b
def isChr (B : List Mop) (V : List Dt) (b0 b1 : Int) (d : Dt) : Prop := ∃ y ∈ B, hasv V y.1.id = true ∧ y.1.kind = 1 ∧ y.1.bl0 = b0 ∧ y.1.bl1 = b1 ∧ y.1.id = d

/-- What an operation does, of the ones that it has. -/
def KD (B : List Mop) (o : OpIn) (V : List Dt) : Prop :=
  (o.kind = 3 ∧ ((o.bl0 = o.id0 ∧ o.bl1 = o.id1) ∨ isBlk B V (o.bl0, o.bl1)) ∧ (o.par = (0, -1) ∨ o.par = (0, -2) ∨ isBlk B V o.par)) ∨
  (o.kind = 1 ∧ isBlk B V (o.bl0, o.bl1) ∧ ((o.at0 = 0 ∧ o.at1 = 0 ∧ o.side = 1) ∨ (isChr B V o.bl0 o.bl1 (o.at0, o.at1) ∧ (o.side = 0 ∨ o.side = 1)))) ∨
  (o.kind = 2 ∧ isBlk B V (o.bl0, o.bl1) ∧ isChr B V o.bl0 o.bl1 (o.at0, o.at1))

/-- A story. -/
structure St (A : List Mop) : Prop where
  cl : Cl A
  lat : ∀ x ∈ A, ∀ y ∈ A, hasv x.2 y.1.id = true → y.1.time < x.1.time
  closed : ∀ x ∈ A, ∀ y ∈ A, hasv x.2 y.1.id = true → belv y.2 x.2 = true
  kind : ∀ (i : Nat) (x : Mop), A[i]? = some x → KD (A.take i) x.1 x.2

theorem St.nil : St [] := ⟨⟨by simp, by simp, by simp⟩, by simp, by simp, by simp⟩

/-- What an actor knows. -/
structure KN (A : List Mop) (V : List Dt) (act : Int) : Prop where
  vm : VM V
  ids : ∀ d ∈ V, ∃ y ∈ A, y.1.id = d
  closed : ∀ y ∈ A, hasv V y.1.id = true → belv y.2 V = true
  own : ∀ y ∈ A, y.1.id0 = act → y.1.id1 ≤ gt V act

theorem KN.nil (act : Int) : KN [] [] act := ⟨vm_nil, by simp, by simp, by simp⟩

theorem hasv_iff {V : List Dt} {d : Dt} : hasv V d = true ↔ mayd d = true ∧ d.2 ≤ gt V d.1 := by
  unfold hasv
  simp

theorem belv_gt {A B : List Dt} (hA : VM A) (hB : VM B) (h : belv A B = true) (a : Int) : gt A a ≤ gt B a := (belv_iff hA hB).1 h a

theorem vwith_ge {V : List Dt} (hV : VM V) {d : Dt} (hd : mayd d = true) (a : Int) : gt V a ≤ gt (vwith V d) a := by
  rw [vwith_gt hV hd]
  split <;> omega

theorem belv_with {D V : List Dt} (hD : VM D) (hV : VM V) {d : Dt} (hd : mayd d = true) (h : belv D V = true) : belv D (vwith V d) = true := by
  rw [belv_iff hD (vwith_vm hV d)]
  intro a
  exact Int.le_trans (belv_gt hD hV h a) (vwith_ge hV hd a)

theorem vwith_mem {V : List Dt} (hV : VM V) {d e : Dt} (hd : mayd d = true) (he : e ∈ vwith V d) : e ∈ V ∨ e = d := by
  have hW := vwith_vm hV d
  have hg := gt_some hW.ac he
  have h1 := ((mayd_iff e).1 (hW.may e he)).2.2.1
  rw [vwith_gt hV hd] at hg
  split at hg
  · rename_i h0
    by_cases hc : gt V e.1 ≤ d.2
    · right
      exact Prod.ext h0.symm (by omega)
    · left
      have := (hV.gt_pos (a := e.1) (by have := ((mayd_iff d).1 hd).2.2.1; omega)).2
      have e2 : (e.1, gt V e.1) = e := Prod.ext rfl (by show gt V e.1 = e.2; omega)
      rw [e2] at this
      exact this
  · left
    have := (hV.gt_pos (a := e.1) (by omega)).2
    have e2 : (e.1, gt V e.1) = e := Prod.ext rfl hg
    rw [e2] at this
    exact this

/-- With one more of the operations, whose Deps are had. -/
theorem KN.more {A : List Mop} {V : List Dt} {act : Int} (hA : Cl A) (h : KN A V act) {y : Mop} (hy : y ∈ A) (hb : belv y.2 V = true) : KN A (vwith V y.1.id) act := by
  obtain ⟨hm, hv, hg, _⟩ := chk_head (hA.may y hy)
  refine ⟨vwith_vm h.vm _, fun d hd => ?_, fun z hz hh => ?_, fun z hz h0 => Int.le_trans (h.own z hz h0) (vwith_ge h.vm hm act)⟩
  · rcases vwith_mem h.vm hm hd with hd | rfl
    · exact h.ids d hd
    · exact ⟨y, hy, rfl⟩
  · obtain ⟨hmz, hvz, hgz, _⟩ := chk_head (hA.may z hz)
    have hz1 : 1 ≤ z.1.id1 := ((mayd_iff _).1 hmz).2.2.1
    have hle := (hasv_iff.1 hh).2
    rw [vwith_gt h.vm hm] at hle
    have key : z.1.id1 ≤ gt V z.1.id0 → belv z.2 (vwith V y.1.id) = true := fun h2 => belv_with hvz h.vm hm (h.closed z hz (hasv_iff.2 ⟨hmz, h2⟩))
    by_cases e0 : y.1.id0 = z.1.id0
    · have hle' : z.1.id1 ≤ max (gt V z.1.id0) y.1.id1 := by
        have e0' : y.1.id.1 = z.1.id.1 := e0
        rw [if_pos e0'] at hle
        exact hle
      by_cases hc : z.1.id1 ≤ gt V z.1.id0
      · exact key hc
      · by_cases e1 : z.1.id1 = y.1.id1
        · obtain ⟨i, hi⟩ := List.mem_iff_getElem?.1 hy
          obtain ⟨j, hj⟩ := List.mem_iff_getElem?.1 hz
          have hij := ids_inj hA.ids hi hj (by show (y.1.id0, y.1.id1) = (z.1.id0, z.1.id1); rw [e0, e1])
          subst hij
          rw [hi] at hj
          cases hj
          exact belv_with hv h.vm hm hb
        · refine key ?_
          have h3 := belv_gt hv h.vm hb z.1.id0
          rw [← e0, hg] at h3
          rw [← e0]
          omega
    · have e0' : ¬ y.1.id.1 = z.1.id.1 := e0
      rw [if_neg e0'] at hle
      exact key hle

/-- One more operation of an actor that knows V. -/
structure New (A : List Mop) (V : List Dt) (act : Int) (o : OpIn) : Prop where
  chk : chk o V = true
  id0 : o.id0 = act
  id1 : o.id1 = gt V act + 1
  time : ∀ y ∈ A, hasv V y.1.id = true → y.1.time < o.time
  kind : KD A o V

theorem New.fresh {A : List Mop} {V : List Dt} {act : Int} {o : OpIn} (h : KN A V act) (hn : New A V act o) : ∀ y ∈ A, y.1.id ≠ o.id := fun y hy e => by
  have e0 : y.1.id0 = o.id0 := congrArg Prod.fst e
  have e1 : y.1.id1 = o.id1 := congrArg Prod.snd e
  have := h.own y hy (by rw [e0, hn.id0])
  have := hn.id1
  omega

/-- None of the others has it. -/
theorem New.none_has {A : List Mop} {V U : List Dt} {act : Int} {o : OpIn} (h : KN A V act) (hn : New A V act o) (hU : VM U) (hi : ∀ d ∈ U, ∃ y ∈ A, y.1.id = d) : hasv U o.id = false := by
  cases e : hasv U o.id with
  | false => rfl
  | true =>
    obtain ⟨hm, hl⟩ := hasv_iff.1 e
    have h1 : 1 ≤ o.id1 := ((mayd_iff _).1 hm).2.2.1
    have hl' : o.id1 ≤ gt U o.id0 := hl
    obtain ⟨y, hy, hid⟩ := hi _ (hU.gt_pos (a := o.id0) (by omega)).2
    have e0 : y.1.id0 = o.id0 := congrArg Prod.fst hid
    have e1 : y.1.id1 = gt U o.id0 := congrArg Prod.snd hid
    have := h.own y hy (by rw [e0, hn.id0])
    have := hn.id1
    omega

theorem isBlk.mono {B B' : List Mop} {V : List Dt} {b : Dt} (h : isBlk B V b) (hs : ∀ y ∈ B, y ∈ B') : isBlk B' V b := by
  obtain ⟨y, hy, r⟩ := h
  exact ⟨y, hs y hy, r⟩

theorem Cl.deps {A : List Mop} (h : Cl A) {x : Mop} (hx : x ∈ A) : ∀ d ∈ x.2, ∃ y ∈ A, y.1.id = d := fun d hd => by
  obtain ⟨k, hk⟩ := List.mem_iff_getElem?.1 hx
  obtain ⟨j, y, _, hy, e⟩ := h.dep k x hk d hd
  exact ⟨y, List.mem_of_getElem? hy, e⟩

theorem St.snoc {A : List Mop} {V : List Dt} {act : Int} {o : OpIn} (hA : St A) (h : KN A V act) (hn : New A V act o) : St (A ++ [(o, V)]) := by
  have hfr := hn.fresh h
  have hself : hasv V o.id = false := hn.none_has h h.vm h.ids
  refine ⟨⟨fun x hx => ?_, fun k x hx d hd => ?_, ?_⟩, fun x hx y hy hh => ?_, fun x hx y hy hh => ?_, fun i x hx => ?_⟩
  · rcases List.mem_append.1 hx with hx | hx
    · exact hA.cl.may x hx
    · simp at hx; rw [hx]; exact hn.chk
  · by_cases hk : k < A.length
    · rw [List.getElem?_append_left hk] at hx
      obtain ⟨j, y, hj, hy, e⟩ := hA.cl.dep k x hx d hd
      exact ⟨j, y, hj, by rw [List.getElem?_append_left (by omega)]; exact hy, e⟩
    · rw [List.getElem?_append_right (by omega)] at hx
      have hkk : k - A.length = 0 := by
        have := (List.getElem?_eq_some_iff.1 hx).1
        simp at this
        omega
      rw [hkk] at hx
      simp at hx
      subst hx
      obtain ⟨y, hy, e⟩ := h.ids d hd
      obtain ⟨j, hj⟩ := List.mem_iff_getElem?.1 hy
      have hjl := (List.getElem?_eq_some_iff.1 hj).1
      exact ⟨j, y, by omega, by rw [List.getElem?_append_left hjl]; exact hj, e⟩
  · rw [List.map_append, List.nodup_append]
    refine ⟨hA.cl.ids, by simp, fun a ha b hb e => ?_⟩
    obtain ⟨y, hy, rfl⟩ := List.mem_map.1 ha
    simp at hb
    exact hfr y hy (by rw [e, hb])
  · rcases List.mem_append.1 hx with hx | hx <;> rcases List.mem_append.1 hy with hy | hy
    · exact hA.lat x hx y hy hh
    · simp at hy
      rw [hy, hn.none_has h (chk_head (hA.cl.may x hx)).2.1 (hA.cl.deps hx)] at hh
      cases hh
    · simp at hx
      rw [hx] at hh ⊢
      exact hn.time y hy hh
    · simp at hx hy
      rw [hx, hy, hself] at hh
      cases hh
  · rcases List.mem_append.1 hx with hx | hx <;> rcases List.mem_append.1 hy with hy | hy
    · exact hA.closed x hx y hy hh
    · simp at hy
      rw [hy, hn.none_has h (chk_head (hA.cl.may x hx)).2.1 (hA.cl.deps hx)] at hh
      cases hh
    · simp at hx
      rw [hx] at hh ⊢
      exact h.closed y hy hh
    · simp at hx hy
      rw [hx, hy, hself] at hh
      cases hh
  · by_cases hk : i < A.length
    · rw [List.getElem?_append_left hk] at hx
      rw [List.take_append_of_le_length (by omega)]
      exact hA.kind i x hx
    · rw [List.getElem?_append_right (by omega)] at hx
      have hkk : i - A.length = 0 := by
        have := (List.getElem?_eq_some_iff.1 hx).1
        simp at this
        omega
      rw [hkk] at hx
      simp at hx
      subst hx
      have : i = A.length := by omega
      subst this
      rw [List.take_append_of_le_length (Nat.le_refl _), List.take_length]
      exact hn.kind

theorem belv_refl {V : List Dt} (h : VM V) : belv V V = true := (belv_iff h h).2 fun _ => Int.le_refl _

/-- What the one who made it knows. -/
theorem KN.snoc {A : List Mop} {V : List Dt} {act : Int} {o : OpIn} (hA : Cl A) (h : KN A V act) (hn : New A V act o) : KN (A ++ [(o, V)]) (vwith V o.id) act := by
  have hm := (chk_head hn.chk).1
  refine ⟨vwith_vm h.vm _, fun d hd => ?_, fun z hz hh => ?_, fun z hz h0 => ?_⟩
  · rcases vwith_mem h.vm hm hd with hd | rfl
    · obtain ⟨y, hy, e⟩ := h.ids d hd
      exact ⟨y, List.mem_append_left _ hy, e⟩
    · exact ⟨(o, V), by simp, rfl⟩
  · rcases List.mem_append.1 hz with hz | hz
    · obtain ⟨hmz, hvz, _, _⟩ := chk_head (hA.may z hz)
      refine belv_with hvz h.vm hm (h.closed z hz (hasv_iff.2 ⟨hmz, ?_⟩))
      have hle := (hasv_iff.1 hh).2
      rw [vwith_gt h.vm hm] at hle
      show z.1.id1 ≤ gt V z.1.id0
      by_cases e0 : o.id0 = z.1.id0
      · have := h.own z hz (by rw [← e0, hn.id0])
        rw [← e0, hn.id0]
        exact this
      · have e0' : ¬ o.id.1 = z.1.id.1 := e0
        rw [if_neg e0'] at hle
        exact hle
    · simp at hz
      rw [hz]
      exact belv_with h.vm h.vm hm (belv_refl h.vm)
  · rcases List.mem_append.1 hz with hz | hz
    · exact Int.le_trans (h.own z hz h0) (vwith_ge h.vm hm act)
    · simp at hz
      rw [hz, vwith_gt h.vm hm]
      have : o.id.1 = act := hn.id0
      rw [if_pos this]
      show o.id1 ≤ max _ o.id1
      omega

/-- What another one knows. -/
theorem KN.other {A : List Mop} {V U : List Dt} {act act' : Int} {o : OpIn} (h : KN A V act) (hn : New A V act o) (hU : KN A U act') (hne : act' ≠ act) : KN (A ++ [(o, V)]) U act' := by
  refine ⟨hU.vm, fun d hd => ?_, fun z hz hh => ?_, fun z hz h0 => ?_⟩
  · obtain ⟨y, hy, e⟩ := hU.ids d hd
    exact ⟨y, List.mem_append_left _ hy, e⟩
  · rcases List.mem_append.1 hz with hz | hz
    · exact hU.closed z hz hh
    · simp at hz
      rw [hz, hn.none_has h hU.vm hU.ids] at hh
      cases hh
  · rcases List.mem_append.1 hz with hz | hz
    · exact hU.own z hz h0
    · simp at hz
      rw [hz] at h0
      exact absurd (h0.symm.trans hn.id0) hne
end

section
set_option linter.unusedVariables false
open Go.RowKit

/-- An operation as a move. -/
def mvO (x : Mop) : Mv := ⟨x.1.id, x.1.time, (x.1.bl0, x.1.bl1), x.1.par, x.1.key⟩

/-- The moves among operations. -/
def mvsA (A : List Mop) : List Mv := (A.filter (fun x => decide (x.1.kind = 3))).map mvO

theorem mvsA_append (A B : List Mop) : mvsA (A ++ B) = mvsA A ++ mvsA B := by unfold mvsA; rw [List.filter_append, List.map_append]

theorem mvsA_mem {A : List Mop} {m : Mv} : m ∈ mvsA A ↔ ∃ x ∈ A, x.1.kind = 3 ∧ mvO x = m := by
  unfold mvsA
  rw [List.mem_map]
  constructor
  · rintro ⟨x, hx, e⟩
    obtain ⟨h1, h2⟩ := List.mem_filter.1 hx
    exact ⟨x, h1, by simpa using h2, e⟩
  · rintro ⟨x, hx, h2, e⟩
    exact ⟨x, List.mem_filter.2 ⟨hx, by simpa using h2⟩, e⟩

theorem mvsA_ids {A : List Mop} (h : (A.map (fun x => x.1.id)).Nodup) : ((mvsA A).map Mv.id).Nodup := by
  unfold mvsA
  rw [List.map_map]
  exact (List.Sublist.map _ List.filter_sublist).nodup h

theorem mayd_mayT {d : Dt} (h : mayd d = true) : mayT d = true := by
  have := (mayd_iff d).1 h
  have h0 : d ≠ (0, 0) := fun e => by rw [e] at this; simp at this
  have h1 : d ≠ (0, -1) := fun e => by rw [e] at this; simp at this
  have h2 : d ≠ (0, -2) := fun e => by rw [e] at this; simp at this
  unfold mayT
  simp [h0, h1, h2]

theorem St.blk {A : List Mop} (h : St A) {i : Nat} {x : Mop} (hx : A[i]? = some x) {b : Dt} (hb : isBlk (A.take i) x.2 b) (k : Nat) (hk : i ≤ k) : ∃ y ∈ mvsA (A.take k), y.id = b ∧ y.block = y.id ∧ y.time < x.1.time := by
  obtain ⟨y, hy, h1, h2, h3, h4, h5⟩ := hb
  have hyA : y ∈ A := List.mem_of_mem_take hy
  refine ⟨mvO y, mvsA_mem.2 ⟨y, ?_, h2, rfl⟩, h5, ?_, h.lat x (List.mem_of_getElem? hx) y hyA h1⟩
  · have : A.take i <+: A.take k := by
      rw [List.prefix_take_iff]
      exact ⟨List.take_prefix _ _, by rw [List.length_take]; omega⟩
    exact this.subset hy
  · show ((y.1.bl0, y.1.bl1) : Dt) = (y.1.id0, y.1.id1)
    rw [h3, h4]

theorem St.move {A : List Mop} (h : St A) {i : Nat} {x : Mop} (hx : A[i]? = some x) (hk : x.1.kind = 3) : ((x.1.bl0 = x.1.id0 ∧ x.1.bl1 = x.1.id1) ∨ isBlk (A.take i) x.2 (x.1.bl0, x.1.bl1)) ∧ (x.1.par = (0, -1) ∨ x.1.par = (0, -2) ∨ isBlk (A.take i) x.2 x.1.par) := by
  rcases h.kind i x hx with ⟨_, h1⟩ | ⟨h1, _⟩ | ⟨h1, _⟩
  · exact h1
  · omega
  · omega

theorem St.grow {A : List Mop} (h : St A) (k : Nat) : Grow (mvsA (A.take k)) := by
  refine ⟨fun m hm => ?_, fun m hm => ?_⟩
  · obtain ⟨x, hx, h3, rfl⟩ := mvsA_mem.1 hm
    obtain ⟨i, hi, hx'⟩ := mem_take_at.1 hx
    rcases (h.move hx' h3).2 with e | e | e
    · exact Or.inl (Or.inl e)
    · exact Or.inl (Or.inr e)
    · exact Or.inr (h.blk hx' e k (by omega))
  · obtain ⟨x, hx, h3, rfl⟩ := mvsA_mem.1 hm
    obtain ⟨i, hi, hx'⟩ := mem_take_at.1 hx
    rcases (h.move hx' h3).1 with e | e
    · refine Or.inl ?_
      show ((x.1.bl0, x.1.bl1) : Dt) = (x.1.id0, x.1.id1)
      rw [e.1, e.2]
    · exact Or.inr (h.blk hx' e k (by omega))

theorem St.mays {A : List Mop} (h : St A) {x : Mop} (hx : x ∈ A) (hk : x.1.kind = 3) : mayT (mvO x).id = true ∧ mayT (mvO x).block = true := by
  obtain ⟨i, hi⟩ := List.mem_iff_getElem?.1 hx
  have h1 := mayd_mayT (chk_head (h.cl.may x hx)).1
  refine ⟨h1, ?_⟩
  rcases (h.move hi hk).1 with e | ⟨y, hy, _, _, _, _, e⟩
  · show mayT (x.1.bl0, x.1.bl1) = true
    rw [e.1, e.2]
    exact h1
  · show mayT (x.1.bl0, x.1.bl1) = true
    rw [← e]
    exact mayd_mayT (chk_head (h.cl.may y (List.mem_of_mem_take hy))).1

/-- How many are made. -/
def madeN (A : List Mop) : Nat := ((mvsA A).filter (fun m => decide (m.block = m.id))).length

theorem madeN_le (A : List Mop) : madeN A ≤ A.length := by
  unfold madeN
  refine Nat.le_trans (List.length_filter_le _ _) ?_
  unfold mvsA
  rw [List.length_map]
  exact List.length_filter_le _ _

theorem St.count {A : List Mop} (h : St A) (k : Nat) : (blks (tr (mvsA (A.take k)))).length = madeN (A.take k) := by
  have hn : ((A.take k).map (fun x => x.1.id)).Nodup := (List.Sublist.map _ (List.take_sublist _ _)).nodup h.cl.ids
  exact tr_count (mvsA_ids hn) (fun m hm => by
    obtain ⟨x, hx, h3, rfl⟩ := mvsA_mem.1 hm
    exact h.mays (List.mem_of_mem_take hx) h3) (h.grow k)

theorem take_nextA {A : List Mop} {k : Nat} {x : Mop} (hx : A[k]? = some x) : A.take (k + 1) = A.take k ++ [x] := by
  rw [List.take_succ_eq_append_getElem (List.getElem?_eq_some_iff.1 hx).1, (List.getElem?_eq_some_iff.1 hx).2]

/-- One that is no move. -/
theorem story_else {A : List Mop} {k : Nat} {x : Mop} (hx : A[k]? = some x) (hk : x.1.kind ≠ 3) : mvsA (A.take (k + 1)) = mvsA (A.take k) ∧ madeN (A.take (k + 1)) = madeN (A.take k) := by
  have e : mvsA (A.take (k + 1)) = mvsA (A.take k) := by
    rw [take_nextA hx, mvsA_append]
    have : mvsA [x] = [] := by unfold mvsA; simp [hk]
    rw [this, List.append_nil]
  exact ⟨e, by unfold madeN; rw [e]⟩

/-- One more move. -/
theorem St.next {A : List Mop} (h : St A) {k : Nat} {x : Mop} (hx : A[k]? = some x) (hk : x.1.kind = 3) : tr (mvsA (A.take (k + 1))) = mvL (tr (mvsA (A.take k))) (mvO x) ∧ mvE (tr (mvsA (A.take k))) (mvO x) = 0 ∧ madeN (A.take (k + 1)) = madeN (A.take k) + (if x.1.bl0 = x.1.id0 ∧ x.1.bl1 = x.1.id1 then 1 else 0) := by
  have e : mvsA (A.take (k + 1)) = mvsA (A.take k) ++ [mvO x] := by
    rw [take_nextA hx, mvsA_append]
    have : mvsA [x] = [mvO x] := by unfold mvsA; simp [hk]
    rw [this]
  have hn : ((A.take (k + 1)).map (fun x => x.1.id)).Nodup := (List.Sublist.map _ (List.take_sublist _ _)).nodup h.cl.ids
  have hn2 := mvsA_ids hn
  rw [e] at hn2
  refine ⟨by rw [e, tr_snoc], tr_fresh hn2 (h.mays (List.mem_of_getElem? hx) hk), ?_⟩
  unfold madeN
  rw [e, List.filter_append, List.length_append]
  congr 1
  by_cases hb : x.1.bl0 = x.1.id0 ∧ x.1.bl1 = x.1.id1
  · rw [if_pos hb]
    have : decide ((mvO x).block = (mvO x).id) = true := decide_eq_true (by show ((x.1.bl0, x.1.bl1) : Dt) = (x.1.id0, x.1.id1); rw [hb.1, hb.2])
    rw [List.filter_cons_of_pos (p := fun m : Mv => decide (m.block = m.id)) this]
    rfl
  · rw [if_neg hb]
    have : ¬ decide ((mvO x).block = (mvO x).id) = true := fun hd => hb (by
      have e1 : ((x.1.bl0, x.1.bl1) : Dt) = (x.1.id0, x.1.id1) := of_decide_eq_true hd
      exact ⟨congrArg Prod.fst e1, congrArg Prod.snd e1⟩)
    rw [List.filter_cons_of_neg (p := fun m : Mv => decide (m.block = m.id)) this]
    rfl
end

section
set_option linter.unusedVariables false
set_option linter.unusedSimpArgs false
open Go.RowKit

set_option maxRecDepth 100000 in
set_option maxHeartbeats 2000000 in
theorem took_none (d : Dt) (w : World) : Tells 18 #[.pointer none, dv d] w (.bool false) := by
  obtain ⟨d1, d2⟩ := d
  go_enter Try.func18, Try.ntmps18
  go_wp2
  go_ret
  exact ⟨rfl, (Far.refl w).alloc _⟩

set_option maxRecDepth 100000 in
set_option maxHeartbeats 2000000 in
theorem now_none (w : World) : Calls Try.prog 39 #[.pointer none] w fun e w' => e = .returned (.pointer (some ⟨w.heap.size, 0, none⟩)) ∧ w' = w.alloc (.cells #[.map none, .map none] 66) := by
  go_enter Try.func39, Try.ntmps39
  go_wp2
  go_ret
  exact ⟨rfl, rfl⟩

set_option maxRecDepth 100000 in
set_option maxHeartbeats 2000000 in
theorem move_none (m : Mv) (w : World) : Calls Try.prog 12 #[.pointer none, dv m.id, .int .i64 m.time, dv m.block, dv m.parent, .string m.key] w fun e w' => e = .returned (.int .i64 1) ∧ Below w.heap.size w w' := by
  obtain ⟨⟨i1, i2⟩, tm, ⟨b1, b2⟩, ⟨p1, p2⟩, ky⟩ := m
  go_enter Try.func12, Try.ntmps12
  go_wp2
  go_ret
  exact ⟨rfl, (((Below.refl _ w).alloc (Nat.le_refl _) _).alloc (by simp) _).alloc (by simp; omega) _⟩

theorem state_none (W : World) : (W.alloc (.cells #[.map none, .map none] 66)).cell? ⟨W.heap.size, 0, none⟩ = some (.map none) ∧ (W.alloc (.cells #[.map none, .map none] 66)).cell? ⟨W.heap.size, 1, none⟩ = some (.map none) := by
  have e := World.alloc_heap_new W (.cells #[.map none, .map none] 66)
  simp only [World.cell?]
  rw [e]
  exact ⟨rfl, rfl⟩

set_option maxRecDepth 100000 in
set_option maxHeartbeats 2000000 in
theorem there_none (d : Dt) (hd : Dw d) (w : World) : Calls Try.prog 25 #[.pointer none, dv d] w fun e w' => e = .returned (.bool false) ∧ Below w.heap.size w w' := by
  obtain ⟨d1, d2⟩ := d
  have hmxo : Try.prog.follows .mixedOrders = true := by kernel_rfl
  obtain ⟨W0, hW0⟩ : ∃ W0, W0 = w.alloc (.cells #[.int .i64 d1, .int .i64 d2] 24) := ⟨_, rfl⟩
  have hB0 : Below w.heap.size w W0 := by rw [hW0]; exact (Below.refl _ w).alloc (Nat.le_refl _) _
  have hb0 : W0.heap[w.heap.size]? = some (.cells #[.int .i64 d1, .int .i64 d2] 24 (0, 0)) := by rw [hW0]; exact World.alloc_heap_new w _
  have hl0 := (Array.getElem?_eq_some_iff.1 hb0).1
  obtain ⟨Bv, hBv⟩ : ∃ Bv, Bv = false := ⟨_, rfl⟩
  obtain ⟨N0, hN0⟩ : ∃ N0, N0 = W0.drew.heap.size := ⟨_, rfl⟩
  have HN := (now_none W0.drew).mono (R' := fun e W1 => e = .returned (.pointer (some ⟨N0, 0, none⟩)) ∧ (W1.cell? ⟨w.heap.size, 0, none⟩ = some (.int .i64 d1) ∧ W1.cell? ⟨w.heap.size, 1, none⟩ = some (.int .i64 d2)) ∧ Calls Try.prog 43 #[.pointer (some ⟨N0, 0, none⟩), .agg #[.int .i64 d1, .int .i64 d2]] W1 fun e W2 => e = .returned (.bool Bv) ∧ (W2.cell? ⟨w.heap.size, 0, none⟩ = some (.int .i64 d1) ∧ W2.cell? ⟨w.heap.size, 1, none⟩ = some (.int .i64 d2)) ∧ Hid (Below w.heap.size w W2)) (fun e W1 hh => by
    obtain ⟨e1, e2⟩ := hh
    have hB1 : Below W0.drew.heap.size W0.drew W1 := by rw [e2]; exact (Below.refl _ W0.drew).alloc (Nat.le_refl _) _
    have c0 : W1.heap[w.heap.size]? = _ := (hB1.block w.heap.size hl0).trans hb0
    refine ⟨by rw [e1, hN0], ⟨by simp [World.cell?, c0], by simp [World.cell?, c0]⟩, ?_⟩
    refine (there_any N0 0 (.map none) [] (d1, d2) hd W1 (by rw [e2, hN0]; exact (state_none W0.drew).1) (Or.inl ⟨rfl, rfl⟩)).mono ?_
    rintro e W2 ⟨e3, hb⟩
    have c2 : W2.heap[w.heap.size]? = _ := (hb.block w.heap.size (Array.getElem?_eq_some_iff.1 c0).1).trans c0
    refine ⟨by rw [e3, hBv]; rfl, ⟨by simp [World.cell?, c2], by simp [World.cell?, c2]⟩, hid ?_⟩
    have hBd : Below w.heap.size w W0.drew := hB0.trans ((((Far.refl W0).drewN 1).below).mono hB0.size)
    have hBe := hBd.trans (hB1.mono hBd.size)
    exact hBe.trans (hb.mono hBe.size))
  have hS0 : W0.drew.cell? ⟨w.heap.size, 0, none⟩ = some (.int .i64 d1) ∧ W0.drew.cell? ⟨w.heap.size, 1, none⟩ = some (.int .i64 d2) := ⟨by show W0.cell? _ = _; simp [World.cell?, hb0], by show W0.cell? _ = _; simp [World.cell?, hb0]⟩
  have HW := hid hW0
  have HBV := hid hBv
  rw [← HBV.out]
  clear hW0 hB0 hb0 hl0 hBv hN0
  go_enter Try.func25, Try.ntmps25
  go_wp2_with fail
  rw [← HW.out]
  refine wp_region_held_drew (S := fun w' => w'.cell? ⟨w.heap.size, 0, none⟩ = some (.int .i64 d1) ∧ w'.cell? ⟨w.heap.size, 1, none⟩ = some (.int .i64 d2)) hmxo hS0 ?_
  intro _
  refine wpAnyH_take (i := 0) (v := .pointer none) rfl (by kernel_rfl) (by kernel_rfl) (by kernel_rfl) (fun _ _ _ h => h) (Or.inl ⟨by kernel_rfl, fun w hSw => ?_⟩) hS0 ?_
  · obtain ⟨e1, e2⟩ := hSw; go_simp
  simp only [Act.put, List.getElem_toArray, List.getElem_cons_succ, List.getElem_cons_zero, List.setIfInBounds_toArray, List.set_cons_zero, List.set_cons_succ]
  refine wpAnyH_take (i := 2) (v := .agg #[.int .i64 d1, .int .i64 d2]) rfl (by kernel_rfl) (by kernel_rfl) (by kernel_rfl) (fun _ _ _ h => h) (Or.inl ⟨by kernel_rfl, fun w hSw => ?_⟩) hS0 ?_
  · obtain ⟨e1, e2⟩ := hSw; go_simp
  simp only [Act.put, List.getElem_toArray, List.getElem_cons_succ, List.getElem_cons_zero, List.setIfInBounds_toArray, List.set_cons_zero, List.set_cons_succ]
  refine wpAnyH_ready (rs := [1]) (by kernel_rfl) (by simp) ?_
  refine AllReadyH.cons rfl (fun K hK => ?_) AllReadyH.nil
  go_simp
  refine HN.mono ?_
  rintro e W1 ⟨rfl, S1, HT⟩
  refine hK.out _ _ S1 (fun _ => ?_)
  clear hK K
  refine wpAnyH_ready (rs := [3]) (by kernel_rfl) (by simp) ?_
  refine AllReadyH.cons rfl (fun K hK => ?_) AllReadyH.nil
  go_simp
  refine HT.mono ?_
  rintro e W2 ⟨rfl, S2, HF⟩
  refine hK.out _ _ S2 (fun _ => ?_)
  clear hK K
  refine wpAnyH_take (i := 4) (v := .bool Bv) rfl (by kernel_rfl) (by kernel_rfl) (by kernel_rfl) (fun _ _ _ h => h) (Or.inl ⟨by kernel_rfl, fun w hSw => ?_⟩) S2 ?_
  · obtain ⟨e1, e2⟩ := hSw; go_simp
  simp only [Act.put, List.getElem_toArray, List.getElem_cons_succ, List.getElem_cons_zero, List.setIfInBounds_toArray, List.set_cons_zero, List.set_cons_succ]
  refine wpAnyH_done (by kernel_rfl) ?_ _
  go_wp2
  go_ret
  exact ⟨rfl, HF.out⟩
end
end Go.Proofs.Ytplcohjpchfkkaa
