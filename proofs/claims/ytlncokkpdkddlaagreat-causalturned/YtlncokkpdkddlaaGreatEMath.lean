/- Stories: all of one are taken in, in whatever order they are handed in; what lies at its frontier. No function of the program. -/
import Derived.Test.YtlncokkpdkddlaaGreatRMathB
import Derived.Test.YtlncokkpdkddlaaGreatCFront
namespace Go.Proofs.YtlncokkpdkddlaaGreat
section

/-- A block that is had; a character of a block that is had. -/
def isBlk (B : List Mop) (V : List Dt) (b : Dt) : Prop := ∃ y ∈ B, hasv V y.1.id = true ∧ y.1.kind = 3 ∧ y.1.bl0 = y.1.id0 ∧ y.1.bl1 = y.1.id1 ∧ y.1.id = b
def isChr (B : List Mop) (V : List Dt) (b0 b1 : Int) (d : Dt) : Prop := ∃ y ∈ B, hasv V y.1.id = true ∧ y.1.kind = 1 ∧ y.1.bl0 = b0 ∧ y.1.bl1 = b1 ∧ y.1.id = d

/-- What an operation does, of the ones that it has. -/
def KD (B : List Mop) (o : OpIn) (V : List Dt) : Prop :=
  (o.kind = 3 ∧ ((o.bl0 = o.id0 ∧ o.bl1 = o.id1) ∨ isBlk B V (o.bl0, o.bl1)) ∧ (o.par = (0, -1) ∨ o.par = (0, -2) ∨ isBlk B V o.par)) ∨
  (o.kind = 1 ∧ isBlk B V (o.bl0, o.bl1) ∧ ((o.at0 = 0 ∧ o.at1 = 0 ∧ o.side = 1) ∨ (isChr B V o.bl0 o.bl1 (o.at0, o.at1) ∧ (o.side = 0 ∨ o.side = 1)))) ∨
  (o.kind = 2 ∧ isBlk B V (o.bl0, o.bl1) ∧ isChr B V o.bl0 o.bl1 (o.at0, o.at1))

/-- A story. -/
structure St (A : List Mop) : Prop where
  cl : Cl A
  lat : ∀ x ∈ A, ∀ y ∈ A, hasv x.2 y.1.id = true → y.1.time < x.1.time
  closed : ∀ x ∈ A, ∀ y ∈ A, hasv x.2 y.1.id = true → belv y.2 x.2 = true
  kind : ∀ (i : Nat) (x : Mop), A[i]? = some x → KD (A.take i) x.1 x.2

theorem St.nil : St [] := ⟨⟨by simp, by simp, by simp⟩, by simp, by simp, by simp⟩

/-- What an actor knows. -/
structure KN (A : List Mop) (V : List Dt) (act : Int) : Prop where
  vm : VM V
  ids : ∀ d ∈ V, ∃ y ∈ A, y.1.id = d
  closed : ∀ y ∈ A, hasv V y.1.id = true → belv y.2 V = true
  own : ∀ y ∈ A, y.1.id0 = act → y.1.id1 ≤ gt V act

theorem KN.nil (act : Int) : KN [] [] act := ⟨vm_nil, by simp, by simp, by simp⟩

theorem hasv_iff {V : List Dt} {d : Dt} : hasv V d = true ↔ mayd d = true ∧ d.2 ≤ gt V d.1 := by
  unfold hasv
  simp

theorem belv_gt {A B : List Dt} (hA : VM A) (hB : VM B) (h : belv A B = true) (a : Int) : gt A a ≤ gt B a := (belv_iff hA hB).1 h a

theorem vwith_ge {V : List Dt} (hV : VM V) {d : Dt} (hd : mayd d = true) (a : Int) : gt V a ≤ gt (vwith V d) a := by
  rw [vwith_gt hV hd]
  split <;> omega

theorem belv_with {D V : List Dt} (hD : VM D) (hV : VM V) {d : Dt} (hd : mayd d = true) (h : belv D V = true) : belv D (vwith V d) = true := by
  rw [belv_iff hD (vwith_vm hV d)]
  intro a
  exact Int.le_trans (belv_gt hD hV h a) (vwith_ge hV hd a)

theorem vwith_mem {V : List Dt} (hV : VM V) {d e : Dt} (hd : mayd d = true) (he : e ∈ vwith V d) : e ∈ V ∨ e = d := by
  have hW := vwith_vm hV d
  have hg := gt_some hW.ac he
  have h1 := ((mayd_iff e).1 (hW.may e he)).2.2.1
  rw [vwith_gt hV hd] at hg
  split at hg
  · rename_i h0
    by_cases hc : gt V e.1 ≤ d.2
    · right
      exact Prod.ext h0.symm (by omega)
    · left
      have := (hV.gt_pos (a := e.1) (by have := ((mayd_iff d).1 hd).2.2.1; omega)).2
      have e2 : (e.1, gt V e.1) = e := Prod.ext rfl (by show gt V e.1 = e.2; omega)
      rw [e2] at this
      exact this
  · left
    have := (hV.gt_pos (a := e.1) (by omega)).2
    have e2 : (e.1, gt V e.1) = e := Prod.ext rfl hg
    rw [e2] at this
    exact this

/-- With one more of the operations, whose Deps are had. -/
theorem KN.more {A : List Mop} {V : List Dt} {act : Int} (hA : Cl A) (h : KN A V act) {y : Mop} (hy : y ∈ A) (hb : belv y.2 V = true) : KN A (vwith V y.1.id) act := by
  obtain ⟨hm, hv, hg, _⟩ := chk_head (hA.may y hy)
  refine ⟨vwith_vm h.vm _, fun d hd => ?_, fun z hz hh => ?_, fun z hz h0 => Int.le_trans (h.own z hz h0) (vwith_ge h.vm hm act)⟩
  · rcases vwith_mem h.vm hm hd with hd | rfl
    · exact h.ids d hd
    · exact ⟨y, hy, rfl⟩
  · obtain ⟨hmz, hvz, hgz, _⟩ := chk_head (hA.may z hz)
    have hz1 : 1 ≤ z.1.id1 := ((mayd_iff _).1 hmz).2.2.1
    have hle := (hasv_iff.1 hh).2
    rw [vwith_gt h.vm hm] at hle
    have key : z.1.id1 ≤ gt V z.1.id0 → belv z.2 (vwith V y.1.id) = true := fun h2 => belv_with hvz h.vm hm (h.closed z hz (hasv_iff.2 ⟨hmz, h2⟩))
    by_cases e0 : y.1.id0 = z.1.id0
    · have hle' : z.1.id1 ≤ max (gt V z.1.id0) y.1.id1 := by
        have e0' : y.1.id.1 = z.1.id.1 := e0
        rw [if_pos e0'] at hle
        exact hle
      by_cases hc : z.1.id1 ≤ gt V z.1.id0
      · exact key hc
      · by_cases e1 : z.1.id1 = y.1.id1
        · obtain ⟨i, hi⟩ := List.mem_iff_getElem?.1 hy
          obtain ⟨j, hj⟩ := List.mem_iff_getElem?.1 hz
          have hij := ids_inj hA.ids hi hj (by show (y.1.id0, y.1.id1) = (z.1.id0, z.1.id1); rw [e0, e1])
          subst hij
          rw [hi] at hj
          cases hj
          exact belv_with hv h.vm hm hb
        · refine key ?_
          have h3 := belv_gt hv h.vm hb z.1.id0
          rw [← e0, hg] at h3
          rw [← e0]
          omega
    · have e0' : ¬ y.1.id.1 = z.1.id.1 := e0
      rw [if_neg e0'] at hle
      exact key hle

/-- One more operation of an actor that knows V. -/
structure New (A : List Mop) (V : List Dt) (act : Int) (o : OpIn) : Prop where
  chk : chk o V = true
  id0 : o.id0 = act
  id1 : o.id1 = gt V act + 1
  time : ∀ y ∈ A, hasv V y.1.id = true → y.1.time < o.time
  kind : KD A o V

theorem New.fresh {A : List Mop} {V : List Dt} {act : Int} {o : OpIn} (h : KN A V act) (hn : New A V act o) : ∀ y ∈ A, y.1.id ≠ o.id := fun y hy e => by
  have e0 : y.1.id0 = o.id0 := congrArg Prod.fst e
  have e1 : y.1.id1 = o.id1 := congrArg Prod.snd e
  have := h.own y hy (by rw [e0, hn.id0])
  have := hn.id1
  omega

/-- None of the others has it. -/
theorem New.none_has {A : List Mop} {V U : List Dt} {act : Int} {o : OpIn} (h : KN A V act) (hn : New A V act o) (hU : VM U) (hi : ∀ d ∈ U, ∃ y ∈ A, y.1.id = d) : hasv U o.id = false := by
  cases e : hasv U o.id with
  | false => rfl
  | true =>
    obtain ⟨hm, hl⟩ := hasv_iff.1 e
    have h1 : 1 ≤ o.id1 := ((mayd_iff _).1 hm).2.2.1
    have hl' : o.id1 ≤ gt U o.id0 := hl
    obtain ⟨y, hy, hid⟩ := hi _ (hU.gt_pos (a := o.id0) (by omega)).2
    have e0 : y.1.id0 = o.id0 := congrArg Prod.fst hid
    have e1 : y.1.id1 = gt U o.id0 := congrArg Prod.snd hid
    have := h.own y hy (by rw [e0, hn.id0])
    have := hn.id1
    omega

theorem isBlk.mono {B B' : List Mop} {V : List Dt} {b : Dt} (h : isBlk B V b) (hs : ∀ y ∈ B, y ∈ B') : isBlk B' V b := by
  obtain ⟨y, hy, r⟩ := h
  exact ⟨y, hs y hy, r⟩

theorem Cl.deps {A : List Mop} (h : Cl A) {x : Mop} (hx : x ∈ A) : ∀ d ∈ x.2, ∃ y ∈ A, y.1.id = d := fun d hd => by
  obtain ⟨k, hk⟩ := List.mem_iff_getElem?.1 hx
  obtain ⟨j, y, _, hy, e⟩ := h.dep k x hk d hd
  exact ⟨y, List.mem_of_getElem? hy, e⟩

theorem St.snoc {A : List Mop} {V : List Dt} {act : Int} {o : OpIn} (hA : St A) (h : KN A V act) (hn : New A V act o) : St (A ++ [(o, V)]) := by
  have hfr := hn.fresh h
  have hself : hasv V o.id = false := hn.none_has h h.vm h.ids
  refine ⟨⟨fun x hx => ?_, fun k x hx d hd => ?_, ?_⟩, fun x hx y hy hh => ?_, fun x hx y hy hh => ?_, fun i x hx => ?_⟩
  · rcases List.mem_append.1 hx with hx | hx
    · exact hA.cl.may x hx
    · simp at hx; rw [hx]; exact hn.chk
  · by_cases hk : k < A.length
    · rw [List.getElem?_append_left hk] at hx
      obtain ⟨j, y, hj, hy, e⟩ := hA.cl.dep k x hx d hd
      exact ⟨j, y, hj, by rw [List.getElem?_append_left (by omega)]; exact hy, e⟩
    · rw [List.getElem?_append_right (by omega)] at hx
      have hkk : k - A.length = 0 := by
        have := (List.getElem?_eq_some_iff.1 hx).1
        simp at this
        omega
      rw [hkk] at hx
      simp at hx
      subst hx
      obtain ⟨y, hy, e⟩ := h.ids d hd
      obtain ⟨j, hj⟩ := List.mem_iff_getElem?.1 hy
      have hjl := (List.getElem?_eq_some_iff.1 hj).1
      exact ⟨j, y, by omega, by rw [List.getElem?_append_left hjl]; exact hj, e⟩
  · rw [List.map_append, List.nodup_append]
    refine ⟨hA.cl.ids, by simp, fun a ha b hb e => ?_⟩
    obtain ⟨y, hy, rfl⟩ := List.mem_map.1 ha
    simp at hb
    exact hfr y hy (by rw [e, hb])
  · rcases List.mem_append.1 hx with hx | hx <;> rcases List.mem_append.1 hy with hy | hy
    · exact hA.lat x hx y hy hh
    · simp at hy
      rw [hy, hn.none_has h (chk_head (hA.cl.may x hx)).2.1 (hA.cl.deps hx)] at hh
      cases hh
    · simp at hx
      rw [hx] at hh ⊢
      exact hn.time y hy hh
    · simp at hx hy
      rw [hx, hy, hself] at hh
      cases hh
  · rcases List.mem_append.1 hx with hx | hx <;> rcases List.mem_append.1 hy with hy | hy
    · exact hA.closed x hx y hy hh
    · simp at hy
      rw [hy, hn.none_has h (chk_head (hA.cl.may x hx)).2.1 (hA.cl.deps hx)] at hh
      cases hh
    · simp at hx
      rw [hx] at hh ⊢
      exact h.closed y hy hh
    · simp at hx hy
      rw [hx, hy, hself] at hh
      cases hh
  · by_cases hk : i < A.length
    · rw [List.getElem?_append_left hk] at hx
      rw [List.take_append_of_le_length (by omega)]
      exact hA.kind i x hx
    · rw [List.getElem?_append_right (by omega)] at hx
      have hkk : i - A.length = 0 := by
        have := (List.getElem?_eq_some_iff.1 hx).1
        simp at this
        omega
      rw [hkk] at hx
      simp at hx
      subst hx
      have : i = A.length := by omega
      subst this
      rw [List.take_append_of_le_length (Nat.le_refl _), List.take_length]
      exact hn.kind

theorem belv_refl {V : List Dt} (h : VM V) : belv V V = true := (belv_iff h h).2 fun _ => Int.le_refl _

/-- What the one who made it knows. -/
theorem KN.snoc {A : List Mop} {V : List Dt} {act : Int} {o : OpIn} (hA : Cl A) (h : KN A V act) (hn : New A V act o) : KN (A ++ [(o, V)]) (vwith V o.id) act := by
  have hm := (chk_head hn.chk).1
  refine ⟨vwith_vm h.vm _, fun d hd => ?_, fun z hz hh => ?_, fun z hz h0 => ?_⟩
  · rcases vwith_mem h.vm hm hd with hd | rfl
    · obtain ⟨y, hy, e⟩ := h.ids d hd
      exact ⟨y, List.mem_append_left _ hy, e⟩
    · exact ⟨(o, V), by simp, rfl⟩
  · rcases List.mem_append.1 hz with hz | hz
    · obtain ⟨hmz, hvz, _, _⟩ := chk_head (hA.may z hz)
      refine belv_with hvz h.vm hm (h.closed z hz (hasv_iff.2 ⟨hmz, ?_⟩))
      have hle := (hasv_iff.1 hh).2
      rw [vwith_gt h.vm hm] at hle
      show z.1.id1 ≤ gt V z.1.id0
      by_cases e0 : o.id0 = z.1.id0
      · have := h.own z hz (by rw [← e0, hn.id0])
        rw [← e0, hn.id0]
        exact this
      · have e0' : ¬ o.id.1 = z.1.id.1 := e0
        rw [if_neg e0'] at hle
        exact hle
    · simp at hz
      rw [hz]
      exact belv_with h.vm h.vm hm (belv_refl h.vm)
  · rcases List.mem_append.1 hz with hz | hz
    · exact Int.le_trans (h.own z hz h0) (vwith_ge h.vm hm act)
    · simp at hz
      rw [hz, vwith_gt h.vm hm]
      have : o.id.1 = act := hn.id0
      rw [if_pos this]
      show o.id1 ≤ max _ o.id1
      omega

/-- What another one knows. -/
theorem KN.other {A : List Mop} {V U : List Dt} {act act' : Int} {o : OpIn} (h : KN A V act) (hn : New A V act o) (hU : KN A U act') (hne : act' ≠ act) : KN (A ++ [(o, V)]) U act' := by
  refine ⟨hU.vm, fun d hd => ?_, fun z hz hh => ?_, fun z hz h0 => ?_⟩
  · obtain ⟨y, hy, e⟩ := hU.ids d hd
    exact ⟨y, List.mem_append_left _ hy, e⟩
  · rcases List.mem_append.1 hz with hz | hz
    · exact hU.closed z hz hh
    · simp at hz
      rw [hz, hn.none_has h hU.vm hU.ids] at hh
      cases hh
  · rcases List.mem_append.1 hz with hz | hz
    · exact hU.own z hz h0
    · simp at hz
      rw [hz] at h0
      exact absurd (h0.symm.trans hn.id0) hne

end

section

theorem fold_id (l : List Mop) : ∀ out : List Mop, (∀ x ∈ l, chk x.1 x.2 = true) → ((out ++ l).map (fun x => x.1.id)).Nodup → l.foldl cnt1 out = out ++ l := by
  induction l with
  | nil => intro out _ _; simp
  | cons x r ih =>
    intro out hc hn
    have h1 : cnt1 out x = out ++ [x] := by
      unfold cnt1
      rw [if_pos]
      refine ⟨?_, hc x (by simp)⟩
      cases e : hasId out x.1.id with
      | false => rfl
      | true =>
        exfalso
        have hm := (hasId_iff out x.1.id).1 e
        rw [List.map_append, List.nodup_append] at hn
        exact hn.2.2 _ hm _ (by simp) rfl
    rw [List.foldl_cons, h1, ih (out ++ [x]) (fun y hy => hc y (List.mem_cons_of_mem _ hy)) (by simpa using hn)]
    simp

theorem cnt_id {l : List Mop} (hc : ∀ x ∈ l, chk x.1 x.2 = true) (hn : (l.map (fun x => x.1.id)).Nodup) : cnt l = l := by
  have := fold_id l [] hc (by simpa using hn)
  simpa [cnt] using this

/-- Of operations in another order it is the same. -/
theorem cnt_perm {A l : List Mop} (hA : Cl A) (hp : l.Perm A) : cnt l = l :=
  cnt_id (fun x hx => hA.may x (hp.mem_iff.1 hx)) ((hp.map _).nodup_iff.2 hA.ids)

theorem Taken.turned {A l : List Mop} (hA : Cl A) (hp : l.Perm A) {R : List Mo} {T : List Nat} (h : Taken l R T) : Taken A R T := by
  refine ⟨h.1, ?_, h.2.2⟩
  have := h.2.1
  rw [cnt_perm hA hp] at this
  rw [cnt_perm hA (List.Perm.refl _)]
  exact this.trans hp

/-- All of it are taken in. -/
theorem Taken.full {A : List Mop} (hA : Cl A) {R : List Mo} {T : List Nat} (h : Taken A R T) : (∀ x ∈ R, thT (R.map (fun x => x.o.id)) T x.o.id = true) := by
  have hpm : (R.map Mo.m).Perm A := by
    have := h.2.1
    rw [cnt_perm hA (List.Perm.refl _)] at this
    exact this
  have hall : ∀ (n k : Nat), k < n → ∀ x : Mop, A[k]? = some x → thT (R.map (fun x => x.o.id)) T x.1.id = true := by
    intro n
    induction n with
    | zero => intro k hk; omega
    | succ n ih =>
      intro k hk x hx
      have hxR : x ∈ R.map Mo.m := hpm.mem_iff.2 (List.mem_of_getElem? hx)
      obtain ⟨y, hy, rfl⟩ := List.mem_map.1 hxR
      obtain ⟨p, hp⟩ := List.mem_iff_getElem?.1 hy
      have hpl := (List.getElem?_eq_some_iff.1 hp).1
      by_cases hpT : p ∈ T
      · unfold thT
        refine decide_eq_true ?_
        refine List.mem_map.2 ⟨p, hpT, ?_⟩
        simp [List.getD, hp]
      · exfalso
        obtain ⟨d, hd, hf⟩ := (nxt_none_iff.1 h.2.2.2.2) p (by simpa using hpl) hpT
        rw [vs_at hp] at hd
        obtain ⟨j, z, hj, hz, e⟩ := hA.dep k _ hx d hd
        have := ih j (by omega) z hz
        rw [e, hf] at this
        cases this
  intro x hx
  obtain ⟨k, hk⟩ := List.mem_iff_getElem?.1 (hpm.mem_iff.1 (List.mem_map.2 ⟨x, hx, rfl⟩))
  exact hall (k + 1) k (by omega) _ hk

theorem Taken.none_left {A : List Mop} (hA : Cl A) {R : List Mo} {T : List Nat} (h : Taken A R T) : lf R T = [] := by
  unfold lf
  rw [List.filter_eq_nil_iff]
  intro x hx
  rw [h.full hA x hx]
  simp

theorem Taken.count {A : List Mop} (hA : Cl A) {R : List Mo} {T : List Nat} (h : Taken A R T) : T.length = A.length := by
  have hpm : (R.map Mo.m).Perm A := by
    have := h.2.1
    rw [cnt_perm hA (List.Perm.refl _)] at this
    exact this
  have hR : R.length = A.length := by simpa using hpm.length_eq
  have hnd := h.2.2.2.1.nodup
  have h1 : T.length ≤ R.length := by
    have := List.Nodup.length_le_of_subset hnd (fun x hx => List.mem_range.2 (h.lt x hx))
    simpa using this
  have h2 : (List.range R.length).length ≤ T.length := List.Nodup.length_le_of_subset List.nodup_range (fun p hp => by
    have hpl := List.mem_range.1 hp
    have hx : R[p]? = some R[p] := List.getElem?_eq_getElem hpl
    have hf := h.full hA R[p] (List.getElem_mem hpl)
    unfold thT at hf
    obtain ⟨q, hq, e⟩ := List.mem_map.1 (of_decide_eq_true hf)
    have hql := h.lt q hq
    have hnR := h.nodup
    have e1 : (R.map (fun x => x.o.id))[q]? = (R.map (fun x => x.o.id))[p]? := by
      simp only [List.getD] at e
      rw [List.getElem?_eq_getElem (by simpa using hql)] at e ⊢
      rw [List.getElem?_eq_getElem (by simpa using hpl)]
      simpa using e
    have := (List.getElem?_inj (by simpa using hql) hnR).1 e1
    rw [← this]
    exact hq)
  rw [List.length_range] at h2
  omega

/-- What is told of a story, in whatever order it is handed in. -/
theorem St.turned {A l : List Mop} (hA : St A) (hp : l.Perm A) {R R' : List Mo} {T T' : List Nat} (h : Taken A R T) (h' : Taken l R' T') : (inL R T).map Mo.m = (inL R' T').map Mo.m ∧ T.length = A.length ∧ T'.length = A.length ∧ lf R T = [] ∧ lf R' T' = [] ∧ latF (fun _ => none) ((inL R' T').map Mo.m) = true := by
  have h2 := h'.turned hA.cl hp
  have hs := h.same h2
  refine ⟨hs.1, h.count hA.cl, h2.count hA.cl, h.none_left hA.cl, h2.none_left hA.cl, ?_⟩
  have hr := h2.right
  rw [h2.count hA.cl] at hr
  simp only [decide_true, Bool.true_and] at hr
  rw [hr, List.all_eq_true]
  intro x hx
  rw [List.all_eq_true]
  intro y hy
  exact okT_iff.2 (hA.lat x hx y hy)

/-- What is known of an actor, of the pairs that were told: those of others than one. -/
structure KI (k : Kn) (S : List (Int × Dt)) : Prop where
  le : k.2.2 ≤ k.1
  is : ∀ (d : Dt) (s : Int), 1 ≤ s → (s ≤ kbut k d ↔ ∃ p ∈ S, p.2 ≠ d ∧ s ≤ p.1)

theorem KI.nil : KI (0, (0, 0), 0) [] := ⟨Int.le_refl _, fun d s hs => by unfold kbut; simp; omega⟩

theorem KI.snoc {k : Kn} {S : List (Int × Dt)} (h : KI k S) (q : Int) (b : Dt) : KI (kwith k q b) (S ++ [(q, b)]) := by
  obtain ⟨t, w, r⟩ := k
  have hle : r ≤ t := h.le
  have key : ∀ (d : Dt) (s : Int), 1 ≤ s → ((∃ p ∈ S ++ [(q, b)], p.2 ≠ d ∧ s ≤ p.1) ↔ s ≤ (if d = w then r else t) ∨ (b ≠ d ∧ s ≤ q)) := by
    intro d s hs
    have h1 := h.is d s hs
    unfold kbut at h1
    constructor
    · rintro ⟨p, hp, hne, hl⟩
      rcases List.mem_append.1 hp with hp | hp
      · exact Or.inl (h1.2 ⟨p, hp, hne, hl⟩)
      · simp at hp
        subst hp
        exact Or.inr ⟨hne, hl⟩
    · rintro (hl | ⟨hne, hl⟩)
      · obtain ⟨p, hp, r⟩ := h1.1 hl
        exact ⟨p, List.mem_append_left _ hp, r⟩
      · exact ⟨(q, b), by simp, hne, hl⟩
  unfold kwith
  by_cases h0 : b = w
  · rw [if_pos h0]
    refine ⟨by show r ≤ max q t; omega, fun d s hs => ?_⟩
    rw [key d s hs]
    unfold kbut
    show s ≤ (if d = b then r else max q t) ↔ _
    subst h0
    by_cases hd : d = b
    · rw [if_pos hd, if_pos hd]
      constructor
      · exact Or.inl
      · rintro (h | ⟨h, _⟩)
        · exact h
        · exact absurd hd.symm h
    · rw [if_neg hd, if_neg hd]
      constructor
      · intro h
        by_cases s ≤ t
        · left; assumption
        · right; exact ⟨fun e => hd e.symm, by omega⟩
      · rintro (h | ⟨_, h⟩) <;> omega
  · rw [if_neg h0]
    by_cases h1 : t < q
    · rw [if_pos h1]
      refine ⟨by show t ≤ q; omega, fun d s hs => ?_⟩
      rw [key d s hs]
      unfold kbut
      show s ≤ (if d = b then t else q) ↔ _
      by_cases hd : d = b
      · rw [if_pos hd]
        have : ¬ d = w := fun e => h0 (hd.symm.trans e)
        rw [if_neg this]
        constructor
        · exact Or.inl
        · rintro (h | ⟨h, _⟩)
          · exact h
          · exact absurd hd.symm h
      · rw [if_neg hd]
        constructor
        · intro h
          exact Or.inr ⟨fun e => hd e.symm, h⟩
        · rintro (h | ⟨_, h⟩)
          · split at h <;> omega
          · exact h
    · rw [if_neg h1]
      refine ⟨by show max q r ≤ t; omega, fun d s hs => ?_⟩
      rw [key d s hs]
      unfold kbut
      show s ≤ (if d = w then max q r else t) ↔ _
      by_cases hd : d = w
      · rw [if_pos hd, if_pos hd]
        constructor
        · intro h
          by_cases s ≤ r
          · left; assumption
          · right; exact ⟨fun e => h0 (e.trans hd), by omega⟩
        · rintro (h | ⟨_, h⟩) <;> omega
      · rw [if_neg hd, if_neg hd]
        constructor
        · exact Or.inl
        · rintro (h | ⟨_, h⟩) <;> omega

/-- The pairs of an actor. -/
def prs (l : List Mop) (e : Int) : List (Int × Dt) := l.flatMap (fun x => (x.2.filter (fun d => d.1 == e)).map (fun d => (d.2, x.1.id)))

theorem krow_is (id : Dt) (ds : List Dt) : ∀ (f : Int → Kn) (e : Int) (S : List (Int × Dt)), KI (f e) S → KI (ds.foldl (kone id) f e) (S ++ (ds.filter (fun d => d.1 == e)).map (fun d => (d.2, id))) := by
  induction ds with
  | nil => intro f e S h; simpa using h
  | cons d r ih =>
    intro f e S h
    rw [List.foldl_cons]
    by_cases hd : d.1 = e
    · have h1 : KI (kone id f d e) (S ++ [(d.2, id)]) := by
        unfold kone
        rw [if_pos hd.symm, hd]
        exact h.snoc _ _
      have := ih (kone id f d) e _ h1
      rw [List.filter_cons_of_pos (by simpa using hd), List.map_cons, show S ++ (d.2, id) :: (r.filter (fun d => d.1 == e)).map (fun d => (d.2, id)) = S ++ [(d.2, id)] ++ (r.filter (fun d => d.1 == e)).map (fun d => (d.2, id)) by simp]
      exact this
    · have h1 : KI (kone id f d e) S := by
        unfold kone
        rw [if_neg (fun h => hd h.symm)]
        exact h
      rw [List.filter_cons_of_neg (by simpa using hd)]
      exact ih _ e _ h1

theorem kall_is (l : List Mop) (e : Int) : KI (kall l e) (prs l e) := by
  have : ∀ (l : List Mop) (f : Int → Kn) (S : List (Int × Dt)), KI (f e) S → KI (l.foldl krow f e) (S ++ prs l e) := by
    intro l
    induction l with
    | nil => intro f S h; simpa [prs] using h
    | cons x r ih =>
      intro f S h
      have h1 := ih (krow f x) _ (krow_is x.1.id x.2 f e S h)
      rw [List.foldl_cons]
      have e1 : S ++ prs (x :: r) e = S ++ (x.2.filter (fun d => d.1 == e)).map (fun d => (d.2, x.1.id)) ++ prs r e := by simp [prs]
      rw [e1]
      exact h1
  have h := this l (fun _ => (0, (0, 0), 0)) [] KI.nil
  simpa [kall] using h

theorem prs_has {l : List Mop} (hv : ∀ x ∈ l, VM x.2) {d : Dt} (hd : 1 ≤ d.2) : (∃ p ∈ prs l d.1, p.2 ≠ d ∧ d.2 ≤ p.1) ↔ ∃ y ∈ l, y.1.id ≠ d ∧ d.2 ≤ gt y.2 d.1 := by
  constructor
  · rintro ⟨p, hp, hne, hl⟩
    obtain ⟨y, hy, hq⟩ := List.mem_flatMap.1 hp
    obtain ⟨z, hz, rfl⟩ := List.mem_map.1 hq
    obtain ⟨hz1, hz2⟩ := List.mem_filter.1 hz
    have e : z.1 = d.1 := by simpa using hz2
    refine ⟨y, hy, hne, ?_⟩
    rw [← e, gt_some (hv y hy).ac hz1]
    exact hl
  · rintro ⟨y, hy, hne, hl⟩
    have hp := ((hv y hy).gt_pos (a := d.1) (by omega)).2
    refine ⟨(gt y.2 d.1, y.1.id), List.mem_flatMap.2 ⟨y, hy, List.mem_map.2 ⟨(d.1, gt y.2 d.1), List.mem_filter.2 ⟨hp, by simp⟩, rfl⟩⟩, hne, hl⟩

/-- What is at the frontier. -/
theorem mem_frt {A : List Mop} (hA : Cl A) {d : Dt} : d ∈ frt A ↔ (∃ x ∈ A, x.1.id = d) ∧ ∀ y ∈ A, y.1.id ≠ d → hasv y.2 d = false := by
  unfold frt
  rw [List.mem_filter, mem_rise]
  constructor
  · rintro ⟨hm, hf⟩
    obtain ⟨x, hx, rfl⟩ := List.mem_map.1 hm
    refine ⟨⟨x, hx, rfl⟩, fun y hy hne => ?_⟩
    have hmd := (chk_head (hA.may x hx)).1
    have h1 := ((mayd_iff _).1 hmd).2.2.1
    unfold frb at hf
    rw [hmd] at hf
    simp only [Bool.not_true, Bool.false_or, decide_eq_true_eq] at hf
    cases e : hasv y.2 x.1.id with
    | false => rfl
    | true =>
      exfalso
      have := ((kall_is A x.1.id.1).is x.1.id x.1.id.2 h1).2 ((prs_has (fun z hz => (chk_head (hA.may z hz)).2.1) h1).2 ⟨y, hy, hne, (hasv_iff.1 e).2⟩)
      have hf' : kbut (kall A x.1.id.1) x.1.id < x.1.id.2 := hf
      exact absurd this (Int.not_le.2 hf')
  · rintro ⟨⟨x, hx, rfl⟩, hn⟩
    refine ⟨List.mem_map.2 ⟨x, hx, rfl⟩, ?_⟩
    have hmd := (chk_head (hA.may x hx)).1
    have h1 := ((mayd_iff _).1 hmd).2.2.1
    unfold frb
    rw [hmd]
    simp only [Bool.not_true, Bool.false_or, decide_eq_true_eq]
    refine Int.not_le.1 fun hl => ?_
    obtain ⟨y, hy, hne, hl'⟩ := (prs_has (fun z hz => (chk_head (hA.may z hz)).2.1) h1).1 (((kall_is A x.1.id.1).is x.1.id x.1.id.2 h1).1 hl)
    have := hn y hy hne
    rw [hasv_iff.2 ⟨hmd, hl'⟩] at this
    cases this

/-- None has itself. -/
theorem Cl.self {A : List Mop} (hA : Cl A) {x : Mop} (hx : x ∈ A) : hasv x.2 x.1.id = false := by
  obtain ⟨_, _, hg, _⟩ := chk_head (hA.may x hx)
  cases e : hasv x.2 x.1.id with
  | false => rfl
  | true =>
    have h2 : x.1.id1 ≤ gt x.2 x.1.id0 := (hasv_iff.1 e).2
    omega

theorem St.apart {A : List Mop} (hA : St A) {x y : Mop} (hy : y ∈ A) (hh : hasv y.2 x.1.id = true) : x.1.id ∉ frt A := fun hf => by
  have h2 := ((mem_frt hA.cl).1 hf).2 y hy (fun e => by
    have := hA.cl.self hy
    rw [e, hh] at this
    cases this)
  rw [hh] at h2
  cases h2

theorem St.covered {A : List Mop} (hA : St A) : ∀ (n i : Nat) (x : Mop), A.length - i ≤ n → A[i]? = some x → x.1.id ∈ frt A ∨ ∃ y ∈ A, y.1.id ∈ frt A ∧ hasv y.2 x.1.id = true := by
  intro n
  induction n with
  | zero =>
    intro i x hi hx
    have := (List.getElem?_eq_some_iff.1 hx).1
    omega
  | succ n ih =>
    intro i x hi hx
    by_cases hf : x.1.id ∈ frt A
    · exact Or.inl hf
    right
    have hxm := List.mem_of_getElem? hx
    have hex : ∃ y ∈ A, y.1.id ≠ x.1.id ∧ hasv y.2 x.1.id = true := by
      apply Classical.byContradiction
      intro hno
      refine hf ((mem_frt hA.cl).2 ⟨⟨x, hxm, rfl⟩, fun y hy hne => ?_⟩)
      cases e : hasv y.2 x.1.id with
      | false => rfl
      | true => exact absurd ⟨y, hy, hne, e⟩ hno
    obtain ⟨y, hy, hne, hh⟩ := hex
    obtain ⟨j, hj⟩ := List.mem_iff_getElem?.1 hy
    obtain ⟨i', x', hlt, hx', e⟩ := hA.cl.has hj hh
    have hii := ids_inj hA.cl.ids hx hx' e.symm
    have hjl := (List.getElem?_eq_some_iff.1 hj).1
    rcases ih j y (by omega) hj with h1 | ⟨z, hz, hzf, hzh⟩
    · exact ⟨y, hy, h1, hh⟩
    · refine ⟨z, hz, hzf, ?_⟩
      have hb := belv_gt (chk_head (hA.cl.may y hy)).2.1 (chk_head (hA.cl.may z hz)).2.1 (hA.closed z hz y hy hzh) x.1.id.1
      obtain ⟨hm, hl⟩ := hasv_iff.1 hh
      exact hasv_iff.2 ⟨hm, Int.le_trans hl hb⟩

theorem St.edge_nil {A : List Mop} (hA : St A) : frt A = [] ↔ A = [] := by
  constructor
  · intro h
    cases A with
    | nil => rfl
    | cons x r =>
      exfalso
      rcases hA.covered (x :: r).length 0 x (by omega) rfl with h1 | ⟨y, _, h1, _⟩
      · rw [h] at h1; simp at h1
      · rw [h] at h1; simp at h1
  · rintro rfl
    rfl

end
end Go.Proofs.YtlncokkpdkddlaaGreat
