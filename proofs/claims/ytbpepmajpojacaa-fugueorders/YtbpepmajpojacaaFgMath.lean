/- Texts, in numbers: characters as they came, those at a side of one. No function of the program. -/
import Derived.Test.YtbpepmajpojacaaMCmp
import Derived.Deep.Quiet
import Derived.Test.YtbpepmajpojacaaCMath
import Derived.Deep.CutRange
import Derived.Lib.SmallJoins
import Derived.Test.YtbpepmajpojacaaMPlaces
import Derived.Test.YtbpepmajpojacaaVMath
namespace Go.Proofs.Ytbpepmajpojacaa
section
open Go.RowKit Go.Maps
open Go.Sort (grow)

/-- A world behind w, in which all is as it was. -/
structure Wb (w : World) where
  u : World
  h : RowKit.Below w.heap.size w u

theorem wp_region_below {P : Program} {id : Nat} {Q : Exit → Act → World → Prop} {a : Act} {w : World} {l : List Oper} (hm : P.follows .mixedOrders = true) (hB : Region.lexB .any l.toArray = true)
    (h : wpQuiet P l.toArray (fun w' => ∃ p : Wb w, w' = p.u) (fun a' => ∀ w', (∃ p : Wb w, w' = p.u) → Q .normal a' w') l a) : (Code.region id l.toArray true).wp P Q a w :=
  wp_region_quiet (C := fun w' => ∃ p : Wb w, w' = p.u) hm hB ⟨⟨w.drew, (Far.refl w).drew.below⟩, rfl⟩ (by simpa using h)

theorem below_q {f : FuncId} {args : Array Value} {w : World} {v : Value} {p : Wb w} (h : Calls Try.prog f args p.u fun e w' => e = .returned v ∧ RowKit.Below p.u.heap.size p.u w') : Calls Try.prog f args p.u fun e w'' => e = .returned v ∧ ∃ p' : Wb w, w'' = p'.u :=
  h.mono fun _ w' ⟨he, hb⟩ => ⟨he, ⟨w', p.h.trans (hb.mono p.h.size)⟩, rfl⟩

theorem far_q {f : FuncId} {args : Array Value} {w : World} {v : Value} {p : Wb w} (h : Tells f args p.u v) : Calls Try.prog f args p.u fun e w'' => e = .returned v ∧ ∃ p' : Wb w, w'' = p'.u :=
  below_q (h.mono fun _ _ ⟨he, hf⟩ => ⟨he, hf.below⟩)

end

section

/-- How many of a row come ahead of one: up to the first that doesn't. -/
def aheadN (x : Mo) : List Mo → Nat
  | [] => 0
  | y :: r => if lo y.o x.o = true then aheadN x r + 1 else 0

theorem aheadN_le (x : Mo) : ∀ l : List Mo, aheadN x l ≤ l.length
  | [] => Nat.le_refl _
  | y :: r => by
    unfold aheadN
    have := aheadN_le x r
    split
    · simp; omega
    · simp

theorem aheadN_lt (x : Mo) : ∀ (l : List Mo) (k : Nat) (hk : k < l.length), k < aheadN x l → lo l[k].o x.o = true
  | [], k, hk, _ => by simp at hk
  | y :: r, k, hk, h => by
    unfold aheadN at h
    split at h
    · rename_i hy
      cases k with
      | zero => exact hy
      | succ k => exact aheadN_lt x r k (by simpa using hk) (by omega)
    · omega

theorem aheadN_at (x : Mo) : ∀ (l : List Mo) (hk : aheadN x l < l.length), lo (l[aheadN x l]'hk).o x.o = false
  | [], hk => by simp at hk
  | y :: r, hk => by
    by_cases hy : lo y.o x.o = true
    · have e : aheadN x (y :: r) = aheadN x r + 1 := by simp [aheadN, hy]
      have hk' : aheadN x r < r.length := by rw [e] at hk; simpa using hk
      have := aheadN_at x r hk'
      simp only [e, List.getElem_cons_succ]
      exact this
    · have e : aheadN x (y :: r) = 0 := by simp [aheadN, hy]
      simp only [e, List.getElem_cons_zero]
      simpa using hy

/-- A row with one more. -/
def putO (l : List Mo) (x : Mo) : List Mo := l.take (aheadN x l) ++ [x] ++ l.drop (aheadN x l)

theorem putO_perm (l : List Mo) (x : Mo) : (putO l x).Perm (l ++ [x]) := by
  unfold putO
  have h := List.take_append_drop (aheadN x l) l
  have h1 : (l.take (aheadN x l) ++ [x] ++ l.drop (aheadN x l)).Perm (l.take (aheadN x l) ++ (l.drop (aheadN x l) ++ [x])) := by
    rw [List.append_assoc]
    exact (List.perm_append_comm).append_left _
  rw [← List.append_assoc, h] at h1
  exact h1

theorem putO_cons_lt {x y : Mo} {r : List Mo} (h : lo y.o x.o = true) : putO (y :: r) x = y :: putO r x := by
  have e : aheadN x (y :: r) = aheadN x r + 1 := by simp [aheadN, h]
  unfold putO
  rw [e]
  simp
theorem putO_cons_ge {x y : Mo} {r : List Mo} (h : lo y.o x.o = false) : putO (y :: r) x = x :: y :: r := by
  have e : aheadN x (y :: r) = 0 := by simp [aheadN, h]
  unfold putO
  rw [e]
  simp

theorem lo_trans {o p q : OpIn} (h : lo o p = true) (k : lo p q = true) : lo o q = true := by
  rw [lo_iff] at *
  omega

theorem putO_up : ∀ {l : List Mo} {x : Mo}, UpO l → (∀ y ∈ l, y.o.id ≠ x.o.id) → UpO (putO l x) := by
  intro l
  induction l with
  | nil => intro x _ _; exact List.pairwise_singleton _ _
  | cons y r ih =>
    intro x h hn
    obtain ⟨h1, h2⟩ := List.pairwise_cons.1 h
    cases hy : lo y.o x.o with
    | true =>
      rw [putO_cons_lt hy]
      refine List.pairwise_cons.2 ⟨fun z hz => ?_, ih h2 (fun z hz => hn z (List.mem_cons_of_mem _ hz))⟩
      rcases List.mem_append.1 ((putO_perm r x).mem_iff.1 hz) with hz | hz
      · exact h1 z hz
      · simp at hz; rw [hz]; exact hy
    | false =>
      rw [putO_cons_ge hy]
      have hxy : lo x.o y.o = true := lo_total (fun e => hn y (by simp) e.symm) (by rw [hy]; exact Bool.false_ne_true)
      refine List.pairwise_cons.2 ⟨fun z hz => ?_, h⟩
      rcases List.mem_cons.1 hz with rfl | hz
      · exact hxy
      · exact lo_trans hxy (h1 z hz)

/-- Those that count, put in order one by one. -/
def cntO1 (out : List Mo) (x : Mo) : List Mo := if chk x.o x.V = true ∧ hasId (out.map Mo.m) x.o.id = false then putO out x else out
def cntO (l : List Mo) : List Mo := l.foldl cntO1 []

theorem cntO_snoc (l : List Mo) (x : Mo) : cntO (l ++ [x]) = cntO1 (cntO l) x := by simp [cntO]

theorem hasId_perm {l l' : List Mop} (h : l.Perm l') (d : Dt) : hasId l d = hasId l' d := by
  rw [Bool.eq_iff_iff, hasId_iff, hasId_iff]
  exact (h.map _).mem_iff

theorem cntO1_says {out : List Mo} {l : List Mop} (hp : (out.map Mo.m).Perm l) (hu : UpO out) (x : Mo) : ((cntO1 out x).map Mo.m).Perm (cnt1 l x.m) ∧ UpO (cntO1 out x) := by
  unfold cntO1 cnt1
  rw [hasId_perm hp]
  by_cases h : chk x.o x.V = true ∧ hasId l x.o.id = false
  · rw [if_pos h, if_pos ⟨h.2, h.1⟩]
    refine ⟨?_, putO_up hu fun y hy e => ?_⟩
    · refine ((putO_perm out x).map Mo.m).trans ?_
      rw [List.map_append]
      exact hp.append_right _
    · have h1 : hasId l x.o.id = true := (hasId_iff l x.o.id).2 ((hp.map (fun x => x.1.id)).mem_iff.1 (List.mem_map.2 ⟨y.m, List.mem_map.2 ⟨y, hy, rfl⟩, e⟩))
      rw [h.2] at h1
      cases h1
  · rw [if_neg h, if_neg (fun e => h ⟨e.2, e.1⟩)]
    exact ⟨hp, hu⟩

theorem cntO_says (l : List Mo) : ((cntO l).map Mo.m).Perm (cnt (l.map Mo.m)) ∧ UpO (cntO l) := by
  have key : ∀ (l out : List Mo) (k : List Mop), (out.map Mo.m).Perm k → UpO out → ((l.foldl cntO1 out).map Mo.m).Perm ((l.map Mo.m).foldl cnt1 k) ∧ UpO (l.foldl cntO1 out) := by
    intro l
    induction l with
    | nil => exact fun _ _ h h' => ⟨h, h'⟩
    | cons x r ih =>
      intro out k h h'
      have := cntO1_says h h' x
      exact ih _ _ this.1 this.2
  exact key l [] [] (List.Perm.refl _) List.Pairwise.nil

theorem cntO1_len (out : List Mo) (x : Mo) : (cntO1 out x).length ≤ out.length + 1 := by
  unfold cntO1
  split
  · rw [(putO_perm out x).length_eq]; simp
  · omega

theorem cntO_len (l : List Mo) : (cntO l).length ≤ l.length := by
  have h := (cntO_says l).1.length_eq
  have h2 := cnt_len (l.map Mo.m)
  simp at h h2
  omega

theorem fold_subO (l : List Mo) : ∀ (out : List Mo) (y : Mo), y ∈ l.foldl cntO1 out → y ∈ out ∨ y ∈ l := by
  induction l with
  | nil => exact fun _ _ h => Or.inl h
  | cons x r ih =>
    intro out y h
    rcases ih _ _ h with h | h
    · unfold cntO1 at h
      split at h
      · rcases List.mem_append.1 ((putO_perm out x).mem_iff.1 h) with h | h
        · exact Or.inl h
        · simp at h; exact Or.inr (by simp [h])
      · exact Or.inl h
    · exact Or.inr (List.mem_cons_of_mem _ h)

theorem cntO_sub {l : List Mo} {y : Mo} (h : y ∈ cntO l) : y ∈ l := by
  rcases fold_subO l [] y h with h | h
  · simp at h
  · exact h

/-! The order. -/

/-- What holds of the reference's order at each round. -/
structure RO (l : List Mop) (R : List Mo) (T : List Nat) : Prop where
  up : UpO R
  perm : (R.map Mo.m).Perm (cnt l)
  fits : ∀ x ∈ R, x.o.Fits ∧ Dws x.V
  ch : Ch (R.map Mo.V) (R.map (fun x => x.o.id)) T

theorem RO.nodup {l : List Mop} {R : List Mo} {T : List Nat} (h : RO l R T) : (R.map (fun x => x.o.id)).Nodup := by
  have h3 := (h.perm.map (fun x : Mop => x.1.id)).nodup_iff.2 (cnt_nodup l)
  rw [List.map_map] at h3
  exact h3

theorem RO.lt {l : List Mop} {R : List Mo} {T : List Nat} (h : RO l R T) : ∀ p ∈ T, p < R.length := fun p hp => by
  have := h.ch.lt hp
  simpa using this

theorem RO.may {l : List Mop} {R : List Mo} {T : List Nat} (h : RO l R T) {x : Mo} (hx : x ∈ R) : chk x.o x.V = true :=
  cnt_chk (y := x.m) (h.perm.mem_iff.1 (List.mem_map.2 ⟨x, hx, rfl⟩))

theorem RO.at {l : List Mop} {R : List Mo} {T : List Nat} (h : RO l R T) {k : Nat} {x : Mo} (hx : (inL R T)[k]? = some x) : ∃ p, T[k]? = some p ∧ R[p]? = some x := by
  rw [inL_get h.lt] at hx
  cases hp : T[k]? with
  | none => rw [hp] at hx; simp at hx
  | some p => rw [hp] at hx; exact ⟨p, rfl, hx⟩

theorem RO.cl {l : List Mop} {R : List Mo} {T : List Nat} (h : RO l R T) : Cl ((inL R T).map Mo.m) := by
  refine ⟨fun x hx => ?_, fun k x hx d hd => ?_, ?_⟩
  · obtain ⟨y, hy, rfl⟩ := List.mem_map.1 hx
    exact h.may (inL_mem hy)
  · rw [List.getElem?_map] at hx
    cases hy : (inL R T)[k]? with
    | none => rw [hy] at hx; simp at hx
    | some y =>
      rw [hy] at hx
      have hxy : y.m = x := by simpa using hx
      obtain ⟨p, hp, hR⟩ := h.at hy
      have hk := (List.getElem?_eq_some_iff.1 hp).1
      have hpe := (List.getElem?_eq_some_iff.1 hp).2
      have hn := (nxt_some_iff.1 (h.ch k hk)).1.2.2 d (by rw [hpe, vs_at hR]; rw [← hxy] at hd; exact hd)
      have hlt : ∀ q ∈ T.take k, q < R.length := fun q hq => h.lt q (List.mem_of_mem_take hq)
      obtain ⟨z, hz, hzd⟩ := (thT_iff hlt d).1 hn
      rw [inL_take h.lt] at hz
      obtain ⟨j, hjk, hj⟩ := mem_take_at.1 hz
      exact ⟨j, z.m, hjk, by rw [List.getElem?_map, hj]; rfl, hzd⟩
  · rw [List.map_map]
    refine List.pairwise_iff_getElem.2 fun i j hi hj hij e => ?_
    have hi' : i < (inL R T).length := by simpa using hi
    have hj' : j < (inL R T).length := by simpa using hj
    obtain ⟨p, hp, hRp⟩ := h.at (List.getElem?_eq_getElem hi')
    obtain ⟨q, hq, hRq⟩ := h.at (List.getElem?_eq_getElem hj')
    have e' : (inL R T)[i].o.id = (inL R T)[j].o.id := by simpa using e
    have hpl := (List.getElem?_eq_some_iff.1 hRp).1
    have hpq : p = q := by
      refine (List.getElem?_inj (by simpa using hpl) h.nodup).1 ?_
      rw [List.getElem?_map, List.getElem?_map, hRp, hRq]
      simp [e']
    subst hpq
    have hiT := (List.getElem?_eq_some_iff.1 hp).1
    have := (List.getElem?_inj hiT h.ch.nodup).1 (hp.trans hq.symm)
    omega

/-- Is it ready, where these were taken in? -/
def rdyb (R : List Mo) (T : List Nat) (x : Mo) : Bool := x.V.all (thT (R.map (fun x => x.o.id)) T)

theorem RO.not_in {l : List Mop} {R : List Mo} {T : List Nat} (h : RO l R T) {d : Dt} (hd : thT (R.map (fun x => x.o.id)) T d = false) : ∀ y ∈ (inL R T).map Mo.m, y.1.id ≠ d := by
  intro y hy e
  obtain ⟨z, hz, rfl⟩ := List.mem_map.1 hy
  have := (thT_iff h.lt d).2 ⟨z, hz, e⟩
  rw [this] at hd
  cases hd

/-- What Ready tells of one that is left. -/
theorem RO.ready {l : List Mop} {R : List Mo} {T : List Nat} (h : RO l R T) {x : Mo} (hx : x ∈ lf R T) : rdyE (verv ((inL R T).map Mo.m)) x.o x.V = if rdyb R T x = true then 0 else 31 := by
  obtain ⟨hxR, hxn⟩ := List.mem_filter.1 hx
  have hn := h.not_in (d := x.o.id) (by simpa using hxn)
  split
  · rename_i hr
    refine h.cl.ready (h.may hxR) hn fun d hd => ?_
    have h1 := List.all_eq_true.1 hr d hd
    obtain ⟨y, hy, hyd⟩ := (thT_iff h.lt d).1 h1
    exact ⟨y.m, List.mem_map.2 ⟨y, hy, rfl⟩, hyd⟩
  · rename_i hr
    have hr' : rdyb R T x = false := by simpa using hr
    obtain ⟨d, hd, hf⟩ := List.all_eq_false.1 hr'
    exact h.cl.early (h.may hxR) hn hd (h.not_in (by simpa using hf))

theorem RO.place {l : List Mop} {R : List Mo} {T : List Nat} (h : RO l R T) {q : Nat} {x : Mo} (hq : R[q]? = some x) : x ∈ lf R T ↔ q ∉ T := by
  have hxR := List.mem_of_getElem? hq
  have hql := (List.getElem?_eq_some_iff.1 hq).1
  unfold lf
  rw [List.mem_filter]
  constructor
  · rintro ⟨_, hxn⟩ hqT
    have : thT (R.map (fun x => x.o.id)) T x.o.id = true := (thT_iff h.lt _).2 ⟨x, List.mem_filterMap.2 ⟨q, hqT, hq⟩, rfl⟩
    rw [this] at hxn
    cases hxn
  · intro hqT
    refine ⟨hxR, ?_⟩
    cases e : thT (R.map (fun x => x.o.id)) T x.o.id with
    | false => rfl
    | true =>
      obtain ⟨y, hy, hyd⟩ := (thT_iff h.lt _).1 e
      obtain ⟨p, hp, hpy⟩ := List.mem_filterMap.1 hy
      have : p = q := by
        refine (List.getElem?_inj (by have := h.lt p hp; simpa using this) h.nodup).1 ?_
        rw [List.getElem?_map, List.getElem?_map, hpy, hq]
        simp [hyd]
      exact absurd (this ▸ hp) hqT

/-- None that is left is ready: that is all. -/
theorem RO.done {l : List Mop} {R : List Mo} {T : List Nat} (h : RO l R T) (hn : ∀ x ∈ lf R T, rdyb R T x = false) : Taken l R T := by
  refine ⟨h.up, h.perm, h.fits, h.ch, nxt_none_iff.2 fun q hq hqT => ?_⟩
  have hq' : R[q]? = some (R[q]'(by simpa using hq)) := List.getElem?_eq_getElem _
  obtain ⟨d, hd, hf⟩ := List.all_eq_false.1 (hn _ ((h.place hq').2 hqT))
  exact ⟨d, by rw [vs_at hq']; exact hd, by simpa using hf⟩

theorem filter_ne : ∀ (l : List Mo) (j : Nat) (x : Mo), (l.map (fun x => x.o.id)).Nodup → l[j]? = some x → l.filter (fun y => !decide (y.o.id = x.o.id)) = l.take j ++ l.drop (j + 1) := by
  intro l
  induction l with
  | nil => intro j x _ h; simp at h
  | cons y r ih =>
    intro j x hn h
    rw [List.map_cons, List.nodup_cons] at hn
    cases j with
    | zero =>
      simp at h
      subst h
      have : r.filter (fun z => !decide (z.o.id = y.o.id)) = r := List.filter_eq_self.2 fun z hz => by
        have : z.o.id ≠ y.o.id := fun e => hn.1 (List.mem_map.2 ⟨z, hz, e⟩)
        simp [this]
      rw [List.filter_cons_of_neg (by simp), this]
      rfl
    | succ j =>
      have hj : r[j]? = some x := by simpa using h
      have hne : y.o.id ≠ x.o.id := fun e => hn.1 (List.mem_map.2 ⟨x, List.mem_of_getElem? hj, e.symm⟩)
      rw [List.filter_cons_of_pos (by simp [hne]), ih j x hn.2 hj]
      simp

/-- The least that is ready is the next one. -/
theorem RO.next {l : List Mop} {R : List Mo} {T : List Nat} (h : RO l R T) {j : Nat} {x : Mo} (hx : (lf R T)[j]? = some x) (hr : rdyb R T x = true) (hl : ∀ (i : Nat) (y : Mo), i < j → (lf R T)[i]? = some y → rdyb R T y = false) :
    ∃ p, R[p]? = some x ∧ RO l R (T ++ [p]) ∧ inL R (T ++ [p]) = inL R T ++ [x] ∧ lf R (T ++ [p]) = (lf R T).take j ++ (lf R T).drop (j + 1) := by
  have hxl := List.mem_of_getElem? hx
  have hxR : x ∈ R := (List.mem_filter.1 hxl).1
  obtain ⟨p, hp⟩ := List.mem_iff_getElem?.1 hxR
  have hpl := (List.getElem?_eq_some_iff.1 hp).1
  have hpx := (List.getElem?_eq_some_iff.1 hp).2
  have hup : UpO (lf R T) := h.up.sublist List.filter_sublist
  have hnx : nxt (R.map Mo.V) (R.map (fun x => x.o.id)) T = some p := by
    refine nxt_some_iff.2 ⟨⟨by simpa using hpl, (h.place hp).1 hxl, fun d hd => ?_⟩, fun q hqp hqT => ?_⟩
    · rw [vs_at hp] at hd
      exact List.all_eq_true.1 hr d hd
    · have hql : q < R.length := by omega
      have hq : R[q]? = some R[q] := List.getElem?_eq_getElem hql
      obtain ⟨i, hi⟩ := List.mem_iff_getElem?.1 ((h.place hq).2 hqT)
      have hlo := List.pairwise_iff_getElem.1 h.up q p hql hpl hqp
      rw [hpx] at hlo
      have hij : i < j := by
        rcases Nat.lt_trichotomy i j with h1 | h1 | h1
        · exact h1
        · subst h1
          rw [hx] at hi
          have : x = R[q] := by simpa using hi
          rw [← this, lo_irrefl] at hlo
          cases hlo
        · have hil := (List.getElem?_eq_some_iff.1 hi).1
          have hjl := (List.getElem?_eq_some_iff.1 hx).1
          have := List.pairwise_iff_getElem.1 hup j i hjl hil h1
          rw [(List.getElem?_eq_some_iff.1 hi).2, (List.getElem?_eq_some_iff.1 hx).2] at this
          have h2 := lo_trans hlo this
          rw [lo_irrefl] at h2
          cases h2
      obtain ⟨d, hd, hf⟩ := List.all_eq_false.1 (hl i _ hij hi)
      exact ⟨d, by rw [vs_at hq]; exact hd, by simpa using hf⟩
  refine ⟨p, hp, ⟨h.up, h.perm, h.fits, h.ch.snoc hnx⟩, by rw [inL_snoc hpl, hpx], ?_⟩
  have hnd : ((lf R T).map (fun x => x.o.id)).Nodup := h.nodup.sublist (List.filter_sublist.map _)
  rw [← filter_ne (lf R T) j x hnd hx]
  unfold lf
  rw [List.filter_filter]
  congr 1
  funext y
  have hg : (R.map (fun x => x.o.id)).getD p (0, 0) = x.o.id := by simp [List.getD_eq_getElem?_getD, hp]
  rw [thT_snoc, hg, Bool.not_or, Bool.and_comm]

/-- The least of the last ones for which something holds, or none (-1). -/
def Fr (f : Nat → Bool) (m j : Nat) (kk : Int) : Prop := (kk = -1 ∧ ∀ q, j ≤ q → q < m → f q = false) ∨ ∃ q : Nat, kk = q ∧ j ≤ q ∧ q < m ∧ f q = true ∧ ∀ q', j ≤ q' → q' < q → f q' = false

theorem Fr.start (f : Nat → Bool) (m : Nat) : Fr f m m (-1) := Or.inl ⟨rfl, fun q h1 h2 => by omega⟩
theorem Fr.yes {f : Nat → Bool} {m j : Nat} {kk : Int} (_ : Fr f m (j + 1) kk) (hj : j < m) (h : f j = true) : Fr f m j (j : Int) := Or.inr ⟨j, rfl, Nat.le_refl _, hj, h, fun q' h1 h2 => by omega⟩
theorem Fr.no {f : Nat → Bool} {m j : Nat} {kk : Int} (h : Fr f m (j + 1) kk) (hf : f j = false) : Fr f m j kk := by
  have key : ∀ q, j ≤ q → j + 1 ≤ q ∨ q = j := fun q hq => by omega
  rcases h with ⟨rfl, h⟩ | ⟨q, rfl, h1, h2, h3, h4⟩
  · refine Or.inl ⟨rfl, fun q hq hm => ?_⟩
    rcases key q hq with h' | rfl
    · exact h q h' hm
    · exact hf
  · refine Or.inr ⟨q, rfl, by omega, h2, h3, fun q' h5 h6 => ?_⟩
    rcases key q' h5 with h' | rfl
    · exact h4 q' h' h6
    · exact hf

end

section
open Go.RowKit
open Go.Sort (grow)

/-- The slice (a, n, c) holds these operations, wherever their Deps lie. -/
structure RS (w : World) (a : Option Addr) (n c : Nat) (L : List Mo) : Prop where
  len : L.length = n
  cap : n ≤ c
  max : c ≤ maxLen
  nil : a = none → n = 0 ∧ c = 0
  cells : ∀ ad, a = some ad → ∀ j u, (flo L)[j]? = some u → w.cell? (ad.add j) = some u

theorem OS.rs {w : World} {a : Option Addr} {n c : Nat} {L : List Mo} (h : OS w a n c L) : RS w a n c L := ⟨h.len, h.cap, h.max, h.nil, h.cells⟩

theorem RS.below {w w' : World} {a : Option Addr} {n c : Nat} {L : List Mo} (h : RS w a n c L) (hb : RowKit.Below w.heap.size w w') : RS w' a n c L :=
  ⟨h.len, h.cap, h.max, h.nil, fun ad ha j u hj => by
    have := h.cells ad ha j u hj
    rw [hb.cell (cell_in this)]
    exact this⟩

theorem owned_rs {w : World} {base : Nat} {v : Value} {L : List Mo} (h : OwnO w base v L) : ∃ a c, v = .slice a L.length c ∧ RS w a L.length c L := by
  rcases h.2 with ⟨rfl, hl⟩ | ⟨g, cap, cur, rfl, hg, hb, hn, hcap, hsz, ht⟩
  · have : L = [] := List.eq_nil_of_length_eq_zero hl
    subst this
    exact ⟨none, 0, rfl, rfl, Nat.le_refl _, Nat.zero_le _, fun _ => ⟨rfl, rfl⟩, (fun _ h => by cases h)⟩
  · exact ⟨_, _, rfl, rfl, hn, hcap, fun h => (by cases h), fun ad ha j u hj => (by cases ha; exact h.cells (g := g) rfl j u hj)⟩

theorem flo_take_get {L : List Mo} {k j : Nat} {u : Value} (h : (flo (L.take k))[j]? = some u) : (flo L)[j]? = some u := by
  have e : flo L = flo (L.take k) ++ flo (L.drop k) := by rw [← flo_append, List.take_append_drop]
  have hl := (List.getElem?_eq_some_iff.1 h).1
  rw [e, List.getElem?_append_left hl]
  exact h

theorem flo_drop_get {L : List Mo} {k j : Nat} {u : Value} (hk : k ≤ L.length) (h : (flo (L.drop k))[j]? = some u) : (flo L)[k * 14 + j]? = some u := by
  have e : flo L = flo (L.take k) ++ flo (L.drop k) := by rw [← flo_append, List.take_append_drop]
  have hl : (flo (L.take k)).length = k * 14 := by rw [flo_length, List.length_take, Nat.min_eq_left hk]
  rw [e, List.getElem?_append_right (by omega), hl, Nat.add_sub_cancel_left]
  exact h

theorem RS.take {w : World} {a : Option Addr} {n c : Nat} {L : List Mo} (h : RS w a n c L) {k : Nat} (hk : k ≤ n) : RS w a k c (L.take k) :=
  ⟨by rw [List.length_take, h.len, Nat.min_eq_left hk], Nat.le_trans hk h.cap, h.max, fun e => ⟨by have := (h.nil e).1; omega, (h.nil e).2⟩, fun ad ha j u hj => h.cells ad ha j u (flo_take_get hj)⟩

theorem RS.drop {w : World} {g o : Nat} {n c : Nat} {L : List Mo} (h : RS w (some ⟨g, o, none⟩) n c L) {k : Nat} (hk : k ≤ n) : RS w (some ⟨g, o + k * 14, none⟩) (n - k) (c - k) (L.drop k) :=
  ⟨by rw [List.length_drop, h.len], by have := h.cap; omega, by have := h.max; omega, (fun e => by cases e), fun ad ha j u hj => by
    cases ha
    have := h.cells _ rfl (k * 14 + j) u (flo_drop_get (by rw [h.len]; exact hk) hj)
    rw [add_none] at this ⊢
    rw [Nat.add_assoc]
    exact this⟩

theorem RS.no {w : World} {a : Option Addr} {n c : Nat} {L : List Mo} (h : RS w a n c L) : RS w a 0 c [] :=
  ⟨rfl, Nat.zero_le _, h.max, fun e => ⟨rfl, (h.nil e).2⟩, fun _ _ _ _ hj => (by simp [flo] at hj)⟩

theorem RS.at {w : World} {a : Option Addr} {n c : Nat} {L : List Mo} (h : RS w a n c L) (hp : 0 < n) :
    ∃ g o, a = some ⟨g, o, Option.none⟩ ∧ g < w.heap.size ∧ ∀ i (hi : i < L.length), OpAtO w g (o + i * 14) L[i] := by
  have hos : ∀ L' : List Mo, (L'.map fun x => (⟨x.o, x.a, x.n, x.c, x.V⟩ : Mo)) = L' := fun L' => by simp
  cases a with
  | none => have := (h.nil rfl).1; omega
  | some ad =>
    have hc := h.cells ad rfl
    obtain ⟨g, o, sp⟩ := ad
    have hl : 0 < L.length := by rw [h.len]; exact hp
    have h0 := hc 0 (.int .i64 (L[0]).o.id0) (by have := flo_get L 0 hl 0 (by omega); simpa [Mo.cells] using this)
    have hspot : sp = Option.none := by simpa [Addr.add] using World.cell?_spot h0
    subst hspot
    have each : ∀ i (hi : i < L.length) j (_ : j < 14) u, (L[i]).cells[j]? = some u → w.cell? ⟨g, o + i * 14 + j, Option.none⟩ = some u := fun i hi j hj u hu => by
      have := hc (i * 14 + j) u (by rw [flo_get L i hi j hj]; exact hu)
      rw [add_none, ← Nat.add_assoc] at this
      exact this
    refine ⟨g, o, rfl, by have := cell_in h0; simpa [Addr.add] using this, fun i hi => ?_⟩
    exact ⟨each i hi 0 (by omega) _ rfl, each i hi 1 (by omega) _ rfl, each i hi 2 (by omega) _ rfl, each i hi 3 (by omega) _ rfl, each i hi 4 (by omega) _ rfl, each i hi 5 (by omega) _ rfl, each i hi 6 (by omega) _ rfl,
      each i hi 7 (by omega) _ rfl, each i hi 8 (by omega) _ rfl, each i hi 9 (by omega) _ rfl, each i hi 10 (by omega) _ rfl, each i hi 11 (by omega) _ rfl, each i hi 12 (by omega) _ rfl, each i hi 13 (by omega) _ rfl⟩

/-- append of a row of operations to a slice of the call's own. -/
theorem wpList_append_ops {w : World} {ops : Array Oper} {rest : List Oper} {o : Oper} {a : Act} {Q : Exit → Act → World → Prop} (hgd : o.guard = none) (s x : Operand)
    (ho : o.op = .call { callee := .builtin .append, args := #[s, x], argTypes := #[46, 46] }) (base : Nat) (v : Value) (L : List Mo) (hs : a.eval s = v) (hown : OwnO w base v L)
    (ao : Option Addr) (m c : Nat) (L2 : List Mo) (hx : a.eval x = .slice ao m c) (hL : RS w ao m c L2) (hb : L.length + m ≤ 1000000) (hbase : base ≤ w.heap.size)
    (h : ∀ v' w', OwnO w' base v' (L ++ L2) → w.grownBy w' v.ownBlock → wpList Try.prog ops Q rest (a.put o.dst v') w') : wpList Try.prog ops Q (o :: rest) a w := by
  obtain ⟨i0, hi, hz0, hz1, hz2⟩ := info_parts Try.infoOp
  cases ao with
  | none =>
    obtain ⟨rfl, rfl⟩ := hL.nil rfl
    have : L2 = [] := List.eq_nil_of_length_eq_zero hL.len
    subst this
    refine wpList_append_own_none hgd s x 46 ho base 52 i0 14 Try.underlying46 hi v L.length (flo L) hs hown hx ?_
    exact h v w (by simpa using hown) (World.grownBy.refl _ _)
  | some ad =>
    refine wpList_append_own w hgd s x 46 ho base 52 i0 _ 14 136 Try.underlying46 hi hz0 hz1 hz2 rfl (by decide) v L.length (flo L) hs hown ad m c (flo L2) hx (by rw [flo_length, hL.len]) (hL.cells ad rfl) (flo_one L2) (by unfold maxLen; omega) (by omega) hbase
      (fun v' w' h1 h2 _ => h v' w' ?_ h2)
    show World.ownsRow _ _ _ _ _ (List.length _) _
    rw [List.length_append, flo_append, hL.len]
    exact h1

end

section
open Go.RowKit
open Go.Sort (grow)

theorem own_forms {w : World} {base : Nat} {v : Value} {L : List Mo} (h : OwnO w base v L) : (v = .slice none 0 0 ∧ L = []) ∨ ∃ g cap, v = .slice (some ⟨g, 0, none⟩) L.length cap ∧ base ≤ g ∧ g < w.heap.size ∧ L.length ≤ cap ∧ RS w (some ⟨g, 0, none⟩) L.length cap L := by
  obtain ⟨a, c, e, hr⟩ := owned_rs h
  rcases h.2 with ⟨rfl, hl⟩ | ⟨g, cap, cur, rfl, hg, hb, hn, hcap, hsz, ht⟩
  · exact Or.inl ⟨rfl, List.eq_nil_of_length_eq_zero hl⟩
  · refine Or.inr ⟨g, cap, rfl, hg, (Array.getElem?_eq_some_iff.1 hb).1, hn, ?_⟩
    simp only [Value.slice.injEq] at e
    obtain ⟨rfl, _, rfl⟩ := e
    exact hr

theorem rs_one (w : World) (x : Mo) : RS (w.alloc (.cells (x.o.cells x.dep) 52)) (some ⟨w.heap.size, 0, none⟩) 1 1 [x] :=
  ⟨rfl, Nat.le_refl _, by decide, (fun e => by cases e), fun ad ha j u hj => by
    cases ha
    exact mo_cells _ _ x (opAt_alloc w x.o x.dep 52) j u (by simpa [flo] using hj)⟩

theorem own_kept {w w' : World} {base : Nat} {v : Value} {L : List Mo} (h : OwnO w base v L) (hb : RowKit.Below w.heap.size w w') : OwnO w' base v L := h.kept (below_grown hb) none_or

end

section
open Go.RowKit
open Go.Sort (grow)

def slen : Value → Nat
  | .slice _ n _ => n
  | _ => 0

end

section
open Go.RowKit
open Go.Sort (grow)

/-- With one that may be: in new memory. -/
theorem rwith_own {a : Option Addr} {n c : Nat} {A : List Dt} {w : World} (d : Dt) (hd : mayd d = true) (hs : PS w a n c A) (hn : n ≤ 1000000) (hA : VM A) : Calls Try.prog 42 #[.slice a n c, dv d] w (Gives w (vwith A d)) := by
  obtain ⟨d1, d2⟩ := d
  have b0 : RowKit.Below w.heap.size w (w.alloc (.cells #[.int .i64 d1, .int .i64 d2] 24)) := (Below.refl _ w).alloc (Nat.le_refl _) _
  have hM := rmay_any (d1, d2) (w.alloc (.cells #[.int .i64 d1, .int .i64 d2] 24))
  have k0 : (w.alloc (.cells #[.int .i64 d1, .int .i64 d2] 24)).cell? ⟨w.heap.size, 0, none⟩ = some (.int .i64 d1) := by go_simp
  have k1 : (w.alloc (.cells #[.int .i64 d1, .int .i64 d2] 24)).cell? ⟨w.heap.size, 1, none⟩ = some (.int .i64 d2) := by go_simp
  have hk : w.heap.size < (w.alloc (.cells #[.int .i64 d1, .int .i64 d2] 24)).heap.size := by simp
  have hv : Hid (vwith A (d1, d2) = vjoin A [(d1, d2)]) := hid (by unfold vwith; rw [if_pos hd])
  have hone := hid (vm_one hd)
  rw [hd] at hM
  go_enter Try.func42, Try.ntmps42
  go_wp2_with (first
    | (go_at_call 61; have hq := f0; refine (rjoin_any (A := A) (B := [(d1, d2)]) (hsW.below ((Below.refl _ w1).alloc (Nat.le_refl _) _)) hn (ps_one w1 (d1, d2)) (by omega) hA hone.out).mono ?_; rintro e w2 ⟨v2, rfl, ho2, hb2⟩)
    | (go_at_call 60; refine hM.mono ?_; rintro e w1 ⟨rfl, hF1⟩; have f0 := (hF1.below.cell (p := ⟨w.heap.size, 0, none⟩) hk).trans k0; have f1 := (hF1.below.cell (p := ⟨w.heap.size, 1, none⟩) hk).trans k1; have hbw := below2 b0 hF1.below; have hsW := hs.below hbw))
  go_ret
  rw [hv.out]
  have hbb : RowKit.Below w.heap.size w w2 := below2 hbw (below2 ((Below.refl _ w1).alloc (Nat.le_refl _) _) hb2)
  exact ⟨v2, rfl, sbase ho2 (by have := hbw.size; simp; omega), hbb⟩

theorem apart_lt {w w' : World} {b e z b' e' z' : Nat} {v v' : Value} {n n' : Nat} {xs xs' : List Value} (h : w.ownsRow b e z v n xs) (h' : w'.ownsRow b' e' z' v' n' xs') (hlt : w.heap.size ≤ b') : v.ownBlock = none ∨ v.ownBlock ≠ v'.ownBlock := by
  cases hv : v.ownBlock with
  | none => exact Or.inl rfl
  | some k =>
    refine Or.inr fun e => ?_
    have h1 := (h.lt k hv).2
    have h2 := (h'.lt k e.symm).1
    omega
theorem apart_gt {w w' : World} {b e z b' e' z' : Nat} {v v' : Value} {n n' : Nat} {xs xs' : List Value} (h : w.ownsRow b e z v n xs) (h' : w'.ownsRow b' e' z' v' n' xs') (hlt : w'.heap.size ≤ b) : v.ownBlock = none ∨ v.ownBlock ≠ v'.ownBlock := by
  cases hv : v.ownBlock with
  | none => exact Or.inl rfl
  | some k =>
    refine Or.inr fun e => ?_
    have h1 := (h.lt k hv).1
    have h2 := (h'.lt k e.symm).2
    omega

theorem own_rs_at {w : World} {base g o c : Nat} {L : List Mo} {n : Nat} (h : OwnO w base (.slice (some ⟨g, o, none⟩) n c) L) (hl : L.length = n) : RS w (some ⟨g, o, none⟩) n c L := by
  obtain ⟨a, c', e, hr⟩ := owned_rs h
  simp only [Value.slice.injEq] at e
  obtain ⟨rfl, rfl, rfl⟩ := e
  exact hr

theorem rs_kept {w w' : World} {g o n c : Nat} {L : List Mo} {r : Option Nat} (h : RS w (some ⟨g, o, none⟩) n c L) (hg : w.grownBy w' r) (hne : some g ≠ r) : RS w' (some ⟨g, o, none⟩) n c L :=
  ⟨h.len, h.cap, h.max, h.nil, fun ad ha j u hj => by
    have h1 := h.cells ad ha j u hj
    cases ha
    have hb := hg.block g (by have := cell_in h1; rw [add_none] at this; exact this) hne
    rw [add_none] at h1 ⊢
    simp only [World.cell?] at h1 ⊢
    rw [hb]
    exact h1⟩

theorem own_ps_at {w : World} {base c : Nat} {a : Option Addr} {L : List Dt} {n : Nat} (h : w.ownsRow base 24 2 (.slice a n c) L.length (flat L)) : PS w a n c L := by
  obtain ⟨a', c', e, hp⟩ := owned_ps h rfl
  simp only [Value.slice.injEq] at e
  obtain ⟨rfl, rfl, rfl⟩ := e
  exact hp

theorem rs_id {w : World} {g o n c : Nat} {L : List Mo} (h : RS w (some ⟨g, o, none⟩) n c L) {q : Nat} {x : Mo} (hx : L[q]? = some x) : w.cell? ⟨g, o + q * 14, none⟩ = some (.int .i64 x.o.id0) ∧ w.cell? ⟨g, o + q * 14 + 1, none⟩ = some (.int .i64 x.o.id1) := by
  obtain ⟨hq, e⟩ := List.getElem?_eq_some_iff.1 hx
  obtain ⟨g', o', e', _, hc⟩ := h.at (by rw [← h.len]; omega)
  cases e'
  have := hc q hq
  rw [e] at this
  exact ⟨this.c0, this.c1⟩

theorem verv_snoc (l : List Mop) (x : Mop) : verv (l ++ [x]) = vwith (verv l) x.1.id := by
  unfold verv
  rw [List.map_append, List.foldl_append]
  rfl

theorem verv_length (l : List Mop) : (verv l).length ≤ l.length := by
  have h := foldl_length (l.map (fun x => x.1.id)) []
  simp at h
  exact h

theorem lf_nil (R : List Mo) : lf R [] = R := by
  unfold lf
  rw [thT_nil]
  exact List.filter_eq_self.2 (fun _ _ => rfl)

theorem lf_len (R : List Mo) (T : List Nat) : (lf R T).length ≤ R.length := List.length_filter_le _ _

/-- Is the one at this place ready? -/
def rdq (R : List Mo) (T : List Nat) (q : Nat) : Bool := match (lf R T)[q]? with | some x => rdyb R T x | none => false

theorem rdq_at {R : List Mo} {T : List Nat} {q : Nat} {x : Mo} (h : (lf R T)[q]? = some x) : rdq R T q = rdyb R T x := by
  unfold rdq
  rw [h]

end

section
set_option linter.unusedVariables false
open Go.RowKit

theorem verv_len (l : List Mop) : (verv l).length ≤ l.length := by
  unfold verv
  have := foldl_length (l.map (fun x => x.1.id)) []
  simpa using this

set_option maxRecDepth 100000 in
set_option maxHeartbeats 4000000 in
theorem rversion_any (a : Option Addr) (n c : Nat) (L : List Mo) (w : World) (h : OS w a n c L) (hm : ∀ x ∈ L, mayd x.o.id = true) (hn : n ≤ 1000) :
    Calls Try.prog 46 #[.slice a n c] w (Gives w (verv (L.map Mo.m))) := by
  have hcap := h.cap
  have hmx := h.max
  unfold maxLen at hmx
  have HLl : Hid (L.length = n) := hid h.len
  have HOS := hid h
  have HM := hid hm
  clear h hm
  go_enter Try.func46, Try.ntmps46
  go_wp2
  go_loopw [3, 4] (fun u i wr => ∃ (k : Nat) (v : Value), k ≤ n ∧ i = .int .i64 k ∧ v = u ∧ Hid (wr.ownsRow w.heap.size 24 2 v (verv ((L.take k).map Mo.m)).length (flat (verv ((L.take k).map Mo.m)))) ∧ Hid (Below w.heap.size w wr)) (fun _ i _ => n - (intOf i).toNat)
  case atStart => exact ⟨0, _, by omega, rfl, rfl, hid (World.ownsRow_nil _ _ _ _), hid (Below.refl _ _)⟩
  case round =>
    obtain ⟨k, v, hk, rfl, hv, hO, hB⟩ := hrel
    subst hv
    by_cases hlt : k < n
    · obtain ⟨g, o, rfl, hg, hat⟩ := HOS.out.at (by omega)
      have hkL : k < L.length := by rw [HLl.out]; exact hlt
      have hat := hat k hkL
      obtain ⟨x, hx⟩ : ∃ x, x = L[k]'hkL := ⟨_, rfl⟩
      rw [← hx] at hat
      have hxm := HM.out x (by rw [hx]; exact List.getElem_mem _)
      have hst : Hid (verv ((L.take (k + 1)).map Mo.m) = vwith (verv ((L.take k).map Mo.m)) x.o.id) := hid (by
        rw [List.take_succ_eq_append_getElem hkL, ← hx, List.map_append]
        exact verv_snoc _ _)
      have hvl : (verv ((L.take k).map Mo.m)).length ≤ 1000 := by
        refine Nat.le_trans (verv_len _) ?_
        rw [List.length_map, List.length_take]
        omega
      have hvm := verv_vm ((L.take k).map Mo.m)
      have c0 := (hB.out.cell (p := ⟨g, o + k * 14, none⟩) (cell_in hat.c0)).trans hat.c0
      have c1 := (hB.out.cell (p := ⟨g, o + k * 14 + 1, none⟩) (cell_in hat.c1)).trans hat.c1
      obtain ⟨a2, c2, rfl, hp2⟩ := owned_ps hO.out rfl
      have hw := rwith_own (w := wr) x.o.id hxm hp2 (by omega) hvm
      have hcall : Calls Try.prog 42 #[.slice a2 (verv ((L.take k).map Mo.m)).length c2, .agg #[.int .i64 x.o.id0, .int .i64 x.o.id1]] wr fun e w' => ∃ v, e = .returned v ∧ Hid (w'.ownsRow w.heap.size 24 2 v (verv ((L.take (k + 1)).map Mo.m)).length (flat (verv ((L.take (k + 1)).map Mo.m)))) ∧ Hid (Below w.heap.size w w') := hw.mono (fun e w' ⟨v, he, ho, hb⟩ => ⟨v, he, hid (by rw [hst.out]; exact sbase ho hB.out.size), hid (hB.out.trans (hb.mono hB.out.size))⟩)
      have hk1 : (k : Int) < (n : Int) := by omega
      have hk0 : (0 : Int) ≤ (k : Int) := by omega
      clear hat hx hxm hst hvl hvm hp2 hw hg hkL
      generalize (verv ((L.take k).map Mo.m)).length = vl at *
      go_wp2_with (go_at_call 42; refine hcall.mono ?_; rintro e w3 ⟨v3, rfl, hO3, hB3⟩)
      go_roundw
      case rel => exact ⟨k + 1, _, by omega, by go_num, rfl, hO3, hB3⟩
      case measure => simp [intOf]; omega
    · have hkn : k = n := by omega
      subst hkn
      have hfin : Hid (Gives w (verv (L.map Mo.m)) (.returned v) wr) := hid (by
        have := hO.out
        rw [List.take_of_length_le (Nat.le_of_eq HLl.out)] at this
        exact ⟨_, rfl, this, hB.out⟩)
      go_wp2
      go_ret
      exact hfin.out
end

section

/-- A character: its identity, under which one it lies and at which side (true: the right one), its char, whether it is seen. -/
structure Cr where
  id : Dt
  at_ : Dt
  sd : Bool
  ch : Int
  seen : Bool

/-- Those at a side of one, in order. -/
def kids (T : List Cr) (d : Dt) (s : Bool) : List Dt := rise ((T.filter (fun c => decide (c.at_ = d) && (c.sd == s))).map Cr.id)

theorem kids_up (T : List Cr) (d : Dt) (s : Bool) : Up (kids T d s) := up_rise _

theorem mem_kids {T : List Cr} {d : Dt} {s : Bool} {k : Dt} : k ∈ kids T d s ↔ ∃ c ∈ T, c.at_ = d ∧ c.sd = s ∧ c.id = k := by
  unfold kids
  rw [mem_rise, List.mem_map]
  constructor
  · rintro ⟨c, hc, rfl⟩
    obtain ⟨h1, h2⟩ := List.mem_filter.1 hc
    simp only [Bool.and_eq_true, decide_eq_true_eq, beq_iff_eq] at h2
    exact ⟨c, h1, h2.1, h2.2, rfl⟩
  · rintro ⟨c, hc, h1, h2, rfl⟩
    exact ⟨c, List.mem_filter.2 ⟨hc, by simp [h1, h2]⟩, rfl⟩

theorem kids_snoc (T : List Cr) (c : Cr) (d : Dt) (s : Bool) : kids (T ++ [c]) d s = if c.at_ = d ∧ c.sd = s then ins (kids T d s) c.id else kids T d s := by
  unfold kids
  rw [List.filter_append, List.map_append]
  by_cases h : c.at_ = d ∧ c.sd = s
  · rw [if_pos h, List.filter_cons_of_pos (by simp [h.1, h.2]), List.filter_nil, List.map_cons, List.map_nil, rise_snoc]
  · rw [if_neg h, List.filter_cons_of_neg (by simp only [Bool.and_eq_true, decide_eq_true_eq, beq_iff_eq]; exact h), List.filter_nil, List.map_nil, List.append_nil]

theorem kids_len (T : List Cr) (d : Dt) (s : Bool) : (kids T d s).length ≤ T.length := by
  unfold kids
  refine Nat.le_trans (rise_length _) ?_
  rw [List.length_map]
  exact List.length_filter_le _ _

/-- The root, or a character. -/
def nodes (T : List Cr) (d : Dt) : Prop := d = (0, 0) ∨ ∃ c ∈ T, c.id = d

theorem nodes_snoc {T : List Cr} {c : Cr} {d : Dt} : nodes (T ++ [c]) d ↔ nodes T d ∨ c.id = d := by
  unfold nodes
  constructor
  · rintro (h | ⟨x, hx, e⟩)
    · exact Or.inl (Or.inl h)
    · rcases List.mem_append.1 hx with hx | hx
      · exact Or.inl (Or.inr ⟨x, hx, e⟩)
      · simp at hx; rw [hx] at e; exact Or.inr e
  · rintro ((h | ⟨x, hx, e⟩) | h)
    · exact Or.inl h
    · exact Or.inr ⟨x, List.mem_append_left _ hx, e⟩
    · exact Or.inr ⟨c, by simp, h⟩

/-- Characters as they may have come. -/
structure WT (T : List Cr) : Prop where
  ids : (T.map Cr.id).Nodup
  nz : ∀ c ∈ T, c.id ≠ (0, 0)
  dw : ∀ c ∈ T, Dw c.id
  under : ∀ (i : Nat) (c : Cr), T[i]? = some c → nodes (T.take i) c.at_
  root : ∀ c ∈ T, c.at_ = (0, 0) → c.sd = true

theorem WT.nil : WT [] := ⟨List.nodup_nil, by simp, by simp, by simp, by simp⟩

theorem WT.node {T : List Cr} (h : WT T) {c : Cr} (hc : c ∈ T) : nodes T c.at_ := by
  obtain ⟨i, hi⟩ := List.mem_iff_getElem?.1 hc
  rcases h.under i c hi with e | ⟨x, hx, e⟩
  · exact Or.inl e
  · exact Or.inr ⟨x, List.mem_of_mem_take hx, e⟩

theorem WT.snoc {T : List Cr} {c : Cr} (h : WT T) (hn : c.id ≠ (0, 0)) (hd : Dw c.id) (hf : ∀ x ∈ T, x.id ≠ c.id) (hu : nodes T c.at_) (hr : c.at_ = (0, 0) → c.sd = true) : WT (T ++ [c]) := by
  refine ⟨?_, fun x hx => ?_, fun x hx => ?_, fun i x hx => ?_, fun x hx => ?_⟩
  · rw [List.map_append, List.nodup_append]
    refine ⟨h.ids, by simp, fun a ha b hb e => ?_⟩
    obtain ⟨x, hx, rfl⟩ := List.mem_map.1 ha
    simp at hb
    exact hf x hx (by rw [e, hb])
  · rcases List.mem_append.1 hx with hx | hx
    · exact h.nz x hx
    · simp at hx; rw [hx]; exact hn
  · rcases List.mem_append.1 hx with hx | hx
    · exact h.dw x hx
    · simp at hx; rw [hx]; exact hd
  · by_cases hi : i < T.length
    · rw [List.getElem?_append_left hi] at hx
      rw [List.take_append_of_le_length (by omega)]
      exact h.under i x hx
    · rw [List.getElem?_append_right (by omega)] at hx
      have hkk : i - T.length = 0 := by
        have := (List.getElem?_eq_some_iff.1 hx).1
        simp at this
        omega
      rw [hkk] at hx
      simp at hx
      subst hx
      have : i = T.length := by omega
      subst this
      rw [List.take_append_of_le_length (Nat.le_refl _), List.take_length]
      exact hu
  · rcases List.mem_append.1 hx with hx | hx
    · exact h.root x hx
    · simp at hx; rw [hx]; exact hr

/-- Nothing lies under one that is new. -/
theorem WT.fresh {T : List Cr} (h : WT T) {d : Dt} (hf : ∀ x ∈ T, x.id ≠ d) (hz : d ≠ (0, 0)) (s : Bool) : kids T d s = [] := by
  apply List.eq_nil_iff_forall_not_mem.2
  intro k hk
  obtain ⟨c, hc, h1, _, _⟩ := mem_kids.1 hk
  rcases h.node hc with e | ⟨x, hx, e⟩
  · exact hz (by rw [← h1, e])
  · exact hf x hx (by rw [e, h1])

theorem ids_one {T : List Cr} (h : (T.map Cr.id).Nodup) {a b : Cr} (ha : a ∈ T) (hb : b ∈ T) (e : a.id = b.id) : a = b := by
  obtain ⟨i, hi⟩ := List.mem_iff_getElem?.1 ha
  obtain ⟨j, hj⟩ := List.mem_iff_getElem?.1 hb
  have h1 : (T.map Cr.id)[i]? = (T.map Cr.id)[j]? := by rw [List.getElem?_map, List.getElem?_map, hi, hj]; simp [e]
  have hil : i < (T.map Cr.id).length := by simpa using (List.getElem?_eq_some_iff.1 hi).1
  have := (List.getElem?_inj hil h).1 h1
  subst this
  rw [hi] at hj
  cases hj
  rfl

end
end Go.Proofs.Ytbpepmajpojacaa
