/- Whether operations are right, in numbers: by Deps' own dots, or by all that they have. No function of the program. -/
import Derived.Test.YtlncokkpdkddlaaGreatCTwo
namespace Go.Proofs.YtlncokkpdkddlaaGreat
section

/-- How many of a row come ahead of one: up to the first that doesn't. -/
def aheadN (x : Mo) : List Mo → Nat
  | [] => 0
  | y :: r => if lo y.o x.o = true then aheadN x r + 1 else 0

theorem aheadN_le (x : Mo) : ∀ l : List Mo, aheadN x l ≤ l.length
  | [] => Nat.le_refl _
  | y :: r => by
    unfold aheadN
    have := aheadN_le x r
    split
    · simp; omega
    · simp

theorem aheadN_lt (x : Mo) : ∀ (l : List Mo) (k : Nat) (hk : k < l.length), k < aheadN x l → lo l[k].o x.o = true
  | [], k, hk, _ => by simp at hk
  | y :: r, k, hk, h => by
    unfold aheadN at h
    split at h
    · rename_i hy
      cases k with
      | zero => exact hy
      | succ k => exact aheadN_lt x r k (by simpa using hk) (by omega)
    · omega

theorem aheadN_at (x : Mo) : ∀ (l : List Mo) (hk : aheadN x l < l.length), lo (l[aheadN x l]'hk).o x.o = false
  | [], hk => by simp at hk
  | y :: r, hk => by
    by_cases hy : lo y.o x.o = true
    · have e : aheadN x (y :: r) = aheadN x r + 1 := by simp [aheadN, hy]
      have hk' : aheadN x r < r.length := by rw [e] at hk; simpa using hk
      have := aheadN_at x r hk'
      simp only [e, List.getElem_cons_succ]
      exact this
    · have e : aheadN x (y :: r) = 0 := by simp [aheadN, hy]
      simp only [e, List.getElem_cons_zero]
      simpa using hy

/-- A row with one more. -/
def putO (l : List Mo) (x : Mo) : List Mo := l.take (aheadN x l) ++ [x] ++ l.drop (aheadN x l)

theorem putO_perm (l : List Mo) (x : Mo) : (putO l x).Perm (l ++ [x]) := by
  unfold putO
  have h := List.take_append_drop (aheadN x l) l
  have h1 : (l.take (aheadN x l) ++ [x] ++ l.drop (aheadN x l)).Perm (l.take (aheadN x l) ++ (l.drop (aheadN x l) ++ [x])) := by
    rw [List.append_assoc]
    exact (List.perm_append_comm).append_left _
  rw [← List.append_assoc, h] at h1
  exact h1

theorem putO_cons_lt {x y : Mo} {r : List Mo} (h : lo y.o x.o = true) : putO (y :: r) x = y :: putO r x := by
  have e : aheadN x (y :: r) = aheadN x r + 1 := by simp [aheadN, h]
  unfold putO
  rw [e]
  simp
theorem putO_cons_ge {x y : Mo} {r : List Mo} (h : lo y.o x.o = false) : putO (y :: r) x = x :: y :: r := by
  have e : aheadN x (y :: r) = 0 := by simp [aheadN, h]
  unfold putO
  rw [e]
  simp

theorem lo_trans {o p q : OpIn} (h : lo o p = true) (k : lo p q = true) : lo o q = true := by
  rw [lo_iff] at *
  omega

theorem putO_up : ∀ {l : List Mo} {x : Mo}, UpO l → (∀ y ∈ l, y.o.id ≠ x.o.id) → UpO (putO l x) := by
  intro l
  induction l with
  | nil => intro x _ _; exact List.pairwise_singleton _ _
  | cons y r ih =>
    intro x h hn
    obtain ⟨h1, h2⟩ := List.pairwise_cons.1 h
    cases hy : lo y.o x.o with
    | true =>
      rw [putO_cons_lt hy]
      refine List.pairwise_cons.2 ⟨fun z hz => ?_, ih h2 (fun z hz => hn z (List.mem_cons_of_mem _ hz))⟩
      rcases List.mem_append.1 ((putO_perm r x).mem_iff.1 hz) with hz | hz
      · exact h1 z hz
      · simp at hz; rw [hz]; exact hy
    | false =>
      rw [putO_cons_ge hy]
      have hxy : lo x.o y.o = true := lo_total (fun e => hn y (by simp) e.symm) (by rw [hy]; exact Bool.false_ne_true)
      refine List.pairwise_cons.2 ⟨fun z hz => ?_, h⟩
      rcases List.mem_cons.1 hz with rfl | hz
      · exact hxy
      · exact lo_trans hxy (h1 z hz)

/-- Those that count, put in order one by one. -/
def cntO1 (out : List Mo) (x : Mo) : List Mo := if chk x.o x.V = true ∧ hasId (out.map Mo.m) x.o.id = false then putO out x else out
def cntO (l : List Mo) : List Mo := l.foldl cntO1 []

theorem cntO_snoc (l : List Mo) (x : Mo) : cntO (l ++ [x]) = cntO1 (cntO l) x := by simp [cntO]

theorem hasId_perm {l l' : List Mop} (h : l.Perm l') (d : Dt) : hasId l d = hasId l' d := by
  rw [Bool.eq_iff_iff, hasId_iff, hasId_iff]
  exact (h.map _).mem_iff

theorem cntO1_says {out : List Mo} {l : List Mop} (hp : (out.map Mo.m).Perm l) (hu : UpO out) (x : Mo) : ((cntO1 out x).map Mo.m).Perm (cnt1 l x.m) ∧ UpO (cntO1 out x) := by
  unfold cntO1 cnt1
  rw [hasId_perm hp]
  by_cases h : chk x.o x.V = true ∧ hasId l x.o.id = false
  · rw [if_pos h, if_pos ⟨h.2, h.1⟩]
    refine ⟨?_, putO_up hu fun y hy e => ?_⟩
    · refine ((putO_perm out x).map Mo.m).trans ?_
      rw [List.map_append]
      exact hp.append_right _
    · have h1 : hasId l x.o.id = true := (hasId_iff l x.o.id).2 ((hp.map (fun x => x.1.id)).mem_iff.1 (List.mem_map.2 ⟨y.m, List.mem_map.2 ⟨y, hy, rfl⟩, e⟩))
      rw [h.2] at h1
      cases h1
  · rw [if_neg h, if_neg (fun e => h ⟨e.2, e.1⟩)]
    exact ⟨hp, hu⟩

theorem cntO_says (l : List Mo) : ((cntO l).map Mo.m).Perm (cnt (l.map Mo.m)) ∧ UpO (cntO l) := by
  have key : ∀ (l out : List Mo) (k : List Mop), (out.map Mo.m).Perm k → UpO out → ((l.foldl cntO1 out).map Mo.m).Perm ((l.map Mo.m).foldl cnt1 k) ∧ UpO (l.foldl cntO1 out) := by
    intro l
    induction l with
    | nil => exact fun _ _ h h' => ⟨h, h'⟩
    | cons x r ih =>
      intro out k h h'
      have := cntO1_says h h' x
      exact ih _ _ this.1 this.2
  exact key l [] [] (List.Perm.refl _) List.Pairwise.nil

theorem cntO1_len (out : List Mo) (x : Mo) : (cntO1 out x).length ≤ out.length + 1 := by
  unfold cntO1
  split
  · rw [(putO_perm out x).length_eq]; simp
  · omega

theorem cntO_len (l : List Mo) : (cntO l).length ≤ l.length := by
  have h := (cntO_says l).1.length_eq
  have h2 := cnt_len (l.map Mo.m)
  simp at h h2
  omega

theorem fold_subO (l : List Mo) : ∀ (out : List Mo) (y : Mo), y ∈ l.foldl cntO1 out → y ∈ out ∨ y ∈ l := by
  induction l with
  | nil => exact fun _ _ h => Or.inl h
  | cons x r ih =>
    intro out y h
    rcases ih _ _ h with h | h
    · unfold cntO1 at h
      split at h
      · rcases List.mem_append.1 ((putO_perm out x).mem_iff.1 h) with h | h
        · exact Or.inl h
        · simp at h; exact Or.inr (by simp [h])
      · exact Or.inl h
    · exact Or.inr (List.mem_cons_of_mem _ h)

theorem cntO_sub {l : List Mo} {y : Mo} (h : y ∈ cntO l) : y ∈ l := by
  rcases fold_subO l [] y h with h | h
  · simp at h
  · exact h

/-! The order. -/

/-- What holds of the reference's order at each round. -/
structure RO (l : List Mop) (R : List Mo) (T : List Nat) : Prop where
  up : UpO R
  perm : (R.map Mo.m).Perm (cnt l)
  fits : ∀ x ∈ R, x.o.Fits ∧ Dws x.V
  ch : Ch (R.map Mo.V) (R.map (fun x => x.o.id)) T

theorem RO.nodup {l : List Mop} {R : List Mo} {T : List Nat} (h : RO l R T) : (R.map (fun x => x.o.id)).Nodup := by
  have h3 := (h.perm.map (fun x : Mop => x.1.id)).nodup_iff.2 (cnt_nodup l)
  rw [List.map_map] at h3
  exact h3

theorem RO.lt {l : List Mop} {R : List Mo} {T : List Nat} (h : RO l R T) : ∀ p ∈ T, p < R.length := fun p hp => by
  have := h.ch.lt hp
  simpa using this

theorem RO.may {l : List Mop} {R : List Mo} {T : List Nat} (h : RO l R T) {x : Mo} (hx : x ∈ R) : chk x.o x.V = true :=
  cnt_chk (y := x.m) (h.perm.mem_iff.1 (List.mem_map.2 ⟨x, hx, rfl⟩))

theorem RO.at {l : List Mop} {R : List Mo} {T : List Nat} (h : RO l R T) {k : Nat} {x : Mo} (hx : (inL R T)[k]? = some x) : ∃ p, T[k]? = some p ∧ R[p]? = some x := by
  rw [inL_get h.lt] at hx
  cases hp : T[k]? with
  | none => rw [hp] at hx; simp at hx
  | some p => rw [hp] at hx; exact ⟨p, rfl, hx⟩

theorem RO.cl {l : List Mop} {R : List Mo} {T : List Nat} (h : RO l R T) : Cl ((inL R T).map Mo.m) := by
  refine ⟨fun x hx => ?_, fun k x hx d hd => ?_, ?_⟩
  · obtain ⟨y, hy, rfl⟩ := List.mem_map.1 hx
    exact h.may (inL_mem hy)
  · rw [List.getElem?_map] at hx
    cases hy : (inL R T)[k]? with
    | none => rw [hy] at hx; simp at hx
    | some y =>
      rw [hy] at hx
      have hxy : y.m = x := by simpa using hx
      obtain ⟨p, hp, hR⟩ := h.at hy
      have hk := (List.getElem?_eq_some_iff.1 hp).1
      have hpe := (List.getElem?_eq_some_iff.1 hp).2
      have hn := (nxt_some_iff.1 (h.ch k hk)).1.2.2 d (by rw [hpe, vs_at hR]; rw [← hxy] at hd; exact hd)
      have hlt : ∀ q ∈ T.take k, q < R.length := fun q hq => h.lt q (List.mem_of_mem_take hq)
      obtain ⟨z, hz, hzd⟩ := (thT_iff hlt d).1 hn
      rw [inL_take h.lt] at hz
      obtain ⟨j, hjk, hj⟩ := mem_take_at.1 hz
      exact ⟨j, z.m, hjk, by rw [List.getElem?_map, hj]; rfl, hzd⟩
  · rw [List.map_map]
    refine List.pairwise_iff_getElem.2 fun i j hi hj hij e => ?_
    have hi' : i < (inL R T).length := by simpa using hi
    have hj' : j < (inL R T).length := by simpa using hj
    obtain ⟨p, hp, hRp⟩ := h.at (List.getElem?_eq_getElem hi')
    obtain ⟨q, hq, hRq⟩ := h.at (List.getElem?_eq_getElem hj')
    have e' : (inL R T)[i].o.id = (inL R T)[j].o.id := by simpa using e
    have hpl := (List.getElem?_eq_some_iff.1 hRp).1
    have hpq : p = q := by
      refine (List.getElem?_inj (by simpa using hpl) h.nodup).1 ?_
      rw [List.getElem?_map, List.getElem?_map, hRp, hRq]
      simp [e']
    subst hpq
    have hiT := (List.getElem?_eq_some_iff.1 hp).1
    have := (List.getElem?_inj hiT h.ch.nodup).1 (hp.trans hq.symm)
    omega

/-- Is it ready, where these were taken in? -/
def rdyb (R : List Mo) (T : List Nat) (x : Mo) : Bool := x.V.all (thT (R.map (fun x => x.o.id)) T)

theorem RO.not_in {l : List Mop} {R : List Mo} {T : List Nat} (h : RO l R T) {d : Dt} (hd : thT (R.map (fun x => x.o.id)) T d = false) : ∀ y ∈ (inL R T).map Mo.m, y.1.id ≠ d := by
  intro y hy e
  obtain ⟨z, hz, rfl⟩ := List.mem_map.1 hy
  have := (thT_iff h.lt d).2 ⟨z, hz, e⟩
  rw [this] at hd
  cases hd

/-- What Ready tells of one that is left. -/
theorem RO.ready {l : List Mop} {R : List Mo} {T : List Nat} (h : RO l R T) {x : Mo} (hx : x ∈ lf R T) : rdyE (verv ((inL R T).map Mo.m)) x.o x.V = if rdyb R T x = true then 0 else 31 := by
  obtain ⟨hxR, hxn⟩ := List.mem_filter.1 hx
  have hn := h.not_in (d := x.o.id) (by simpa using hxn)
  split
  · rename_i hr
    refine h.cl.ready (h.may hxR) hn fun d hd => ?_
    have h1 := List.all_eq_true.1 hr d hd
    obtain ⟨y, hy, hyd⟩ := (thT_iff h.lt d).1 h1
    exact ⟨y.m, List.mem_map.2 ⟨y, hy, rfl⟩, hyd⟩
  · rename_i hr
    have hr' : rdyb R T x = false := by simpa using hr
    obtain ⟨d, hd, hf⟩ := List.all_eq_false.1 hr'
    exact h.cl.early (h.may hxR) hn hd (h.not_in (by simpa using hf))

theorem RO.place {l : List Mop} {R : List Mo} {T : List Nat} (h : RO l R T) {q : Nat} {x : Mo} (hq : R[q]? = some x) : x ∈ lf R T ↔ q ∉ T := by
  have hxR := List.mem_of_getElem? hq
  have hql := (List.getElem?_eq_some_iff.1 hq).1
  unfold lf
  rw [List.mem_filter]
  constructor
  · rintro ⟨_, hxn⟩ hqT
    have : thT (R.map (fun x => x.o.id)) T x.o.id = true := (thT_iff h.lt _).2 ⟨x, List.mem_filterMap.2 ⟨q, hqT, hq⟩, rfl⟩
    rw [this] at hxn
    cases hxn
  · intro hqT
    refine ⟨hxR, ?_⟩
    cases e : thT (R.map (fun x => x.o.id)) T x.o.id with
    | false => rfl
    | true =>
      obtain ⟨y, hy, hyd⟩ := (thT_iff h.lt _).1 e
      obtain ⟨p, hp, hpy⟩ := List.mem_filterMap.1 hy
      have : p = q := by
        refine (List.getElem?_inj (by have := h.lt p hp; simpa using this) h.nodup).1 ?_
        rw [List.getElem?_map, List.getElem?_map, hpy, hq]
        simp [hyd]
      exact absurd (this ▸ hp) hqT

/-- None that is left is ready: that is all. -/
theorem RO.done {l : List Mop} {R : List Mo} {T : List Nat} (h : RO l R T) (hn : ∀ x ∈ lf R T, rdyb R T x = false) : Taken l R T := by
  refine ⟨h.up, h.perm, h.fits, h.ch, nxt_none_iff.2 fun q hq hqT => ?_⟩
  have hq' : R[q]? = some (R[q]'(by simpa using hq)) := List.getElem?_eq_getElem _
  obtain ⟨d, hd, hf⟩ := List.all_eq_false.1 (hn _ ((h.place hq').2 hqT))
  exact ⟨d, by rw [vs_at hq']; exact hd, by simpa using hf⟩

theorem filter_ne : ∀ (l : List Mo) (j : Nat) (x : Mo), (l.map (fun x => x.o.id)).Nodup → l[j]? = some x → l.filter (fun y => !decide (y.o.id = x.o.id)) = l.take j ++ l.drop (j + 1) := by
  intro l
  induction l with
  | nil => intro j x _ h; simp at h
  | cons y r ih =>
    intro j x hn h
    rw [List.map_cons, List.nodup_cons] at hn
    cases j with
    | zero =>
      simp at h
      subst h
      have : r.filter (fun z => !decide (z.o.id = y.o.id)) = r := List.filter_eq_self.2 fun z hz => by
        have : z.o.id ≠ y.o.id := fun e => hn.1 (List.mem_map.2 ⟨z, hz, e⟩)
        simp [this]
      rw [List.filter_cons_of_neg (by simp), this]
      rfl
    | succ j =>
      have hj : r[j]? = some x := by simpa using h
      have hne : y.o.id ≠ x.o.id := fun e => hn.1 (List.mem_map.2 ⟨x, List.mem_of_getElem? hj, e.symm⟩)
      rw [List.filter_cons_of_pos (by simp [hne]), ih j x hn.2 hj]
      simp

/-- The least that is ready is the next one. -/
theorem RO.next {l : List Mop} {R : List Mo} {T : List Nat} (h : RO l R T) {j : Nat} {x : Mo} (hx : (lf R T)[j]? = some x) (hr : rdyb R T x = true) (hl : ∀ (i : Nat) (y : Mo), i < j → (lf R T)[i]? = some y → rdyb R T y = false) :
    ∃ p, R[p]? = some x ∧ RO l R (T ++ [p]) ∧ inL R (T ++ [p]) = inL R T ++ [x] ∧ lf R (T ++ [p]) = (lf R T).take j ++ (lf R T).drop (j + 1) := by
  have hxl := List.mem_of_getElem? hx
  have hxR : x ∈ R := (List.mem_filter.1 hxl).1
  obtain ⟨p, hp⟩ := List.mem_iff_getElem?.1 hxR
  have hpl := (List.getElem?_eq_some_iff.1 hp).1
  have hpx := (List.getElem?_eq_some_iff.1 hp).2
  have hup : UpO (lf R T) := h.up.sublist List.filter_sublist
  have hnx : nxt (R.map Mo.V) (R.map (fun x => x.o.id)) T = some p := by
    refine nxt_some_iff.2 ⟨⟨by simpa using hpl, (h.place hp).1 hxl, fun d hd => ?_⟩, fun q hqp hqT => ?_⟩
    · rw [vs_at hp] at hd
      exact List.all_eq_true.1 hr d hd
    · have hql : q < R.length := by omega
      have hq : R[q]? = some R[q] := List.getElem?_eq_getElem hql
      obtain ⟨i, hi⟩ := List.mem_iff_getElem?.1 ((h.place hq).2 hqT)
      have hlo := List.pairwise_iff_getElem.1 h.up q p hql hpl hqp
      rw [hpx] at hlo
      have hij : i < j := by
        rcases Nat.lt_trichotomy i j with h1 | h1 | h1
        · exact h1
        · subst h1
          rw [hx] at hi
          have : x = R[q] := by simpa using hi
          rw [← this, lo_irrefl] at hlo
          cases hlo
        · have hil := (List.getElem?_eq_some_iff.1 hi).1
          have hjl := (List.getElem?_eq_some_iff.1 hx).1
          have := List.pairwise_iff_getElem.1 hup j i hjl hil h1
          rw [(List.getElem?_eq_some_iff.1 hi).2, (List.getElem?_eq_some_iff.1 hx).2] at this
          have h2 := lo_trans hlo this
          rw [lo_irrefl] at h2
          cases h2
      obtain ⟨d, hd, hf⟩ := List.all_eq_false.1 (hl i _ hij hi)
      exact ⟨d, by rw [vs_at hq]; exact hd, by simpa using hf⟩
  refine ⟨p, hp, ⟨h.up, h.perm, h.fits, h.ch.snoc hnx⟩, by rw [inL_snoc hpl, hpx], ?_⟩
  have hnd : ((lf R T).map (fun x => x.o.id)).Nodup := h.nodup.sublist (List.filter_sublist.map _)
  rw [← filter_ne (lf R T) j x hnd hx]
  unfold lf
  rw [List.filter_filter]
  congr 1
  funext y
  have hg : (R.map (fun x => x.o.id)).getD p (0, 0) = x.o.id := by simp [List.getD_eq_getElem?_getD, hp]
  rw [thT_snoc, hg, Bool.not_or, Bool.and_comm]

/-- The least of the last ones for which something holds, or none (-1). -/
def Fr (f : Nat → Bool) (m j : Nat) (kk : Int) : Prop := (kk = -1 ∧ ∀ q, j ≤ q → q < m → f q = false) ∨ ∃ q : Nat, kk = q ∧ j ≤ q ∧ q < m ∧ f q = true ∧ ∀ q', j ≤ q' → q' < q → f q' = false

theorem Fr.start (f : Nat → Bool) (m : Nat) : Fr f m m (-1) := Or.inl ⟨rfl, fun q h1 h2 => by omega⟩
theorem Fr.yes {f : Nat → Bool} {m j : Nat} {kk : Int} (_ : Fr f m (j + 1) kk) (hj : j < m) (h : f j = true) : Fr f m j (j : Int) := Or.inr ⟨j, rfl, Nat.le_refl _, hj, h, fun q' h1 h2 => by omega⟩
theorem Fr.no {f : Nat → Bool} {m j : Nat} {kk : Int} (h : Fr f m (j + 1) kk) (hf : f j = false) : Fr f m j kk := by
  have key : ∀ q, j ≤ q → j + 1 ≤ q ∨ q = j := fun q hq => by omega
  rcases h with ⟨rfl, h⟩ | ⟨q, rfl, h1, h2, h3, h4⟩
  · refine Or.inl ⟨rfl, fun q hq hm => ?_⟩
    rcases key q hq with h' | rfl
    · exact h q h' hm
    · exact hf
  · refine Or.inr ⟨q, rfl, by omega, h2, h3, fun q' h5 h6 => ?_⟩
    rcases key q' h5 with h' | rfl
    · exact h4 q' h' h6
    · exact hf

end

section

theorem fold_full (l : List Mop) : ∀ out : List Mop, (l.foldl cnt1 out).length = out.length + l.length → l.foldl cnt1 out = out ++ l := by
  induction l with
  | nil => intro out _; simp
  | cons x r ih =>
    intro out h
    rw [List.foldl_cons] at h ⊢
    have h1 := fold_len r (cnt1 out x)
    have h2 : cnt1 out x = out ++ [x] := by
      unfold cnt1 at h1 h ⊢
      split
      · rfl
      · rename_i hn
        rw [if_neg hn] at h1 h
        simp at h
        omega
    rw [h2] at h ⊢
    rw [ih (out ++ [x]) (by rw [h]; simp; omega)]
    simp

theorem perm_of_same {l m : List Nat} (hl : l.Nodup) (hm : m.Nodup) (h : ∀ a, a ∈ l ↔ a ∈ m) : l.Perm m := by
  rw [List.perm_iff_count]
  intro a
  rw [List.Nodup.count hl, List.Nodup.count hm]
  simp [h a]

theorem Taken.all {l : List Mop} {R : List Mo} {T : List Nat} (h : Taken l R T) (hl : T.length = l.length) : ((inL R T).map Mo.m).Perm l := by
  have h1 : R.length = (cnt l).length := by have := h.2.1.length_eq; simpa using this
  have h2 := cnt_len l
  have h3 : T.length ≤ R.length := by
    have := List.Nodup.length_le_of_subset h.2.2.2.1.nodup (fun x hx => List.mem_range.2 (h.2.2.2.1.lt hx))
    simpa using this
  have h4 : cnt l = l := by
    have := fold_full l [] (by show (cnt l).length = _; simp; omega)
    show l.foldl cnt1 [] = l
    simpa using this
  have h5 : T.Perm (List.range R.length) := by
    have hsub : ∀ x ∈ T, x ∈ List.range R.length := fun x hx => List.mem_range.2 (h.lt x hx)
    refine (perm_of_same h.2.2.2.1.nodup List.nodup_range fun a => ⟨fun ha => hsub a ha, fun ha => ?_⟩)
    refine Classical.byContradiction fun hn => ?_
    have h7 : (a :: T).Nodup := List.nodup_cons.2 ⟨hn, h.2.2.2.1.nodup⟩
    have h8 := List.Nodup.length_le_of_subset h7 (l₂ := List.range R.length) (fun x hx => by
      rcases List.mem_cons.1 hx with rfl | hx
      · exact ha
      · exact hsub x hx)
    simp at h8
    omega
  have h6 : (inL R T).Perm R := by
    have e : inL R (List.range R.length) = R := by
      apply List.ext_getElem?
      intro k
      rw [inL_get (fun p hp => List.mem_range.1 hp)]
      by_cases hk : k < R.length
      · rw [List.getElem?_eq_getElem (by simpa using hk)]; simp
      · rw [List.getElem?_eq_none (by simpa using hk), List.getElem?_eq_none (by omega)]; rfl
    have := h5.filterMap (fun p => R[p]?)
    show (T.filterMap (fun p => R[p]?)).Perm R
    refine this.trans ?_
    show (inL R (List.range R.length)).Perm R
    rw [e]
  rw [← h4]
  exact (h6.map Mo.m).trans h.2.1

/-- Is one's time above that of another one, if it has it? -/
def okT (x y : Mop) : Bool := !(hasv x.2 y.1.id) || decide (y.1.time < x.1.time)

theorem okT_iff {x y : Mop} : okT x y = true ↔ (hasv x.2 y.1.id = true → y.1.time < x.1.time) := by
  unfold okT
  cases hasv x.2 y.1.id <;> simp

theorem Cl.chain {A : List Mop} (h : Cl A) (hl : latF (fun _ => none) A = true) : ∀ (k : Nat) (z : Mop), A[k]? = some z → ∀ y ∈ A, y.1.id0 = z.1.id0 → y.1.id1 ≤ z.1.id1 → y.1.time ≤ z.1.time := by
  intro k
  induction k using Nat.strongRecOn with
  | _ k ih =>
    intro z hz y hy h0 h1
    obtain ⟨i, hi⟩ := List.mem_iff_getElem?.1 hy
    by_cases e : y.1.id1 = z.1.id1
    · have := ids_inj h.ids hi hz (by show (y.1.id0, y.1.id1) = (z.1.id0, z.1.id1); rw [h0, e])
      subst this
      rw [hz] at hi
      cases hi
      exact Int.le_refl _
    · obtain ⟨hm, hv, hg, _⟩ := chk_head (h.may z (List.mem_of_getElem? hz))
      have hmy := (mayd_iff _).1 (chk_head (h.may y hy)).1
      have hy1 : 1 ≤ y.1.id1 := hmy.2.2.1
      have hp : 0 < gt z.2 z.1.id0 := by omega
      have hin := (hv.gt_pos hp).2
      obtain ⟨j, u, hj, hu, hid⟩ := h.dep k z hz _ hin
      have e0 : u.1.id0 = z.1.id0 := congrArg Prod.fst hid
      have e1 : u.1.id1 = gt z.2 z.1.id0 := congrArg Prod.snd hid
      have h2 := ih j hj u hu y hy (by omega) (by omega)
      have h3 := h.lat.1 hl k j z u hz hu (by rw [hid]; exact hin)
      omega

theorem Cl.ok {A : List Mop} (h : Cl A) : latF (fun _ => none) A = true ↔ ∀ x ∈ A, ∀ y ∈ A, okT x y = true := by
  constructor
  · intro hl x hx y hy
    rw [okT_iff]
    intro hh
    unfold hasv at hh
    simp only [Bool.and_eq_true, decide_eq_true_eq] at hh
    have hm := (mayd_iff y.1.id).1 hh.1
    obtain ⟨k, hk⟩ := List.mem_iff_getElem?.1 hx
    obtain ⟨_, hv, _, _⟩ := chk_head (h.may x hx)
    have h9 : y.1.id1 ≤ gt x.2 y.1.id0 := hh.2
    have h8 : 1 ≤ y.1.id1 := hm.2.2.1
    have hin := (hv.gt_pos (a := y.1.id0) (by omega)).2
    obtain ⟨j, z, hj, hz, hid⟩ := h.dep k x hk _ hin
    have e0 : z.1.id0 = y.1.id0 := congrArg Prod.fst hid
    have e1 : z.1.id1 = gt x.2 y.1.id0 := congrArg Prod.snd hid
    have h1 := h.chain hl j z hz y hy e0.symm (by omega)
    have h2 := h.lat.1 hl k j x z hk hz (by rw [hid]; exact hin)
    omega
  · intro ha
    rw [h.lat]
    intro k j x y hx hy hd
    refine okT_iff.1 (ha x (List.mem_of_getElem? hx) y (List.mem_of_getElem? hy)) ?_
    obtain ⟨_, hv, _, _⟩ := chk_head (h.may x (List.mem_of_getElem? hx))
    unfold hasv
    rw [hv.may _ hd, gt_some hv.ac hd]
    simp

/-- Both ways of telling whether operations are right are one. -/
theorem Taken.right {l : List Mop} {R : List Mo} {T : List Nat} (h : Taken l R T) : (decide (T.length = l.length) && latF (fun _ => none) ((inL R T).map Mo.m)) = (decide (T.length = l.length) && l.all (fun x => l.all (okT x))) := by
  by_cases hl : T.length = l.length
  · have hp := h.all hl
    have e : latF (fun _ => none) ((inL R T).map Mo.m) = l.all (fun x => l.all (okT x)) := by
      rw [Bool.eq_iff_iff, h.cl.ok, List.all_eq_true]
      constructor
      · intro ha x hx
        rw [List.all_eq_true]
        exact fun y hy => ha x (hp.mem_iff.2 hx) y (hp.mem_iff.2 hy)
      · intro ha x hx y hy
        exact List.all_eq_true.1 (ha x (hp.mem_iff.1 hx)) y (hp.mem_iff.1 hy)
    rw [e]
  · simp [hl]

theorem lf_m (R : List Mo) (T : List Nat) : (lf R T).map Mo.m = (R.map Mo.m).filter (fun y => !thT ((R.map Mo.m).map (fun x => x.1.id)) T y.1.id) := by
  unfold lf
  have e : (R.map Mo.m).map (fun x => x.1.id) = R.map (fun x => x.o.id) := by rw [List.map_map]; rfl
  rw [e, List.filter_map]
  rfl

theorem Taken.rest {l : List Mop} {R R' : List Mo} {T T' : List Nat} (h : Taken l R T) (h' : Taken l R' T') : (lf R T).map Mo.m = (lf R' T').map Mo.m := by
  obtain ⟨e, rfl⟩ := h.unique h'
  rw [lf_m, lf_m, e]

theorem so_refl (o : OpIn) (V : List Dt) : so o o V V = true := by
  unfold so
  simp

end
end Go.Proofs.YtlncokkpdkddlaaGreat
