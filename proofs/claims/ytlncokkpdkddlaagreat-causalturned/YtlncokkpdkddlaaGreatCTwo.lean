/- The first look, in numbers: what is told of two operations the wrong way round. No function of the program. -/
import Derived.Test.YtlncokkpdkddlaaGreatCRight
import Derived.Test.YtlncokkpdkddlaaGreatCReady
import Derived.Test.YtlncokkpdkddlaaGreatCFront
namespace Go.Proofs.YtlncokkpdkddlaaGreat
section

theorem chk_head {o : OpIn} {V : List Dt} (h : chk o V = true) : mayd o.id = true ∧ VM V ∧ gt V o.id0 = o.id1 - 1 ∧ 1 ≤ o.time := by
  unfold chk headb at h
  simp only [Bool.and_eq_true, decide_eq_true_eq] at h
  exact ⟨h.1.1.1.1.1.1, (vmb_iff V).1 h.1.1.1.2, h.1.1.2, h.1.1.1.1.1.2⟩

theorem mem_take_at {α : Type} {l : List α} {k : Nat} {a : α} : a ∈ l.take k ↔ ∃ j, j < k ∧ l[j]? = some a := by
  rw [List.mem_iff_getElem?]
  constructor
  · rintro ⟨j, hj⟩
    rw [List.getElem?_take] at hj
    by_cases h : j < k
    · rw [if_pos h] at hj; exact ⟨j, h, hj⟩
    · rw [if_neg h] at hj; cases hj
  · rintro ⟨j, h, hj⟩
    exact ⟨j, by rw [List.getElem?_take, if_pos h]; exact hj⟩

theorem fold_chk (l : List Mop) : ∀ out : List Mop, (∀ y ∈ out, chk y.1 y.2 = true) → ∀ y ∈ l.foldl cnt1 out, chk y.1 y.2 = true := by
  induction l with
  | nil => exact fun _ h => h
  | cons x r ih =>
    intro out h
    refine ih _ fun y hy => ?_
    unfold cnt1 at hy
    split at hy
    · rename_i hc
      rcases List.mem_append.1 hy with hy | hy
      · exact h y hy
      · simp at hy; rw [hy]; exact hc.2
    · exact h y hy

theorem cnt_chk {l : List Mop} {y : Mop} (h : y ∈ cnt l) : chk y.1 y.2 = true := fold_chk l [] (fun y hy => by simp at hy) y h

/-- Each may be, its Deps come ahead of it, no two have one identity. -/
structure Cl (A : List Mop) : Prop where
  may : ∀ x ∈ A, chk x.1 x.2 = true
  dep : ∀ (k : Nat) (x : Mop), A[k]? = some x → ∀ d ∈ x.2, ∃ (j : Nat) (y : Mop), j < k ∧ A[j]? = some y ∧ y.1.id = d
  ids : (A.map (fun x => x.1.id)).Nodup

theorem ids_inj {A : List Mop} (h : (A.map (fun x => x.1.id)).Nodup) {i j : Nat} {x y : Mop} (hx : A[i]? = some x) (hy : A[j]? = some y) (e : x.1.id = y.1.id) : i = j := by
  have hi : i < (A.map (fun x => x.1.id)).length := by have := (List.getElem?_eq_some_iff.1 hx).1; simpa using this
  refine (List.getElem?_inj hi h).1 ?_
  rw [List.getElem?_map, List.getElem?_map, hx, hy]
  simp [e]

theorem Cl.down {A : List Mop} (h : Cl A) : ∀ (k : Nat) (x : Mop), A[k]? = some x → ∀ s : Int, 1 ≤ s → s ≤ x.1.id1 → ∃ (j : Nat) (y : Mop), j ≤ k ∧ A[j]? = some y ∧ y.1.id = (x.1.id0, s) := by
  intro k
  induction k using Nat.strongRecOn with
  | _ k ih =>
    intro x hx s h1 h2
    by_cases e : s = x.1.id1
    · exact ⟨k, x, Nat.le_refl _, hx, by rw [e]⟩
    · obtain ⟨_, hv, hg, _⟩ := chk_head (h.may x (List.mem_of_getElem? hx))
      have hp : 0 < gt x.2 x.1.id0 := by omega
      obtain ⟨j, y, hj, hy, hid⟩ := h.dep k x hx _ (hv.gt_pos hp).2
      have e0 : y.1.id0 = x.1.id0 := congrArg Prod.fst hid
      have e1 : y.1.id1 = gt x.2 x.1.id0 := congrArg Prod.snd hid
      obtain ⟨i, z, hi, hz, hzid⟩ := ih j hj y hy s h1 (by omega)
      exact ⟨i, z, by omega, hz, by rw [hzid, e0]⟩

theorem Cl.has {A : List Mop} (h : Cl A) {k : Nat} {x : Mop} (hx : A[k]? = some x) {d : Dt} (hd : hasv x.2 d = true) : ∃ (j : Nat) (y : Mop), j < k ∧ A[j]? = some y ∧ y.1.id = d := by
  unfold hasv at hd
  simp only [Bool.and_eq_true, decide_eq_true_eq] at hd
  obtain ⟨_, hv, _, _⟩ := chk_head (h.may x (List.mem_of_getElem? hx))
  have hm := (mayd_iff d).1 hd.1
  obtain ⟨j, y, hj, hy, hid⟩ := h.dep k x hx _ (hv.gt_pos (a := d.1) (by omega)).2
  have e0 : y.1.id0 = d.1 := congrArg Prod.fst hid
  have e1 : y.1.id1 = gt x.2 d.1 := congrArg Prod.snd hid
  obtain ⟨i, z, hi, hz, hzid⟩ := h.down j y hy d.2 hm.2.2.1 (by omega)
  exact ⟨i, z, by omega, hz, by rw [hzid, e0]⟩

/-- None is ahead of one that came ahead of it. -/
theorem Cl.behind {A : List Mop} (h : Cl A) {k i : Nat} {x y : Mop} (hx : A[k]? = some x) (hy : A[i]? = some y) (hki : k < i) : hasv x.2 y.1.id = false := by
  cases e : hasv x.2 y.1.id with
  | false => rfl
  | true =>
    obtain ⟨j, z, hj, hz, hid⟩ := h.has hx e
    have := ids_inj h.ids hz hy hid
    omega

/-- The vector of operations. -/
def verv (l : List Mop) : List Dt := (l.map (fun x => x.1.id)).foldl vwith []

theorem verv_vm (l : List Mop) : VM (verv l) := foldl_vm _ [] vm_nil

theorem foldl_gt (ds : List Dt) : ∀ A : List Dt, VM A → ∀ (a s : Int), (s ≤ gt (ds.foldl vwith A) a ↔ s ≤ gt A a ∨ ∃ d ∈ ds, mayd d = true ∧ d.1 = a ∧ s ≤ d.2) := by
  induction ds with
  | nil => intro A _ a s; simp
  | cons d r ih =>
    intro A hA a s
    rw [List.foldl_cons, ih _ (vwith_vm hA d) a s]
    by_cases hm : mayd d = true
    · rw [vwith_gt hA hm]
      by_cases hda : d.1 = a
      · rw [if_pos hda]
        constructor
        · rintro (h | ⟨e, he, h⟩)
          · by_cases hs : s ≤ gt A a
            · exact Or.inl hs
            · exact Or.inr ⟨d, by simp, hm, hda, by omega⟩
          · exact Or.inr ⟨e, List.mem_cons_of_mem _ he, h⟩
        · rintro (h | ⟨e, he, h⟩)
          · exact Or.inl (by omega)
          · rcases List.mem_cons.1 he with rfl | he
            · exact Or.inl (by have := h.2.2; omega)
            · exact Or.inr ⟨e, he, h⟩
      · rw [if_neg hda]
        constructor
        · rintro (h | ⟨e, he, h⟩)
          · exact Or.inl h
          · exact Or.inr ⟨e, List.mem_cons_of_mem _ he, h⟩
        · rintro (h | ⟨e, he, h⟩)
          · exact Or.inl h
          · rcases List.mem_cons.1 he with rfl | he
            · exact absurd h.2.1 hda
            · exact Or.inr ⟨e, he, h⟩
    · have e : vwith A d = A := by unfold vwith; rw [if_neg hm]
      rw [e]
      constructor
      · rintro (h | ⟨e, he, h⟩)
        · exact Or.inl h
        · exact Or.inr ⟨e, List.mem_cons_of_mem _ he, h⟩
      · rintro (h | ⟨e, he, h⟩)
        · exact Or.inl h
        · rcases List.mem_cons.1 he with rfl | he
          · exact absurd h.1 hm
          · exact Or.inr ⟨e, he, h⟩

theorem Cl.ver {A : List Mop} (h : Cl A) {d : Dt} (hd : 1 ≤ d.2) : d.2 ≤ gt (verv A) d.1 ↔ ∃ x ∈ A, x.1.id = d := by
  unfold verv
  rw [foldl_gt _ [] vm_nil]
  constructor
  · rintro (h0 | ⟨e, he, _, h1, h2⟩)
    · have : gt [] d.1 = 0 := rfl
      omega
    · obtain ⟨x, hx, rfl⟩ := List.mem_map.1 he
      obtain ⟨k, hk⟩ := List.mem_iff_getElem?.1 hx
      obtain ⟨j, y, _, hy, hid⟩ := h.down k x hk d.2 hd h2
      have h1' : x.1.id0 = d.1 := h1
      exact ⟨y, List.mem_of_getElem? hy, by rw [hid, h1']⟩
  · rintro ⟨x, hx, rfl⟩
    exact Or.inr ⟨x.1.id, List.mem_map.2 ⟨x, hx, rfl⟩, (chk_head (h.may x hx)).1, rfl, Int.le_refl _⟩

/-- Of one that isn't there, and of whose Deps one isn't there: it comes early. -/
theorem Cl.early {A : List Mop} (h : Cl A) {o : OpIn} {D : List Dt} (hc : chk o D = true) (hn : ∀ x ∈ A, x.1.id ≠ o.id) {d : Dt} (hd : d ∈ D) (hdn : ∀ x ∈ A, x.1.id ≠ d) : rdyE (verv A) o D = 31 := by
  obtain ⟨hm, hv, _, _⟩ := chk_head hc
  have h1 : hasv (verv A) o.id = false := by
    unfold hasv
    rw [hm, Bool.true_and, decide_eq_false_iff_not, h.ver (d := o.id) ((mayd_iff o.id).1 hm).2.2.1]
    rintro ⟨x, hx, e⟩
    exact hn x hx e
  have h2 : belv D (verv A) = false := by
    unfold belv
    rw [List.all_eq_false]
    refine ⟨d, hd, ?_⟩
    have := ((mayd_iff _).1 (hv.may d hd)).2.2.1
    rw [decide_eq_true_eq, h.ver this]
    rintro ⟨x, hx, e⟩
    exact hdn x hx e
  unfold rdyE
  rw [hc, h1, h2]
  simp

theorem Cl.ready {A : List Mop} (h : Cl A) {o : OpIn} {D : List Dt} (hc : chk o D = true) (hn : ∀ x ∈ A, x.1.id ≠ o.id) (hdn : ∀ d ∈ D, ∃ x ∈ A, x.1.id = d) : rdyE (verv A) o D = 0 := by
  obtain ⟨hm, hv, _, _⟩ := chk_head hc
  have h1 : hasv (verv A) o.id = false := by
    unfold hasv
    rw [hm, Bool.true_and, decide_eq_false_iff_not, h.ver (d := o.id) ((mayd_iff o.id).1 hm).2.2.1]
    rintro ⟨x, hx, e⟩
    exact hn x hx e
  have h2 : belv D (verv A) = true := by
    unfold belv
    rw [List.all_eq_true]
    intro d hd
    have := ((mayd_iff _).1 (hv.may d hd)).2.2.1
    rw [decide_eq_true_eq, h.ver this]
    exact hdn d hd
  unfold rdyE
  rw [hc, h1, h2]
  simp

/-! What Order tells. -/

theorem inL_get {R : List Mo} {T : List Nat} (h : ∀ p ∈ T, p < R.length) (k : Nat) : (inL R T)[k]? = T[k]?.bind (fun p => R[p]?) := by
  induction T generalizing k with
  | nil => simp [inL]
  | cons p r ih =>
    have hp := h p (by simp)
    have e : inL R (p :: r) = R[p] :: inL R r := by unfold inL; rw [List.filterMap_cons_some (List.getElem?_eq_getElem hp)]
    rw [e]
    cases k with
    | zero => simp [List.getElem?_eq_getElem hp]
    | succ k => simpa using ih (fun q hq => h q (List.mem_cons_of_mem _ hq)) k

theorem thT_iff {R : List Mo} {T : List Nat} (h : ∀ p ∈ T, p < R.length) (d : Dt) : thT (R.map (fun x => x.o.id)) T d = true ↔ ∃ y ∈ inL R T, y.o.id = d := by
  unfold thT inL
  rw [decide_eq_true_eq]
  constructor
  · intro hd
    obtain ⟨p, hp, rfl⟩ := List.mem_map.1 hd
    have hl := h p hp
    refine ⟨R[p], List.mem_filterMap.2 ⟨p, hp, List.getElem?_eq_getElem hl⟩, ?_⟩
    simp [List.getD_eq_getElem?_getD, List.getElem?_eq_getElem hl]
  · rintro ⟨y, hy, rfl⟩
    obtain ⟨p, hp, he⟩ := List.mem_filterMap.1 hy
    refine List.mem_map.2 ⟨p, hp, ?_⟩
    simp [List.getD_eq_getElem?_getD, he]

theorem Taken.lt {l : List Mop} {R : List Mo} {T : List Nat} (h : Taken l R T) : ∀ p ∈ T, p < R.length := fun p hp => by
  have := h.2.2.2.1.lt hp
  simpa using this

theorem Taken.nodup {l : List Mop} {R : List Mo} {T : List Nat} (h : Taken l R T) : (R.map (fun x => x.o.id)).Nodup := by
  have h1 := cnt_nodup l
  have h2 := h.2.1.map (fun x : Mop => x.1.id)
  have h3 := h2.nodup_iff.2 h1
  rw [List.map_map] at h3
  exact h3

theorem Taken.may {l : List Mop} {R : List Mo} {T : List Nat} (h : Taken l R T) {x : Mo} (hx : x ∈ R) : chk x.o x.V = true :=
  cnt_chk (y := x.m) (h.2.1.mem_iff.1 (List.mem_map.2 ⟨x, hx, rfl⟩))

theorem Taken.at {l : List Mop} {R : List Mo} {T : List Nat} (h : Taken l R T) {k : Nat} {x : Mo} (hx : (inL R T)[k]? = some x) : ∃ p, T[k]? = some p ∧ R[p]? = some x := by
  rw [inL_get h.lt] at hx
  cases hp : T[k]? with
  | none => rw [hp] at hx; simp at hx
  | some p => rw [hp] at hx; exact ⟨p, rfl, hx⟩

theorem inL_take {R : List Mo} {T : List Nat} (h : ∀ p ∈ T, p < R.length) (k : Nat) : inL R (T.take k) = (inL R T).take k := by
  apply List.ext_getElem?
  intro j
  rw [inL_get (fun p hp => h p (List.mem_of_mem_take hp)), List.getElem?_take]
  by_cases hj : j < k
  · rw [if_pos hj, List.getElem?_take, if_pos hj, inL_get h]
  · rw [if_neg hj, List.getElem?_take, if_neg hj]; rfl

theorem vs_at {R : List Mo} {p : Nat} {x : Mo} (h : R[p]? = some x) : (R.map Mo.V).getD p [] = x.V := by
  simp [List.getD_eq_getElem?_getD, h]

theorem Taken.cl {l : List Mop} {R : List Mo} {T : List Nat} (h : Taken l R T) : Cl ((inL R T).map Mo.m) := by
  refine ⟨fun x hx => ?_, fun k x hx d hd => ?_, ?_⟩
  · obtain ⟨y, hy, rfl⟩ := List.mem_map.1 hx
    exact h.may (inL_mem hy)
  · rw [List.getElem?_map] at hx
    cases hy : (inL R T)[k]? with
    | none => rw [hy] at hx; simp at hx
    | some y =>
      rw [hy] at hx
      have hxy : y.m = x := by simpa using hx
      obtain ⟨p, hp, hR⟩ := h.at hy
      have hk := (List.getElem?_eq_some_iff.1 hp).1
      have hpe := (List.getElem?_eq_some_iff.1 hp).2
      have hn := (nxt_some_iff.1 (h.2.2.2.1 k hk)).1.2.2 d (by rw [hpe, vs_at hR]; rw [← hxy] at hd; exact hd)
      have hlt : ∀ q ∈ T.take k, q < R.length := fun q hq => h.lt q (List.mem_of_mem_take hq)
      obtain ⟨z, hz, hzd⟩ := (thT_iff hlt d).1 hn
      rw [inL_take h.lt] at hz
      obtain ⟨j, hj⟩ := List.mem_iff_getElem?.1 hz
      rw [List.getElem?_take] at hj
      by_cases hjk : j < k
      · rw [if_pos hjk] at hj
        exact ⟨j, z.m, hjk, by rw [List.getElem?_map, hj]; rfl, hzd⟩
      · rw [if_neg hjk] at hj; cases hj
  · rw [List.map_map]
    refine List.pairwise_iff_getElem.2 fun i j hi hj hij e => ?_
    have hi' : i < (inL R T).length := by simpa using hi
    have hj' : j < (inL R T).length := by simpa using hj
    obtain ⟨p, hp, hRp⟩ := h.at (List.getElem?_eq_getElem hi')
    obtain ⟨q, hq, hRq⟩ := h.at (List.getElem?_eq_getElem hj')
    have e' : (inL R T)[i].o.id = (inL R T)[j].o.id := by simpa using e
    have hpl := (List.getElem?_eq_some_iff.1 hRp).1
    have hpq : p = q := by
      refine (List.getElem?_inj (by simpa using hpl) h.nodup).1 ?_
      rw [List.getElem?_map, List.getElem?_map, hRp, hRq]
      simp [e']
    subst hpq
    have hiT := (List.getElem?_eq_some_iff.1 hp).1
    have := (List.getElem?_inj hiT h.2.2.2.1.nodup).1 (hp.trans hq.symm)
    omega

/-- One that is left comes early. -/
theorem Taken.left {l : List Mop} {R : List Mo} {T : List Nat} (h : Taken l R T) {x : Mo} (hx : x ∈ lf R T) : rdyE (verv ((inL R T).map Mo.m)) x.o x.V = 31 := by
  unfold lf at hx
  obtain ⟨hxR, hxn⟩ := List.mem_filter.1 hx
  obtain ⟨q, hq⟩ := List.mem_iff_getElem?.1 hxR
  have hno : ∀ d, thT (R.map (fun x => x.o.id)) T d = false → ∀ y ∈ (inL R T).map Mo.m, y.1.id ≠ d := by
    intro d hd y hy e
    obtain ⟨z, hz, rfl⟩ := List.mem_map.1 hy
    have := (thT_iff h.lt d).2 ⟨z, hz, e⟩
    rw [this] at hd
    cases hd
  have hqT : q ∉ T := by
    intro hqT
    have : thT (R.map (fun x => x.o.id)) T x.o.id = true := (thT_iff h.lt _).2 ⟨x, List.mem_filterMap.2 ⟨q, hqT, hq⟩, rfl⟩
    rw [this] at hxn
    cases hxn
  have hql := (List.getElem?_eq_some_iff.1 hq).1
  obtain ⟨d, hd, hf⟩ := nxt_none_iff.1 h.2.2.2.2 q (by simpa using hql) hqT
  rw [vs_at hq] at hd
  exact h.cl.early (h.may hxR) (hno _ (by simpa using hxn)) hd (hno _ hf)

/-! Times. -/

def tmA (tm : Dt → Option Int) (A : List Mop) : Dt → Option Int := A.foldl (fun t y => upd t y.1.id y.1.time) tm

theorem latF_iff (A : List Mop) : ∀ tm, latF tm A = true ↔ ∀ (k : Nat) (x : Mop), A[k]? = some x → ∀ d ∈ x.2, (tmA tm (A.take k) d).getD 0 < x.1.time := by
  induction A with
  | nil => intro tm; simp [latF]
  | cons x r ih =>
    intro tm
    rw [latF, Bool.and_eq_true, ih, List.all_eq_true]
    constructor
    · rintro ⟨h1, h2⟩ k y hy d hd
      cases k with
      | zero =>
        simp at hy
        subst hy
        simpa [tmA] using h1 d hd
      | succ k => exact h2 k y (by simpa using hy) d hd
    · intro h
      exact ⟨fun d hd => by simpa [tmA] using h 0 x rfl d hd, fun k y hy d hd => h (k + 1) y (by simpa using hy) d hd⟩

theorem tmA_none (A : List Mop) : ∀ (tm : Dt → Option Int) (d : Dt), (∀ y ∈ A, y.1.id ≠ d) → tmA tm A d = tm d := by
  induction A with
  | nil => intro tm d _; rfl
  | cons x r ih =>
    intro tm d h
    show tmA (upd tm x.1.id x.1.time) r d = tm d
    rw [ih _ d (fun y hy => h y (List.mem_cons_of_mem _ hy))]
    unfold upd
    rw [if_neg (fun e => h x (by simp) e.symm)]

theorem tmA_some (A : List Mop) : ∀ (tm : Dt → Option Int), (A.map (fun x => x.1.id)).Nodup → ∀ y ∈ A, tmA tm A y.1.id = some y.1.time := by
  induction A with
  | nil => intro tm _ y hy; simp at hy
  | cons x r ih =>
    intro tm h y hy
    rw [List.map_cons, List.nodup_cons] at h
    show tmA (upd tm x.1.id x.1.time) r y.1.id = some y.1.time
    rcases List.mem_cons.1 hy with rfl | hy
    · rw [tmA_none]
      · simp [upd]
      · intro z hz e
        exact h.1 (List.mem_map.2 ⟨z, hz, e⟩)
    · exact ih _ h.2 y hy

/-- Each one's time is above those of its Deps. -/
theorem Cl.lat {A : List Mop} (h : Cl A) : latF (fun _ => none) A = true ↔ ∀ (k j : Nat) (x y : Mop), A[k]? = some x → A[j]? = some y → y.1.id ∈ x.2 → y.1.time < x.1.time := by
  rw [latF_iff]
  have key : ∀ (k j : Nat) (y : Mop), j < k → A[j]? = some y → tmA (fun _ => none) (A.take k) y.1.id = some y.1.time := by
    intro k j y hjk hy
    refine tmA_some _ _ ?_ y (mem_take_at.2 ⟨j, hjk, hy⟩)
    rw [List.map_take]
    exact h.ids.sublist (List.take_sublist _ _)
  constructor
  · intro hl k j x y hx hy hd
    have h1 := hl k x hx _ hd
    obtain ⟨i, z, hi, hz, hzd⟩ := h.dep k x hx _ hd
    have hij := ids_inj h.ids hz hy hzd
    subst hij
    rw [key k i y hi hy] at h1
    exact h1
  · intro hl k x hx d hd
    obtain ⟨i, z, hi, hz, hzd⟩ := h.dep k x hx d hd
    subst hzd
    rw [key k i z hi hz]
    exact hl k i x z hx hz hd

theorem lo_time {o p : OpIn} (h : lo o p = true) : o.time ≤ p.time := by
  have := (lo_iff o p).1 h
  omega

/-- Of right ones two neighbours' times. -/
theorem Taken.step {l : List Mop} {R : List Mo} {T : List Nat} (h : Taken l R T) (hl : latF (fun _ => none) ((inL R T).map Mo.m) = true) {k : Nat} {x y : Mo} (hx : (inL R T)[k]? = some x) (hy : (inL R T)[k + 1]? = some y) : x.o.time ≤ y.o.time := by
  obtain ⟨p, hp, hRp⟩ := h.at hx
  obtain ⟨q, hq, hRq⟩ := h.at hy
  have hk := (List.getElem?_eq_some_iff.1 hp).1
  have hk1 := (List.getElem?_eq_some_iff.1 hq).1
  have hpe := (List.getElem?_eq_some_iff.1 hp).2
  have hqe := (List.getElem?_eq_some_iff.1 hq).2
  have hpl := (List.getElem?_eq_some_iff.1 hRp).1
  have hql := (List.getElem?_eq_some_iff.1 hRq).1
  rcases Nat.lt_trichotomy p q with hlt | heq | hgt
  · have := List.pairwise_iff_getElem.1 h.1 p q hpl hql hlt
    rw [(List.getElem?_eq_some_iff.1 hRp).2, (List.getElem?_eq_some_iff.1 hRq).2] at this
    exact lo_time this
  · subst heq
    have := (List.getElem?_inj hk h.2.2.2.1.nodup).1 (hp.trans hq.symm)
    omega
  · have h1 := (nxt_some_iff.1 (h.2.2.2.1 k hk)).2 q (by rw [hpe]; exact hgt) (fun hqt => by
      obtain ⟨j, hj, hje⟩ := mem_take_at.1 hqt
      have := (List.getElem?_inj hk1 h.2.2.2.1.nodup).1 (hq.trans hje.symm)
      omega)
    obtain ⟨d, hd, hf⟩ := h1
    have h2 := (nxt_some_iff.1 (h.2.2.2.1 (k + 1) hk1)).1.2.2 d (by rw [hqe]; exact hd)
    rw [List.take_succ_eq_append_getElem hk, thT_snoc, hf, Bool.false_or, decide_eq_true_eq, hpe] at h2
    have hdx : d = x.o.id := by rw [h2]; simp [List.getD_eq_getElem?_getD, hRp]
    rw [vs_at hRq] at hd
    have := h.cl.lat.1 hl (k + 1) k y.m x.m (by rw [List.getElem?_map, hy]; rfl) (by rw [List.getElem?_map, hx]; rfl) (by rw [hdx] at hd; exact hd)
    exact Int.le_of_lt this

theorem Taken.times {l : List Mop} {R : List Mo} {T : List Nat} (h : Taken l R T) (hl : latF (fun _ => none) ((inL R T).map Mo.m) = true) {k : Nat} {x : Mo} (hx : (inL R T)[k]? = some x) : ∀ (n : Nat) (y : Mo), (inL R T)[k + n]? = some y → x.o.time ≤ y.o.time := by
  intro n
  induction n with
  | zero => intro y hy; rw [Nat.add_zero, hx] at hy; cases hy; exact Int.le_refl _
  | succ n ih =>
    intro y hy
    have hlt := (List.getElem?_eq_some_iff.1 hy).1
    have hz : (inL R T)[k + n]? = some ((inL R T)[k + n]'(by omega)) := List.getElem?_eq_getElem (by omega)
    exact Int.le_trans (ih _ hz) (h.step hl hz hy)

/-! There is one answer alone. -/

theorem upo_unique : ∀ {A B : List Mop}, A.Pairwise (fun x y => lo x.1 y.1 = true) → B.Pairwise (fun x y => lo x.1 y.1 = true) → A.Perm B → A = B := by
  intro A
  induction A with
  | nil => intro B _ _ h; exact h.symm.eq_nil ▸ rfl
  | cons x r ih =>
    intro B hA hB h
    cases B with
    | nil => exact absurd h.eq_nil (by simp)
    | cons y s =>
      have hxy : x = y := by
        rcases List.mem_cons.1 (h.mem_iff.1 (List.mem_cons_self ..)) with e | hx
        · exact e
        · rcases List.mem_cons.1 (h.mem_iff.2 (List.mem_cons_self ..)) with e | hy
          · exact e.symm
          · have h1 := (List.pairwise_cons.1 hA).1 y hy
            have h2 := (List.pairwise_cons.1 hB).1 x hx
            rw [lo_iff] at h1 h2
            omega
      subst hxy
      rw [ih (List.pairwise_cons.1 hA).2 (List.pairwise_cons.1 hB).2 (List.Perm.cons_inv h)]

theorem Taken.unique {l : List Mop} {R R' : List Mo} {T T' : List Nat} (h : Taken l R T) (h' : Taken l R' T') : R.map Mo.m = R'.map Mo.m ∧ T = T' := by
  have e : R.map Mo.m = R'.map Mo.m := upo_unique (List.pairwise_map.2 h.1) (List.pairwise_map.2 h'.1) (h.2.1.trans h'.2.1.symm)
  refine ⟨e, ?_⟩
  have eV : R.map Mo.V = R'.map Mo.V := by
    have := congrArg (List.map Prod.snd) e
    rw [List.map_map, List.map_map] at this
    exact this
  have eI : R.map (fun x => x.o.id) = R'.map (fun x => x.o.id) := by
    have := congrArg (List.map (fun x : Mop => x.1.id)) e
    rw [List.map_map, List.map_map] at this
    exact this
  obtain ⟨_, _, _, h1, h2⟩ := h
  obtain ⟨_, _, _, h3, h4⟩ := h'
  rw [eV, eI] at h1 h2
  exact h1.unique h2 h3 h4

theorem inL_m (R : List Mo) (T : List Nat) : (inL R T).map Mo.m = T.filterMap (fun p => (R.map Mo.m)[p]?) := by
  unfold inL
  rw [List.map_filterMap]
  congr 1
  funext p
  rw [List.getElem?_map]

theorem Taken.same {l : List Mop} {R R' : List Mo} {T T' : List Nat} (h : Taken l R T) (h' : Taken l R' T') : (inL R T).map Mo.m = (inL R' T').map Mo.m ∧ T = T' := by
  obtain ⟨e, rfl⟩ := h.unique h'
  refine ⟨?_, rfl⟩
  rw [inL_m, inL_m, e]

end

section

/-- The making of a block, and its move into the trash. -/
def mka : OpIn := ⟨1, 1, 1, 3, 1, 1, 0, 0, 0, 0, 0, -1, { data := #[110] }⟩
def mkb : OpIn := ⟨1, 2, 2, 3, 1, 1, 0, 0, 0, 0, 0, -2, { data := #[110] }⟩

theorem kyb_n : kyb [110] = true := by decide
theorem chk_mka : chk mka [] = true := by
  simp [chk, headb, barb, partb, parb, mka, mayd, vmb, gt, pat, pch, ppl, hasv, kyb_n]
theorem chk_mkb : chk mkb [(1, 1)] = true := by
  simp [chk, headb, barb, partb, parb, mkb, mayd, vmb, gt, pat, pch, ppl, hasv, kyb_n]

theorem wf_small {n : Int} (h0 : -2 ≤ n) (h1 : n ≤ 3) : (Lit.int .i64 n).wf = true := wf_i64 (by omega) (by omega)
theorem key_len : (ByteArray.mk #[110]).size ≤ maxLen := by
  show 1 ≤ maxLen
  decide
theorem fits_mka : mka.Fits := ⟨wf_small (by decide) (by decide), wf_small (by decide) (by decide), wf_small (by decide) (by decide), wf_small (by decide) (by decide), wf_small (by decide) (by decide), wf_small (by decide) (by decide), wf_small (by decide) (by decide), wf_small (by decide) (by decide), wf_small (by decide) (by decide), wf_small (by decide) (by decide), wf_small (by decide) (by decide), wf_small (by decide) (by decide), key_len⟩
theorem fits_mkb : mkb.Fits := ⟨wf_small (by decide) (by decide), wf_small (by decide) (by decide), wf_small (by decide) (by decide), wf_small (by decide) (by decide), wf_small (by decide) (by decide), wf_small (by decide) (by decide), wf_small (by decide) (by decide), wf_small (by decide) (by decide), wf_small (by decide) (by decide), wf_small (by decide) (by decide), wf_small (by decide) (by decide), wf_small (by decide) (by decide), key_len⟩

theorem hasId_no : hasId [(mkb, [(1, 1)])] mka.id = false := by
  unfold hasId
  simp [mka, mkb]

theorem cnt_two : cnt [(mkb, [(1, 1)]), (mka, [])] = [(mkb, [(1, 1)]), (mka, [])] := by
  have h1 : cnt1 [] (mkb, [(1, 1)]) = [(mkb, [(1, 1)])] := by
    unfold cnt1
    rw [if_pos ⟨rfl, chk_mkb⟩]
    rfl
  have h2 : cnt1 [(mkb, [(1, 1)])] (mka, []) = [(mkb, [(1, 1)]), (mka, [])] := by
    unfold cnt1
    rw [if_pos ⟨hasId_no, chk_mka⟩]
    rfl
  unfold cnt
  rw [List.foldl_cons, List.foldl_cons, List.foldl_nil, h1, h2]

theorem cnt_one : cnt [(mkb, [(1, 1)])] = [(mkb, [(1, 1)])] := by
  have h1 : cnt1 [] (mkb, [(1, 1)]) = [(mkb, [(1, 1)])] := by
    unfold cnt1
    rw [if_pos ⟨rfl, chk_mkb⟩]
    rfl
  unfold cnt
  rw [List.foldl_cons, List.foldl_nil, h1]

theorem hasId_no2 : hasId [(mka, [])] mkb.id = false := by
  unfold hasId
  simp [mka, mkb]

theorem cnt_right : cnt [(mka, []), (mkb, [(1, 1)])] = [(mka, []), (mkb, [(1, 1)])] := by
  have h1 : cnt1 [] (mka, []) = [(mka, [])] := by
    unfold cnt1
    rw [if_pos ⟨rfl, chk_mka⟩]
    rfl
  have h2 : cnt1 [(mka, [])] (mkb, [(1, 1)]) = [(mka, []), (mkb, [(1, 1)])] := by
    unfold cnt1
    rw [if_pos ⟨hasId_no2, chk_mkb⟩]
    rfl
  unfold cnt
  rw [List.foldl_cons, List.foldl_cons, List.foldl_nil, h1, h2]

theorem dws_one : Dws [(1, 1)] := fun d hd => by
  simp at hd
  rw [hd]
  exact ⟨wf_small (by decide) (by decide), wf_small (by decide) (by decide)⟩

theorem lo_two : lo mka mkb = true := by
  rw [lo_iff]
  exact Or.inl (by decide)

theorem nxt0 : nxt [[], [(1, 1)]] [(1, 1), (1, 2)] [] = some 0 := by decide +kernel
theorem nxt1 : nxt [[], [(1, 1)]] [(1, 1), (1, 2)] [0] = some 1 := by decide +kernel
theorem nxt2 : nxt [[], [(1, 1)]] [(1, 1), (1, 2)] [0, 1] = none := by decide +kernel
theorem nxt3 : nxt [[(1, 1)]] [(1, 2)] [] = none := by decide +kernel

theorem taken_two {R : List Mo} {T : List Nat} (h : Taken [(mkb, [(1, 1)]), (mka, [])] R T) : R.map Mo.m = [(mka, []), (mkb, [(1, 1)])] ∧ T = [0, 1] := by
  have hT : Taken [(mkb, [(1, 1)]), (mka, [])] [⟨mka, none, 0, 0, []⟩, ⟨mkb, none, 0, 0, [(1, 1)]⟩] [0, 1] := by
    refine ⟨?_, ?_, ?_, ?_, nxt2⟩
    · refine List.pairwise_cons.2 ⟨fun y hy => ?_, List.pairwise_singleton _ _⟩
      simp at hy
      rw [hy]
      exact lo_two
    · rw [cnt_two]
      exact List.Perm.swap _ _ _
    · intro x hx
      rcases List.mem_cons.1 hx with rfl | hx
      · exact ⟨fits_mka, fun d hd => by simp at hd⟩
      · simp at hx
        rw [hx]
        exact ⟨fits_mkb, dws_one⟩
    · intro k hk
      match k, hk with
      | 0, _ => exact nxt0
      | 1, _ => exact nxt1
      | k + 2, hk => simp at hk; omega
  exact h.unique hT

theorem taken_right {R : List Mo} {T : List Nat} (h : Taken [(mka, []), (mkb, [(1, 1)])] R T) : Taken [(mkb, [(1, 1)]), (mka, [])] R T := by
  refine ⟨h.1, ?_, h.2.2⟩
  have := h.2.1
  rw [cnt_right] at this
  rw [cnt_two]
  exact this.trans (List.Perm.swap _ _ _)

theorem taken_one {R : List Mo} {T : List Nat} (h : Taken [(mkb, [(1, 1)])] R T) : R.map Mo.m = [(mkb, [(1, 1)])] ∧ T = [] := by
  have hT : Taken [(mkb, [(1, 1)])] [⟨mkb, none, 0, 0, [(1, 1)]⟩] [] := by
    refine ⟨List.pairwise_singleton _ _, ?_, ?_, Ch.nil _ _, nxt3⟩
    · rw [cnt_one]
      exact List.Perm.refl _
    · intro x hx
      simp at hx
      rw [hx]
      exact ⟨fits_mkb, dws_one⟩
  exact h.unique hT

theorem in_two {R : List Mo} {T : List Nat} (h : Taken [(mkb, [(1, 1)]), (mka, [])] R T) : ∃ x y, inL R T = [x, y] ∧ x.m = (mka, []) ∧ y.m = (mkb, [(1, 1)]) ∧ lf R T = [] ∧ T.length = 2 := by
  obtain ⟨hR, rfl⟩ := taken_two h
  obtain ⟨x, R1, rfl, hx, h1⟩ := List.map_eq_cons_iff.1 hR
  obtain ⟨y, R2, rfl, hy, h2⟩ := List.map_eq_cons_iff.1 h1
  obtain rfl := List.map_eq_nil_iff.1 h2
  refine ⟨x, y, rfl, hx, hy, ?_, rfl⟩
  unfold lf thT
  simp

theorem in_one {R : List Mo} {T : List Nat} (h : Taken [(mkb, [(1, 1)])] R T) : inL R T = [] ∧ T.length = 0 ∧ (lf R T).length = 1 := by
  obtain ⟨hR, rfl⟩ := taken_one h
  refine ⟨rfl, rfl, ?_⟩
  have hl : R.length = 1 := by have := congrArg List.length hR; simpa using this
  unfold lf
  rw [thT_nil]
  have e : R.filter (fun _ => !false) = R := List.filter_eq_self.2 (fun _ _ => rfl)
  rw [e]
  exact hl

theorem later_two : latF (fun _ => none) [(mka, []), (mkb, [(1, 1)])] = true := by
  simp [latF, upd, mka, mkb]
theorem front_two : frt [(mka, []), (mkb, [(1, 1)])] = [(1, 2)] := by decide +kernel
theorem ahead_two : hasv [(1, 1)] mka.id = true := by decide +kernel
theorem ready_two : rdyE [] mkb [(1, 1)] = 31 := by
  unfold rdyE
  rw [chk_mkb]
  have h1 : hasv [] mkb.id = false := by decide +kernel
  have h2 : belv [(1, 1)] [] = false := by decide +kernel
  rw [h1, h2]
  rfl

theorem right_two {R : List Mo} {T : List Nat} (h : Taken [(mka, []), (mkb, [(1, 1)])] R T) : (decide (T.length = 2) && latF (fun _ => none) ((inL R T).map Mo.m)) = true := by
  obtain ⟨x, y, e, hx, hy, _, hl⟩ := in_two (taken_right h)
  rw [e, List.map_cons, List.map_cons, List.map_nil, hx, hy, later_two, hl]
  rfl

end
end Go.Proofs.YtlncokkpdkddlaaGreat
