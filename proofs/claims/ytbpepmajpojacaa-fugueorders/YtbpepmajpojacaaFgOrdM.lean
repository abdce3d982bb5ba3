/- FugueOrders, in numbers: the characters of a block of a story's operations, in any order that may be. No function of the program. -/
import Derived.Test.YtbpepmajpojacaaMPlaces
import Derived.Test.YtbpepmajpojacaaQLook
import Derived.Deep.RegionHeld
import Derived.Deep.CutRange
import Derived.Test.YtbpepmajpojacaaSMath
namespace Go.Proofs.Ytbpepmajpojacaa
section
open Go.RowKit Go.Maps Go.WideElems

/-- How many, whose, how many of others. -/
abbrev Kn := Int × Dt × Int
abbrev kv (k : Kn) : Value := .agg #[.int .i64 k.1, .int .i64 k.2.1.1, .int .i64 k.2.1.2, .int .i64 k.2.2]

def kwith (k : Kn) (seq : Int) (by_ : Dt) : Kn := if by_ = k.2.1 then (max seq k.1, by_, k.2.2) else if k.1 < seq then (seq, by_, k.1) else (k.1, k.2.1, max seq k.2.2)
def kbut (k : Kn) (by_ : Dt) : Int := if by_ = k.2.1 then k.2.2 else k.1

/-- How such a one reads, as an element of a map. -/
def kd (k : Kn) : DataW Unit := .agg [.lit (.int .i64 k.1), .lit (.int .i64 k.2.1.1), .lit (.int .i64 k.2.1.2), .lit (.int .i64 k.2.2)]
def kR (v : Value) : Option (DataW Unit × List MemPlace) :=
  match v with
  | .agg ⟨[.int .i64 a, .int .i64 b, .int .i64 c, .int .i64 d]⟩ => some (kd (a, (b, c), d), [])
  | _ => none

theorem kR_mk (k : Kn) : kR (kv k) = some (kd k, []) := rfl

theorem kd_inj {k k' : Kn} (h : kd k = kd k') : k = k' := by
  obtain ⟨a, ⟨b, c⟩, d⟩ := k
  obtain ⟨a', ⟨b', c'⟩, d'⟩ := k'
  simp [kd] at h
  simp [h]

theorem kR_inv {v : Value} {k : Kn} {ps : List MemPlace} (h : kR v = some (kd k, ps)) : v = kv k := by
  unfold kR at h
  split at h
  · rename_i a b c d
    have h1 : kd (a, (b, c), d) = kd k := by simpa using congrArg Prod.fst (Option.some.inj h)
    rw [← kd_inj h1]
  · cases h

theorem lawI : Keyed Try.prog 3 := int_keyed Try.underlying3

/-- Block b is a map of at most n actors, that tells f. -/
def MK (w : World) (b n : Nat) (f : Int → Kn) : Prop := ∃ D : DataW Unit, w.ownsMap Try.prog 3 kR b n D ∧ ∀ a : Int, (Lit.int .i64 a).wf = true → D.atKey (.int .i64 a) (kd (0, (0, 0), 0)) = kd (f a)

theorem MK.made (w : World) : MK (w.alloc (.map #[] 0)) w.heap.size 0 (fun _ => (0, (0, 0), 0)) := ⟨_, World.ownsMap_made _ _ _ _, fun _ _ => rfl⟩

theorem MK.lt {w : World} {b n : Nat} {f : Int → Kn} (h : MK w b n f) : b < w.heap.size := by
  obtain ⟨D, ho, _⟩ := h
  exact ho.lt

theorem MK.same {w w' : World} {b n : Nat} {f : Int → Kn} (h : MK w b n f) (hs : w'.heap[b]? = w.heap[b]?) : MK w' b n f := by
  obtain ⟨D, ⟨es, clock, h1, h2⟩, hT⟩ := h
  exact ⟨D, ⟨es, clock, by rw [hs]; exact h1, h2⟩, hT⟩

end

section
open Go.RowKit Go.Maps
open Go.Sort (grow)

/-- With the Deps of one more. -/
def kone (id : Dt) (f : Int → Kn) (d : Dt) : Int → Kn := fun e => if e = d.1 then kwith (f d.1) d.2 id else f e
def krow (f : Int → Kn) (x : Mop) : Int → Kn := x.2.foldl (kone x.1.id) f
def kall (l : List Mop) : Int → Kn := l.foldl krow (fun _ => (0, (0, 0), 0))
/-- Is it at the frontier? -/
def frb (l : List Mop) (d : Dt) : Bool := !mayd d || decide (kbut (kall l d.1) d < d.2)
def frt (l : List Mop) : List Dt := (rise (l.map (fun x => x.1.id))).filter (frb l)

theorem rise_length_le (l : List Dt) : (rise l).length ≤ l.length :=
  List.Nodup.length_le_of_subset (up_nodup (up_rise l)) (fun d hd => (mem_rise d l).1 hd)

theorem far_same {w w' : World} (h : Far w w') {b : Nat} (hb : b < w.heap.size) : w'.heap[b]? = w.heap[b]? := h.below.block b hb

end

section

theorem fold_id (l : List Mop) : ∀ out : List Mop, (∀ x ∈ l, chk x.1 x.2 = true) → ((out ++ l).map (fun x => x.1.id)).Nodup → l.foldl cnt1 out = out ++ l := by
  induction l with
  | nil => intro out _ _; simp
  | cons x r ih =>
    intro out hc hn
    have h1 : cnt1 out x = out ++ [x] := by
      unfold cnt1
      rw [if_pos]
      refine ⟨?_, hc x (by simp)⟩
      cases e : hasId out x.1.id with
      | false => rfl
      | true =>
        exfalso
        have hm := (hasId_iff out x.1.id).1 e
        rw [List.map_append, List.nodup_append] at hn
        exact hn.2.2 _ hm _ (by simp) rfl
    rw [List.foldl_cons, h1, ih (out ++ [x]) (fun y hy => hc y (List.mem_cons_of_mem _ hy)) (by simpa using hn)]
    simp

theorem cnt_id {l : List Mop} (hc : ∀ x ∈ l, chk x.1 x.2 = true) (hn : (l.map (fun x => x.1.id)).Nodup) : cnt l = l := by
  have := fold_id l [] hc (by simpa using hn)
  simpa [cnt] using this

/-- Of operations in another order it is the same. -/
theorem cnt_perm {A l : List Mop} (hA : Cl A) (hp : l.Perm A) : cnt l = l :=
  cnt_id (fun x hx => hA.may x (hp.mem_iff.1 hx)) ((hp.map _).nodup_iff.2 hA.ids)

theorem Taken.turned {A l : List Mop} (hA : Cl A) (hp : l.Perm A) {R : List Mo} {T : List Nat} (h : Taken l R T) : Taken A R T := by
  refine ⟨h.1, ?_, h.2.2⟩
  have := h.2.1
  rw [cnt_perm hA hp] at this
  rw [cnt_perm hA (List.Perm.refl _)]
  exact this.trans hp

/-- All of it are taken in. -/
theorem Taken.full {A : List Mop} (hA : Cl A) {R : List Mo} {T : List Nat} (h : Taken A R T) : (∀ x ∈ R, thT (R.map (fun x => x.o.id)) T x.o.id = true) := by
  have hpm : (R.map Mo.m).Perm A := by
    have := h.2.1
    rw [cnt_perm hA (List.Perm.refl _)] at this
    exact this
  have hall : ∀ (n k : Nat), k < n → ∀ x : Mop, A[k]? = some x → thT (R.map (fun x => x.o.id)) T x.1.id = true := by
    intro n
    induction n with
    | zero => intro k hk; omega
    | succ n ih =>
      intro k hk x hx
      have hxR : x ∈ R.map Mo.m := hpm.mem_iff.2 (List.mem_of_getElem? hx)
      obtain ⟨y, hy, rfl⟩ := List.mem_map.1 hxR
      obtain ⟨p, hp⟩ := List.mem_iff_getElem?.1 hy
      have hpl := (List.getElem?_eq_some_iff.1 hp).1
      by_cases hpT : p ∈ T
      · unfold thT
        refine decide_eq_true ?_
        refine List.mem_map.2 ⟨p, hpT, ?_⟩
        simp [List.getD, hp]
      · exfalso
        obtain ⟨d, hd, hf⟩ := (nxt_none_iff.1 h.2.2.2.2) p (by simpa using hpl) hpT
        rw [vs_at hp] at hd
        obtain ⟨j, z, hj, hz, e⟩ := hA.dep k _ hx d hd
        have := ih j (by omega) z hz
        rw [e, hf] at this
        cases this
  intro x hx
  obtain ⟨k, hk⟩ := List.mem_iff_getElem?.1 (hpm.mem_iff.1 (List.mem_map.2 ⟨x, hx, rfl⟩))
  exact hall (k + 1) k (by omega) _ hk

theorem Taken.none_left {A : List Mop} (hA : Cl A) {R : List Mo} {T : List Nat} (h : Taken A R T) : lf R T = [] := by
  unfold lf
  rw [List.filter_eq_nil_iff]
  intro x hx
  rw [h.full hA x hx]
  simp

theorem Taken.count {A : List Mop} (hA : Cl A) {R : List Mo} {T : List Nat} (h : Taken A R T) : T.length = A.length := by
  have hpm : (R.map Mo.m).Perm A := by
    have := h.2.1
    rw [cnt_perm hA (List.Perm.refl _)] at this
    exact this
  have hR : R.length = A.length := by simpa using hpm.length_eq
  have hnd := h.2.2.2.1.nodup
  have h1 : T.length ≤ R.length := by
    have := List.Nodup.length_le_of_subset hnd (fun x hx => List.mem_range.2 (h.lt x hx))
    simpa using this
  have h2 : (List.range R.length).length ≤ T.length := List.Nodup.length_le_of_subset List.nodup_range (fun p hp => by
    have hpl := List.mem_range.1 hp
    have hx : R[p]? = some R[p] := List.getElem?_eq_getElem hpl
    have hf := h.full hA R[p] (List.getElem_mem hpl)
    unfold thT at hf
    obtain ⟨q, hq, e⟩ := List.mem_map.1 (of_decide_eq_true hf)
    have hql := h.lt q hq
    have hnR := h.nodup
    have e1 : (R.map (fun x => x.o.id))[q]? = (R.map (fun x => x.o.id))[p]? := by
      simp only [List.getD] at e
      rw [List.getElem?_eq_getElem (by simpa using hql)] at e ⊢
      rw [List.getElem?_eq_getElem (by simpa using hpl)]
      simpa using e
    have := (List.getElem?_inj (by simpa using hql) hnR).1 e1
    rw [← this]
    exact hq)
  rw [List.length_range] at h2
  omega

/-- What is told of a story, in whatever order it is handed in. -/
theorem St.turned {A l : List Mop} (hA : St A) (hp : l.Perm A) {R R' : List Mo} {T T' : List Nat} (h : Taken A R T) (h' : Taken l R' T') : (inL R T).map Mo.m = (inL R' T').map Mo.m ∧ T.length = A.length ∧ T'.length = A.length ∧ lf R T = [] ∧ lf R' T' = [] ∧ latF (fun _ => none) ((inL R' T').map Mo.m) = true := by
  have h2 := h'.turned hA.cl hp
  have hs := h.same h2
  refine ⟨hs.1, h.count hA.cl, h2.count hA.cl, h.none_left hA.cl, h2.none_left hA.cl, ?_⟩
  have hr := h2.right
  rw [h2.count hA.cl] at hr
  simp only [decide_true, Bool.true_and] at hr
  rw [hr, List.all_eq_true]
  intro x hx
  rw [List.all_eq_true]
  intro y hy
  exact okT_iff.2 (hA.lat x hx y hy)

/-- What is known of an actor, of the pairs that were told: those of others than one. -/
structure KI (k : Kn) (S : List (Int × Dt)) : Prop where
  le : k.2.2 ≤ k.1
  is : ∀ (d : Dt) (s : Int), 1 ≤ s → (s ≤ kbut k d ↔ ∃ p ∈ S, p.2 ≠ d ∧ s ≤ p.1)

theorem KI.nil : KI (0, (0, 0), 0) [] := ⟨Int.le_refl _, fun d s hs => by unfold kbut; simp; omega⟩

theorem KI.snoc {k : Kn} {S : List (Int × Dt)} (h : KI k S) (q : Int) (b : Dt) : KI (kwith k q b) (S ++ [(q, b)]) := by
  obtain ⟨t, w, r⟩ := k
  have hle : r ≤ t := h.le
  have key : ∀ (d : Dt) (s : Int), 1 ≤ s → ((∃ p ∈ S ++ [(q, b)], p.2 ≠ d ∧ s ≤ p.1) ↔ s ≤ (if d = w then r else t) ∨ (b ≠ d ∧ s ≤ q)) := by
    intro d s hs
    have h1 := h.is d s hs
    unfold kbut at h1
    constructor
    · rintro ⟨p, hp, hne, hl⟩
      rcases List.mem_append.1 hp with hp | hp
      · exact Or.inl (h1.2 ⟨p, hp, hne, hl⟩)
      · simp at hp
        subst hp
        exact Or.inr ⟨hne, hl⟩
    · rintro (hl | ⟨hne, hl⟩)
      · obtain ⟨p, hp, r⟩ := h1.1 hl
        exact ⟨p, List.mem_append_left _ hp, r⟩
      · exact ⟨(q, b), by simp, hne, hl⟩
  unfold kwith
  by_cases h0 : b = w
  · rw [if_pos h0]
    refine ⟨by show r ≤ max q t; omega, fun d s hs => ?_⟩
    rw [key d s hs]
    unfold kbut
    show s ≤ (if d = b then r else max q t) ↔ _
    subst h0
    by_cases hd : d = b
    · rw [if_pos hd, if_pos hd]
      constructor
      · exact Or.inl
      · rintro (h | ⟨h, _⟩)
        · exact h
        · exact absurd hd.symm h
    · rw [if_neg hd, if_neg hd]
      constructor
      · intro h
        by_cases s ≤ t
        · left; assumption
        · right; exact ⟨fun e => hd e.symm, by omega⟩
      · rintro (h | ⟨_, h⟩) <;> omega
  · rw [if_neg h0]
    by_cases h1 : t < q
    · rw [if_pos h1]
      refine ⟨by show t ≤ q; omega, fun d s hs => ?_⟩
      rw [key d s hs]
      unfold kbut
      show s ≤ (if d = b then t else q) ↔ _
      by_cases hd : d = b
      · rw [if_pos hd]
        have : ¬ d = w := fun e => h0 (hd.symm.trans e)
        rw [if_neg this]
        constructor
        · exact Or.inl
        · rintro (h | ⟨h, _⟩)
          · exact h
          · exact absurd hd.symm h
      · rw [if_neg hd]
        constructor
        · intro h
          exact Or.inr ⟨fun e => hd e.symm, h⟩
        · rintro (h | ⟨_, h⟩)
          · split at h <;> omega
          · exact h
    · rw [if_neg h1]
      refine ⟨by show max q r ≤ t; omega, fun d s hs => ?_⟩
      rw [key d s hs]
      unfold kbut
      show s ≤ (if d = w then max q r else t) ↔ _
      by_cases hd : d = w
      · rw [if_pos hd, if_pos hd]
        constructor
        · intro h
          by_cases s ≤ r
          · left; assumption
          · right; exact ⟨fun e => h0 (e.trans hd), by omega⟩
        · rintro (h | ⟨_, h⟩) <;> omega
      · rw [if_neg hd, if_neg hd]
        constructor
        · exact Or.inl
        · rintro (h | ⟨_, h⟩) <;> omega

/-- The pairs of an actor. -/
def prs (l : List Mop) (e : Int) : List (Int × Dt) := l.flatMap (fun x => (x.2.filter (fun d => d.1 == e)).map (fun d => (d.2, x.1.id)))

theorem krow_is (id : Dt) (ds : List Dt) : ∀ (f : Int → Kn) (e : Int) (S : List (Int × Dt)), KI (f e) S → KI (ds.foldl (kone id) f e) (S ++ (ds.filter (fun d => d.1 == e)).map (fun d => (d.2, id))) := by
  induction ds with
  | nil => intro f e S h; simpa using h
  | cons d r ih =>
    intro f e S h
    rw [List.foldl_cons]
    by_cases hd : d.1 = e
    · have h1 : KI (kone id f d e) (S ++ [(d.2, id)]) := by
        unfold kone
        rw [if_pos hd.symm, hd]
        exact h.snoc _ _
      have := ih (kone id f d) e _ h1
      rw [List.filter_cons_of_pos (by simpa using hd), List.map_cons, show S ++ (d.2, id) :: (r.filter (fun d => d.1 == e)).map (fun d => (d.2, id)) = S ++ [(d.2, id)] ++ (r.filter (fun d => d.1 == e)).map (fun d => (d.2, id)) by simp]
      exact this
    · have h1 : KI (kone id f d e) S := by
        unfold kone
        rw [if_neg (fun h => hd h.symm)]
        exact h
      rw [List.filter_cons_of_neg (by simpa using hd)]
      exact ih _ e _ h1

theorem kall_is (l : List Mop) (e : Int) : KI (kall l e) (prs l e) := by
  have : ∀ (l : List Mop) (f : Int → Kn) (S : List (Int × Dt)), KI (f e) S → KI (l.foldl krow f e) (S ++ prs l e) := by
    intro l
    induction l with
    | nil => intro f S h; simpa [prs] using h
    | cons x r ih =>
      intro f S h
      have h1 := ih (krow f x) _ (krow_is x.1.id x.2 f e S h)
      rw [List.foldl_cons]
      have e1 : S ++ prs (x :: r) e = S ++ (x.2.filter (fun d => d.1 == e)).map (fun d => (d.2, x.1.id)) ++ prs r e := by simp [prs]
      rw [e1]
      exact h1
  have h := this l (fun _ => (0, (0, 0), 0)) [] KI.nil
  simpa [kall] using h

theorem prs_has {l : List Mop} (hv : ∀ x ∈ l, VM x.2) {d : Dt} (hd : 1 ≤ d.2) : (∃ p ∈ prs l d.1, p.2 ≠ d ∧ d.2 ≤ p.1) ↔ ∃ y ∈ l, y.1.id ≠ d ∧ d.2 ≤ gt y.2 d.1 := by
  constructor
  · rintro ⟨p, hp, hne, hl⟩
    obtain ⟨y, hy, hq⟩ := List.mem_flatMap.1 hp
    obtain ⟨z, hz, rfl⟩ := List.mem_map.1 hq
    obtain ⟨hz1, hz2⟩ := List.mem_filter.1 hz
    have e : z.1 = d.1 := by simpa using hz2
    refine ⟨y, hy, hne, ?_⟩
    rw [← e, gt_some (hv y hy).ac hz1]
    exact hl
  · rintro ⟨y, hy, hne, hl⟩
    have hp := ((hv y hy).gt_pos (a := d.1) (by omega)).2
    refine ⟨(gt y.2 d.1, y.1.id), List.mem_flatMap.2 ⟨y, hy, List.mem_map.2 ⟨(d.1, gt y.2 d.1), List.mem_filter.2 ⟨hp, by simp⟩, rfl⟩⟩, hne, hl⟩

/-- What is at the frontier. -/
theorem mem_frt {A : List Mop} (hA : Cl A) {d : Dt} : d ∈ frt A ↔ (∃ x ∈ A, x.1.id = d) ∧ ∀ y ∈ A, y.1.id ≠ d → hasv y.2 d = false := by
  unfold frt
  rw [List.mem_filter, mem_rise]
  constructor
  · rintro ⟨hm, hf⟩
    obtain ⟨x, hx, rfl⟩ := List.mem_map.1 hm
    refine ⟨⟨x, hx, rfl⟩, fun y hy hne => ?_⟩
    have hmd := (chk_head (hA.may x hx)).1
    have h1 := ((mayd_iff _).1 hmd).2.2.1
    unfold frb at hf
    rw [hmd] at hf
    simp only [Bool.not_true, Bool.false_or, decide_eq_true_eq] at hf
    cases e : hasv y.2 x.1.id with
    | false => rfl
    | true =>
      exfalso
      have := ((kall_is A x.1.id.1).is x.1.id x.1.id.2 h1).2 ((prs_has (fun z hz => (chk_head (hA.may z hz)).2.1) h1).2 ⟨y, hy, hne, (hasv_iff.1 e).2⟩)
      have hf' : kbut (kall A x.1.id.1) x.1.id < x.1.id.2 := hf
      exact absurd this (Int.not_le.2 hf')
  · rintro ⟨⟨x, hx, rfl⟩, hn⟩
    refine ⟨List.mem_map.2 ⟨x, hx, rfl⟩, ?_⟩
    have hmd := (chk_head (hA.may x hx)).1
    have h1 := ((mayd_iff _).1 hmd).2.2.1
    unfold frb
    rw [hmd]
    simp only [Bool.not_true, Bool.false_or, decide_eq_true_eq]
    refine Int.not_le.1 fun hl => ?_
    obtain ⟨y, hy, hne, hl'⟩ := (prs_has (fun z hz => (chk_head (hA.may z hz)).2.1) h1).1 (((kall_is A x.1.id.1).is x.1.id x.1.id.2 h1).1 hl)
    have := hn y hy hne
    rw [hasv_iff.2 ⟨hmd, hl'⟩] at this
    cases this

/-- None has itself. -/
theorem Cl.self {A : List Mop} (hA : Cl A) {x : Mop} (hx : x ∈ A) : hasv x.2 x.1.id = false := by
  obtain ⟨_, _, hg, _⟩ := chk_head (hA.may x hx)
  cases e : hasv x.2 x.1.id with
  | false => rfl
  | true =>
    have h2 : x.1.id1 ≤ gt x.2 x.1.id0 := (hasv_iff.1 e).2
    omega

theorem St.apart {A : List Mop} (hA : St A) {x y : Mop} (hy : y ∈ A) (hh : hasv y.2 x.1.id = true) : x.1.id ∉ frt A := fun hf => by
  have h2 := ((mem_frt hA.cl).1 hf).2 y hy (fun e => by
    have := hA.cl.self hy
    rw [e, hh] at this
    cases this)
  rw [hh] at h2
  cases h2

theorem St.covered {A : List Mop} (hA : St A) : ∀ (n i : Nat) (x : Mop), A.length - i ≤ n → A[i]? = some x → x.1.id ∈ frt A ∨ ∃ y ∈ A, y.1.id ∈ frt A ∧ hasv y.2 x.1.id = true := by
  intro n
  induction n with
  | zero =>
    intro i x hi hx
    have := (List.getElem?_eq_some_iff.1 hx).1
    omega
  | succ n ih =>
    intro i x hi hx
    by_cases hf : x.1.id ∈ frt A
    · exact Or.inl hf
    right
    have hxm := List.mem_of_getElem? hx
    have hex : ∃ y ∈ A, y.1.id ≠ x.1.id ∧ hasv y.2 x.1.id = true := by
      apply Classical.byContradiction
      intro hno
      refine hf ((mem_frt hA.cl).2 ⟨⟨x, hxm, rfl⟩, fun y hy hne => ?_⟩)
      cases e : hasv y.2 x.1.id with
      | false => rfl
      | true => exact absurd ⟨y, hy, hne, e⟩ hno
    obtain ⟨y, hy, hne, hh⟩ := hex
    obtain ⟨j, hj⟩ := List.mem_iff_getElem?.1 hy
    obtain ⟨i', x', hlt, hx', e⟩ := hA.cl.has hj hh
    have hii := ids_inj hA.cl.ids hx hx' e.symm
    have hjl := (List.getElem?_eq_some_iff.1 hj).1
    rcases ih j y (by omega) hj with h1 | ⟨z, hz, hzf, hzh⟩
    · exact ⟨y, hy, h1, hh⟩
    · refine ⟨z, hz, hzf, ?_⟩
      have hb := belv_gt (chk_head (hA.cl.may y hy)).2.1 (chk_head (hA.cl.may z hz)).2.1 (hA.closed z hz y hy hzh) x.1.id.1
      obtain ⟨hm, hl⟩ := hasv_iff.1 hh
      exact hasv_iff.2 ⟨hm, Int.le_trans hl hb⟩

theorem St.edge_nil {A : List Mop} (hA : St A) : frt A = [] ↔ A = [] := by
  constructor
  · intro h
    cases A with
    | nil => rfl
    | cons x r =>
      exfalso
      rcases hA.covered (x :: r).length 0 x (by omega) rfl with h1 | ⟨y, _, h1, _⟩
      · rw [h] at h1; simp at h1
      · rw [h] at h1; simp at h1
  · rintro rfl
    rfl

end

section
set_option linter.unusedVariables false

def oAt (o : OpIn) : Dt := (o.at0, o.at1)
def oBl (o : OpIn) : Dt := (o.bl0, o.bl1)

/-- What an operation makes of a block's text; its error ahead. -/
def tx1 (b : Dt) (T : List Cr) (o : OpIn) : Int × List Cr :=
  if oBl o = b then (if o.kind = 1 then insP T o.id (oAt o) o.side o.char else if o.kind = 2 then delP T (oAt o) else (0, T)) else (0, T)

/-- Is a character taken out of sight by one of these? -/
def gone (b : Dt) (B : List OpIn) (d : Dt) : Bool := B.any (fun e => decide (oBl e = b ∧ e.kind = 2 ∧ oAt e = d))

/-- The block's characters. -/
def crs (b : Dt) (D B : List OpIn) : List Cr := (B.filter (fun o => decide (oBl o = b ∧ o.kind = 1))).map (fun o => ⟨o.id, oAt o, decide (o.side = 1), o.char, !(gone b D o.id)⟩)

/-- Each comes behind the one under which it lies. -/
structure WO (M : List OpIn) : Prop where
  ids : (M.map OpIn.id).Nodup
  nz : ∀ o ∈ M, o.id ≠ (0, 0)
  ins : ∀ (i : Nat) (o : OpIn), M[i]? = some o → o.kind = 1 → (oAt o = (0, 0) ∧ o.side = 1) ∨ ((∃ y ∈ M.take i, y.kind = 1 ∧ oBl y = oBl o ∧ y.id = oAt o) ∧ (o.side = 0 ∨ o.side = 1))
  del : ∀ (i : Nat) (o : OpIn), M[i]? = some o → o.kind = 2 → ∃ y ∈ M.take i, y.kind = 1 ∧ oBl y = oBl o ∧ y.id = oAt o

theorem crs_mem {b : Dt} {D B : List OpIn} {c : Cr} : c ∈ crs b D B ↔ ∃ o ∈ B, oBl o = b ∧ o.kind = 1 ∧ c = ⟨o.id, oAt o, decide (o.side = 1), o.char, !(gone b D o.id)⟩ := by
  unfold crs
  rw [List.mem_map]
  constructor
  · rintro ⟨o, ho, rfl⟩
    obtain ⟨h1, h2⟩ := List.mem_filter.1 ho
    simp only [decide_eq_true_eq] at h2
    exact ⟨o, h1, h2.1, h2.2, rfl⟩
  · rintro ⟨o, h1, h2, h3, rfl⟩
    exact ⟨o, List.mem_filter.2 ⟨h1, by simp [h2, h3]⟩, rfl⟩

theorem gone_snoc (b : Dt) (B : List OpIn) (o : OpIn) (d : Dt) : gone b (B ++ [o]) d = (gone b B d || decide (oBl o = b ∧ o.kind = 2 ∧ oAt o = d)) := by
  unfold gone
  rw [List.any_append]
  simp

theorem crs_snoc_no {b : Dt} {D B : List OpIn} {o : OpIn} (h : ¬ (oBl o = b ∧ o.kind = 1)) : crs b D (B ++ [o]) = crs b D B := by
  unfold crs
  rw [List.filter_append, List.filter_cons_of_neg (by simpa using h), List.filter_nil, List.append_nil]

theorem crs_snoc_yes {b : Dt} {D B : List OpIn} {o : OpIn} (h : oBl o = b ∧ o.kind = 1) : crs b D (B ++ [o]) = crs b D B ++ [⟨o.id, oAt o, decide (o.side = 1), o.char, !(gone b D o.id)⟩] := by
  unfold crs
  rw [List.filter_append, List.filter_cons_of_pos (by simpa using h), List.filter_nil, List.map_append]
  rfl

theorem crs_same {b : Dt} {D D' B : List OpIn} (h : ∀ d, gone b D d = gone b D' d) : crs b D B = crs b D' B := by
  unfold crs
  refine List.map_congr_left (fun o _ => ?_)
  rw [h]

theorem ids_before {M : List OpIn} (h : (M.map OpIn.id).Nodup) {i : Nat} {o : OpIn} (hi : M[i]? = some o) : ∀ y ∈ M.take i, y.id ≠ o.id := by
  intro y hy e
  obtain ⟨j, hj, hjy⟩ := mem_take_at.1 hy
  have hil := (List.getElem?_eq_some_iff.1 hi).1
  have hjl := (List.getElem?_eq_some_iff.1 hjy).1
  have h1 : (M.map OpIn.id)[j]'(by simpa using hjl) = (M.map OpIn.id)[i]'(by simpa using hil) := by
    rw [List.getElem_map, List.getElem_map, (List.getElem?_eq_some_iff.1 hi).2, (List.getElem?_eq_some_iff.1 hjy).2]
    exact e
  exact List.pairwise_iff_getElem.1 h j i (by simpa using hjl) (by simpa using hil) hj h1

/-- What is put in is put in, what is taken out of sight is there. -/
theorem WO.step {M : List OpIn} (h : WO M) {i : Nat} {o : OpIn} (hi : M[i]? = some o) (b : Dt) : tx1 b (crs b (M.take i) (M.take i)) o = (0, crs b (M.take (i + 1)) (M.take (i + 1))) := by
  have hil := (List.getElem?_eq_some_iff.1 hi).1
  have ht : M.take (i + 1) = M.take i ++ [o] := by rw [List.take_succ_eq_append_getElem hil, (List.getElem?_eq_some_iff.1 hi).2]
  have hbef := ids_before h.ids hi
  rw [ht]
  unfold tx1
  by_cases hb : oBl o = b
  · rw [if_pos hb]
    by_cases h1 : o.kind = 1
    · rw [if_pos h1]
      have hg : ∀ d, gone b (M.take i ++ [o]) d = gone b (M.take i) d := fun d => by
        rw [gone_snoc, decide_eq_false (by rw [h1]; simp), Bool.or_false]
      have hfr : ¬ ∃ c ∈ crs b (M.take i) (M.take i), c.id = o.id := by
        rintro ⟨c, hc, e⟩
        obtain ⟨y, hy, _, _, rfl⟩ := crs_mem.1 hc
        exact hbef y hy e
      have hgo : gone b (M.take i) o.id = false := by
        cases e : gone b (M.take i) o.id with
        | false => rfl
        | true =>
          exfalso
          unfold gone at e
          obtain ⟨x, hx, hxe⟩ := List.any_eq_true.1 e
          simp only [decide_eq_true_eq] at hxe
          obtain ⟨j, hj, hjx⟩ := mem_take_at.1 hx
          obtain ⟨y, hy, _, _, hyid⟩ := h.del j x hjx hxe.2.1
          obtain ⟨j', hj', hjy⟩ := mem_take_at.1 hy
          exact hbef y (mem_take_at.2 ⟨j', by omega, hjy⟩) (hyid.trans hxe.2.2)
      have hz := h.nz o (List.mem_of_getElem? hi)
      rw [crs_snoc_yes ⟨hb, h1⟩, crs_same hg, hg, hgo]
      unfold insP
      rcases h.ins i o hi h1 with ⟨ha, hs⟩ | ⟨⟨y, hy, hy1, hyb, hyid⟩, hs⟩
      · rw [if_neg (by unfold mayI; rw [hs]; simp [hz]), if_neg hfr, if_neg (by simp [ha])]
        rfl
      · have hyc : ∃ c ∈ crs b (M.take i) (M.take i), c.id = oAt o := ⟨_, crs_mem.2 ⟨y, hy, hyb.trans hb, hy1, rfl⟩, hyid⟩
        have haz : oAt o ≠ (0, 0) := fun e => h.nz y (List.mem_of_mem_take hy) (hyid.trans e)
        rw [if_neg (by unfold mayI; rcases hs with hs | hs <;> rw [hs] <;> simp [hz, haz]), if_neg hfr, if_neg (fun e => e (Or.inr hyc))]
        rfl
    · rw [if_neg h1]
      by_cases h2 : o.kind = 2
      · rw [if_pos h2]
        obtain ⟨y, hy, hy1, hyb, hyid⟩ := h.del i o hi h2
        have hyc : ∃ c ∈ crs b (M.take i) (M.take i), c.id = oAt o := ⟨_, crs_mem.2 ⟨y, hy, hyb.trans hb, hy1, rfl⟩, hyid⟩
        unfold delP
        rw [if_pos hyc, crs_snoc_no (fun e => h1 e.2)]
        refine congrArg (fun x => ((0 : Int), x)) ?_
        unfold hide crs
        rw [List.map_map]
        refine List.map_congr_left (fun x hx => ?_)
        simp only [Function.comp]
        rw [gone_snoc]
        by_cases e : x.id = oAt o
        · rw [if_pos e, decide_eq_true (p := oBl o = b ∧ o.kind = 2 ∧ oAt o = x.id) ⟨hb, h2, e.symm⟩]
          simp
        · rw [if_neg e, decide_eq_false (p := oBl o = b ∧ o.kind = 2 ∧ oAt o = x.id) (fun k => e k.2.2.symm), Bool.or_false]
      · rw [if_neg h2, crs_snoc_no (fun e => h1 e.2), crs_same (fun d => by rw [gone_snoc, decide_eq_false (fun k => h2 k.2.1), Bool.or_false])]
  · rw [if_neg hb, crs_snoc_no (fun e => hb e.1), crs_same (fun d => by rw [gone_snoc, decide_eq_false (fun k => hb k.1), Bool.or_false])]

theorem gone_perm {b : Dt} {M M' : List OpIn} (h : M.Perm M') (d : Dt) : gone b M d = gone b M' d := by
  unfold gone
  rw [Bool.eq_iff_iff, List.any_eq_true, List.any_eq_true]
  constructor
  · rintro ⟨x, hx, r⟩; exact ⟨x, h.mem_iff.1 hx, r⟩
  · rintro ⟨x, hx, r⟩; exact ⟨x, h.mem_iff.2 hx, r⟩

theorem crs_perm {b : Dt} {M M' : List OpIn} (h : M.Perm M') : (crs b M M).Perm (crs b M' M') := by
  rw [crs_same (gone_perm h)]
  exact (h.filter _).map _

theorem fnd_perm {T U : List Cr} (hT : WT T) (hU : WT U) (h : T.Perm U) (d : Dt) : fnd T d = fnd U d := by
  cases e : fnd T d with
  | none =>
    have h1 := fnd_none.1 e
    exact (fnd_none.2 (fun c hc => h1 c (h.mem_iff.2 hc))).symm
  | some c =>
    obtain ⟨h1, rfl⟩ := fnd_some e
    exact (fnd_of hU (h.mem_iff.1 h1)).symm

/-- The same characters in another order: the same text. -/
theorem allC_perm {T U : List Cr} (hT : WT T) (hU : WT U) (h : T.Perm U) : allC T = allC U := by
  unfold allC
  rw [allT_perm h]
  congr 1
  funext d
  exact fnd_perm hT hU h d

theorem seenC_perm {T U : List Cr} (hT : WT T) (hU : WT U) (h : T.Perm U) : seenC T = seenC U := by
  unfold seenC
  rw [allC_perm hT hU h]

theorem mayd_nz {d : Dt} (h : mayd d = true) : d ≠ (0, 0) := fun e => by
  have := ((mayd_iff d).1 h).2.2.1
  rw [e] at this
  simp at this

theorem same_ids {A : List Mop} (hA : (A.map (fun x => x.1.id)).Nodup) {x y : Mop} (hx : x ∈ A) (hy : y ∈ A) (e : x.1.id = y.1.id) : x = y := by
  obtain ⟨i, hi⟩ := List.mem_iff_getElem?.1 hx
  obtain ⟨j, hj⟩ := List.mem_iff_getElem?.1 hy
  have := ids_inj hA hi hj e
  subst this
  rw [hi] at hj
  cases hj
  rfl

/-- A story's operations in an order in which each comes behind its Deps. -/
theorem wo_of {A M : List Mop} (hA : St A) (hM : Cl M) (hp : M.Perm A) : WO (M.map Prod.fst) := by
  have hchr : ∀ (i : Nat) (x : Mop), M[i]? = some x → ∀ (k : Nat) (d : Dt), isChr (A.take k) x.2 x.1.bl0 x.1.bl1 d → ∃ y ∈ (M.map Prod.fst).take i, y.kind = 1 ∧ oBl y = oBl x.1 ∧ y.id = d := by
    intro i x hx k d ⟨y, hy, hh, h1, h2, h3, h4⟩
    obtain ⟨j, z, hj, hz, hid⟩ := hM.has hx hh
    have hyA := List.mem_of_mem_take hy
    have hzy : z = y := same_ids hA.cl.ids (hp.mem_iff.1 (List.mem_of_getElem? hz)) hyA hid
    subst hzy
    refine ⟨z.1, mem_take_at.2 ⟨j, hj, by rw [List.getElem?_map, hz]; rfl⟩, h1, ?_, h4⟩
    show (z.1.bl0, z.1.bl1) = (x.1.bl0, x.1.bl1)
    rw [h2, h3]
  have hget : ∀ (i : Nat) (o : OpIn), (M.map Prod.fst)[i]? = some o → ∃ x : Mop, M[i]? = some x ∧ x.1 = o := fun i o h => by
    rw [List.getElem?_map] at h
    exact Option.map_eq_some_iff.1 h
  have hkd : ∀ (i : Nat) (x : Mop), M[i]? = some x → ∃ k, KD (A.take k) x.1 x.2 := fun i x hx => by
    obtain ⟨k, hk⟩ := List.mem_iff_getElem?.1 (hp.mem_iff.1 (List.mem_of_getElem? hx))
    exact ⟨k, hA.kind k x hk⟩
  refine ⟨?_, fun o ho => ?_, fun i o hi h1 => ?_, fun i o hi h2 => ?_⟩
  · have := hM.ids
    rw [List.map_map]
    exact this
  · obtain ⟨x, hx, rfl⟩ := List.mem_map.1 ho
    exact mayd_nz (chk_head (hM.may x hx)).1
  · obtain ⟨x, hx, rfl⟩ := hget i o hi
    obtain ⟨k, hk⟩ := hkd i x hx
    rcases hk with ⟨h3, _⟩ | ⟨_, _, hat⟩ | ⟨h2, _⟩
    · rw [h1] at h3; cases h3
    · rcases hat with ⟨a0, a1, hs⟩ | ⟨hc, hs⟩
      · exact Or.inl ⟨by unfold oAt; rw [a0, a1], hs⟩
      · exact Or.inr ⟨hchr i x hx k _ hc, hs⟩
    · rw [h1] at h2; cases h2
  · obtain ⟨x, hx, rfl⟩ := hget i o hi
    obtain ⟨k, hk⟩ := hkd i x hx
    rcases hk with ⟨h3, _⟩ | ⟨h1, _⟩ | ⟨_, _, hc⟩
    · rw [h2] at h3; cases h3
    · rw [h2] at h1; cases h1
    · exact hchr i x hx k _ hc

/-- One more that is ready. -/
theorem Cl.more {A : List Mop} (h : Cl A) {x : Mop} (hc : chk x.1 x.2 = true) (hr : rdyE (verv A) x.1 x.2 = 0) : Cl (A ++ [x]) := by
  obtain ⟨hm, hv, _, _⟩ := chk_head hc
  have hfr : ∀ y ∈ A, y.1.id ≠ x.1.id := fun y hy e => by
    have h1 : 1 ≤ x.1.id.2 := ((mayd_iff _).1 hm).2.2.1
    have h2 : hasv (verv A) x.1.id = true := hasv_iff.2 ⟨hm, (h.ver h1).2 ⟨y, hy, e⟩⟩
    unfold rdyE at hr
    rw [if_neg (by rw [hc]; simp), if_pos h2] at hr
    cases hr
  refine ⟨fun y hy => ?_, fun k y hy d hd => ?_, ?_⟩
  · rcases List.mem_append.1 hy with hy | hy
    · exact h.may y hy
    · simp at hy; rw [hy]; exact hc
  · rcases Nat.lt_or_ge k A.length with hk | hk
    · rw [List.getElem?_append_left hk] at hy
      obtain ⟨j, z, hj, hz, e⟩ := h.dep k y hy d hd
      exact ⟨j, z, hj, by rw [List.getElem?_append_left (by omega)]; exact hz, e⟩
    · rw [List.getElem?_append_right hk] at hy
      have hk0 : k - A.length = 0 := by
        have := (List.getElem?_eq_some_iff.1 hy).1
        simp at this
        omega
      rw [hk0] at hy
      simp at hy
      subst hy
      by_cases hex : ∃ z ∈ A, z.1.id = d
      · obtain ⟨z, hz, e⟩ := hex
        obtain ⟨j, hj⟩ := List.mem_iff_getElem?.1 hz
        have hjl := (List.getElem?_eq_some_iff.1 hj).1
        exact ⟨j, z, by omega, by rw [List.getElem?_append_left hjl]; exact hj, e⟩
      · have := h.early hc hfr hd (fun z hz e => hex ⟨z, hz, e⟩)
        rw [hr] at this
        cases this
  · rw [List.map_append, List.nodup_append]
    refine ⟨h.ids, by simp, fun a ha b hb => ?_⟩
    obtain ⟨y, hy, rfl⟩ := List.mem_map.1 ha
    simp at hb
    rw [hb]
    exact hfr y hy

/-- As long as some are left, one of them is ready. -/
theorem ready_some {A out rest : List Mop} (hA : Cl A) (hp : (out ++ rest).Perm A) (ho : Cl out) (hne : rest ≠ []) : ∃ x ∈ rest, rdyE (verv out) x.1 x.2 = 0 := by
  have hnd : ((out ++ rest).map (fun x => x.1.id)).Nodup := (hp.map _).nodup_iff.2 hA.ids
  rw [List.map_append, List.nodup_append] at hnd
  by_cases hex : ∃ x ∈ rest, rdyE (verv out) x.1 x.2 = 0
  · exact hex
  exfalso
  have hall : ∀ (n k : Nat), k < n → ∀ x : Mop, A[k]? = some x → x ∈ out := by
    intro n
    induction n with
    | zero => intro k hk; omega
    | succ n ih =>
      intro k hk x hx
      have hxm := hp.mem_iff.2 (List.mem_of_getElem? hx)
      rcases List.mem_append.1 hxm with h1 | h1
      · exact h1
      · exfalso
        refine hex ⟨x, h1, ho.ready (hA.may x (List.mem_of_getElem? hx)) (fun y hy e => ?_) (fun d hd => ?_)⟩
        · exact hnd.2.2 _ (List.mem_map.2 ⟨y, hy, rfl⟩) _ (List.mem_map.2 ⟨x, h1, rfl⟩) e
        · obtain ⟨j, y, hj, hy, e⟩ := hA.dep k x hx d hd
          exact ⟨y, ih j (by omega) y hy, e⟩
  cases rest with
  | nil => exact hne rfl
  | cons x r =>
    obtain ⟨k, hk⟩ := List.mem_iff_getElem?.1 (hp.mem_iff.1 (List.mem_append_right out (List.mem_cons_self ..)))
    have := hall (k + 1) k (by omega) x hk
    exact hnd.2.2 _ (List.mem_map.2 ⟨x, this, rfl⟩) _ (List.mem_map.2 ⟨x, by simp, rfl⟩) rfl
end
end Go.Proofs.Ytbpepmajpojacaa
