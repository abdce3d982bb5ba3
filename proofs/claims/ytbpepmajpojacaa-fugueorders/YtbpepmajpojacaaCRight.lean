/- Right: what it tells. -/
import Derived.Test.YtbpepmajpojacaaQLook
import Derived.Deep.RegionWith
import Derived.Test.YtbpepmajpojacaaMPlaces
namespace Go.Proofs.Ytbpepmajpojacaa
section

/-- Of the first a places: L are neither ready nor waiting; each other one is taken in, or ready, or waits for the first of its Deps that isn't there. -/
structure IV (Vs : List (List Dt)) (th : Dt → Bool) (a : Nat) (T : List Nat) (s : Sq) (L : List Nat) : Prop where
  ok : Sq.Ok Vs s
  len : s.nx.length = Vs.length
  le : a ≤ Vs.length
  took : ∀ p ∈ T, p < a ∧ p ∉ L
  past : ∀ p, p < a → ∀ d ∈ (Vs.getD p []).take (s.nx.getD p 0), th d = true
  each : ∀ p, p < a → p ∉ L → p ∉ T → (s.nx.getD p 0 = (Vs.getD p []).length ∧ (p : Int) ∈ s.Z) ∨ ∃ d, (Vs.getD p [])[s.nx.getD p 0]? = some d ∧ th d = false ∧ (p : Int) ∈ s.W d
  rdy : ∀ z ∈ s.Z, ∃ p : Nat, z = (p : Int) ∧ p < a ∧ p ∉ L ∧ p ∉ T ∧ s.nx.getD p 0 = (Vs.getD p []).length
  wt : ∀ d, th d = false → ∀ z ∈ s.W d, ∃ p : Nat, z = (p : Int) ∧ p < a ∧ p ∉ L ∧ p ∉ T ∧ (Vs.getD p [])[s.nx.getD p 0]? = some d
  ndz : s.Z.Nodup
  ndw : ∀ d, th d = false → (s.W d).Nodup
  loose : ∀ p ∈ L, p < a ∧ p ∉ T
  ndl : L.Nodup

theorem getD_set_same {l : List Nat} {p x : Nat} (h : p < l.length) : (l.set p x).getD p 0 = x := by simp [List.getD_eq_getElem?_getD, h]
theorem getD_set_other {l : List Nat} {p q x : Nat} (h : q ≠ p) : (l.set p x).getD q 0 = l.getD q 0 := by
  have : ¬ p = q := fun e => h e.symm
  simp [List.getD_eq_getElem?_getD, this]

theorem takeWhile_split {th : Dt → Bool} (L : List Dt) : (∀ d ∈ L, th d = true) ∨ ∃ q, ∃ hq : q < L.length, (∀ d ∈ L.take q, th d = true) ∧ th L[q] = false := by
  induction L with
  | nil => left; intro d hd; simp at hd
  | cons x r ih =>
    cases hx : th x
    · exact .inr ⟨0, by simp, fun d hd => by simp at hd, by simpa using hx⟩
    · rcases ih with ih | ⟨q, hq, h1, h2⟩
      · left
        intro d hd
        rcases List.mem_cons.1 hd with rfl | hd
        · exact hx
        · exact ih d hd
      · refine .inr ⟨q + 1, by simpa using hq, fun d hd => ?_, by simpa using h2⟩
        simp only [List.take_succ_cons, List.mem_cons] at hd
        rcases hd with rfl | hd
        · exact hx
        · exact h1 d hd

theorem IV.one {Vs : List (List Dt)} {th : Dt → Bool} {a : Nat} {T : List Nat} {s : Sq} {p : Nat} {L : List Nat} (h : IV Vs th a T s (p :: L)) : IV Vs th a T (Sq.one Vs th s p) L := by
  obtain ⟨hpa, hpT⟩ := h.loose p (by simp)
  have hpL : p ∉ L := (List.nodup_cons.1 h.ndl).1
  have hpl : p < s.nx.length := by rw [h.len]; exact Nat.lt_of_lt_of_le hpa h.le
  have hle := h.ok p
  generalize hV : Vs.getD p [] = V at hle
  generalize hi : s.nx.getD p 0 = i at hle
  have hpast := h.past p hpa
  rw [hV, hi] at hpast
  rcases takeWhile_split (th := th) (V.drop i) with hall | ⟨q, hq, h1, h2⟩
  · rw [one_ready hV hi hle hall]
    have hpn : (p : Int) ∉ s.Z := fun hz => by
      obtain ⟨p', e, _, hh, _⟩ := h.rdy _ hz
      have : p' = p := by omega
      subst this
      exact hh (by simp)
    have hno : ∀ q, q ≠ p → (s.nx.set p V.length).getD q 0 = s.nx.getD q 0 := fun q hq => getD_set_other hq
    have hsame : (s.nx.set p V.length).getD p 0 = V.length := getD_set_same hpl
    refine ⟨?_, by simpa using h.len, h.le, fun x hx => ⟨(h.took x hx).1, fun hxl => (h.took x hx).2 (by simp [hxl])⟩, fun x hx d hd => ?_, fun x hx hxL hxT => ?_, fun z hz => ?_, fun d hd z hz => ?_, ?_, h.ndw, fun x hx => h.loose x (by simp [hx]), (List.nodup_cons.1 h.ndl).2⟩
    · have := h.ok.one th p
      rw [one_ready hV hi hle hall] at this
      exact this
    · by_cases hxp : x = p
      · subst hxp
        simp only [hsame, hV, List.take_length] at hd
        by_cases hdi : d ∈ V.take i
        · exact hpast d hdi
        · have : d ∈ V.take i ++ V.drop i := by rw [List.take_append_drop]; exact hd
          rcases List.mem_append.1 this with h' | h'
          · exact absurd h' hdi
          · exact hall d h'
      · simp only [hno x hxp] at hd
        exact h.past x hx d hd
    · by_cases hxp : x = p
      · subst hxp
        left
        simp only [hsame, hV]
        exact ⟨trivial, by simp⟩
      · have hxL' : x ∉ p :: L := by simp [hxp, hxL]
        simp only [hno x hxp]
        rcases h.each x hx hxL' hxT with ⟨e1, e2⟩ | e
        · exact .inl ⟨e1, by simp [e2]⟩
        · exact .inr e
    · rcases List.mem_append.1 hz with hz | hz
      · obtain ⟨p', e, r1, r2, r3, r4⟩ := h.rdy z hz
        have hpp : p' ≠ p := fun e => r2 (by simp [e])
        exact ⟨p', e, r1, fun hh => r2 (by simp [hh]), r3, by simp only [hno p' hpp]; exact r4⟩
      · simp at hz
        exact ⟨p, hz, hpa, hpL, hpT, by simp only [hsame, hV]⟩
    · obtain ⟨p', e, r1, r2, r3, r4⟩ := h.wt d hd z hz
      have hpp : p' ≠ p := fun e => r2 (by simp [e])
      exact ⟨p', e, r1, fun hh => r2 (by simp [hh]), r3, by simp only [hno p' hpp]; exact r4⟩
    · exact List.nodup_append.2 ⟨h.ndz, by simp, fun x hx y hy e => by simp at hy; subst hy; subst e; exact hpn hx⟩
  · rw [one_wait hV hi hq h1 h2]
    generalize hd0 : (V.drop i)[q] = d0 at h2
    have hg : V[i + q]? = some d0 := by
      rw [← hd0, List.getElem_drop, List.getElem?_eq_getElem]
    have hpn : (p : Int) ∉ s.W d0 := fun hz => by
      obtain ⟨p', e, _, hh, _⟩ := h.wt d0 h2 _ hz
      have : p' = p := by omega
      subst this
      exact hh (by simp)
    have hno : ∀ x, x ≠ p → (s.nx.set p (i + q)).getD x 0 = s.nx.getD x 0 := fun x hx => getD_set_other hx
    have hsame : (s.nx.set p (i + q)).getD p 0 = i + q := getD_set_same hpl
    refine ⟨?_, by simpa using h.len, h.le, fun x hx => ⟨(h.took x hx).1, fun hxl => (h.took x hx).2 (by simp [hxl])⟩, fun x hx d hd => ?_, fun x hx hxL hxT => ?_, fun z hz => ?_, fun d hd z hz => ?_, h.ndz, fun d hd => ?_, fun x hx => h.loose x (by simp [hx]), (List.nodup_cons.1 h.ndl).2⟩
    · have := h.ok.one th p
      rw [one_wait hV hi hq h1 (by rw [hd0]; exact h2)] at this
      exact this
    · by_cases hxp : x = p
      · subst hxp
        simp only [hsame, hV] at hd
        rw [List.take_add] at hd
        rcases List.mem_append.1 hd with h' | h'
        · exact hpast d h'
        · exact h1 d h'
      · simp only [hno x hxp] at hd
        exact h.past x hx d hd
    · by_cases hxp : x = p
      · subst hxp
        right
        simp only [hsame, hV]
        exact ⟨d0, hg, h2, by simp⟩
      · have hxL' : x ∉ p :: L := by simp [hxp, hxL]
        simp only [hno x hxp]
        rcases h.each x hx hxL' hxT with e | ⟨d, e1, e2, e3⟩
        · exact .inl e
        · refine .inr ⟨d, e1, e2, ?_⟩
          by_cases hdd : d = d0
          · subst hdd; simp [e3]
          · simp [hdd, e3]
    · obtain ⟨p', e, r1, r2, r3, r4⟩ := h.rdy z hz
      have hpp : p' ≠ p := fun e => r2 (by simp [e])
      exact ⟨p', e, r1, fun hh => r2 (by simp [hh]), r3, by simp only [hno p' hpp]; exact r4⟩
    · by_cases hdd : d = d0
      · subst hdd
        simp only [if_true] at hz
        rcases List.mem_append.1 hz with hz | hz
        · obtain ⟨p', e, r1, r2, r3, r4⟩ := h.wt d hd z hz
          have hpp : p' ≠ p := fun e => r2 (by simp [e])
          exact ⟨p', e, r1, fun hh => r2 (by simp [hh]), r3, by simp only [hno p' hpp]; exact r4⟩
        · simp at hz
          exact ⟨p, hz, hpa, hpL, hpT, by simp only [hsame, hV]; exact hg⟩
      · simp only [hdd, if_false] at hz
        obtain ⟨p', e, r1, r2, r3, r4⟩ := h.wt d hd z hz
        have hpp : p' ≠ p := fun e => r2 (by simp [e])
        exact ⟨p', e, r1, fun hh => r2 (by simp [hh]), r3, by simp only [hno p' hpp]; exact r4⟩
    · by_cases hdd : d = d0
      · subst hdd
        simp only [if_true]
        exact List.nodup_append.2 ⟨h.ndw d hd, by simp, fun x hx y hy e => by simp at hy; subst hy; subst e; exact hpn hx⟩
      · simp only [hdd, if_false]
        exact h.ndw d hd

theorem IV.all {Vs : List (List Dt)} {th : Dt → Bool} {a : Nat} {T : List Nat} : ∀ (L : List Nat) {s : Sq}, IV Vs th a T s L → IV Vs th a T (L.foldl (Sq.one Vs th) s) []
  | [], _, h => h
  | _ :: r, _, h => IV.all r h.one

/-- One place more. -/
theorem IV.more {Vs : List (List Dt)} {th : Dt → Bool} {a : Nat} {T : List Nat} {s : Sq} (h : IV Vs th a T s []) (ha : a < Vs.length) (h0 : s.nx.getD a 0 = 0) : IV Vs th (a + 1) T s [a] := by
  have hat : a ∉ T := fun e => by have := (h.took a e).1; omega
  refine ⟨h.ok, h.len, by omega, fun p hp => ⟨by have := (h.took p hp).1; omega, fun e => by simp at e; subst e; exact hat hp⟩, fun p hp d hd => ?_, fun p hp hpL hpT => ?_, fun z hz => ?_, fun d hd z hz => ?_, h.ndz, h.ndw, fun p hp => by simp at hp; subst hp; exact ⟨by omega, hat⟩, by simp⟩
  · by_cases e : p = a
    · subst e; rw [h0] at hd; simp at hd
    · exact h.past p (by omega) d hd
  · simp at hpL
    exact h.each p (by omega) (by simp) hpT
  · obtain ⟨p, e, r1, r2, r3, r4⟩ := h.rdy z hz
    exact ⟨p, e, by omega, by simp; omega, r3, r4⟩
  · obtain ⟨p, e, r1, r2, r3, r4⟩ := h.wt d hd z hz
    exact ⟨p, e, by omega, by simp; omega, r3, r4⟩

/-- One is taken in: those that waited for it are to be looked at. -/
theorem IV.pop {Vs : List (List Dt)} {th th' : Dt → Bool} {a : Nat} {T : List Nat} {s : Sq} {p : Nat} {Z' : List Int} {d0 : Dt} {L : List Nat} (h : IV Vs th a T s []) (hz : s.Z.Perm ((p : Int) :: Z')) (hth : ∀ d, th' d = (th d || decide (d = d0))) (hL : s.W d0 = L.map (fun (x : Nat) => (x : Int))) (h0 : th d0 = false) :
    IV Vs th' a (T ++ [p]) ⟨s.nx, s.W, Z'⟩ L := by
  have hnd := hz.nodup_iff.1 h.ndz
  obtain ⟨hn1, hn2⟩ := List.nodup_cons.1 hnd
  obtain ⟨p', e, r1, _, r3, r4⟩ := h.rdy p (hz.mem_iff.2 (by simp))
  have hpp : p' = p := by omega
  subst hpp
  have hLw : ∀ x ∈ L, x < a ∧ x ∉ T ∧ (Vs.getD x [])[s.nx.getD x 0]? = some d0 := fun x hx => by
    obtain ⟨x', e, q1, _, q3, q4⟩ := h.wt d0 h0 x (by rw [hL]; exact List.mem_map.2 ⟨x, hx, rfl⟩)
    have : x' = x := by omega
    subst this
    exact ⟨q1, q3, q4⟩
  have hpL : p' ∉ L := fun hx => by
    have := (hLw p' hx).2.2
    rw [r4, List.getElem?_eq_none (Nat.le_refl _)] at this
    cases this
  refine ⟨h.ok, h.len, h.le, fun x hx => ?_, fun x hx d hd => ?_, fun x hx hxL hxT => ?_, fun z hz' => ?_, fun d hd z hz' => ?_, hn2, fun d hd => h.ndw d ?_, fun x hx => ⟨(hLw x hx).1, fun hh => ?_⟩, ?_⟩
  · rcases List.mem_append.1 hx with hx | hx
    · exact ⟨(h.took x hx).1, fun hl => (hLw x hl).2.1 hx⟩
    · simp at hx
      subst hx
      exact ⟨r1, hpL⟩
  · rw [hth, h.past x hx d hd]; rfl
  · have hxT' : x ∉ T := fun e => hxT (by simp [e])
    have hxp : x ≠ p' := fun e => hxT (by simp [e])
    rcases h.each x hx (by simp) hxT' with ⟨e1, e2⟩ | ⟨d, e1, e2, e3⟩
    · refine .inl ⟨e1, ?_⟩
      rcases List.mem_cons.1 (hz.mem_iff.1 e2) with e | e
      · exact absurd (by omega) hxp
      · exact e
    · refine .inr ⟨d, e1, ?_, e3⟩
      rw [hth, e2]
      have hdd : d ≠ d0 := fun e => by
        subst e
        rw [hL] at e3
        obtain ⟨y, hy, hye⟩ := List.mem_map.1 e3
        have : y = x := by omega
        subst this
        exact hxL hy
      simp [hdd]
  · obtain ⟨x, ez, q1, _, q3, q4⟩ := h.rdy z (hz.mem_iff.2 (by simp [hz']))
    have hxp : x ≠ p' := fun hh => by subst hh; rw [ez] at hz'; exact hn1 hz'
    refine ⟨x, ez, q1, fun hl => ?_, fun ht => ?_, q4⟩
    · have := (hLw x hl).2.2
      rw [q4, List.getElem?_eq_none (Nat.le_refl _)] at this
      cases this
    · rcases List.mem_append.1 ht with ht | ht
      · exact q3 ht
      · simp at ht; exact hxp ht
  · rw [hth] at hd
    have hd1 : th d = false := by cases hh : th d <;> simp [hh] at hd ⊢
    have hd2 : d ≠ d0 := fun e => by simp [e] at hd
    obtain ⟨x, e, q1, _, q3, q4⟩ := h.wt d hd1 z hz'
    refine ⟨x, e, q1, fun hl => ?_, fun ht => ?_, q4⟩
    · have := (hLw x hl).2.2
      rw [q4] at this
      exact hd2 (by simpa using this)
    · rcases List.mem_append.1 ht with ht | ht
      · exact q3 ht
      · simp at ht
        subst ht
        rw [r4, List.getElem?_eq_none (Nat.le_refl _)] at q4
        cases q4
  · rw [hth] at hd
    cases hh : th d <;> simp [hh] at hd ⊢
  · rcases List.mem_append.1 hh with ht | ht
    · exact (hLw x hx).2.1 ht
    · simp at ht; subst ht; exact hpL hx
  · have := h.ndw d0 h0
    rw [hL] at this
    exact (List.pairwise_map.1 this).imp (fun h e => h (by rw [e]))

/-- Which are ready: just those whose Deps are there. -/
theorem IV.ready {Vs : List (List Dt)} {th : Dt → Bool} {T : List Nat} {s : Sq} (h : IV Vs th Vs.length T s []) (p : Nat) : (p : Int) ∈ s.Z ↔ p < Vs.length ∧ p ∉ T ∧ ∀ d ∈ Vs.getD p [], th d = true := by
  constructor
  · intro hz
    obtain ⟨p', e, r1, _, r3, r4⟩ := h.rdy _ hz
    have : p' = p := by omega
    subst this
    refine ⟨r1, r3, fun d hd => h.past p' r1 d ?_⟩
    rw [r4, List.take_length]
    exact hd
  · rintro ⟨h1, h2, h3⟩
    rcases h.each p h1 (by simp) h2 with ⟨_, e2⟩ | ⟨d, e1, e2, _⟩
    · exact e2
    · have := h3 d (List.mem_of_getElem? e1)
      rw [e2] at this
      cases this

end

section

/-- Is a dot that of one that was taken in? -/
def thT (ids : List Dt) (T : List Nat) (d : Dt) : Bool := decide (d ∈ T.map (fun p => ids.getD p (0, 0)))

/-- The next one. -/
def nxt (Vs : List (List Dt)) (ids : List Dt) (T : List Nat) : Option Nat := (List.range Vs.length).find? (fun p => decide (p ∉ T) && (Vs.getD p []).all (thT ids T))

/-- Each was the next one. -/
def Ch (Vs : List (List Dt)) (ids : List Dt) (T : List Nat) : Prop := ∀ k (hk : k < T.length), nxt Vs ids (T.take k) = some T[k]

theorem nxt_some_iff {Vs : List (List Dt)} {ids : List Dt} {T : List Nat} {p : Nat} : nxt Vs ids T = some p ↔ (p < Vs.length ∧ p ∉ T ∧ ∀ d ∈ Vs.getD p [], thT ids T d = true) ∧ ∀ q, q < p → q ∉ T → ∃ d ∈ Vs.getD q [], thT ids T d = false := by
  unfold nxt
  rw [List.find?_range_eq_some]
  simp only [Bool.and_eq_true, decide_eq_true_eq, List.all_eq_true, Bool.not_eq_true', Bool.and_eq_false_imp, List.all_eq_false]
  constructor
  · rintro ⟨⟨h1, h2⟩, h3, h4⟩
    refine ⟨⟨by simpa using h3, h1, h2⟩, fun q hq hqT => ?_⟩
    obtain ⟨d, hd, hf⟩ := h4 q hq hqT
    exact ⟨d, hd, by simpa using hf⟩
  · rintro ⟨⟨h1, h2, h3⟩, h4⟩
    refine ⟨⟨h2, h3⟩, by simpa using h1, fun q hq hqT => ?_⟩
    obtain ⟨d, hd, hf⟩ := h4 q hq hqT
    exact ⟨d, hd, by simpa using hf⟩

theorem nxt_none_iff {Vs : List (List Dt)} {ids : List Dt} {T : List Nat} : nxt Vs ids T = none ↔ ∀ q, q < Vs.length → q ∉ T → ∃ d ∈ Vs.getD q [], thT ids T d = false := by
  unfold nxt
  rw [List.find?_eq_none]
  simp only [List.mem_range, Bool.and_eq_true, decide_eq_true_eq, List.all_eq_true, not_and]
  constructor
  · intro h q hq hqT
    have := h q hq hqT
    simp only [Classical.not_forall] at this
    obtain ⟨d, hd, hf⟩ := this
    exact ⟨d, hd, by simpa using hf⟩
  · intro h q hq hqT hall
    obtain ⟨d, hd, hf⟩ := h q hq hqT
    rw [hall d hd] at hf
    cases hf

theorem Ch.nil (Vs : List (List Dt)) (ids : List Dt) : Ch Vs ids [] := fun k hk => by simp at hk

theorem Ch.snoc {Vs : List (List Dt)} {ids : List Dt} {T : List Nat} {p : Nat} (h : Ch Vs ids T) (hp : nxt Vs ids T = some p) : Ch Vs ids (T ++ [p]) := by
  intro k hk
  by_cases hkt : k < T.length
  · rw [List.take_append_of_le_length (by omega), List.getElem_append_left hkt]
    exact h k hkt
  · have : k = T.length := by simp at hk; omega
    subst this
    simpa using hp

theorem Ch.take {Vs : List (List Dt)} {ids : List Dt} {T : List Nat} (h : Ch Vs ids T) (k : Nat) : Ch Vs ids (T.take k) := by
  intro j hj
  have hj' : j < k ∧ j < T.length := by rw [List.length_take] at hj; omega
  rw [List.take_take, Nat.min_eq_left (by omega), List.getElem_take]
  exact h j hj'.2

theorem Ch.lt {Vs : List (List Dt)} {ids : List Dt} {T : List Nat} (h : Ch Vs ids T) {p : Nat} (hp : p ∈ T) : p < Vs.length := by
  obtain ⟨k, hk, rfl⟩ := List.getElem_of_mem hp
  exact (nxt_some_iff.1 (h k hk)).1.1

theorem Ch.nodup {Vs : List (List Dt)} {ids : List Dt} {T : List Nat} (h : Ch Vs ids T) : T.Nodup := by
  refine List.pairwise_iff_getElem.2 fun i j hi hj hij e => ?_
  have := (nxt_some_iff.1 (h j hj)).1.2.1
  exact this (List.mem_take_iff_getElem.2 ⟨i, by omega, e⟩)

/-- There is one such order alone. -/
theorem Ch.unique {Vs : List (List Dt)} {ids : List Dt} {T T' : List Nat} (h : Ch Vs ids T) (hn : nxt Vs ids T = none) (h' : Ch Vs ids T') (hn' : nxt Vs ids T' = none) : T = T' := by
  have key : ∀ k, k ≤ T.length → k ≤ T'.length → T.take k = T'.take k := by
    intro k
    induction k with
    | zero => intro _ _; rfl
    | succ k ih =>
      intro h1 h2
      have e := ih (by omega) (by omega)
      have a1 := h k (by omega)
      have a2 := h' k (by omega)
      rw [e, a2] at a1
      have a3 : T[k] = T'[k] := by simpa using a1.symm
      rw [List.take_succ_eq_append_getElem (by omega), List.take_succ_eq_append_getElem (by omega), e, a3]
  rcases Nat.lt_trichotomy T.length T'.length with hlt | heq | hgt
  · have := h' T.length hlt
    rw [← key T.length (Nat.le_refl _) (by omega), List.take_length, hn] at this
    cases this
  · have := key T.length (Nat.le_refl _) (by omega)
    rw [List.take_length, heq, List.take_length] at this
    exact this
  · have := h T'.length hgt
    rw [key T'.length (by omega) (Nat.le_refl _), List.take_length, hn'] at this
    cases this

theorem iv_start (Vs : List (List Dt)) : IV Vs (fun _ => false) 0 [] ⟨List.replicate Vs.length 0, fun _ => [], []⟩ [] := by
  refine ⟨fun p => ?_, by simp, Nat.zero_le _, by simp, fun p hp => by omega, fun p hp => by omega, by simp, by simp, by simp, by simp, by simp, by simp⟩
  have : (List.replicate Vs.length 0).getD p 0 = 0 := by
    simp only [List.getD_eq_getElem?_getD, List.getElem?_replicate]
    split <;> rfl
  show (List.replicate Vs.length 0).getD p 0 ≤ _
  omega

theorem one_other (Vs : List (List Dt)) (th : Dt → Bool) (s : Sq) {p q : Nat} (h : q ≠ p) : (Sq.one Vs th s p).nx.getD q 0 = s.nx.getD q 0 := by
  unfold Sq.one
  split <;> exact getD_set_other h

theorem iv_first (Vs : List (List Dt)) : ∀ a, a ≤ Vs.length → IV Vs (fun _ => false) a [] ((List.range a).foldl (Sq.one Vs (fun _ => false)) ⟨List.replicate Vs.length 0, fun _ => [], []⟩) [] ∧ ∀ q, a ≤ q → ((List.range a).foldl (Sq.one Vs (fun _ => false)) ⟨List.replicate Vs.length 0, fun _ => [], []⟩).nx.getD q 0 = 0 := by
  intro a
  induction a with
  | zero =>
    intro _
    refine ⟨iv_start Vs, fun q _ => ?_⟩
    simp only [List.range_zero, List.foldl_nil, List.getD_eq_getElem?_getD, List.getElem?_replicate]
    split <;> rfl
  | succ a ih =>
    intro ha
    obtain ⟨h1, h2⟩ := ih (by omega)
    rw [List.range_succ, List.foldl_append]
    refine ⟨(h1.more (by omega) (h2 a (Nat.le_refl _))).one, fun q hq => ?_⟩
    show (Sq.one Vs _ _ a).nx.getD q 0 = 0
    rw [one_other Vs _ _ (by omega)]
    exact h2 q (by omega)

/-- The least ready one is the next one. -/
theorem next_of {Vs : List (List Dt)} {ids : List Dt} {T : List Nat} {s : Sq} (h : IV Vs (thT ids T) Vs.length T s []) {p : Nat} (hp : (p : Int) ∈ s.Z) (hl : ∀ z ∈ s.Z, (p : Int) ≤ z) : nxt Vs ids T = some p := by
  refine nxt_some_iff.2 ⟨(h.ready p).1 hp, fun q hq hqT => ?_⟩
  have hp' := (h.ready p).1 hp
  have hno : (q : Int) ∉ s.Z := fun hz => by have := hl _ hz; omega
  rcases Classical.em (∃ d ∈ Vs.getD q [], thT ids T d = false) with he | he
  · exact he
  · refine absurd ((h.ready q).2 ⟨by omega, hqT, fun d hd => ?_⟩) hno
    cases hh : thT ids T d
    · exact absurd ⟨d, hd, hh⟩ he
    · rfl

theorem none_of {Vs : List (List Dt)} {ids : List Dt} {T : List Nat} {s : Sq} (h : IV Vs (thT ids T) Vs.length T s []) (hz : s.Z = []) : nxt Vs ids T = none := by
  refine nxt_none_iff.2 fun q hq hqT => ?_
  rcases Classical.em (∃ d ∈ Vs.getD q [], thT ids T d = false) with he | he
  · exact he
  · have := (h.ready q).2 ⟨hq, hqT, fun d hd => by
      cases hh : thT ids T d
      · exact absurd ⟨d, hd, hh⟩ he
      · rfl⟩
    rw [hz] at this
    simp at this

theorem thT_snoc (ids : List Dt) (T : List Nat) (p : Nat) (d : Dt) : thT ids (T ++ [p]) d = (thT ids T d || decide (d = ids.getD p (0, 0))) := by
  unfold thT
  rw [List.map_append]
  simp only [List.map_cons, List.map_nil, List.mem_append, List.mem_singleton]
  rw [Bool.decide_or]

theorem thT_nil (ids : List Dt) : thT ids [] = fun _ => false := by
  funext d
  simp [thT]

/-- The operations at places. -/
def inL (R : List Mo) (T : List Nat) : List Mo := T.filterMap (fun p => R[p]?)

theorem inL_snoc {R : List Mo} {T : List Nat} {p : Nat} (h : p < R.length) : inL R (T ++ [p]) = inL R T ++ [R[p]] := by
  simp [inL, h]

theorem inL_length {R : List Mo} {T : List Nat} (h : ∀ p ∈ T, p < R.length) : (inL R T).length = T.length := by
  induction T with
  | nil => rfl
  | cons x r ih =>
    have hx := h x (by simp)
    have := ih (fun p hp => h p (by simp [hp]))
    simp only [inL, List.filterMap_cons, List.getElem?_eq_getElem hx, List.length_cons] at this ⊢
    omega

theorem inL_mem {R : List Mo} {T : List Nat} {x : Mo} (h : x ∈ inL R T) : x ∈ R := by
  obtain ⟨p, _, hp⟩ := List.mem_filterMap.1 h
  exact List.mem_of_getElem? hp

end

section
open Go.RowKit Go.Maps Go.WideElems Go.MapKept
open Go.ChangeMaps (setBlock heap_setBlock_same heap_setBlock_other)

section
variable {w1 : World} {ra : Option Addr} {rc : Nat} {R : List Mo} {w : World} {th : Dt → Bool} {s : Sq} {v : Value} {zs : List Int} {kt kw : Nat} {K : Option Value} {v0 : Value} {No : Nat → Prop}

end

theorem made_zeros {w' : World} {B b n : Nat} (h : w'.ownsRow b 3 1 (.slice (some ⟨B, 0, none⟩) n n) n (madeCells (Value.int .i64 0).cells (n * 1)).toList) : w'.heap[B]? = some (.cells (nxc (List.replicate n 0)) 3) := by
  rcases h.2 with ⟨h', _⟩ | ⟨g, cap, cur, h', _, hg, _, _, hcs, ht⟩
  · simp at h'
  · simp only [Value.slice.injEq, Option.some.injEq, Addr.mk.injEq, and_true, true_and] at h'
    obtain ⟨rfl, rfl⟩ := h'
    rw [hg]
    have e1 : cur.toList = List.replicate n (Value.int .i64 0) := by
      rw [← List.take_of_length_le (l := cur.toList) (i := n * 1) (by simp [hcs]), ht]
      have := toList_madeCells_one (Value.int .i64 0) n
      simpa [Value.cells] using this
    have e2 : cur = (List.replicate n (Value.int .i64 0)).toArray := by rw [← e1]
    rw [e2]; simp [nxc]

theorem wl_make3 {ops : Array Oper} {rest : List Oper} {o : Oper} {a : Act} {w : World} {Q : Exit → Act → World → Prop} (hgd : o.guard = none) (l c : Operand) (ho : o.op = .makeSlice 45 l c)
    (n : Nat) (hl : a.eval l = .int .i64 n) (hc : a.eval c = .int .i64 n) (hn : n ≤ 1000000)
    (k : ∀ w', w'.heap[w.heap.size]? = some (.cells (nxc (List.replicate n 0)) 3) → RowKit.Below w.heap.size w w' → wpList Try.prog ops Q rest (a.put o.dst (.slice (some ⟨w.heap.size, 0, none⟩) n n)) w') : wpList Try.prog ops Q (o :: rest) a w := by
  obtain ⟨i0, hi, hz0, hz1, hz2⟩ := info_parts Try.info3
  refine wpList_make_full _ hgd _ _ 45 ho w.heap.size 3 i0 (.int .i64 0) 1 Try.underlying45 hi hz0 hz1 .i64 .i64 _ _ n hl hc rfl rfl (by rw [hz2]; omega) (by unfold maxLen; omega) (Nat.le_refl _) ?_
  intro w1 hown1 hgrow1
  exact k w1 (made_zeros hown1) ((Below.refl _ _).grown hgrow1 (Nat.le_refl _) (by simp))


end

section
open Go.RowKit Go.Maps Go.WideElems Go.MapKept

theorem mo_new1 (w : World) (b : Obj) (x : Mo) : ∀ j y, x.cells[j]? = some y → ((w.alloc b).alloc (.cells (x.o.cells x.dep) 52)).cell? ((⟨w.heap.size + 1, 0, none⟩ : Addr).add j) = some y := by
  have h := opAt_alloc (w.alloc b) x.o x.dep 52
  rw [World.size_alloc] at h
  exact mo_cells _ _ _ h

theorem mo_newd (w : World) (n : Nat) (x : Mo) : ∀ j y, x.cells[j]? = some y → ((w.drewN n).alloc (.cells (x.o.cells x.dep) 52)).cell? ((⟨w.heap.size, 0, none⟩ : Addr).add j) = some y :=
  mo_cells _ _ _ (opAt_alloc (w.drewN n) x.o x.dep 52)

end

section
open Go.RowKit

def put14 (w : World) (q : Nat) (o : OpIn) (v : Value) : World := (((((((((((((w.setCell ⟨q, 0, none⟩ (.int .i64 o.id0)).setCell ⟨q, 1, none⟩ (.int .i64 o.id1)).setCell ⟨q, 2, none⟩ (.int .i64 o.time)).setCell ⟨q, 3, none⟩ v).setCell ⟨q, 4, none⟩ (.int .i64 o.kind)).setCell ⟨q, 5, none⟩ (.int .i64 o.bl0)).setCell ⟨q, 6, none⟩ (.int .i64 o.bl1)).setCell ⟨q, 7, none⟩ (.int .i64 o.at0)).setCell ⟨q, 8, none⟩ (.int .i64 o.at1)).setCell ⟨q, 9, none⟩ (.int .i64 o.side)).setCell ⟨q, 10, none⟩ (.int .i64 o.char)).setCell ⟨q, 11, none⟩ (.int .i64 o.pa0)).setCell ⟨q, 12, none⟩ (.int .i64 o.pa1)).setCell ⟨q, 13, none⟩ (.string o.key)

theorem set14 (x0 x1 x2 x3 x4 x5 x6 x7 x8 x9 x10 x11 x12 x13 y0 y1 y2 y3 y4 y5 y6 y7 y8 y9 y10 y11 y12 y13 : Value) :
    ((((((((((((((#[x0, x1, x2, x3, x4, x5, x6, x7, x8, x9, x10, x11, x12, x13] : Array Value).setIfInBounds 0 y0).setIfInBounds 1 y1).setIfInBounds 2 y2).setIfInBounds 3 y3).setIfInBounds 4 y4).setIfInBounds 5 y5).setIfInBounds 6 y6).setIfInBounds 7 y7).setIfInBounds 8 y8).setIfInBounds 9 y9).setIfInBounds 10 y10).setIfInBounds 11 y11).setIfInBounds 12 y12).setIfInBounds 13 y13 = #[y0, y1, y2, y3, y4, y5, y6, y7, y8, y9, y10, y11, y12, y13] := by
  simp

theorem set_block {w : World} {q j : Nat} {cs : Array Value} {t : TypeId} (h : w.heap[q]? = some (.cells cs t)) (u : Value) : (w.setCell ⟨q, j, none⟩ u).heap[q]? = some (.cells (cs.setIfInBounds j u) t) := by
  simp [World.setCell, Array.getElem?_modify, h]

theorem put14_block {w : World} {q : Nat} {o1 o : OpIn} {v1 v : Value} {t : TypeId} (h : w.heap[q]? = some (.cells (o1.cells v1) t)) : (put14 w q o v).heap[q]? = some (.cells (o.cells v) t) := by
  have h0 := set_block (j := 0) h (.int .i64 o.id0)
  have h1 := set_block (j := 1) h0 (.int .i64 o.id1)
  have h2 := set_block (j := 2) h1 (.int .i64 o.time)
  have h3 := set_block (j := 3) h2 v
  have h4 := set_block (j := 4) h3 (.int .i64 o.kind)
  have h5 := set_block (j := 5) h4 (.int .i64 o.bl0)
  have h6 := set_block (j := 6) h5 (.int .i64 o.bl1)
  have h7 := set_block (j := 7) h6 (.int .i64 o.at0)
  have h8 := set_block (j := 8) h7 (.int .i64 o.at1)
  have h9 := set_block (j := 9) h8 (.int .i64 o.side)
  have h10 := set_block (j := 10) h9 (.int .i64 o.char)
  have h11 := set_block (j := 11) h10 (.int .i64 o.pa0)
  have h12 := set_block (j := 12) h11 (.int .i64 o.pa1)
  have h13 := set_block (j := 13) h12 (.string o.key)
  unfold OpIn.cells at h13
  rw [set14] at h13
  exact h13

theorem put14_grown (w : World) (q : Nat) (o : OpIn) (v : Value) : w.grownBy (put14 w q o v) (some q) :=
  ((((((((((((((World.grownBy.refl _ _).trans (grownBy_setCell _ q 0 _)).trans (grownBy_setCell _ q 1 _)).trans (grownBy_setCell _ q 2 _)).trans (grownBy_setCell _ q 3 _)).trans (grownBy_setCell _ q 4 _)).trans (grownBy_setCell _ q 5 _)).trans (grownBy_setCell _ q 6 _)).trans (grownBy_setCell _ q 7 _)).trans (grownBy_setCell _ q 8 _)).trans (grownBy_setCell _ q 9 _)).trans (grownBy_setCell _ q 10 _)).trans (grownBy_setCell _ q 11 _)).trans (grownBy_setCell _ q 12 _)).trans (grownBy_setCell _ q 13 _)

end

section
open Go.RowKit Go.Maps Go.WideElems Go.MapKept
open Go.ChangeMaps (setBlock heap_setBlock_same heap_setBlock_other)

theorem three_blocks (w1 : World) (a b c : Obj) : ((((w1.alloc a).alloc b).alloc c).heap[w1.heap.size]? = some a ∧ (((w1.alloc a).alloc b).alloc c).heap[w1.heap.size + 1]? = some b ∧ (((w1.alloc a).alloc b).alloc c).heap[w1.heap.size + 2]? = some c) ∧ (((w1.alloc a).alloc b).alloc c).heap.size = w1.heap.size + 3 ∧ RowKit.Below w1.heap.size w1 (((w1.alloc a).alloc b).alloc c) := by
  refine ⟨⟨?_, ?_, ?_⟩, by simp, (((Below.refl _ _).alloc (Nat.le_refl _) _).alloc (by simp) _).alloc (by simp; omega) _⟩
  · show ((((w1.heap.push a).push b).push c))[w1.heap.size]? = some a
    simp only [Array.getElem?_push, Array.size_push]
    rw [if_neg (by omega), if_neg (by omega), if_pos trivial]
  · show ((((w1.heap.push a).push b).push c))[w1.heap.size + 1]? = some b
    simp only [Array.getElem?_push, Array.size_push]
    rw [if_neg (by omega), if_pos trivial]
  · show ((((w1.heap.push a).push b).push c))[w1.heap.size + 2]? = some c
    simp only [Array.getElem?_push, Array.size_push]
    rw [if_pos trivial]

/-- Nothing. -/
def zop : OpIn := ⟨0, 0, 0, 0, 0, 0, 0, 0, 0, 0, 0, 0, { data := #[] }⟩

/-- Those that aren't taken in. -/
def lf (R : List Mo) (T : List Nat) : List Mo := R.filter (fun x => !thT (R.map (fun x => x.o.id)) T x.o.id)

theorem nat_row {l : List Int} (h : ∀ z ∈ l, ∃ p : Nat, z = (p : Int)) : ∃ ps : List Nat, l = ps.map (fun (x : Nat) => (x : Int)) := by
  induction l with
  | nil => exact ⟨[], rfl⟩
  | cons z r ih =>
    obtain ⟨ps, hr⟩ := ih (fun x hx => h x (by simp [hx]))
    obtain ⟨p, hp⟩ := h z (by simp)
    exact ⟨p :: ps, by rw [hr, hp]; rfl⟩

theorem iv_zlen {Vs : List (List Dt)} {th : Dt → Bool} {a : Nat} {T : List Nat} {s : Sq} {L : List Nat} (h : IV Vs th a T s L) : s.Z.length ≤ a := by
  have h1 : s.Z.length ≤ ((List.range a).map (fun (x : Nat) => (x : Int))).length := List.Nodup.length_le_of_subset h.ndz (fun z hz => by
    obtain ⟨p, e, hp, _⟩ := h.rdy z hz
    exact List.mem_map.2 ⟨p, List.mem_range.2 hp, e.symm⟩)
  simpa using h1

theorem OpAtO.below {w w' : World} {q s B : Nat} {x : Mo} (h : OpAtO w q s x) (hb : RowKit.Below B w w') (hq : q < B) : OpAtO w' q s x := by
  constructor
  · exact (hb.cell hq).trans h.c0
  · exact (hb.cell hq).trans h.c1
  · exact (hb.cell hq).trans h.c2
  · exact (hb.cell hq).trans h.c3
  · exact (hb.cell hq).trans h.c4
  · exact (hb.cell hq).trans h.c5
  · exact (hb.cell hq).trans h.c6
  · exact (hb.cell hq).trans h.c7
  · exact (hb.cell hq).trans h.c8
  · exact (hb.cell hq).trans h.c9
  · exact (hb.cell hq).trans h.c10
  · exact (hb.cell hq).trans h.c11
  · exact (hb.cell hq).trans h.c12
  · exact (hb.cell hq).trans h.c13

theorem cnt1_sub {out : List Mop} {x y : Mop} (h : y ∈ cnt1 out x) : y ∈ out ∨ y = x := by
  unfold cnt1 at h
  split at h
  · rcases List.mem_append.1 h with h | h
    · exact .inl h
    · exact .inr (by simpa using h)
  · exact .inl h

theorem cnt1_len (out : List Mop) (x : Mop) : (cnt1 out x).length ≤ out.length + 1 := by
  unfold cnt1
  split <;> simp

theorem fold_sub (l : List Mop) : ∀ (out : List Mop) (y : Mop), y ∈ l.foldl cnt1 out → y ∈ out ∨ y ∈ l := by
  induction l with
  | nil => intro out y h; exact .inl h
  | cons x r ih =>
    intro out y h
    rcases ih _ y h with h | h
    · rcases cnt1_sub h with h | h
      · exact .inl h
      · exact .inr (by simp [h])
    · exact .inr (by simp [h])

theorem fold_len (l : List Mop) : ∀ out : List Mop, (l.foldl cnt1 out).length ≤ out.length + l.length := by
  induction l with
  | nil => intro out; simp
  | cons x r ih =>
    intro out
    have h1 := ih (cnt1 out x)
    have h2 := cnt1_len out x
    simp only [List.foldl_cons, List.length_cons]
    omega

theorem cnt_sub {l : List Mop} {y : Mop} (h : y ∈ cnt l) : y ∈ l := by
  rcases fold_sub l [] y h with h | h
  · simp at h
  · exact h

theorem cnt_len (l : List Mop) : (cnt l).length ≤ l.length := by
  have := fold_len l []
  unfold cnt
  simpa using this

end

section
open Go.RowKit Go.Maps

/-- With one more. -/
def upd (tm : Dt → Option Int) (d : Dt) (t : Int) : Dt → Option Int := fun e => if e = d then some t else tm e

/-- Is each one's Time above those of its Deps, as far as they came ahead of it? -/
def latF (tm : Dt → Option Int) : List Mop → Bool
  | [] => true
  | x :: r => x.2.all (fun d => decide ((tm d).getD 0 < x.1.time)) && latF (upd tm x.1.id x.1.time) r

theorem latF_no {tm : Dt → Option Int} {x : Mop} {r : List Mop} {d : Dt} (hd : d ∈ x.2) (h : ¬ (tm d).getD 0 < x.1.time) : latF tm (x :: r) = false := by
  have : x.2.all (fun d => decide ((tm d).getD 0 < x.1.time)) = false := by
    rw [List.all_eq_false]
    exact ⟨d, hd, by simpa using h⟩
  simp [latF, this]

theorem latF_yes {tm : Dt → Option Int} {x : Mop} {r : List Mop} (h : ∀ d ∈ x.2, (tm d).getD 0 < x.1.time) : latF tm (x :: r) = latF (upd tm x.1.id x.1.time) r := by
  have : x.2.all (fun d => decide ((tm d).getD 0 < x.1.time)) = true := by
    rw [List.all_eq_true]
    exact fun d hd => by simpa using h d hd
  simp [latF, this]

end

section
open Go.RowKit

/-- Some order in which operations are taken in, and what is told of them. -/
def Taken (L : List Mop) (R : List Mo) (T : List Nat) : Prop := UpO R ∧ (R.map Mo.m).Perm (cnt L) ∧ (∀ x ∈ R, x.o.Fits ∧ Dws x.V) ∧ Ch (R.map Mo.V) (R.map (fun x => x.o.id)) T ∧ nxt (R.map Mo.V) (R.map (fun x => x.o.id)) T = none

/-- Each operation's Deps are not too many. -/
theorem taken_few {L : List Mo} {w : World} {a : Option Addr} {n c : Nat} (hs : OS w a n c L) (hF : ∀ x ∈ L, x.o.Fits ∧ Dws x.V ∧ x.n ≤ 1000000) {R : List Mo} {T : List Nat} (ht : Taken (L.map Mo.m) R T) {x : Mo} (hx : x ∈ R) : x.V.length ≤ 1000000 := by
  have h1 := cnt_sub (ht.2.1.mem_iff.1 (List.mem_map.2 ⟨x, hx, rfl⟩))
  obtain ⟨y, hy, hye⟩ := List.mem_map.1 h1
  have h2 := (hs.deps y hy).len
  have h4 := (hF y hy).2.2
  have h5 : y.V = x.V := congrArg Prod.snd hye
  rw [← h5, h2]
  exact h4

end
end Go.Proofs.Ytbpepmajpojacaa
