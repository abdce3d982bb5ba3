/- What the steps of Order do to what is kept. No function of the program. -/
import Derived.Test.YtlncokkpdkddlaaGreatGLook
namespace Go.Proofs.YtlncokkpdkddlaaGreat
section

/-- Of the first a places: L are neither ready nor waiting; each other one is taken in, or ready, or waits for the first of its Deps that isn't there. -/
structure IV (Vs : List (List Dt)) (th : Dt → Bool) (a : Nat) (T : List Nat) (s : Sq) (L : List Nat) : Prop where
  ok : Sq.Ok Vs s
  len : s.nx.length = Vs.length
  le : a ≤ Vs.length
  took : ∀ p ∈ T, p < a ∧ p ∉ L
  past : ∀ p, p < a → ∀ d ∈ (Vs.getD p []).take (s.nx.getD p 0), th d = true
  each : ∀ p, p < a → p ∉ L → p ∉ T → (s.nx.getD p 0 = (Vs.getD p []).length ∧ (p : Int) ∈ s.Z) ∨ ∃ d, (Vs.getD p [])[s.nx.getD p 0]? = some d ∧ th d = false ∧ (p : Int) ∈ s.W d
  rdy : ∀ z ∈ s.Z, ∃ p : Nat, z = (p : Int) ∧ p < a ∧ p ∉ L ∧ p ∉ T ∧ s.nx.getD p 0 = (Vs.getD p []).length
  wt : ∀ d, th d = false → ∀ z ∈ s.W d, ∃ p : Nat, z = (p : Int) ∧ p < a ∧ p ∉ L ∧ p ∉ T ∧ (Vs.getD p [])[s.nx.getD p 0]? = some d
  ndz : s.Z.Nodup
  ndw : ∀ d, th d = false → (s.W d).Nodup
  loose : ∀ p ∈ L, p < a ∧ p ∉ T
  ndl : L.Nodup

theorem getD_set_same {l : List Nat} {p x : Nat} (h : p < l.length) : (l.set p x).getD p 0 = x := by simp [List.getD_eq_getElem?_getD, h]
theorem getD_set_other {l : List Nat} {p q x : Nat} (h : q ≠ p) : (l.set p x).getD q 0 = l.getD q 0 := by
  have : ¬ p = q := fun e => h e.symm
  simp [List.getD_eq_getElem?_getD, this]

theorem takeWhile_split {th : Dt → Bool} (L : List Dt) : (∀ d ∈ L, th d = true) ∨ ∃ q, ∃ hq : q < L.length, (∀ d ∈ L.take q, th d = true) ∧ th L[q] = false := by
  induction L with
  | nil => left; intro d hd; simp at hd
  | cons x r ih =>
    cases hx : th x
    · exact .inr ⟨0, by simp, fun d hd => by simp at hd, by simpa using hx⟩
    · rcases ih with ih | ⟨q, hq, h1, h2⟩
      · left
        intro d hd
        rcases List.mem_cons.1 hd with rfl | hd
        · exact hx
        · exact ih d hd
      · refine .inr ⟨q + 1, by simpa using hq, fun d hd => ?_, by simpa using h2⟩
        simp only [List.take_succ_cons, List.mem_cons] at hd
        rcases hd with rfl | hd
        · exact hx
        · exact h1 d hd

theorem IV.one {Vs : List (List Dt)} {th : Dt → Bool} {a : Nat} {T : List Nat} {s : Sq} {p : Nat} {L : List Nat} (h : IV Vs th a T s (p :: L)) : IV Vs th a T (Sq.one Vs th s p) L := by
  obtain ⟨hpa, hpT⟩ := h.loose p (by simp)
  have hpL : p ∉ L := (List.nodup_cons.1 h.ndl).1
  have hpl : p < s.nx.length := by rw [h.len]; exact Nat.lt_of_lt_of_le hpa h.le
  have hle := h.ok p
  generalize hV : Vs.getD p [] = V at hle
  generalize hi : s.nx.getD p 0 = i at hle
  have hpast := h.past p hpa
  rw [hV, hi] at hpast
  rcases takeWhile_split (th := th) (V.drop i) with hall | ⟨q, hq, h1, h2⟩
  · rw [one_ready hV hi hle hall]
    have hpn : (p : Int) ∉ s.Z := fun hz => by
      obtain ⟨p', e, _, hh, _⟩ := h.rdy _ hz
      have : p' = p := by omega
      subst this
      exact hh (by simp)
    have hno : ∀ q, q ≠ p → (s.nx.set p V.length).getD q 0 = s.nx.getD q 0 := fun q hq => getD_set_other hq
    have hsame : (s.nx.set p V.length).getD p 0 = V.length := getD_set_same hpl
    refine ⟨?_, by simpa using h.len, h.le, fun x hx => ⟨(h.took x hx).1, fun hxl => (h.took x hx).2 (by simp [hxl])⟩, fun x hx d hd => ?_, fun x hx hxL hxT => ?_, fun z hz => ?_, fun d hd z hz => ?_, ?_, h.ndw, fun x hx => h.loose x (by simp [hx]), (List.nodup_cons.1 h.ndl).2⟩
    · have := h.ok.one th p
      rw [one_ready hV hi hle hall] at this
      exact this
    · by_cases hxp : x = p
      · subst hxp
        simp only [hsame, hV, List.take_length] at hd
        by_cases hdi : d ∈ V.take i
        · exact hpast d hdi
        · have : d ∈ V.take i ++ V.drop i := by rw [List.take_append_drop]; exact hd
          rcases List.mem_append.1 this with h' | h'
          · exact absurd h' hdi
          · exact hall d h'
      · simp only [hno x hxp] at hd
        exact h.past x hx d hd
    · by_cases hxp : x = p
      · subst hxp
        left
        simp only [hsame, hV]
        exact ⟨trivial, by simp⟩
      · have hxL' : x ∉ p :: L := by simp [hxp, hxL]
        simp only [hno x hxp]
        rcases h.each x hx hxL' hxT with ⟨e1, e2⟩ | e
        · exact .inl ⟨e1, by simp [e2]⟩
        · exact .inr e
    · rcases List.mem_append.1 hz with hz | hz
      · obtain ⟨p', e, r1, r2, r3, r4⟩ := h.rdy z hz
        have hpp : p' ≠ p := fun e => r2 (by simp [e])
        exact ⟨p', e, r1, fun hh => r2 (by simp [hh]), r3, by simp only [hno p' hpp]; exact r4⟩
      · simp at hz
        exact ⟨p, hz, hpa, hpL, hpT, by simp only [hsame, hV]⟩
    · obtain ⟨p', e, r1, r2, r3, r4⟩ := h.wt d hd z hz
      have hpp : p' ≠ p := fun e => r2 (by simp [e])
      exact ⟨p', e, r1, fun hh => r2 (by simp [hh]), r3, by simp only [hno p' hpp]; exact r4⟩
    · exact List.nodup_append.2 ⟨h.ndz, by simp, fun x hx y hy e => by simp at hy; subst hy; subst e; exact hpn hx⟩
  · rw [one_wait hV hi hq h1 h2]
    generalize hd0 : (V.drop i)[q] = d0 at h2
    have hg : V[i + q]? = some d0 := by
      rw [← hd0, List.getElem_drop, List.getElem?_eq_getElem]
    have hpn : (p : Int) ∉ s.W d0 := fun hz => by
      obtain ⟨p', e, _, hh, _⟩ := h.wt d0 h2 _ hz
      have : p' = p := by omega
      subst this
      exact hh (by simp)
    have hno : ∀ x, x ≠ p → (s.nx.set p (i + q)).getD x 0 = s.nx.getD x 0 := fun x hx => getD_set_other hx
    have hsame : (s.nx.set p (i + q)).getD p 0 = i + q := getD_set_same hpl
    refine ⟨?_, by simpa using h.len, h.le, fun x hx => ⟨(h.took x hx).1, fun hxl => (h.took x hx).2 (by simp [hxl])⟩, fun x hx d hd => ?_, fun x hx hxL hxT => ?_, fun z hz => ?_, fun d hd z hz => ?_, h.ndz, fun d hd => ?_, fun x hx => h.loose x (by simp [hx]), (List.nodup_cons.1 h.ndl).2⟩
    · have := h.ok.one th p
      rw [one_wait hV hi hq h1 (by rw [hd0]; exact h2)] at this
      exact this
    · by_cases hxp : x = p
      · subst hxp
        simp only [hsame, hV] at hd
        rw [List.take_add] at hd
        rcases List.mem_append.1 hd with h' | h'
        · exact hpast d h'
        · exact h1 d h'
      · simp only [hno x hxp] at hd
        exact h.past x hx d hd
    · by_cases hxp : x = p
      · subst hxp
        right
        simp only [hsame, hV]
        exact ⟨d0, hg, h2, by simp⟩
      · have hxL' : x ∉ p :: L := by simp [hxp, hxL]
        simp only [hno x hxp]
        rcases h.each x hx hxL' hxT with e | ⟨d, e1, e2, e3⟩
        · exact .inl e
        · refine .inr ⟨d, e1, e2, ?_⟩
          by_cases hdd : d = d0
          · subst hdd; simp [e3]
          · simp [hdd, e3]
    · obtain ⟨p', e, r1, r2, r3, r4⟩ := h.rdy z hz
      have hpp : p' ≠ p := fun e => r2 (by simp [e])
      exact ⟨p', e, r1, fun hh => r2 (by simp [hh]), r3, by simp only [hno p' hpp]; exact r4⟩
    · by_cases hdd : d = d0
      · subst hdd
        simp only [if_true] at hz
        rcases List.mem_append.1 hz with hz | hz
        · obtain ⟨p', e, r1, r2, r3, r4⟩ := h.wt d hd z hz
          have hpp : p' ≠ p := fun e => r2 (by simp [e])
          exact ⟨p', e, r1, fun hh => r2 (by simp [hh]), r3, by simp only [hno p' hpp]; exact r4⟩
        · simp at hz
          exact ⟨p, hz, hpa, hpL, hpT, by simp only [hsame, hV]; exact hg⟩
      · simp only [hdd, if_false] at hz
        obtain ⟨p', e, r1, r2, r3, r4⟩ := h.wt d hd z hz
        have hpp : p' ≠ p := fun e => r2 (by simp [e])
        exact ⟨p', e, r1, fun hh => r2 (by simp [hh]), r3, by simp only [hno p' hpp]; exact r4⟩
    · by_cases hdd : d = d0
      · subst hdd
        simp only [if_true]
        exact List.nodup_append.2 ⟨h.ndw d hd, by simp, fun x hx y hy e => by simp at hy; subst hy; subst e; exact hpn hx⟩
      · simp only [hdd, if_false]
        exact h.ndw d hd

theorem IV.all {Vs : List (List Dt)} {th : Dt → Bool} {a : Nat} {T : List Nat} : ∀ (L : List Nat) {s : Sq}, IV Vs th a T s L → IV Vs th a T (L.foldl (Sq.one Vs th) s) []
  | [], _, h => h
  | _ :: r, _, h => IV.all r h.one

/-- One place more. -/
theorem IV.more {Vs : List (List Dt)} {th : Dt → Bool} {a : Nat} {T : List Nat} {s : Sq} (h : IV Vs th a T s []) (ha : a < Vs.length) (h0 : s.nx.getD a 0 = 0) : IV Vs th (a + 1) T s [a] := by
  have hat : a ∉ T := fun e => by have := (h.took a e).1; omega
  refine ⟨h.ok, h.len, by omega, fun p hp => ⟨by have := (h.took p hp).1; omega, fun e => by simp at e; subst e; exact hat hp⟩, fun p hp d hd => ?_, fun p hp hpL hpT => ?_, fun z hz => ?_, fun d hd z hz => ?_, h.ndz, h.ndw, fun p hp => by simp at hp; subst hp; exact ⟨by omega, hat⟩, by simp⟩
  · by_cases e : p = a
    · subst e; rw [h0] at hd; simp at hd
    · exact h.past p (by omega) d hd
  · simp at hpL
    exact h.each p (by omega) (by simp) hpT
  · obtain ⟨p, e, r1, r2, r3, r4⟩ := h.rdy z hz
    exact ⟨p, e, by omega, by simp; omega, r3, r4⟩
  · obtain ⟨p, e, r1, r2, r3, r4⟩ := h.wt d hd z hz
    exact ⟨p, e, by omega, by simp; omega, r3, r4⟩

/-- One is taken in: those that waited for it are to be looked at. -/
theorem IV.pop {Vs : List (List Dt)} {th th' : Dt → Bool} {a : Nat} {T : List Nat} {s : Sq} {p : Nat} {Z' : List Int} {d0 : Dt} {L : List Nat} (h : IV Vs th a T s []) (hz : s.Z.Perm ((p : Int) :: Z')) (hth : ∀ d, th' d = (th d || decide (d = d0))) (hL : s.W d0 = L.map (fun (x : Nat) => (x : Int))) (h0 : th d0 = false) :
    IV Vs th' a (T ++ [p]) ⟨s.nx, s.W, Z'⟩ L := by
  have hnd := hz.nodup_iff.1 h.ndz
  obtain ⟨hn1, hn2⟩ := List.nodup_cons.1 hnd
  obtain ⟨p', e, r1, _, r3, r4⟩ := h.rdy p (hz.mem_iff.2 (by simp))
  have hpp : p' = p := by omega
  subst hpp
  have hLw : ∀ x ∈ L, x < a ∧ x ∉ T ∧ (Vs.getD x [])[s.nx.getD x 0]? = some d0 := fun x hx => by
    obtain ⟨x', e, q1, _, q3, q4⟩ := h.wt d0 h0 x (by rw [hL]; exact List.mem_map.2 ⟨x, hx, rfl⟩)
    have : x' = x := by omega
    subst this
    exact ⟨q1, q3, q4⟩
  have hpL : p' ∉ L := fun hx => by
    have := (hLw p' hx).2.2
    rw [r4, List.getElem?_eq_none (Nat.le_refl _)] at this
    cases this
  refine ⟨h.ok, h.len, h.le, fun x hx => ?_, fun x hx d hd => ?_, fun x hx hxL hxT => ?_, fun z hz' => ?_, fun d hd z hz' => ?_, hn2, fun d hd => h.ndw d ?_, fun x hx => ⟨(hLw x hx).1, fun hh => ?_⟩, ?_⟩
  · rcases List.mem_append.1 hx with hx | hx
    · exact ⟨(h.took x hx).1, fun hl => (hLw x hl).2.1 hx⟩
    · simp at hx
      subst hx
      exact ⟨r1, hpL⟩
  · rw [hth, h.past x hx d hd]; rfl
  · have hxT' : x ∉ T := fun e => hxT (by simp [e])
    have hxp : x ≠ p' := fun e => hxT (by simp [e])
    rcases h.each x hx (by simp) hxT' with ⟨e1, e2⟩ | ⟨d, e1, e2, e3⟩
    · refine .inl ⟨e1, ?_⟩
      rcases List.mem_cons.1 (hz.mem_iff.1 e2) with e | e
      · exact absurd (by omega) hxp
      · exact e
    · refine .inr ⟨d, e1, ?_, e3⟩
      rw [hth, e2]
      have hdd : d ≠ d0 := fun e => by
        subst e
        rw [hL] at e3
        obtain ⟨y, hy, hye⟩ := List.mem_map.1 e3
        have : y = x := by omega
        subst this
        exact hxL hy
      simp [hdd]
  · obtain ⟨x, ez, q1, _, q3, q4⟩ := h.rdy z (hz.mem_iff.2 (by simp [hz']))
    have hxp : x ≠ p' := fun hh => by subst hh; rw [ez] at hz'; exact hn1 hz'
    refine ⟨x, ez, q1, fun hl => ?_, fun ht => ?_, q4⟩
    · have := (hLw x hl).2.2
      rw [q4, List.getElem?_eq_none (Nat.le_refl _)] at this
      cases this
    · rcases List.mem_append.1 ht with ht | ht
      · exact q3 ht
      · simp at ht; exact hxp ht
  · rw [hth] at hd
    have hd1 : th d = false := by cases hh : th d <;> simp [hh] at hd ⊢
    have hd2 : d ≠ d0 := fun e => by simp [e] at hd
    obtain ⟨x, e, q1, _, q3, q4⟩ := h.wt d hd1 z hz'
    refine ⟨x, e, q1, fun hl => ?_, fun ht => ?_, q4⟩
    · have := (hLw x hl).2.2
      rw [q4] at this
      exact hd2 (by simpa using this)
    · rcases List.mem_append.1 ht with ht | ht
      · exact q3 ht
      · simp at ht
        subst ht
        rw [r4, List.getElem?_eq_none (Nat.le_refl _)] at q4
        cases q4
  · rw [hth] at hd
    cases hh : th d <;> simp [hh] at hd ⊢
  · rcases List.mem_append.1 hh with ht | ht
    · exact (hLw x hx).2.1 ht
    · simp at ht; subst ht; exact hpL hx
  · have := h.ndw d0 h0
    rw [hL] at this
    exact (List.pairwise_map.1 this).imp (fun h e => h (by rw [e]))

/-- Which are ready: just those whose Deps are there. -/
theorem IV.ready {Vs : List (List Dt)} {th : Dt → Bool} {T : List Nat} {s : Sq} (h : IV Vs th Vs.length T s []) (p : Nat) : (p : Int) ∈ s.Z ↔ p < Vs.length ∧ p ∉ T ∧ ∀ d ∈ Vs.getD p [], th d = true := by
  constructor
  · intro hz
    obtain ⟨p', e, r1, _, r3, r4⟩ := h.rdy _ hz
    have : p' = p := by omega
    subst this
    refine ⟨r1, r3, fun d hd => h.past p' r1 d ?_⟩
    rw [r4, List.take_length]
    exact hd
  · rintro ⟨h1, h2, h3⟩
    rcases h.each p h1 (by simp) h2 with ⟨_, e2⟩ | ⟨d, e1, e2, _⟩
    · exact e2
    · have := h3 d (List.mem_of_getElem? e1)
      rw [e2] at this
      cases this

end

section

/-- Is a dot that of one that was taken in? -/
def thT (ids : List Dt) (T : List Nat) (d : Dt) : Bool := decide (d ∈ T.map (fun p => ids.getD p (0, 0)))

/-- The next one. -/
def nxt (Vs : List (List Dt)) (ids : List Dt) (T : List Nat) : Option Nat := (List.range Vs.length).find? (fun p => decide (p ∉ T) && (Vs.getD p []).all (thT ids T))

/-- Each was the next one. -/
def Ch (Vs : List (List Dt)) (ids : List Dt) (T : List Nat) : Prop := ∀ k (hk : k < T.length), nxt Vs ids (T.take k) = some T[k]

theorem nxt_some_iff {Vs : List (List Dt)} {ids : List Dt} {T : List Nat} {p : Nat} : nxt Vs ids T = some p ↔ (p < Vs.length ∧ p ∉ T ∧ ∀ d ∈ Vs.getD p [], thT ids T d = true) ∧ ∀ q, q < p → q ∉ T → ∃ d ∈ Vs.getD q [], thT ids T d = false := by
  unfold nxt
  rw [List.find?_range_eq_some]
  simp only [Bool.and_eq_true, decide_eq_true_eq, List.all_eq_true, Bool.not_eq_true', Bool.and_eq_false_imp, List.all_eq_false]
  constructor
  · rintro ⟨⟨h1, h2⟩, h3, h4⟩
    refine ⟨⟨by simpa using h3, h1, h2⟩, fun q hq hqT => ?_⟩
    obtain ⟨d, hd, hf⟩ := h4 q hq hqT
    exact ⟨d, hd, by simpa using hf⟩
  · rintro ⟨⟨h1, h2, h3⟩, h4⟩
    refine ⟨⟨h2, h3⟩, by simpa using h1, fun q hq hqT => ?_⟩
    obtain ⟨d, hd, hf⟩ := h4 q hq hqT
    exact ⟨d, hd, by simpa using hf⟩

theorem nxt_none_iff {Vs : List (List Dt)} {ids : List Dt} {T : List Nat} : nxt Vs ids T = none ↔ ∀ q, q < Vs.length → q ∉ T → ∃ d ∈ Vs.getD q [], thT ids T d = false := by
  unfold nxt
  rw [List.find?_eq_none]
  simp only [List.mem_range, Bool.and_eq_true, decide_eq_true_eq, List.all_eq_true, not_and]
  constructor
  · intro h q hq hqT
    have := h q hq hqT
    simp only [Classical.not_forall] at this
    obtain ⟨d, hd, hf⟩ := this
    exact ⟨d, hd, by simpa using hf⟩
  · intro h q hq hqT hall
    obtain ⟨d, hd, hf⟩ := h q hq hqT
    rw [hall d hd] at hf
    cases hf

theorem Ch.nil (Vs : List (List Dt)) (ids : List Dt) : Ch Vs ids [] := fun k hk => by simp at hk

theorem Ch.snoc {Vs : List (List Dt)} {ids : List Dt} {T : List Nat} {p : Nat} (h : Ch Vs ids T) (hp : nxt Vs ids T = some p) : Ch Vs ids (T ++ [p]) := by
  intro k hk
  by_cases hkt : k < T.length
  · rw [List.take_append_of_le_length (by omega), List.getElem_append_left hkt]
    exact h k hkt
  · have : k = T.length := by simp at hk; omega
    subst this
    simpa using hp

theorem Ch.take {Vs : List (List Dt)} {ids : List Dt} {T : List Nat} (h : Ch Vs ids T) (k : Nat) : Ch Vs ids (T.take k) := by
  intro j hj
  have hj' : j < k ∧ j < T.length := by rw [List.length_take] at hj; omega
  rw [List.take_take, Nat.min_eq_left (by omega), List.getElem_take]
  exact h j hj'.2

theorem Ch.lt {Vs : List (List Dt)} {ids : List Dt} {T : List Nat} (h : Ch Vs ids T) {p : Nat} (hp : p ∈ T) : p < Vs.length := by
  obtain ⟨k, hk, rfl⟩ := List.getElem_of_mem hp
  exact (nxt_some_iff.1 (h k hk)).1.1

theorem Ch.nodup {Vs : List (List Dt)} {ids : List Dt} {T : List Nat} (h : Ch Vs ids T) : T.Nodup := by
  refine List.pairwise_iff_getElem.2 fun i j hi hj hij e => ?_
  have := (nxt_some_iff.1 (h j hj)).1.2.1
  exact this (List.mem_take_iff_getElem.2 ⟨i, by omega, e⟩)

/-- There is one such order alone. -/
theorem Ch.unique {Vs : List (List Dt)} {ids : List Dt} {T T' : List Nat} (h : Ch Vs ids T) (hn : nxt Vs ids T = none) (h' : Ch Vs ids T') (hn' : nxt Vs ids T' = none) : T = T' := by
  have key : ∀ k, k ≤ T.length → k ≤ T'.length → T.take k = T'.take k := by
    intro k
    induction k with
    | zero => intro _ _; rfl
    | succ k ih =>
      intro h1 h2
      have e := ih (by omega) (by omega)
      have a1 := h k (by omega)
      have a2 := h' k (by omega)
      rw [e, a2] at a1
      have a3 : T[k] = T'[k] := by simpa using a1.symm
      rw [List.take_succ_eq_append_getElem (by omega), List.take_succ_eq_append_getElem (by omega), e, a3]
  rcases Nat.lt_trichotomy T.length T'.length with hlt | heq | hgt
  · have := h' T.length hlt
    rw [← key T.length (Nat.le_refl _) (by omega), List.take_length, hn] at this
    cases this
  · have := key T.length (Nat.le_refl _) (by omega)
    rw [List.take_length, heq, List.take_length] at this
    exact this
  · have := h T'.length hgt
    rw [key T'.length (by omega) (Nat.le_refl _), List.take_length, hn'] at this
    cases this

theorem iv_start (Vs : List (List Dt)) : IV Vs (fun _ => false) 0 [] ⟨List.replicate Vs.length 0, fun _ => [], []⟩ [] := by
  refine ⟨fun p => ?_, by simp, Nat.zero_le _, by simp, fun p hp => by omega, fun p hp => by omega, by simp, by simp, by simp, by simp, by simp, by simp⟩
  have : (List.replicate Vs.length 0).getD p 0 = 0 := by
    simp only [List.getD_eq_getElem?_getD, List.getElem?_replicate]
    split <;> rfl
  show (List.replicate Vs.length 0).getD p 0 ≤ _
  omega

theorem one_other (Vs : List (List Dt)) (th : Dt → Bool) (s : Sq) {p q : Nat} (h : q ≠ p) : (Sq.one Vs th s p).nx.getD q 0 = s.nx.getD q 0 := by
  unfold Sq.one
  split <;> exact getD_set_other h

theorem iv_first (Vs : List (List Dt)) : ∀ a, a ≤ Vs.length → IV Vs (fun _ => false) a [] ((List.range a).foldl (Sq.one Vs (fun _ => false)) ⟨List.replicate Vs.length 0, fun _ => [], []⟩) [] ∧ ∀ q, a ≤ q → ((List.range a).foldl (Sq.one Vs (fun _ => false)) ⟨List.replicate Vs.length 0, fun _ => [], []⟩).nx.getD q 0 = 0 := by
  intro a
  induction a with
  | zero =>
    intro _
    refine ⟨iv_start Vs, fun q _ => ?_⟩
    simp only [List.range_zero, List.foldl_nil, List.getD_eq_getElem?_getD, List.getElem?_replicate]
    split <;> rfl
  | succ a ih =>
    intro ha
    obtain ⟨h1, h2⟩ := ih (by omega)
    rw [List.range_succ, List.foldl_append]
    refine ⟨(h1.more (by omega) (h2 a (Nat.le_refl _))).one, fun q hq => ?_⟩
    show (Sq.one Vs _ _ a).nx.getD q 0 = 0
    rw [one_other Vs _ _ (by omega)]
    exact h2 q (by omega)

/-- The least ready one is the next one. -/
theorem next_of {Vs : List (List Dt)} {ids : List Dt} {T : List Nat} {s : Sq} (h : IV Vs (thT ids T) Vs.length T s []) {p : Nat} (hp : (p : Int) ∈ s.Z) (hl : ∀ z ∈ s.Z, (p : Int) ≤ z) : nxt Vs ids T = some p := by
  refine nxt_some_iff.2 ⟨(h.ready p).1 hp, fun q hq hqT => ?_⟩
  have hp' := (h.ready p).1 hp
  have hno : (q : Int) ∉ s.Z := fun hz => by have := hl _ hz; omega
  rcases Classical.em (∃ d ∈ Vs.getD q [], thT ids T d = false) with he | he
  · exact he
  · refine absurd ((h.ready q).2 ⟨by omega, hqT, fun d hd => ?_⟩) hno
    cases hh : thT ids T d
    · exact absurd ⟨d, hd, hh⟩ he
    · rfl

theorem none_of {Vs : List (List Dt)} {ids : List Dt} {T : List Nat} {s : Sq} (h : IV Vs (thT ids T) Vs.length T s []) (hz : s.Z = []) : nxt Vs ids T = none := by
  refine nxt_none_iff.2 fun q hq hqT => ?_
  rcases Classical.em (∃ d ∈ Vs.getD q [], thT ids T d = false) with he | he
  · exact he
  · have := (h.ready q).2 ⟨hq, hqT, fun d hd => by
      cases hh : thT ids T d
      · exact absurd ⟨d, hd, hh⟩ he
      · rfl⟩
    rw [hz] at this
    simp at this

theorem thT_snoc (ids : List Dt) (T : List Nat) (p : Nat) (d : Dt) : thT ids (T ++ [p]) d = (thT ids T d || decide (d = ids.getD p (0, 0))) := by
  unfold thT
  rw [List.map_append]
  simp only [List.map_cons, List.map_nil, List.mem_append, List.mem_singleton]
  rw [Bool.decide_or]

theorem thT_nil (ids : List Dt) : thT ids [] = fun _ => false := by
  funext d
  simp [thT]

/-- The operations at places. -/
def inL (R : List Mo) (T : List Nat) : List Mo := T.filterMap (fun p => R[p]?)

theorem inL_snoc {R : List Mo} {T : List Nat} {p : Nat} (h : p < R.length) : inL R (T ++ [p]) = inL R T ++ [R[p]] := by
  simp [inL, h]

theorem inL_length {R : List Mo} {T : List Nat} (h : ∀ p ∈ T, p < R.length) : (inL R T).length = T.length := by
  induction T with
  | nil => rfl
  | cons x r ih =>
    have hx := h x (by simp)
    have := ih (fun p hp => h p (by simp [hp]))
    simp only [inL, List.filterMap_cons, List.getElem?_eq_getElem hx, List.length_cons] at this ⊢
    omega

theorem inL_mem {R : List Mo} {T : List Nat} {x : Mo} (h : x ∈ inL R T) : x ∈ R := by
  obtain ⟨p, _, hp⟩ := List.mem_filterMap.1 h
  exact List.mem_of_getElem? hp

end

section
open Go.RowKit Go.Maps Go.WideElems Go.MapKept
open Go.ChangeMaps (setBlock heap_setBlock_same heap_setBlock_other)

section
variable {w1 : World} {ra : Option Addr} {rc : Nat} {R : List Mo} {w : World} {th : Dt → Bool} {s : Sq} {v : Value} {zs : List Int} {kt kw : Nat} {K : Option Value} {v0 : Value} {No : Nat → Prop}

/-- Fewer blocks that aren't its own. -/
theorem TK.weaken {No' : Nat → Prop} (h : TK w1 ra rc R w th s v zs kt kw K v0 No) (hN : ∀ i, No' i → No i) (hk : ∀ g, v0.ownBlock = some g → No' g) : TK w1 ra rc R w th s v zs kt kw K v0 No' :=
  ⟨h.below, h.size, h.tk, h.there, h.next, h.nlen, h.wait, fun es clock hh x hx => ⟨(h.gs es clock hh x hx).1, fun hk g hg hn => (h.gs es clock hh x hx).2 hk g hg (hn.elim (fun hn => .inl (hN _ hn)) (fun hn => .inr hn))⟩, h.rdy, h.hp, h.perm, fun i hi hn => h.rno i hi (hN i hn), fun i hi => h.nob i (hN i hi), hk⟩

/-- A new block more. -/
theorem TK.fresh (h : TK w1 ra rc R w th s v zs kt kw K v0 No) (o : Obj) : TK w1 ra rc R (w.alloc o) th s v zs kt kw K v0 (fun i => No i ∨ i = w.heap.size) := by
  obtain ⟨D, hD, hM⟩ := h.wait
  have h1 : TK w1 ra rc R w th s v zs kt kw K v0 (fun i => No i ∨ i = w.heap.size) :=
    ⟨h.below, h.size, h.tk, h.there, h.next, h.nlen, h.wait, (h.gs.reno hD (No' := fun i => (No i ∨ i = w.heap.size) ∨ v.ownBlock = some i) (fun g hg => by
      rcases hg with (hg | hg) | hg
      · exact .inl (.inl hg)
      · exact .inr (by omega)
      · exact .inl (.inr hg))), h.rdy, h.hp, h.perm, fun i hi hn => by
        rcases hn with hn | hn
        · exact h.rno i hi hn
        · have := (h.rdy.1.lt i hi).2; omega, fun i hi => by
        rcases hi with hi | hi
        · exact h.nob i hi
        · have := h.size; omega, fun g hg => .inl (h.key g hg)⟩
  exact h1.far ((Far.refl w).alloc o)

/-- All blocks to come aren't its own. -/
theorem TK.wide (h : TK w1 ra rc R w th s v zs kt kw K v0 No) : TK w1 ra rc R w th s v zs kt kw K v0 (fun i => No i ∨ w.heap.size ≤ i) := by
  obtain ⟨D, hD, hM⟩ := h.wait
  exact ⟨h.below, h.size, h.tk, h.there, h.next, h.nlen, h.wait, (h.gs.reno hD (No' := fun i => (No i ∨ w.heap.size ≤ i) ∨ v.ownBlock = some i) (fun g hg => by
      rcases hg with (hg | hg) | hg
      · exact .inl (.inl hg)
      · exact .inr hg
      · exact .inl (.inr hg))), h.rdy, h.hp, h.perm, fun i hi hn => by
        rcases hn with hn | hn
        · exact h.rno i hi hn
        · have := (h.rdy.1.lt i hi).2; omega, fun i hi => by
        rcases hi with hi | hi
        · exact h.nob i hi
        · have := h.size; omega, fun g hg => .inl (h.key g hg)⟩

/-- A block that isn't its own turns. -/
theorem TK.other {w' : World} {r : Option Nat} (h : TK w1 ra rc R w th s v zs kt kw K v0 No) (hg : w.grownBy w' r) (hr : ∀ i, r = some i → No i) (hK : K = none) : TK w1 ra rc R w' th s v zs kt kw K v0 No := by
  have hs := h.size
  have hsz := hg.size
  have hlow : ∀ i, i < w1.heap.size + 4 → w'.heap[i]? = w.heap[i]? := fun i hi => hg.block i (by omega) (fun e => by have := h.nob i (hr i e.symm); omega)
  have hbl : ∀ i, i < w.heap.size → ¬ No i → w'.heap[i]? = w.heap[i]? := fun i hi hn => hg.block i hi (fun e => hn (hr i e.symm))
  obtain ⟨g, hg1, hg2⟩ := h.there
  obtain ⟨D, hD, hM⟩ := h.wait
  refine ⟨h.below.trans ⟨hg.os, hg.tape, hg.output, hsz, fun i hi => hlow i (by omega)⟩, by omega, by rw [hlow _ (by omega)]; exact h.tk, ⟨g, dm_same hg1 (hlow _ (by omega)), hg2⟩, by rw [hlow _ (by omega)]; exact h.next, h.nlen, ⟨D, groups_same hD (hlow _ (by omega)) (fun es clock hh x hx g hgx => ?_), hM⟩, h.gs.kept (hlow _ (by omega)), oi_same h.rdy (fun g hg' => hbl g (h.rdy.1.lt g hg').2 (h.rno g hg')), h.hp, h.perm, h.rno, h.nob, h.key⟩
  have := (h.gs es clock hh x hx).2 (by rw [hK]; simp) g hgx
  exact hbl g (h.rows es clock hh x hx g hgx).2 (fun hn => this (.inl hn))

/-- One more is there. -/
theorem TK.gone {w' : World} {th' : Dt → Bool} {g' : Dt → Option Int} {kt' : Nat} (h : TK w1 ra rc R w th s v zs kt kw K v0 No) (hg : w.grownBy w' (some w1.heap.size)) (hD : DM w' w1.heap.size kt' g') (ht : ∀ d, (g' d).isSome = th' d) : TK w1 ra rc R w' th' s v zs kt' kw K v0 No := by
  have hs := h.size
  have hsz := hg.size
  have hbl : ∀ i, i < w.heap.size → i ≠ w1.heap.size → w'.heap[i]? = w.heap[i]? := fun i hi hn => hg.block i hi (fun e => hn (by simpa using e))
  obtain ⟨D, hD', hM⟩ := h.wait
  exact ⟨h.below.trans ⟨hg.os, hg.tape, hg.output, by omega, fun i hi => hbl i (by omega) (by omega)⟩, by omega, by rw [hbl _ (by omega) (by omega)]; exact h.tk, ⟨g', hD, ht⟩, by rw [hbl _ (by omega) (by omega)]; exact h.next, h.nlen, ⟨D, groups_same hD' (hbl _ (by omega) (by omega)) (fun es clock hh x hx g hgx => hbl g (h.rows es clock hh x hx g hgx).2 (by have := (h.rows es clock hh x hx g hgx).1; omega)), hM⟩, h.gs.kept (hbl _ (by omega) (by omega)), oi_same h.rdy (fun g hg' => hbl g (h.rdy.1.lt g hg').2 (by have := (h.rdy.1.lt g hg').1; omega)), h.hp, h.perm, h.rno, h.nob, h.key⟩

/-- The least one is no longer among those that are ready. -/
theorem TK.pop {w' : World} {v' : Value} {ys : List Int} (h : TK w1 ra rc R w th s v zs kt kw K v0 No) (hO : OI w' (w1.heap.size + 4) v' ys) (hH : Hp ys) (ht : Two w w' (w1.heap.size + 2) 4 v' v.ownBlock) (hv : v'.ownBlock = v.ownBlock) :
    TK w1 ra rc R w' th ⟨s.nx, s.W, ys⟩ v' ys kt kw K v0 No ∧ ∀ i, i < w.heap.size → No i → w'.heap[i]? = w.heap[i]? := by
  have hs := h.size
  have hsz := ht.size
  have hvr : ∀ g, v.ownBlock = some g → w1.heap.size + 4 ≤ g := fun g hg => (h.rdy.1.lt g hg).1
  have hbl : ∀ i, i < w.heap.size → i ≠ w1.heap.size + 2 → v.ownBlock ≠ some i → w'.heap[i]? = w.heap[i]? := fun i hi h1 h2 => ht.block i hi h1 (fun e => h2 e.symm)
  have hlow : ∀ i, i < w1.heap.size + 4 → i ≠ w1.heap.size + 2 → w'.heap[i]? = w.heap[i]? := fun i hi h1 => hbl i (by omega) h1 (fun e => by have := hvr i e; omega)
  obtain ⟨g, hg1, hg2⟩ := h.there
  obtain ⟨D, hD, hW⟩ := h.wait
  have hrow : ∀ es clock, w.heap[w1.heap.size + 1]? = some (.map es clock) → ∀ y ∈ es.toList, ∀ g, y.val.ownBlock = some g → v.ownBlock ≠ some g := fun es clock hh y hy g hg e => by
    by_cases hk : some y.key = K
    · have := (h.gs es clock hh y hy).1 hk
      exact h.rno g e (h.key g (by rw [← this]; exact hg))
    · exact (h.gs es clock hh y hy).2 hk g hg (.inr e)
  refine ⟨⟨?_, by omega, ?_, ⟨g, dm_same hg1 (hlow _ (by omega) (by omega)), hg2⟩, by rw [hlow _ (by omega) (by omega)]; exact h.next, h.nlen, ⟨D, groups_same hD (hlow _ (by omega) (by omega)) (fun es clock hh y hy g hg => ?_), hW⟩, ?_, hO, hH, List.Perm.refl _, fun i hi hN => h.rno i (by rw [← hv]; exact hi) hN, h.nob, h.key⟩, fun i hlt hi => ?_⟩
  · exact h.below.trans ⟨ht.os, ht.tape, ht.output, hsz, fun i hi => hlow i (by omega) (by omega)⟩
  · rw [ht.here]
    simp [World.setCell, Array.getElem?_modify, h.tk]
  · have hr := h.rows es clock hh y hy g hg
    exact hbl g hr.2 (by omega) (hrow es clock hh y hy g hg)
  · intro es clock hh y hy
    rw [hlow _ (by omega) (by omega)] at hh
    refine ⟨(h.gs es clock hh y hy).1, fun hk g hg hN => ?_⟩
    rcases hN with hN | hN
    · exact (h.gs es clock hh y hy).2 hk g hg (.inl hN)
    · exact hrow es clock hh y hy g hg (by rw [← hv]; exact hN)
  · exact hbl i hlt (by have := h.nob i hi; omega) (fun e => h.rno i e hi)

/-- Those that wait for one dot: a row that is to be left alone. -/
theorem TK.focus (h : TK w1 ra rc R w th s v zs kt kw none (.slice none 0 0) No) {d : Dt} (hd : Dw d) (hkw : kw < maxLen) : ∃ u, (Instr.lookup 47 (.map (some (w1.heap.size + 1))) (dv d) false).run Tryz.prog w = .ok u w ∧ OI w (w1.heap.size + 4) u (s.W d) ∧ TK w1 ra rc R w th s v zs kt kw (some (dv d)) u (fun i => No i ∨ u.ownBlock = some i) ∧ (∀ i, u.ownBlock = some i → ¬ No i) ∧ ∀ i, u.ownBlock = some i → v.ownBlock ≠ some i := by
  obtain ⟨D, hD, hM⟩ := h.wait
  have hH := hD
  obtain ⟨es, clock, hb, F, hs, hDD, hbb, hlen, hap⟩ := hD
  obtain ⟨v00, st, es1, clock1, f, g1, g2, g3, g4, g5⟩ := entry_open (b := w1.heap.size + 1) lawK Tryz.underlying47 (fun u => zeroRow u) F (keyOf_dot hd)
  obtain ⟨u, zu, hrun, hat, hoi, hzl, _⟩ := hH.at law Tryz.underlying47 (zeroRow w) hkw (keyOf_dot hd)
  have hu : u = v00 := by
    have := g4 w hb
    rw [hrun] at this
    simpa using this
  subst hu
  have hzu : zu = s.W d := by
    have := hM d hd
    rw [hat, itm_row hoi] at this
    exact lits_inj this
  have huno : ∀ i, u.ownBlock = some i → ¬ (No i ∨ v.ownBlock = some i) := fun i hi => by
    rcases g5 with ⟨e0, hm0, hk0, rfl⟩ | ⟨_, rfl⟩
    · exact (h.gs es clock hb e0 hm0).2 (by simp) i hi
    · cases hi
  have hone : ∀ x ∈ es.toList, x.key = dv d → x.val = u := fun x hx hk => by
    rcases g5 with ⟨e0, hm0, hk0, rfl⟩ | ⟨hno, _⟩
    · have hpk : es.toList.Pairwise (fun x y => x.key ≠ y.key) := ((stamped_iff es clock).1 F.stamped).2.2
      obtain ⟨j, hj⟩ := List.mem_iff_getElem?.1 hx
      obtain ⟨j', hj'⟩ := List.mem_iff_getElem?.1 hm0
      have := one_place hpk hj hj' (hk.trans hk0.symm)
      subst this
      rw [hj] at hj'
      cases hj'
      rfl
    · exact absurd hk (hno x hx)
  refine ⟨u, hrun, by rw [← hzu]; exact hoi, ⟨h.below, h.size, h.tk, h.there, h.next, h.nlen, h.wait, ?_, h.rdy, h.hp, h.perm, fun i hi hn => ?_, fun i hi => ?_, fun g hg => .inr hg⟩, fun i hi hn => huno i hi (.inl hn), fun i hi hn => huno i hi (.inr hn)⟩
  · intro es' clock' hb' x hx
    obtain ⟨rfl, rfl⟩ : es = es' ∧ clock = clock' := by rw [hb] at hb'; simpa using hb'
    refine ⟨fun hk => hone x hx (by simpa using hk), fun hk g hg hN => ?_⟩
    have hk' : x.key ≠ dv d := fun e => hk (by rw [e])
    have h1 := (h.gs es clock hb x hx).2 (by simp) g hg
    rcases hN with (hN | hN) | hN
    · exact h1 (.inl hN)
    · rcases g5 with ⟨e0, hm0, hk0, rfl⟩ | ⟨_, rfl⟩
      · rcases hap x hx e0 hm0 (by rw [hk0]; exact hk') with e | e
        · rw [e] at hg; cases hg
        · exact e (by rw [hg, hN])
      · cases hN
    · exact h1 (.inr hN)
  · rcases hn with hn | hn
    · exact h.rno i hi hn
    · exact huno i hn (.inr hi)
  · rcases hi with hi | hi
    · exact h.nob i hi
    · exact (hoi.1.lt i hi).1

/-- No row is to be left alone any more. -/
theorem TK.loosen {u : Value} {d : Dt} (h : TK w1 ra rc R w th s v zs kt kw (some (dv d)) u (fun i => No i ∨ u.ownBlock = some i)) (hn : ∀ i, u.ownBlock = some i → ¬ No i) : TK w1 ra rc R w th s v zs kt kw none (.slice none 0 0) No := by
  refine ⟨h.below, h.size, h.tk, h.there, h.next, h.nlen, h.wait, fun es clock hh x hx => ⟨(fun e => by cases e), fun _ g hg hN => ?_⟩, h.rdy, h.hp, h.perm, fun i hi hN => h.rno i hi (.inl hN), fun i hi => h.nob i (.inl hi), (fun g hg => by cases hg)⟩
  by_cases hk : some x.key = some (dv d)
  · have hxv := (h.gs es clock hh x hx).1 hk
    rw [hxv] at hg
    rcases hN with hN | hN
    · exact hn g hg hN
    · exact h.rno g hN (.inr hg)
  · rcases hN with hN | hN
    · exact (h.gs es clock hh x hx).2 hk g hg (.inl (.inl hN))
    · exact (h.gs es clock hh x hx).2 hk g hg (.inr hN)

/-- Behind an append to a slice that isn't its own. -/
theorem TK.nine {u : Value} {q g9 : Nat} {w9 : World} {o : Obj} (h : TK w1 ra rc R w th s v zs kt kw none (.slice none 0 0) (fun i => u.ownBlock = some i ∨ i = q)) (hG : (w.alloc o).grownBy w9 u.ownBlock) (hat : u.ownBlock = some g9 ∨ g9 = (w.alloc o).heap.size) : TK w1 ra rc R w9 th s v zs kt kw none (.slice none 0 0) (fun i => i = g9 ∨ i = q) := by
  refine ((h.fresh o).wide.other hG (fun i hi => .inl (.inl (.inl hi))) rfl).weaken (fun i hi => ?_) (fun g hg => by cases hg)
  rcases hi with hi | hi
  · rcases hat with hat | hat
    · exact .inl (.inl (.inl (by rw [hi]; exact hat)))
    · exact .inr (by omega)
  · exact .inl (.inl (.inr hi))

/-- Those that wait for a dot, as a slice of places. -/
theorem TK.places (h : TK w1 ra rc R w th s v zs kt kw none (.slice none 0 0) No) {d : Dt} (hd : Dw d) (hkw : kw < maxLen) {ps : List Nat} (hps : s.W d = ps.map (fun (x : Nat) => (x : Int))) : ∃ pa pc, (Instr.lookup 47 (.map (some (w1.heap.size + 1))) (dv d) false).run Tryz.prog w = .ok (.slice pa ps.length pc) w ∧ (ps.length ≤ pc ∧ pc ≤ maxLen) ∧ TK w1 ra rc R w th s v zs kt kw (some (dv d)) (.slice pa ps.length pc) (fun i => No i ∨ (Value.slice pa ps.length pc).ownBlock = some i) ∧ (∀ i, (Value.slice pa ps.length pc).ownBlock = some i → ¬ No i ∧ i < w.heap.size) ∧
    (ps ≠ [] → ∃ pb, pa = some ⟨pb, 0, none⟩ ∧ (No pb ∨ (Value.slice pa ps.length pc).ownBlock = some pb) ∧ ∀ k (hk : k < ps.length), w.cell? ⟨pb, k, none⟩ = some (.int .i64 ((ps[k] : Nat) : Int))) := by
  obtain ⟨u, hl, ho, hT, hn, _⟩ := h.focus hd hkw
  rw [hps] at ho
  have hlen : (ps.map (fun (x : Nat) => (x : Int))).length = ps.length := by simp
  obtain ⟨pa, pc, hu, hb⟩ : ∃ pa pc, u = .slice pa ps.length pc ∧ (ps.length ≤ pc ∧ pc ≤ maxLen) := by
    rcases ho.1.2 with ⟨h1, h2⟩ | ⟨g, cap, cur, h1, _, _, h3, h4, _⟩
    · rw [hlen] at h2
      exact ⟨none, 0, by rw [h1, h2], by omega, by unfold maxLen; omega⟩
    · rw [hlen] at h1 h3
      exact ⟨_, cap, h1, h3, h4⟩
  subst hu
  refine ⟨pa, pc, hl, hb, hT, fun i hi => ⟨hn i hi, (ho.1.lt i hi).2⟩, fun hne => ?_⟩
  obtain ⟨g, c, e, _, _, _, _, hc, _⟩ := ho.at (by rw [hlen]; exact List.length_pos_iff.2 hne)
  have e' : pa = some ⟨g, 0, none⟩ := by
    simp only [Value.slice.injEq] at e
    exact e.1
  subst e'
  refine ⟨g, rfl, .inr rfl, fun k hk => ?_⟩
  have := hc k (by rw [hlen]; exact hk)
  rw [nb_get (by rw [hlen]; exact hk)] at this
  simpa using this

end

theorem made_zeros {w' : World} {B b n : Nat} (h : w'.ownsRow b 3 1 (.slice (some ⟨B, 0, none⟩) n n) n (madeCells (Value.int .i64 0).cells (n * 1)).toList) : w'.heap[B]? = some (.cells (nxc (List.replicate n 0)) 3) := by
  rcases h.2 with ⟨h', _⟩ | ⟨g, cap, cur, h', _, hg, _, _, hcs, ht⟩
  · simp at h'
  · simp only [Value.slice.injEq, Option.some.injEq, Addr.mk.injEq, and_true, true_and] at h'
    obtain ⟨rfl, rfl⟩ := h'
    rw [hg]
    have e1 : cur.toList = List.replicate n (Value.int .i64 0) := by
      rw [← List.take_of_length_le (l := cur.toList) (i := n * 1) (by simp [hcs]), ht]
      have := toList_madeCells_one (Value.int .i64 0) n
      simpa [Value.cells] using this
    have e2 : cur = (List.replicate n (Value.int .i64 0)).toArray := by rw [← e1]
    rw [e2]; simp [nxc]

theorem wl_make3 {ops : Array Oper} {rest : List Oper} {o : Oper} {a : Act} {w : World} {Q : Exit → Act → World → Prop} (hgd : o.guard = none) (l c : Operand) (ho : o.op = .makeSlice 29 l c)
    (n : Nat) (hl : a.eval l = .int .i64 n) (hc : a.eval c = .int .i64 n) (hn : n ≤ 1000000)
    (k : ∀ w', w'.heap[w.heap.size]? = some (.cells (nxc (List.replicate n 0)) 3) → RowKit.Below w.heap.size w w' → wpList Tryz.prog ops Q rest (a.put o.dst (.slice (some ⟨w.heap.size, 0, none⟩) n n)) w') : wpList Tryz.prog ops Q (o :: rest) a w := by
  obtain ⟨i0, hi, hz0, hz1, hz2⟩ := info_parts Tryz.info3
  refine wpList_make_full _ hgd _ _ 29 ho w.heap.size 3 i0 (.int .i64 0) 1 Tryz.underlying29 hi hz0 hz1 .i64 .i64 _ _ n hl hc rfl rfl (by rw [hz2]; omega) (by unfold maxLen; omega) (Nat.le_refl _) ?_
  intro w1 hown1 hgrow1
  exact k w1 (made_zeros hown1) ((Below.refl _ _).grown hgrow1 (Nat.le_refl _) (by simp))

end
end Go.Proofs.YtlncokkpdkddlaaGreat
