/- Vectors as rows of dots whose Acts rise: what they have of an actor, what two of them have together, what is missing. No function of the program. -/
import Derived.Test.YtbpepmajpojacaaDMath
namespace Go.Proofs.Ytbpepmajpojacaa

/-- May an operation have it? -/
def mayd (d : Dt) : Bool := decide (0 ≤ d.1) && decide (d.1 < 16777216) && decide (1 ≤ d.2) && decide (d.2 ≤ 1073741824)

theorem mayd_iff (d : Dt) : mayd d = true ↔ 0 ≤ d.1 ∧ d.1 < 16777216 ∧ 1 ≤ d.2 ∧ d.2 ≤ 1073741824 := by
  simp [mayd, and_assoc]

/-- The Acts rise. -/
def Ac (l : List Dt) : Prop := l.Pairwise (fun a b => a.1 < b.1)

/-- May it be a vector? -/
def vmb (l : List Dt) : Bool := decide (l.Pairwise (fun a b => a.1 < b.1)) && l.all mayd

structure VM (l : List Dt) : Prop where
  ac : Ac l
  may : ∀ d ∈ l, mayd d = true

theorem vmb_iff (l : List Dt) : vmb l = true ↔ VM l := by
  unfold vmb
  rw [Bool.and_eq_true, decide_eq_true_iff, List.all_eq_true]
  exact ⟨fun h => ⟨h.1, h.2⟩, fun h => ⟨h.ac, h.may⟩⟩

theorem vm_nil : VM [] := ⟨List.Pairwise.nil, fun d hd => by simp at hd⟩

theorem vm_one {d : Dt} (h : mayd d = true) : VM [d] := ⟨List.pairwise_singleton _ _, fun e he => by simp at he; rw [he]; exact h⟩

theorem VM.tail {d : Dt} {l : List Dt} (h : VM (d :: l)) : VM l := ⟨(List.pairwise_cons.1 h.ac).2, fun e he => h.may e (List.mem_cons_of_mem _ he)⟩
theorem VM.head {d : Dt} {l : List Dt} (h : VM (d :: l)) : mayd d = true := h.may d (List.mem_cons_self ..)
theorem VM.ahead {d : Dt} {l : List Dt} (h : VM (d :: l)) : ∀ e ∈ l, d.1 < e.1 := (List.pairwise_cons.1 h.ac).1

theorem wf_i64 {n : Int} (h0 : -9223372036854775808 ≤ n) (h1 : n ≤ 9223372036854775807) : (Lit.int .i64 n).wf = true := by
  show (decide (IntKind.min .i64 ≤ n) && decide (n ≤ IntKind.max .i64)) = true
  rw [show IntKind.min .i64 = -9223372036854775808 from rfl, show IntKind.max .i64 = 9223372036854775807 from rfl]
  simp [h0, h1]

theorem VM.dws {l : List Dt} (h : VM l) : Dws l := fun d hd => by
  have := (mayd_iff d).1 (h.may d hd)
  exact ⟨wf_i64 (by omega) (by omega), wf_i64 (by omega) (by omega)⟩

/-- One more dot. -/
theorem vmb_snoc {l : List Dt} (h : vmb l = true) (d : Dt) : vmb (l ++ [d]) = (mayd d && l.all (fun e => decide (e.1 < d.1))) := by
  have h' := (vmb_iff l).1 h
  cases hm : mayd d with
  | false =>
    rw [Bool.false_and]
    unfold vmb
    rw [List.all_append]
    simp [hm]
  | true =>
    rw [Bool.true_and]
    unfold vmb
    have ha : (l ++ [d]).all mayd = true := by
      rw [List.all_append]
      simp [hm]
      exact fun a b hab => h'.may (a, b) hab
    rw [ha, Bool.and_true]
    by_cases hq : ∀ e ∈ l, e.1 < d.1
    · have e1 : l.all (fun e => decide (e.1 < d.1)) = true := List.all_eq_true.2 fun e he => decide_eq_true (hq e he)
      rw [e1]
      refine decide_eq_true (List.pairwise_append.2 ⟨h'.ac, List.pairwise_singleton _ _, fun a ha b hb => ?_⟩)
      simp at hb
      rw [hb]
      exact hq a ha
    · have e1 : l.all (fun e => decide (e.1 < d.1)) = false := by
        cases hb : l.all (fun e => decide (e.1 < d.1)) with
        | false => rfl
        | true => exact absurd (fun e he => of_decide_eq_true (List.all_eq_true.1 hb e he)) hq
      rw [e1]
      refine decide_eq_false fun hp => hq fun e he => ?_
      exact (List.pairwise_append.1 hp).2.2 e he d (by simp)

/-- Behind the last it is behind all. -/
theorem all_last {l : List Dt} {p d : Dt} (h : vmb (l ++ [p]) = true) : (l ++ [p]).all (fun e => decide (e.1 < d.1)) = decide (p.1 < d.1) := by
  have h' := ((vmb_iff _).1 h).ac
  by_cases hp : p.1 < d.1
  · rw [decide_eq_true hp]
    refine List.all_eq_true.2 fun e he => decide_eq_true ?_
    rcases List.mem_append.1 he with he | he
    · have := (List.pairwise_append.1 h').2.2 e he p (by simp)
      omega
    · simp at he
      rw [he]
      exact hp
  · rw [decide_eq_false hp]
    rw [List.all_append]
    simp [hp]

/-- A part that isn't right makes the whole not right. -/
theorem vmb_take {l : List Dt} (k : Nat) (h : vmb (l.take k) = false) : vmb l = false := by
  cases hl : vmb l with
  | false => rfl
  | true =>
    have h' := (vmb_iff l).1 hl
    have : vmb (l.take k) = true := (vmb_iff _).2 ⟨h'.ac.sublist (List.take_sublist k l), fun d hd => h'.may d (List.mem_of_mem_take hd)⟩
    rw [h] at this
    cases this

/-- How many operations of an actor. -/
def gt : List Dt → Int → Int
  | [], _ => 0
  | d :: r, a => if d.1 = a then d.2 else gt r a

theorem gt_append (l m : List Dt) (a : Int) (h : ∀ d ∈ l, d.1 ≠ a) : gt (l ++ m) a = gt m a := by
  induction l with
  | nil => rfl
  | cons d r ih =>
    show (if d.1 = a then d.2 else gt (r ++ m) a) = _
    rw [if_neg (h d (List.mem_cons_self ..)), ih fun e he => h e (List.mem_cons_of_mem _ he)]

theorem gt_none {l : List Dt} {a : Int} (h : ∀ d ∈ l, d.1 ≠ a) : gt l a = 0 := by
  have := gt_append l [] a h
  simpa [gt] using this

theorem gt_some {l : List Dt} (h : Ac l) {d : Dt} (hd : d ∈ l) : gt l d.1 = d.2 := by
  induction l with
  | nil => simp at hd
  | cons e r ih =>
    obtain ⟨h1, h2⟩ := List.pairwise_cons.1 h
    rcases List.mem_cons.1 hd with rfl | hd
    · simp [gt]
    · have := h1 d hd
      show (if e.1 = d.1 then e.2 else gt r d.1) = _
      rw [if_neg (by omega)]
      exact ih h2 hd

theorem gt_cases (l : List Dt) (a : Int) : (∃ d ∈ l, d.1 = a ∧ gt l a = d.2) ∨ ((∀ d ∈ l, d.1 ≠ a) ∧ gt l a = 0) := by
  induction l with
  | nil => exact .inr ⟨fun d hd => by simp at hd, rfl⟩
  | cons e r ih =>
    by_cases he : e.1 = a
    · exact .inl ⟨e, List.mem_cons_self .., he, by simp [gt, he]⟩
    · have eq : gt (e :: r) a = gt r a := by show (if e.1 = a then e.2 else gt r a) = _; rw [if_neg he]
      rcases ih with ⟨d, hd, h1, h2⟩ | ⟨h1, h2⟩
      · exact .inl ⟨d, List.mem_cons_of_mem _ hd, h1, by rw [eq]; exact h2⟩
      · refine .inr ⟨fun d hd => ?_, by rw [eq]; exact h2⟩
        rcases List.mem_cons.1 hd with rfl | hd
        · exact he
        · exact h1 d hd

theorem VM.gt_bounds {l : List Dt} (h : VM l) (a : Int) : 0 ≤ gt l a ∧ gt l a ≤ 1073741824 := by
  rcases gt_cases l a with ⟨d, hd, _, e⟩ | ⟨_, e⟩
  · have := (mayd_iff d).1 (h.may d hd)
    rw [e]
    omega
  · rw [e]
    omega

theorem VM.gt_pos {l : List Dt} (h : VM l) {a : Int} (hp : 0 < gt l a) : mayd (a, gt l a) = true ∧ (a, gt l a) ∈ l := by
  rcases gt_cases l a with ⟨d, hd, e1, e⟩ | ⟨_, e⟩
  · have hm := h.may d hd
    have : d = (a, gt l a) := by rw [e, ← e1]
    rw [← this]
    exact ⟨hm, hd⟩
  · omega

/-- Vectors that have the same are the same. -/
theorem vm_ext : ∀ {l m : List Dt}, VM l → VM m → (∀ a, gt l a = gt m a) → l = m
  | [], [], _, _, _ => rfl
  | [], e :: s, _, h2, h => by
    have := h e.1
    have hm := (mayd_iff e).1 h2.head
    simp [gt] at this
    omega
  | d :: r, [], h1, _, h => by
    have := h d.1
    have hm := (mayd_iff d).1 h1.head
    simp [gt] at this
    omega
  | d :: r, e :: s, h1, h2, h => by
    have hd := (mayd_iff d).1 h1.head
    have he := (mayd_iff e).1 h2.head
    have h1a := h1.ahead
    have h2a := h2.ahead
    have key : d.1 = e.1 := by
      rcases Int.lt_trichotomy d.1 e.1 with hlt | heq | hgt
      · have := h d.1
        rw [show gt (d :: r) d.1 = d.2 by simp [gt], gt_none (l := e :: s) (fun q hq => by
          rcases List.mem_cons.1 hq with rfl | hq
          · omega
          · have := h2a q hq; omega)] at this
        omega
      · exact heq
      · have := h e.1
        rw [show gt (e :: s) e.1 = e.2 by simp [gt], gt_none (l := d :: r) (fun q hq => by
          rcases List.mem_cons.1 hq with rfl | hq
          · omega
          · have := h1a q hq; omega)] at this
        omega
    have key2 : d.2 = e.2 := by
      have := h d.1
      rw [show gt (d :: r) d.1 = d.2 by simp [gt], key, show gt (e :: s) e.1 = e.2 by simp [gt]] at this
      exact this
    have hde : d = e := Prod.ext key key2
    subst hde
    rw [vm_ext h1.tail h2.tail fun a => ?_]
    by_cases ha : d.1 = a
    · rw [gt_none fun q hq => by have := h1a q hq; omega, gt_none fun q hq => by have := h2a q hq; omega]
    · have := h a
      simp only [gt, if_neg ha] at this
      exact this

/-- What is picked of two. -/
structure Pick (pk : Int → Int → Int) : Prop where
  zero : pk 0 0 = 0
  one : ∀ x y, pk x y = x ∨ pk x y = y

theorem pick_max : Pick (fun x y => max x y) := ⟨by decide, fun x y => by omega⟩
theorem pick_min : Pick (fun x y => min x y) := ⟨by decide, fun x y => by omega⟩

/-- The actors of both, rising. -/
def ua (A B : List Dt) : List Int := (rise ((A ++ B).map fun d => (d.1, (0 : Int)))).map Prod.fst

theorem mem_ua {a : Int} {A B : List Dt} : a ∈ ua A B ↔ (∃ d ∈ A, d.1 = a) ∨ (∃ d ∈ B, d.1 = a) := by
  unfold ua
  constructor
  · intro h
    obtain ⟨p, hp, rfl⟩ := List.mem_map.1 h
    rw [mem_rise] at hp
    obtain ⟨d, hd, rfl⟩ := List.mem_map.1 hp
    rcases List.mem_append.1 hd with hd | hd
    · exact .inl ⟨d, hd, rfl⟩
    · exact .inr ⟨d, hd, rfl⟩
  · intro h
    refine List.mem_map.2 ⟨(a, 0), ?_, rfl⟩
    rw [mem_rise]
    rcases h with ⟨d, hd, rfl⟩ | ⟨d, hd, rfl⟩
    · exact List.mem_map.2 ⟨d, List.mem_append.2 (.inl hd), rfl⟩
    · exact List.mem_map.2 ⟨d, List.mem_append.2 (.inr hd), rfl⟩

theorem ua_up (A B : List Dt) : (ua A B).Pairwise (fun a b => a < b) := by
  unfold ua
  rw [List.pairwise_map]
  have hz : ∀ p ∈ rise ((A ++ B).map fun d => (d.1, (0 : Int))), p.2 = 0 := fun p hp => by
    rw [mem_rise] at hp
    obtain ⟨d, _, rfl⟩ := List.mem_map.1 hp
    rfl
  refine (up_rise _).imp_of_mem fun {a b} ha hb h => ?_
  rw [dl_iff] at h
  have := hz a ha
  have := hz b hb
  omega

theorem ua_length (A B : List Dt) : (ua A B).length ≤ A.length + B.length := by
  unfold ua
  rw [List.length_map]
  refine Nat.le_trans (rise_length _) ?_
  simp

/-- Rows of numbers that rise and have the same are the same. -/
theorem asc_ext : ∀ {l m : List Int}, l.Pairwise (fun a b => a < b) → m.Pairwise (fun a b => a < b) → (∀ a, a ∈ l ↔ a ∈ m) → l = m
  | [], [], _, _, _ => rfl
  | [], b :: s, _, _, h => by have := (h b).2 (by simp); simp at this
  | a :: r, [], _, _, h => by have := (h a).1 (by simp); simp at this
  | a :: r, b :: s, h1, h2, h => by
    obtain ⟨a1, a2⟩ := List.pairwise_cons.1 h1
    obtain ⟨b1, b2⟩ := List.pairwise_cons.1 h2
    have hab : a = b := by
      rcases List.mem_cons.1 ((h a).1 (by simp)) with e | ha
      · exact e
      · rcases List.mem_cons.1 ((h b).2 (by simp)) with e | hb
        · exact e.symm
        · have := a1 b hb
          have := b1 a ha
          omega
    subst hab
    rw [asc_ext a2 b2 (fun p => ⟨fun hp => by
      rcases List.mem_cons.1 ((h p).1 (by simp [hp])) with e | hp'
      · have := a1 p hp
        omega
      · exact hp', fun hp => by
      rcases List.mem_cons.1 ((h p).2 (by simp [hp])) with e | hp'
      · have := b1 p hp
        omega
      · exact hp'⟩)]

/-- Of these actors, what is picked. -/
def pks (pk : Int → Int → Int) (A B : List Dt) (l : List Int) : List Dt := l.filterMap fun a => if 0 < pk (gt A a) (gt B a) then some (a, pk (gt A a) (gt B a)) else none

/-- Of each actor of both, what is picked. -/
def vj (pk : Int → Int → Int) (A B : List Dt) : List Dt := pks pk A B (ua A B)

theorem pks_append (pk : Int → Int → Int) (A B : List Dt) (l m : List Int) : pks pk A B (l ++ m) = pks pk A B l ++ pks pk A B m := by simp [pks]

theorem mem_pks {pk : Int → Int → Int} {A B : List Dt} {l : List Int} {d : Dt} : d ∈ pks pk A B l ↔ d.1 ∈ l ∧ 0 < d.2 ∧ d.2 = pk (gt A d.1) (gt B d.1) := by
  unfold pks
  rw [List.mem_filterMap]
  constructor
  · rintro ⟨a, ha, he⟩
    split at he
    · rename_i hp
      cases he
      exact ⟨ha, hp, rfl⟩
    · cases he
  · rintro ⟨h1, h2, h3⟩
    refine ⟨d.1, h1, ?_⟩
    rw [← h3, if_pos h2]

theorem pks_vm {pk : Int → Int → Int} (hp : Pick pk) {A B : List Dt} (hA : VM A) (hB : VM B) {l : List Int} (hl : l.Pairwise (fun a b => a < b)) : VM (pks pk A B l) := by
  refine ⟨?_, fun d hd => ?_⟩
  · unfold pks
    refine List.Pairwise.filterMap _ (fun a b hab x hx y hy => ?_) hl
    split at hx
    · split at hy
      · cases hx; cases hy; exact hab
      · cases hy
    · cases hx
  · obtain ⟨h1, h2, h3⟩ := mem_pks.1 hd
    rcases hp.one (gt A d.1) (gt B d.1) with e | e
    · have := (hA.gt_pos (a := d.1) (by omega)).1
      have e2 : d = (d.1, gt A d.1) := Prod.ext rfl (by rw [h3, e])
      rw [e2]; exact this
    · have := (hB.gt_pos (a := d.1) (by omega)).1
      have e2 : d = (d.1, gt B d.1) := Prod.ext rfl (by rw [h3, e])
      rw [e2]; exact this

theorem vj_vm {pk : Int → Int → Int} (hp : Pick pk) {A B : List Dt} (hA : VM A) (hB : VM B) : VM (vj pk A B) := pks_vm hp hA hB (ua_up A B)

theorem vj_gt {pk : Int → Int → Int} (hp : Pick pk) {A B : List Dt} (hA : VM A) (hB : VM B) (a : Int) : gt (vj pk A B) a = pk (gt A a) (gt B a) := by
  have hv := vj_vm hp hA hB
  have hnn : 0 ≤ pk (gt A a) (gt B a) := by
    have := hA.gt_bounds a
    have := hB.gt_bounds a
    rcases hp.one (gt A a) (gt B a) with e | e <;> omega
  by_cases h0 : 0 < pk (gt A a) (gt B a)
  · have hm : (a, pk (gt A a) (gt B a)) ∈ vj pk A B := by
      refine mem_pks.2 ⟨mem_ua.2 ?_, h0, rfl⟩
      rcases hp.one (gt A a) (gt B a) with e | e
      · exact .inl ⟨_, (hA.gt_pos (a := a) (by omega)).2, rfl⟩
      · exact .inr ⟨_, (hB.gt_pos (a := a) (by omega)).2, rfl⟩
    exact gt_some hv.ac hm
  · rw [gt_none fun d hd e => ?_]
    · omega
    · obtain ⟨_, h2, h3⟩ := mem_pks.1 hd
      rw [e] at h3
      omega

/-- What has of each actor what is picked. -/
theorem eq_vj {pk : Int → Int → Int} (hp : Pick pk) {A B R : List Dt} (hA : VM A) (hB : VM B) (hR : VM R) (h : ∀ a, gt R a = pk (gt A a) (gt B a)) : R = vj pk A B :=
  vm_ext hR (vj_vm hp hA hB) fun a => by rw [h, vj_gt hp hA hB]

theorem vj_length (pk : Int → Int → Int) (A B : List Dt) : (vj pk A B).length ≤ A.length + B.length :=
  Nat.le_trans (List.length_filterMap_le _ _) (ua_length A B)

abbrev vjoin (A B : List Dt) : List Dt := vj (fun x y => max x y) A B
abbrev vmeet (A B : List Dt) : List Dt := vj (fun x y => min x y) A B

/-- With an operation. -/
def vwith (A : List Dt) (d : Dt) : List Dt := if mayd d = true then vjoin A [d] else A

theorem vwith_vm {A : List Dt} (h : VM A) (d : Dt) : VM (vwith A d) := by
  unfold vwith
  split
  · rename_i hd
    exact vj_vm pick_max h (vm_one hd)
  · exact h

theorem vwith_length (A : List Dt) (d : Dt) : (vwith A d).length ≤ A.length + 1 := by
  unfold vwith
  split
  · exact vj_length _ A [d]
  · omega

theorem vwith_gt {A : List Dt} (h : VM A) {d : Dt} (hd : mayd d = true) (a : Int) : gt (vwith A d) a = if d.1 = a then max (gt A a) d.2 else gt A a := by
  unfold vwith
  rw [if_pos hd, vj_gt pick_max h (vm_one hd)]
  have := h.gt_bounds a
  simp only [gt]
  split
  · rfl
  · omega

/-- A vector made of raw dots. -/
def made (l : List Dt) : List Dt := (l.take 50).foldl vwith []

theorem foldl_vm (l : List Dt) : ∀ A : List Dt, VM A → VM (l.foldl vwith A) := by
  induction l with
  | nil => exact fun A h => h
  | cons d r ih => exact fun A h => ih _ (vwith_vm h d)

theorem foldl_length (l : List Dt) : ∀ A : List Dt, (l.foldl vwith A).length ≤ A.length + l.length := by
  induction l with
  | nil => intro A; simp
  | cons d r ih =>
    intro A
    have := ih (vwith A d)
    have := vwith_length A d
    simp only [List.foldl_cons, List.length_cons]
    omega

theorem made_vm (l : List Dt) : VM (made l) := foldl_vm _ [] vm_nil
theorem made_length (l : List Dt) : (made l).length ≤ 50 := by
  have := foldl_length (l.take 50) []
  unfold made
  rw [List.length_take] at this
  simp at this ⊢
  omega

/-- Is it had? -/
def hasv (A : List Dt) (d : Dt) : Bool := mayd d && decide (d.2 ≤ gt A d.1)

/-- Is all of one in the other? -/
def belv (A B : List Dt) : Bool := A.all fun d => decide (d.2 ≤ gt B d.1)

theorem belv_iff {A B : List Dt} (hA : VM A) (hB : VM B) : belv A B = true ↔ ∀ a, gt A a ≤ gt B a := by
  unfold belv
  rw [List.all_eq_true]
  constructor
  · intro h a
    rcases gt_cases A a with ⟨d, hd, e1, e⟩ | ⟨_, e⟩
    · have := of_decide_eq_true (h d hd)
      rw [e, ← e1]
      exact this
    · have := hB.gt_bounds a
      omega
  · intro h d hd
    refine decide_eq_true ?_
    have := h d.1
    rw [gt_some hA.ac hd] at this
    exact this

/-- How many operations. -/
def cntv (A : List Dt) : Int := (A.map Prod.snd).sum

end Go.Proofs.Ytbpepmajpojacaa
