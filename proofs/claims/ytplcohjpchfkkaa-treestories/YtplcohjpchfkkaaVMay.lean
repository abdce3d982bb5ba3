/- May, Get, Has, Count, Same and the reference's: what they tell. -/
import Derived.WalkKit
import Derived.ChangeSame
import Derived.ChangeArms
import Derived.ChangeMaps5
import Derived.WideShapes
import Derived.Lib.SmallJoins
import Derived.WalkSpells
import Derived.WalkLawsBesides
import Derived.Below
import Derived.Sort.Grow
import Derived.Sort.OwnSorted
import Derived.Laws.AppendOwnNone
import Derived.Shelf.SlSortCmp.QuietGrown
import Derived.BigQuiet
import Derived.Test.YtplcohjpchfkkaaProg
import Derived.Test.YtplcohjpchfkkaaRows
namespace Go.Proofs.Ytplcohjpchfkkaa
section
open Go.ChangeShapes Go.WideShapes

section
variable {H : Type} {enc : TypeId × Value → H} {P : Program} {w : World} {base : Nat} {spare : Nat → Bool} {held : Bool}

theorem part_one {α : Type} {l : List α} {o : Nat} {x : α} (h : (l.drop o).take 1 = [x]) : l[o]? = some x := by
  have := congrArg (fun k => k[0]?) h
  simpa using this
theorem field_at {fs : Array Field} {l : List (TypeId × Nat)} (h : fs.toList.map (fun f => (f.type, f.offset)) = l) {i : Nat} {t : TypeId} {o : Nat} (hi : l[i]? = some (t, o)) : ∃ f, fs[i]? = some f ∧ f.type = t ∧ f.offset = o := by
  subst h
  simp only [List.getElem?_map, Option.map_eq_some_iff] at hi
  obtain ⟨f, h1, h2⟩ := hi
  simp only [Prod.mk.injEq] at h2
  exact ⟨f, by simpa using h1, h2.1, h2.2⟩

/-- An operation, as the walks are told of it. -/
structure OpIn where
  id0 : Int
  id1 : Int
  time : Int
  kind : Int
  bl0 : Int
  bl1 : Int
  at0 : Int
  at1 : Int
  side : Int
  char : Int
  pa0 : Int
  pa1 : Int
  key : ByteArray

/-- Its cells, with the value of its Deps. -/
def OpIn.cells (o : OpIn) (v : Value) : Array Value := #[.int .i64 o.id0, .int .i64 o.id1, .int .i64 o.time, v, .int .i64 o.kind, .int .i64 o.bl0, .int .i64 o.bl1, .int .i64 o.at0, .int .i64 o.at1, .int .i64 o.side, .int .i64 o.char, .int .i64 o.pa0, .int .i64 o.pa1, .string o.key]

/-- Its numbers fit, and its key isn't too long. -/
structure OpIn.Fits (o : OpIn) : Prop where
  id0 : (Lit.int .i64 o.id0).wf = true
  id1 : (Lit.int .i64 o.id1).wf = true
  time : (Lit.int .i64 o.time).wf = true
  kind : (Lit.int .i64 o.kind).wf = true
  bl0 : (Lit.int .i64 o.bl0).wf = true
  bl1 : (Lit.int .i64 o.bl1).wf = true
  at0 : (Lit.int .i64 o.at0).wf = true
  at1 : (Lit.int .i64 o.at1).wf = true
  side : (Lit.int .i64 o.side).wf = true
  char : (Lit.int .i64 o.char).wf = true
  pa0 : (Lit.int .i64 o.pa0).wf = true
  pa1 : (Lit.int .i64 o.pa1).wf = true
  key : o.key.size ≤ maxLen

/-- A field's reading. -/
theorem fld {fs : Array Field} {l : List (TypeId × Nat)} {xs : List (DataW H × List MemPlace)} {n : Nat} {L : List Value} (hF : fs.toList.map (fun f => (f.type, f.offset)) = l) (hlen : xs.length = fs.size)
    (hq : ∀ (i : Nat) (f : Field), fs[i]? = some f → DataW.trod enc P w base spare held n f.type ((L.drop f.offset).take (P.cellsOf f.type)) = xs[i]?) (i : Nat) {t : TypeId} {o : Nat} (hi : l[i]? = some (t, o)) :
    ∃ y, DataW.trod enc P w base spare held n t ((L.drop o).take (P.cellsOf t)) = some y ∧ y ∈ xs := by
  obtain ⟨f, h1, rfl, rfl⟩ := field_at hF hi
  have hlt : i < xs.length := by rw [hlen]; exact (Array.getElem?_eq_some_iff.1 h1).1
  refine ⟨xs[i], ?_, List.getElem_mem _⟩
  rw [hq i f h1, List.getElem?_eq_getElem hlt]

end
end

section

/-- A dot: its Act and its Seq. -/
abbrev Dt := Int × Int

/-- Is a ahead of b? -/
def dl (a b : Dt) : Bool := decide (a.1 < b.1) || (decide (a.1 = b.1) && decide (a.2 < b.2))

theorem dl_iff (a b : Dt) : dl a b = true ↔ a.1 < b.1 ∨ (a.1 = b.1 ∧ a.2 < b.2) := by simp [dl]

theorem dl_irrefl (a : Dt) : dl a a = false := by simp [dl]

theorem dl_trans {a b c : Dt} (h : dl a b = true) (k : dl b c = true) : dl a c = true := by
  rw [dl_iff] at *
  omega

theorem dl_total {a b : Dt} (h : a ≠ b) (k : dl a b = false) : dl b a = true := by
  have k' : ¬ dl a b = true := by rw [k]; simp
  rw [dl_iff] at *
  have : ¬ (a.1 = b.1 ∧ a.2 = b.2) := fun ⟨e1, e2⟩ => h (Prod.ext e1 e2)
  omega

/-- A row that rises. -/
def Up (l : List Dt) : Prop := l.Pairwise (fun a b => dl a b = true)

/-- Rising rows with the same dots are one row. -/
theorem up_ext : ∀ {l l' : List Dt}, Up l → Up l' → (∀ d, d ∈ l ↔ d ∈ l') → l = l'
  | [], [], _, _, _ => rfl
  | [], b :: s, _, _, h => by have := (h b).2 (by simp); simp at this
  | a :: r, [], _, _, h => by have := (h a).1 (by simp); simp at this
  | a :: r, b :: s, h1, h2, h => by
    obtain ⟨a1, a2⟩ := List.pairwise_cons.1 h1
    obtain ⟨b1, b2⟩ := List.pairwise_cons.1 h2
    have hab : a = b := by
      rcases List.mem_cons.1 ((h a).1 (by simp)) with e | ha
      · exact e
      · rcases List.mem_cons.1 ((h b).2 (by simp)) with e | hb
        · exact e.symm
        · have := dl_trans (a1 b hb) (b1 a ha)
          rw [dl_irrefl] at this
          cases this
    subst hab
    rw [up_ext a2 b2 (fun p => ⟨fun hp => by
      rcases List.mem_cons.1 ((h p).1 (by simp [hp])) with e | hp'
      · have := a1 p hp
        rw [e, dl_irrefl] at this
        cases this
      · exact hp', fun hp => by
      rcases List.mem_cons.1 ((h p).2 (by simp [hp])) with e | hp'
      · have := b1 p hp
        rw [e, dl_irrefl] at this
        cases this
      · exact hp'⟩)]

theorem up_nodup : ∀ {l : List Dt}, Up l → l.Nodup
  | [], _ => List.nodup_nil
  | x :: r, h => by
    obtain ⟨h1, h2⟩ := List.pairwise_cons.1 h
    refine List.nodup_cons.2 ⟨fun hm => ?_, up_nodup h2⟩
    have := h1 x hm
    rw [dl_irrefl] at this
    cases this

/-- A rising row with one more dot. -/
def ins : List Dt → Dt → List Dt
  | [], d => [d]
  | x :: r, d => if dl x d = true then x :: ins r d else if x = d then x :: r else d :: x :: r

theorem mem_ins (e d : Dt) : ∀ l : List Dt, e ∈ ins l d ↔ e = d ∨ e ∈ l
  | [] => by simp [ins]
  | x :: r => by
    unfold ins
    split
    · simp [mem_ins e d r]
      constructor
      · rintro (h | h | h) <;> simp [h]
      · rintro (h | h | h) <;> simp [h]
    · split
      · rename_i hx
        subst hx
        simp
      · simp

theorem up_ins (d : Dt) : ∀ {l : List Dt}, Up l → Up (ins l d)
  | [], _ => by simp [ins, Up]
  | x :: r, h => by
    obtain ⟨h1, h2⟩ := List.pairwise_cons.1 h
    unfold ins
    split
    · rename_i hx
      refine List.pairwise_cons.2 ⟨fun q hq => ?_, up_ins d h2⟩
      rcases (mem_ins q d r).1 hq with rfl | hq
      · exact hx
      · exact h1 q hq
    · rename_i hx
      split
      · exact h
      · rename_i hne
        have hdx : dl d x = true := dl_total hne (by simpa using hx)
        refine List.pairwise_cons.2 ⟨fun q hq => ?_, h⟩
        rcases List.mem_cons.1 hq with rfl | hq
        · exact hdx
        · exact dl_trans hdx (h1 q hq)

theorem ins_length (d : Dt) : ∀ l : List Dt, (ins l d).length ≤ l.length + 1
  | [] => by simp [ins]
  | x :: r => by
    have := ins_length d r
    unfold ins
    split
    · simp; omega
    · split <;> simp

/-- A row put in order. -/
def rise (l : List Dt) : List Dt := l.foldl ins []

theorem up_foldl (l : List Dt) : ∀ acc : List Dt, Up acc → Up (l.foldl ins acc) := by
  induction l with
  | nil => exact fun _ h => h
  | cons x r ih => exact fun acc h => ih _ (up_ins x h)

theorem mem_foldl (e : Dt) (l : List Dt) : ∀ acc : List Dt, e ∈ l.foldl ins acc ↔ e ∈ acc ∨ e ∈ l := by
  induction l with
  | nil => simp
  | cons x r ih =>
    intro acc
    rw [List.foldl_cons, ih, mem_ins]
    simp only [List.mem_cons]
    constructor
    · rintro ((h | h) | h) <;> simp [h]
    · rintro (h | h | h) <;> simp [h]

theorem up_rise (l : List Dt) : Up (rise l) := up_foldl l [] (by simp [Up])
theorem mem_rise (e : Dt) (l : List Dt) : e ∈ rise l ↔ e ∈ l := by simp [rise, mem_foldl]

theorem len_foldl (l : List Dt) : ∀ acc : List Dt, (l.foldl ins acc).length ≤ acc.length + l.length := by
  induction l with
  | nil => simp
  | cons x r ih =>
    intro acc
    have := ih (ins acc x)
    have := ins_length x acc
    simp only [List.foldl_cons, List.length_cons]
    omega

theorem rise_length (l : List Dt) : (rise l).length ≤ l.length := by
  have := len_foldl l []
  simpa [rise] using this

/-- What rises and has just a row's dots is that row put in order. -/
theorem eq_rise {s l : List Dt} (h : Up s) (k : ∀ d, d ∈ s ↔ d ∈ l) : s = rise l := up_ext h (up_rise l) (fun d => by rw [k, mem_rise])

/-- Both numbers are int's. -/
def Dw (d : Dt) : Prop := (Lit.int .i64 d.1).wf = true ∧ (Lit.int .i64 d.2).wf = true
def Dws (l : List Dt) : Prop := ∀ d ∈ l, Dw d

theorem Dws.rise {l : List Dt} (h : Dws l) : Dws (rise l) := fun d hd => h d ((mem_rise d l).1 hd)
theorem Dws.append {l m : List Dt} (h : Dws l) (k : Dws m) : Dws (l ++ m) := fun d hd => by
  rcases List.mem_append.1 hd with hd | hd
  · exact h d hd
  · exact k d hd
/-- The cells of a row of dots. -/
def flat : List Dt → List Value
  | [] => []
  | d :: r => .int .i64 d.1 :: .int .i64 d.2 :: flat r

theorem flat_length : ∀ l : List Dt, (flat l).length = l.length * 2
  | [] => rfl
  | d :: r => by simp [flat, flat_length r]; omega

theorem flat_append : ∀ l m : List Dt, flat (l ++ m) = flat l ++ flat m
  | [], m => rfl
  | d :: r, m => by simp [flat, flat_append r m]

theorem flat_get : ∀ (l : List Dt) (i : Nat) (h : i < l.length), (flat l)[i * 2]? = some (.int .i64 (l[i]).1) ∧ (flat l)[i * 2 + 1]? = some (.int .i64 (l[i]).2)
  | [], i, h => by simp at h
  | d :: r, 0, h => by simp [flat]
  | d :: r, i + 1, h => by
    have := flat_get r i (by simpa using h)
    have e : (i + 1) * 2 = (i * 2) + 1 + 1 := by omega
    rw [e]
    simpa [flat] using this
end

section

/-- May an operation have it? -/
def mayd (d : Dt) : Bool := decide (0 ≤ d.1) && decide (d.1 < 16777216) && decide (1 ≤ d.2) && decide (d.2 ≤ 1073741824)

theorem mayd_iff (d : Dt) : mayd d = true ↔ 0 ≤ d.1 ∧ d.1 < 16777216 ∧ 1 ≤ d.2 ∧ d.2 ≤ 1073741824 := by
  simp [mayd, and_assoc]

/-- The Acts rise. -/
def Ac (l : List Dt) : Prop := l.Pairwise (fun a b => a.1 < b.1)

/-- May it be a vector? -/
def vmb (l : List Dt) : Bool := decide (l.Pairwise (fun a b => a.1 < b.1)) && l.all mayd

structure VM (l : List Dt) : Prop where
  ac : Ac l
  may : ∀ d ∈ l, mayd d = true

theorem vmb_iff (l : List Dt) : vmb l = true ↔ VM l := by
  unfold vmb
  rw [Bool.and_eq_true, decide_eq_true_iff, List.all_eq_true]
  exact ⟨fun h => ⟨h.1, h.2⟩, fun h => ⟨h.ac, h.may⟩⟩

theorem vm_nil : VM [] := ⟨List.Pairwise.nil, fun d hd => by simp at hd⟩

theorem vm_one {d : Dt} (h : mayd d = true) : VM [d] := ⟨List.pairwise_singleton _ _, fun e he => by simp at he; rw [he]; exact h⟩

theorem VM.ahead {d : Dt} {l : List Dt} (h : VM (d :: l)) : ∀ e ∈ l, d.1 < e.1 := (List.pairwise_cons.1 h.ac).1

theorem wf_i64 {n : Int} (h0 : -9223372036854775808 ≤ n) (h1 : n ≤ 9223372036854775807) : (Lit.int .i64 n).wf = true := by
  show (decide (IntKind.min .i64 ≤ n) && decide (n ≤ IntKind.max .i64)) = true
  rw [show IntKind.min .i64 = -9223372036854775808 from rfl, show IntKind.max .i64 = 9223372036854775807 from rfl]
  simp [h0, h1]

/-- One more dot. -/
theorem vmb_snoc {l : List Dt} (h : vmb l = true) (d : Dt) : vmb (l ++ [d]) = (mayd d && l.all (fun e => decide (e.1 < d.1))) := by
  have h' := (vmb_iff l).1 h
  cases hm : mayd d with
  | false =>
    rw [Bool.false_and]
    unfold vmb
    rw [List.all_append]
    simp [hm]
  | true =>
    rw [Bool.true_and]
    unfold vmb
    have ha : (l ++ [d]).all mayd = true := by
      rw [List.all_append]
      simp [hm]
      exact fun a b hab => h'.may (a, b) hab
    rw [ha, Bool.and_true]
    by_cases hq : ∀ e ∈ l, e.1 < d.1
    · have e1 : l.all (fun e => decide (e.1 < d.1)) = true := List.all_eq_true.2 fun e he => decide_eq_true (hq e he)
      rw [e1]
      refine decide_eq_true (List.pairwise_append.2 ⟨h'.ac, List.pairwise_singleton _ _, fun a ha b hb => ?_⟩)
      simp at hb
      rw [hb]
      exact hq a ha
    · have e1 : l.all (fun e => decide (e.1 < d.1)) = false := by
        cases hb : l.all (fun e => decide (e.1 < d.1)) with
        | false => rfl
        | true => exact absurd (fun e he => of_decide_eq_true (List.all_eq_true.1 hb e he)) hq
      rw [e1]
      refine decide_eq_false fun hp => hq fun e he => ?_
      exact (List.pairwise_append.1 hp).2.2 e he d (by simp)

/-- Behind the last it is behind all. -/
theorem all_last {l : List Dt} {p d : Dt} (h : vmb (l ++ [p]) = true) : (l ++ [p]).all (fun e => decide (e.1 < d.1)) = decide (p.1 < d.1) := by
  have h' := ((vmb_iff _).1 h).ac
  by_cases hp : p.1 < d.1
  · rw [decide_eq_true hp]
    refine List.all_eq_true.2 fun e he => decide_eq_true ?_
    rcases List.mem_append.1 he with he | he
    · have := (List.pairwise_append.1 h').2.2 e he p (by simp)
      omega
    · simp at he
      rw [he]
      exact hp
  · rw [decide_eq_false hp]
    rw [List.all_append]
    simp [hp]

/-- A part that isn't right makes the whole not right. -/
theorem vmb_take {l : List Dt} (k : Nat) (h : vmb (l.take k) = false) : vmb l = false := by
  cases hl : vmb l with
  | false => rfl
  | true =>
    have h' := (vmb_iff l).1 hl
    have : vmb (l.take k) = true := (vmb_iff _).2 ⟨h'.ac.sublist (List.take_sublist k l), fun d hd => h'.may d (List.mem_of_mem_take hd)⟩
    rw [h] at this
    cases this

/-- How many operations of an actor. -/
def gt : List Dt → Int → Int
  | [], _ => 0
  | d :: r, a => if d.1 = a then d.2 else gt r a

theorem gt_append (l m : List Dt) (a : Int) (h : ∀ d ∈ l, d.1 ≠ a) : gt (l ++ m) a = gt m a := by
  induction l with
  | nil => rfl
  | cons d r ih =>
    show (if d.1 = a then d.2 else gt (r ++ m) a) = _
    rw [if_neg (h d (List.mem_cons_self ..)), ih fun e he => h e (List.mem_cons_of_mem _ he)]

theorem gt_none {l : List Dt} {a : Int} (h : ∀ d ∈ l, d.1 ≠ a) : gt l a = 0 := by
  have := gt_append l [] a h
  simpa [gt] using this

theorem gt_some {l : List Dt} (h : Ac l) {d : Dt} (hd : d ∈ l) : gt l d.1 = d.2 := by
  induction l with
  | nil => simp at hd
  | cons e r ih =>
    obtain ⟨h1, h2⟩ := List.pairwise_cons.1 h
    rcases List.mem_cons.1 hd with rfl | hd
    · simp [gt]
    · have := h1 d hd
      show (if e.1 = d.1 then e.2 else gt r d.1) = _
      rw [if_neg (by omega)]
      exact ih h2 hd

theorem gt_cases (l : List Dt) (a : Int) : (∃ d ∈ l, d.1 = a ∧ gt l a = d.2) ∨ ((∀ d ∈ l, d.1 ≠ a) ∧ gt l a = 0) := by
  induction l with
  | nil => exact .inr ⟨fun d hd => by simp at hd, rfl⟩
  | cons e r ih =>
    by_cases he : e.1 = a
    · exact .inl ⟨e, List.mem_cons_self .., he, by simp [gt, he]⟩
    · have eq : gt (e :: r) a = gt r a := by show (if e.1 = a then e.2 else gt r a) = _; rw [if_neg he]
      rcases ih with ⟨d, hd, h1, h2⟩ | ⟨h1, h2⟩
      · exact .inl ⟨d, List.mem_cons_of_mem _ hd, h1, by rw [eq]; exact h2⟩
      · refine .inr ⟨fun d hd => ?_, by rw [eq]; exact h2⟩
        rcases List.mem_cons.1 hd with rfl | hd
        · exact he
        · exact h1 d hd

theorem VM.gt_bounds {l : List Dt} (h : VM l) (a : Int) : 0 ≤ gt l a ∧ gt l a ≤ 1073741824 := by
  rcases gt_cases l a with ⟨d, hd, _, e⟩ | ⟨_, e⟩
  · have := (mayd_iff d).1 (h.may d hd)
    rw [e]
    omega
  · rw [e]
    omega

theorem VM.gt_pos {l : List Dt} (h : VM l) {a : Int} (hp : 0 < gt l a) : mayd (a, gt l a) = true ∧ (a, gt l a) ∈ l := by
  rcases gt_cases l a with ⟨d, hd, e1, e⟩ | ⟨_, e⟩
  · have hm := h.may d hd
    have : d = (a, gt l a) := by rw [e, ← e1]
    rw [← this]
    exact ⟨hm, hd⟩
  · omega

/-- What is picked of two. -/
structure Pick (pk : Int → Int → Int) : Prop where
  zero : pk 0 0 = 0
  one : ∀ x y, pk x y = x ∨ pk x y = y

theorem pick_max : Pick (fun x y => max x y) := ⟨by decide, fun x y => by omega⟩
/-- The actors of both, rising. -/
def ua (A B : List Dt) : List Int := (rise ((A ++ B).map fun d => (d.1, (0 : Int)))).map Prod.fst

theorem mem_ua {a : Int} {A B : List Dt} : a ∈ ua A B ↔ (∃ d ∈ A, d.1 = a) ∨ (∃ d ∈ B, d.1 = a) := by
  unfold ua
  constructor
  · intro h
    obtain ⟨p, hp, rfl⟩ := List.mem_map.1 h
    rw [mem_rise] at hp
    obtain ⟨d, hd, rfl⟩ := List.mem_map.1 hp
    rcases List.mem_append.1 hd with hd | hd
    · exact .inl ⟨d, hd, rfl⟩
    · exact .inr ⟨d, hd, rfl⟩
  · intro h
    refine List.mem_map.2 ⟨(a, 0), ?_, rfl⟩
    rw [mem_rise]
    rcases h with ⟨d, hd, rfl⟩ | ⟨d, hd, rfl⟩
    · exact List.mem_map.2 ⟨d, List.mem_append.2 (.inl hd), rfl⟩
    · exact List.mem_map.2 ⟨d, List.mem_append.2 (.inr hd), rfl⟩

theorem ua_up (A B : List Dt) : (ua A B).Pairwise (fun a b => a < b) := by
  unfold ua
  rw [List.pairwise_map]
  have hz : ∀ p ∈ rise ((A ++ B).map fun d => (d.1, (0 : Int))), p.2 = 0 := fun p hp => by
    rw [mem_rise] at hp
    obtain ⟨d, _, rfl⟩ := List.mem_map.1 hp
    rfl
  refine (up_rise _).imp_of_mem fun {a b} ha hb h => ?_
  rw [dl_iff] at h
  have := hz a ha
  have := hz b hb
  omega

theorem ua_length (A B : List Dt) : (ua A B).length ≤ A.length + B.length := by
  unfold ua
  rw [List.length_map]
  refine Nat.le_trans (rise_length _) ?_
  simp

/-- Rows of numbers that rise and have the same are the same. -/
theorem asc_ext : ∀ {l m : List Int}, l.Pairwise (fun a b => a < b) → m.Pairwise (fun a b => a < b) → (∀ a, a ∈ l ↔ a ∈ m) → l = m
  | [], [], _, _, _ => rfl
  | [], b :: s, _, _, h => by have := (h b).2 (by simp); simp at this
  | a :: r, [], _, _, h => by have := (h a).1 (by simp); simp at this
  | a :: r, b :: s, h1, h2, h => by
    obtain ⟨a1, a2⟩ := List.pairwise_cons.1 h1
    obtain ⟨b1, b2⟩ := List.pairwise_cons.1 h2
    have hab : a = b := by
      rcases List.mem_cons.1 ((h a).1 (by simp)) with e | ha
      · exact e
      · rcases List.mem_cons.1 ((h b).2 (by simp)) with e | hb
        · exact e.symm
        · have := a1 b hb
          have := b1 a ha
          omega
    subst hab
    rw [asc_ext a2 b2 (fun p => ⟨fun hp => by
      rcases List.mem_cons.1 ((h p).1 (by simp [hp])) with e | hp'
      · have := a1 p hp
        omega
      · exact hp', fun hp => by
      rcases List.mem_cons.1 ((h p).2 (by simp [hp])) with e | hp'
      · have := b1 p hp
        omega
      · exact hp'⟩)]

/-- Of these actors, what is picked. -/
def pks (pk : Int → Int → Int) (A B : List Dt) (l : List Int) : List Dt := l.filterMap fun a => if 0 < pk (gt A a) (gt B a) then some (a, pk (gt A a) (gt B a)) else none

/-- Of each actor of both, what is picked. -/
def vj (pk : Int → Int → Int) (A B : List Dt) : List Dt := pks pk A B (ua A B)

theorem pks_append (pk : Int → Int → Int) (A B : List Dt) (l m : List Int) : pks pk A B (l ++ m) = pks pk A B l ++ pks pk A B m := by simp [pks]

theorem mem_pks {pk : Int → Int → Int} {A B : List Dt} {l : List Int} {d : Dt} : d ∈ pks pk A B l ↔ d.1 ∈ l ∧ 0 < d.2 ∧ d.2 = pk (gt A d.1) (gt B d.1) := by
  unfold pks
  rw [List.mem_filterMap]
  constructor
  · rintro ⟨a, ha, he⟩
    split at he
    · rename_i hp
      cases he
      exact ⟨ha, hp, rfl⟩
    · cases he
  · rintro ⟨h1, h2, h3⟩
    refine ⟨d.1, h1, ?_⟩
    rw [← h3, if_pos h2]

theorem pks_vm {pk : Int → Int → Int} (hp : Pick pk) {A B : List Dt} (hA : VM A) (hB : VM B) {l : List Int} (hl : l.Pairwise (fun a b => a < b)) : VM (pks pk A B l) := by
  refine ⟨?_, fun d hd => ?_⟩
  · unfold pks
    refine List.Pairwise.filterMap _ (fun a b hab x hx y hy => ?_) hl
    split at hx
    · split at hy
      · cases hx; cases hy; exact hab
      · cases hy
    · cases hx
  · obtain ⟨h1, h2, h3⟩ := mem_pks.1 hd
    rcases hp.one (gt A d.1) (gt B d.1) with e | e
    · have := (hA.gt_pos (a := d.1) (by omega)).1
      have e2 : d = (d.1, gt A d.1) := Prod.ext rfl (by rw [h3, e])
      rw [e2]; exact this
    · have := (hB.gt_pos (a := d.1) (by omega)).1
      have e2 : d = (d.1, gt B d.1) := Prod.ext rfl (by rw [h3, e])
      rw [e2]; exact this

theorem vj_vm {pk : Int → Int → Int} (hp : Pick pk) {A B : List Dt} (hA : VM A) (hB : VM B) : VM (vj pk A B) := pks_vm hp hA hB (ua_up A B)

theorem vj_gt {pk : Int → Int → Int} (hp : Pick pk) {A B : List Dt} (hA : VM A) (hB : VM B) (a : Int) : gt (vj pk A B) a = pk (gt A a) (gt B a) := by
  have hv := vj_vm hp hA hB
  have hnn : 0 ≤ pk (gt A a) (gt B a) := by
    have := hA.gt_bounds a
    have := hB.gt_bounds a
    rcases hp.one (gt A a) (gt B a) with e | e <;> omega
  by_cases h0 : 0 < pk (gt A a) (gt B a)
  · have hm : (a, pk (gt A a) (gt B a)) ∈ vj pk A B := by
      refine mem_pks.2 ⟨mem_ua.2 ?_, h0, rfl⟩
      rcases hp.one (gt A a) (gt B a) with e | e
      · exact .inl ⟨_, (hA.gt_pos (a := a) (by omega)).2, rfl⟩
      · exact .inr ⟨_, (hB.gt_pos (a := a) (by omega)).2, rfl⟩
    exact gt_some hv.ac hm
  · rw [gt_none fun d hd e => ?_]
    · omega
    · obtain ⟨_, h2, h3⟩ := mem_pks.1 hd
      rw [e] at h3
      omega

abbrev vjoin (A B : List Dt) : List Dt := vj (fun x y => max x y) A B
/-- With an operation. -/
def vwith (A : List Dt) (d : Dt) : List Dt := if mayd d = true then vjoin A [d] else A

theorem vwith_vm {A : List Dt} (h : VM A) (d : Dt) : VM (vwith A d) := by
  unfold vwith
  split
  · rename_i hd
    exact vj_vm pick_max h (vm_one hd)
  · exact h

theorem vwith_gt {A : List Dt} (h : VM A) {d : Dt} (hd : mayd d = true) (a : Int) : gt (vwith A d) a = if d.1 = a then max (gt A a) d.2 else gt A a := by
  unfold vwith
  rw [if_pos hd, vj_gt pick_max h (vm_one hd)]
  have := h.gt_bounds a
  simp only [gt]
  split
  · rfl
  · omega

/-- A vector made of raw dots. -/
def made (l : List Dt) : List Dt := (l.take 50).foldl vwith []

/-- Is it had? -/
def hasv (A : List Dt) (d : Dt) : Bool := mayd d && decide (d.2 ≤ gt A d.1)

/-- Is all of one in the other? -/
def belv (A B : List Dt) : Bool := A.all fun d => decide (d.2 ≤ gt B d.1)

theorem belv_iff {A B : List Dt} (hA : VM A) (hB : VM B) : belv A B = true ↔ ∀ a, gt A a ≤ gt B a := by
  unfold belv
  rw [List.all_eq_true]
  constructor
  · intro h a
    rcases gt_cases A a with ⟨d, hd, e1, e⟩ | ⟨_, e⟩
    · have := of_decide_eq_true (h d hd)
      rw [e, ← e1]
      exact this
    · have := hB.gt_bounds a
      omega
  · intro h d hd
    refine decide_eq_true ?_
    have := h d.1
    rw [gt_some hA.ac hd] at this
    exact this
end

section
open Go.RowKit
open Go.Sort (grow alloc_eq_grow grow_grow cell?_grow heap_grow_old)

theorem mixed : Try.prog.follows .mixedOrders = true := by kernel_rfl
theorem hid {p : Prop} (h : p) : Hid p := h

abbrev dv (d : Dt) : Value := .agg #[.int .i64 d.1, .int .i64 d.2]

theorem below2 {w w1 w2 : World} (h : RowKit.Below w.heap.size w w1) (k : RowKit.Below w1.heap.size w1 w2) : RowKit.Below w.heap.size w w2 := h.trans (k.mono h.size)

theorem grow_block {w : World} {b : Nat} (h : b < w.heap.size) (n : Nat) (os : Array Obj) : (grow (w.drewN n) os).heap[b]? = w.heap[b]? := by
  rw [heap_grow_old _ _ (by exact h)]
  rfl

/-- Draws and new blocks: what was there stays. -/
theorem below_class (w : World) (n : Nat) (os : Array Obj) : RowKit.Below w.heap.size w (grow (w.drewN n) os) :=
  ⟨rfl, rfl, rfl, by simp [grow], fun i hi => grow_block hi n os⟩

/-- A world that is another one behind some draws and with new blocks. -/
def Far (w wr : World) : Prop := ∃ q os, wr = grow (w.drewN q) os

theorem Far.refl (w : World) : Far w w := ⟨0, #[], by rw [Go.Sort.grow_empty]; rfl⟩
theorem Far.more {w wr : World} (h : Far w wr) (n : Nat) (os : Array Obj) : Far w (grow (wr.drewN n) os) := by
  obtain ⟨q, os', rfl⟩ := h
  exact ⟨q + n, os' ++ os, by
    show grow (grow ((w.drewN q).drewN n) os') os = _
    rw [Go.Sort.grow_grow, World.drewN_drewN]⟩
theorem Far.drewN {w wr : World} (h : Far w wr) (n : Nat) : Far w (wr.drewN n) := by
  have := h.more n #[]
  rwa [Go.Sort.grow_empty] at this
theorem Far.drew {w wr : World} (h : Far w wr) : Far w wr.drew := h.drewN 1
theorem Far.alloc {w wr : World} (h : Far w wr) (o : Obj) : Far w (wr.alloc o) := by
  have := h.more 0 #[o]
  rwa [← Go.Sort.alloc_eq_grow] at this
theorem Far.below {w wr : World} (h : Far w wr) : RowKit.Below w.heap.size w wr := by
  obtain ⟨q, os, rfl⟩ := h
  exact below_class w q os
theorem Far.trans {a b c : World} (h : Far a b) (k : Far b c) : Far a c := by
  obtain ⟨q, os, rfl⟩ := k
  exact h.more q os

/-- A call that tells something and leaves the world as it was, but for draws and new blocks. -/
abbrev Tells (f : FuncId) (args : Array Value) (w : World) (v : Value) : Prop := Calls Try.prog f args w fun e w' => e = .returned v ∧ Far w w'

/-- In the form that a region which draws asks for. -/
theorem tells_q {f : FuncId} {args : Array Value} {w : World} {v : Value} {n : Nat} {os : Array Obj} (h : Tells f args (grow (w.drewN n) os) v) : Calls Try.prog f args (grow (w.drewN n) os) fun e w'' => e = .returned v ∧ ∃ p : GrownBy, w'' = grow (w.drewN p.n) p.os :=
  Calls.grown_of (h.mono fun _ _ ⟨he, q, os', hw⟩ => ⟨he, q, os', hw⟩)

theorem rmay_any (a : Dt) (w : World) : Tells 64 #[dv a] w (.bool (mayd a)) := by
  obtain ⟨a1, a2⟩ := a
  go_enter Try.func64, Try.ntmps64
  go_wp2
  all_goals (go_ret; refine ⟨?_, (Far.refl w).alloc _⟩; simp [mayd]; try omega)

/-- The slice (a, n, c) holds these dots. -/
structure PS (w : World) (a : Option Addr) (n c : Nat) (L : List Dt) : Prop where
  len : L.length = n
  cap : n ≤ c
  max : c ≤ maxLen
  nil : a = none → n = 0 ∧ c = 0
  cells : ∀ ad, a = some ad → ∀ j u, (flat L)[j]? = some u → w.cell? (ad.add j) = some u

theorem cell_in {w : World} {p : Addr} {v : Value} (h : w.cell? p = some v) : p.block < w.heap.size := by
  rcases Nat.lt_or_ge p.block w.heap.size with hlt | hge
  · exact hlt
  · simp [World.cell?, Array.getElem?_eq_none hge] at h

theorem PS.below {w w' : World} {a : Option Addr} {n c : Nat} {L : List Dt} (h : PS w a n c L) (hb : RowKit.Below w.heap.size w w') : PS w' a n c L :=
  ⟨h.len, h.cap, h.max, h.nil, fun ad ha j u hj => by
    have := h.cells ad ha j u hj
    rw [hb.cell (cell_in this)]
    exact this⟩

theorem PS.far {w w' : World} {a : Option Addr} {n c : Nat} {L : List Dt} (h : PS w a n c L) (hb : Far w w') : PS w' a n c L := h.below hb.below

theorem PS.none (w : World) : PS w none 0 0 [] := ⟨rfl, Nat.le_refl _, Nat.zero_le _, fun _ => ⟨rfl, rfl⟩, fun _ h => by cases h⟩

/-- Where dots are, they lie at a plain address. -/
theorem PS.at {w : World} {a : Option Addr} {n c : Nat} {L : List Dt} (h : PS w a n c L) (hp : 0 < n) :
    ∃ g o, a = some ⟨g, o, Option.none⟩ ∧ g < w.heap.size ∧ ∀ i (hi : i < L.length), w.cell? ⟨g, o + i * 2, Option.none⟩ = some (.int .i64 (L[i]).1) ∧ w.cell? ⟨g, o + i * 2 + 1, Option.none⟩ = some (.int .i64 (L[i]).2) := by
  cases a with
  | none => have := (h.nil rfl).1; omega
  | some ad =>
    have hc := h.cells ad rfl
    obtain ⟨g, o, sp⟩ := ad
    have hl : 0 < L.length := by rw [h.len]; exact hp
    have h0 := hc 0 _ (by have := (flat_get L 0 hl).1; simpa using this)
    have hspot : sp = Option.none := by simpa [Addr.add] using World.cell?_spot h0
    subst hspot
    refine ⟨g, o, rfl, by have := cell_in h0; simpa [Addr.add] using this, fun i hi => ?_⟩
    obtain ⟨f1, f2⟩ := flat_get L i hi
    have e1 := hc _ _ f1
    have e2 := hc _ _ f2
    constructor
    · by_cases hi0 : i * 2 = 0
      · rw [hi0] at e1 ⊢; simpa [Addr.add] using e1
      · simpa [Addr.add, hi0] using e1
    · simpa [Addr.add, Nat.add_assoc] using e2

theorem take_snoc {L : List Dt} {k : Nat} (h : k < L.length) : L.take (k + 1) = L.take k ++ [L[k]] := by
  rw [List.take_succ_eq_append_getElem h]

theorem Try.info24 : (Try.prog.info? 24).map (fun i => (i.zero, i.size, i.bytes)) = some (some (.agg #[.int .i64 0, .int .i64 0]), 2, 16) := by kernel_rfl

/-- The slice v of n dots is of the call's own, or none, and holds L. -/
abbrev OwnV (w : World) (base : Nat) (v : Value) (L : List Dt) : Prop := w.ownsRow base 24 2 v L.length (flat L)

theorem cell_two_new (w : World) (x y : Value) (T : TypeId) : ∀ j u, ([x, y] : List Value)[j]? = some u → (w.alloc (.cells #[x, y] T)).cell? ((⟨w.heap.size, 0, none⟩ : Addr).add j) = some u := by
  intro j u hj
  match j, hj with
  | 0, hj => simp at hj; subst hj; simp [Addr.add]
  | 1, hj => simp at hj; subst hj; simp [Addr.add]

theorem ps_one (w : World) (d : Dt) : PS (w.alloc (.cells #[.int .i64 d.1, .int .i64 d.2] 24)) (some ⟨w.heap.size, 0, none⟩) 1 1 [d] :=
  ⟨rfl, Nat.le_refl _, by decide, fun h => (by cases h), fun ad ha j u hj => (by cases ha; exact cell_two_new w _ _ 24 j u hj)⟩

theorem PS.no (w : World) (ao : Option Addr) (c : Nat) (h : ao = Option.none → c = 0) (hc : c ≤ maxLen) : PS w ao 0 c [] :=
  ⟨rfl, Nat.zero_le _, hc, fun e => ⟨rfl, h e⟩, fun _ _ _ _ hj => (by simp [flat] at hj)⟩

theorem flat_drop (L : List Dt) (k : Nat) : flat (L.drop k) = (flat L).drop (k * 2) := by
  induction L generalizing k with
  | nil => simp [flat]
  | cons x r ih =>
    cases k with
    | zero => simp
    | succ k =>
      have : (k + 1) * 2 = k * 2 + 1 + 1 := by omega
      rw [this]
      simp [flat, ih]

theorem PS.take {w : World} {a : Option Addr} {n c : Nat} {L : List Dt} (h : PS w a n c L) (k : Nat) (hk : k ≤ n) : PS w a k c (L.take k) :=
  ⟨by rw [List.length_take, h.len]; omega, by have := h.cap; omega, h.max, fun e => ⟨by have := h.nil e; omega, (h.nil e).2⟩, fun ad ha j u hj => h.cells ad ha j u (by
    have e : flat L = flat (L.take k) ++ flat (L.drop k) := by rw [← flat_append, List.take_append_drop]
    rw [e, List.getElem?_append_left]
    · exact hj
    · rcases Nat.lt_or_ge j (flat (L.take k)).length with h' | h'
      · exact h'
      · rw [List.getElem?_eq_none h'] at hj; cases hj)⟩

theorem PS.drop {w : World} {g o n c : Nat} {L : List Dt} (h : PS w (some ⟨g, o, Option.none⟩) n c L) (k : Nat) (hk : k ≤ n) : PS w (some ⟨g, o + k * 2, Option.none⟩) (n - k) (c - k) (L.drop k) := by
  refine ⟨by rw [List.length_drop, h.len], by have := h.cap; omega, by have := h.max; omega, fun e => (by cases e), fun ad ha j u hj => ?_⟩
  cases ha
  rw [flat_drop, List.getElem?_drop] at hj
  have := h.cells _ rfl _ _ hj
  have e1 : ((⟨g, o + k * 2, Option.none⟩ : Addr).add j) = ((⟨g, o, Option.none⟩ : Addr).add (k * 2 + j)) := by
    by_cases hj0 : j = 0
    · subst hj0
      by_cases hk0 : k * 2 = 0
      · simp [Addr.add, hk0]
      · simp [Addr.add, hk0]
    · simp [Addr.add, hj0, Nat.add_assoc]
  rw [e1]
  exact this

theorem owned_ps {w : World} {base : Nat} {v : Value} {n : Nat} {L : List Dt} (h : w.ownsRow base 24 2 v n (flat L)) (hl : L.length = n) : ∃ a c, v = .slice a n c ∧ PS w a n c L := by
  rcases h.2 with ⟨rfl, rfl⟩ | ⟨g, cap, cur, rfl, hg, hb, hn, hcap, hsz, ht⟩
  · have : L = [] := List.eq_nil_of_length_eq_zero hl
    subst this
    exact ⟨none, 0, rfl, PS.none w⟩
  · exact ⟨_, _, rfl, hl, hn, hcap, fun h => (by cases h), fun ad ha j u hj => (by cases ha; exact h.cells (g := g) rfl j u hj)⟩

theorem flat_one (L : List Dt) : ∀ u ∈ flat L, u.oneCell' = true := by
  induction L with
  | nil => intro u hu; simp [flat] at hu
  | cons d r ih =>
    intro u hu
    simp only [flat, List.mem_cons] at hu
    rcases hu with rfl | rfl | hu
    · rfl
    · rfl
    · exact ih u hu

/-- append of a row of dots, none or not, to a slice of the call's own. -/
theorem wpList_append_dots {w : World} {ops : Array Oper} {rest : List Oper} {o : Oper} {a : Act} {Q : Exit → Act → World → Prop} (hgd : o.guard = none) (s x : Operand) (t : TypeId) (ht : Try.prog.underlying t = some (.slice 24))
    (ho : o.op = .call { callee := .builtin .append, args := #[s, x], argTypes := #[t, t] }) (base : Nat) (v : Value) (n : Nat) (xs : List Value) (hs : a.eval s = v) (hown : w.ownsRow base 24 2 v n xs)
    (ao : Option Addr) (m c : Nat) (L : List Dt) (hx : a.eval x = .slice ao m c) (hL : PS w ao m c L) (hb : n + m ≤ 8000000) (hbase : base ≤ w.heap.size)
    (h : ∀ v' w', w'.ownsRow base 24 2 v' (n + m) (xs ++ flat L) → w.grownBy w' v.ownBlock → wpList Try.prog ops Q rest (a.put o.dst v') w') : wpList Try.prog ops Q (o :: rest) a w := by
  obtain ⟨i0, hi, hz0, hz1, hz2⟩ := info_parts Try.info24
  cases ao with
  | none =>
    obtain ⟨rfl, rfl⟩ := hL.nil rfl
    have : L = [] := List.eq_nil_of_length_eq_zero hL.len
    subst this
    refine wpList_append_own_none hgd s x t ho base 24 i0 2 ht hi v n xs hs hown hx ?_
    exact h v w (by simpa [flat] using hown) (World.grownBy.refl _ _)
  | some ad =>
    exact wpList_append_own w hgd s x t ho base 24 i0 _ 2 16 ht hi hz0 hz1 hz2 rfl (by decide) v n xs hs hown ad m c (flat L) hx (by rw [flat_length, hL.len]) (hL.cells ad rfl) (flat_one L) (by unfold maxLen; omega) (by omega) hbase
      (fun v' w' h1 h2 _ => h v' w' h1 h2)

/-- A call answers a slice of its own that holds L. -/
def Gives (w : World) (L : List Dt) (e : Ending) (w' : World) : Prop := ∃ v, e = .returned v ∧ w'.ownsRow w.heap.size 24 2 v L.length (flat L) ∧ RowKit.Below w.heap.size w w'
end

section
open Go.RowKit

abbrev Bs := List UInt8

/-- A key. -/
structure Ky (k : Bs) : Prop where
  ne : k ≠ []
  len : k.length ≤ 200
  rng : ∀ c ∈ k, 97 ≤ c.toNat ∧ c.toNat ≤ 122
  last : ∀ i (h : i < k.length), i + 1 = k.length → k[i].toNat ≠ 97

/-- Whether a row of bytes is a key. -/
def kyb (k : Bs) : Bool := !(k == []) && decide (k.length ≤ 200) && k.all (fun c => decide (97 ≤ c.toNat) && decide (c.toNat ≤ 122)) && !(k.getLast? == some 97)

theorem kyb_iff (k : Bs) : kyb k = true ↔ Ky k := by
  unfold kyb
  simp only [Bool.and_eq_true, Bool.not_eq_true', beq_eq_false_iff_ne, decide_eq_true_eq, List.all_eq_true]
  constructor
  · rintro ⟨⟨⟨h1, h2⟩, h3⟩, h4⟩
    refine ⟨h1, h2, h3, fun i hi he hc => h4 ?_⟩
    rw [List.getLast?_eq_getElem?, show k.length - 1 = i by omega, List.getElem?_eq_getElem hi]
    congr 1
    exact UInt8.toNat_inj.1 hc
  · intro h
    refine ⟨⟨⟨h.ne, h.len⟩, h.rng⟩, fun hc => ?_⟩
    have hp : 0 < k.length := by
      rcases Nat.eq_zero_or_pos k.length with h0 | h0
      · exact absurd (List.eq_nil_of_length_eq_zero h0) h.ne
      · exact h0
    rw [List.getLast?_eq_getElem?, List.getElem?_eq_getElem (by omega : k.length - 1 < k.length)] at hc
    have := h.last (k.length - 1) (by omega) (by omega)
    rw [Option.some.inj hc] at this
    exact this rfl

theorem kyb_false {k : Bs} (h : ¬ Ky k) : kyb k = false := by
  cases hk : kyb k with
  | false => rfl
  | true => exact absurd ((kyb_iff k).1 hk) h

theorem tl_length (s : ByteArray) : s.toList.length = s.size := by rw [ByteArray.toList_eq]; rfl
theorem tl_get (s : ByteArray) (i : Nat) (h : i < s.size) : s.toList[i]'(by rw [tl_length]; exact h) = s[i] := by
  have e := ByteArray.toList_eq s
  simp only [e]
  rfl
theorem tl_mem (s : ByteArray) (i : Nat) (h : i < s.size) : s[i] ∈ s.toList := by
  rw [← tl_get s i h]; exact List.getElem_mem _
theorem tl_nil (s : ByteArray) : s.toList = [] ↔ s.size = 0 := by
  rw [← tl_length, List.length_eq_zero_iff]
theorem ky_short (s : ByteArray) (h : s.size = 0) : kyb s.toList = false := kyb_false fun k => k.ne ((tl_nil s).2 h)
theorem ky_long (s : ByteArray) (h : 200 < s.size) : kyb s.toList = false := kyb_false fun k => by have := k.len; rw [tl_length] at this; omega
theorem ky_out (s : ByteArray) (i : Nat) (h : i < s.size) (ho : s[i].toNat < 97 ∨ 122 < s[i].toNat) : kyb s.toList = false :=
  kyb_false fun k => by have := k.rng _ (tl_mem s i h); omega
theorem ky_last (s : ByteArray) (i : Nat) (h : i < s.size) (hi : i + 1 = s.size) (h97 : s[i].toNat = 97) : kyb s.toList = false :=
  kyb_false fun k => k.last i (by rw [tl_length]; exact h) (by rw [tl_length]; exact hi) (by rw [tl_get s i h]; exact h97)
theorem ky_all (s : ByteArray) (i : Nat) (h : i < s.size) (hi : i + 1 = s.size) (h200 : s.size ≤ 200) (hr : ∀ j (hj : j < s.size), 97 ≤ s[j].toNat ∧ s[j].toNat ≤ 122) (h97 : s[i].toNat ≠ 97) : kyb s.toList = true := by
  rw [kyb_iff]
  refine ⟨fun e => by rw [tl_nil] at e; omega, by rw [tl_length]; exact h200, fun c hc => ?_, fun j hj he => ?_⟩
  · obtain ⟨j, hj, rfl⟩ := List.mem_iff_getElem.1 hc
    have hj' : j < s.size := by rw [tl_length] at hj; exact hj
    rw [tl_get s j hj']; exact hr j hj'
  · have hj' : j < s.size := by rw [tl_length] at hj; exact hj
    obtain rfl : j = i := by rw [tl_length] at he; omega
    rw [tl_get s j hj']; exact h97

set_option maxHeartbeats 400000 in
theorem rkmay_any (s : ByteArray) (w : World) (hs : s.size ≤ maxLen) :
    Calls Try.prog 70 #[.string s] w fun e w' => e = .returned (.bool (kyb s.toList)) ∧ w = w' := by
  unfold maxLen at hs
  by_cases h0 : s.size = 0
  · rw [ky_short s h0]
    have hz : ((s.size : Int) == 0) = true := by rw [h0]; rfl
    clear h0
    go_enter Try.func70, Try.ntmps70
    go_wp2
    go_ret
    exact ⟨rfl, rfl⟩
  by_cases h2 : 200 < s.size
  · rw [ky_long s h2]
    have hz : ((s.size : Int) == 0) = false := beq_eq_false_iff_ne.2 (by omega)
    have hd : decide ((200 : Int) < (s.size : Int)) = true := decide_eq_true (by omega)
    go_enter Try.func70, Try.ntmps70
    go_wp2
    go_ret
    exact ⟨rfl, rfl⟩
  have hp : 0 < s.size := by omega
  have hz : ((s.size : Int) == 0) = false := beq_eq_false_iff_ne.2 (by omega)
  have hd : decide ((200 : Int) < (s.size : Int)) = false := decide_eq_false (by omega)
  clear h0
  obtain ⟨m, hm⟩ : ∃ m, m + 1 = s.size := ⟨s.size - 1, by omega⟩
  have hml : m < s.size := by omega
  have e1 : (s.size : Int) - 1 = m := by omega
  by_cases h97 : s[m].toNat = 97
  · rw [ky_last s m hml hm h97]
    have H97 : ((s[m].toNat : Int) == 97) = true := by rw [h97]; rfl
    clear hm
    go_enter Try.func70, Try.ntmps70
    go_wp2
    go_ret
    exact ⟨rfl, rfl⟩
  have H97 : ((s[m].toNat : Int) == 97) = false := beq_eq_false_iff_ne.2 (by omega)
  have Hm := hid hm
  clear hm
  go_enter Try.func70, Try.ntmps70
  go_wp2
  clear e1
  go_loop [3] (fun i => ∃ k : Nat, k ≤ s.size ∧ i = .int .i64 k ∧ Hid (∀ j (hj : j < s.size), j < k → 97 ≤ s[j].toNat ∧ s[j].toNat ≤ 122)) (fun i => s.size - (intOf i).toNat)
  case atStart => exact ⟨0, Nat.zero_le _, rfl, hid (fun j _ h => by omega)⟩
  case round =>
    obtain ⟨k, hk, rfl, HH⟩ := hrel
    by_cases hlt : k < s.size
    · by_cases h1 : s[k].toNat < 97
      · have e := hid (ky_out s k hlt (.inl h1))
        go_wp2
        go_ret
        rw [e.out]
        exact ⟨rfl, rfl⟩
      by_cases h3 : 122 < s[k].toNat
      · have e := hid (ky_out s k hlt (.inr h3))
        go_wp2
        go_ret
        rw [e.out]
        exact ⟨rfl, rfl⟩
      go_wp2
      go_round
      case rel => exact ⟨k + 1, by omega, by go_num, hid (fun j hj h => by
        by_cases hjk : j = k
        · subst hjk; omega
        · exact HH.out j hj (by omega))⟩
      case measure => simp [intOf]; omega
    · have e := hid (ky_all s m hml Hm.out (by omega) (fun j hj => HH.out j hj (by omega)) h97)
      go_wp2
      go_ret
      rw [e.out]
      exact ⟨rfl, rfl⟩
end

section
open Go.RowKit
open Go.Sort (grow)

theorem take_prev {L : List Dt} {k : Nat} (hk : k < L.length) (hp : 0 < k) : L.take k = L.take (k - 1) ++ [L[k - 1]] := by
  have := take_snoc (L := L) (k := k - 1) (by omega)
  rw [show k - 1 + 1 = k by omega] at this
  exact this

/-- One step of May. -/
theorem may_step {L : List Dt} {k : Nat} (hk : k < L.length) (h : vmb (L.take k) = true) : vmb (L.take (k + 1)) = (mayd L[k] && (decide (k = 0) || decide ((L[k - 1]'(by omega)).1 < L[k].1))) := by
  rw [take_snoc hk, vmb_snoc h]
  by_cases h0 : k = 0
  · subst h0
    simp
  · have e := take_prev hk (by omega)
    rw [e] at h ⊢
    rw [all_last h]
    simp [h0]

set_option maxRecDepth 100000 in
set_option maxHeartbeats 2000000 in
theorem rvmay_any (a : Option Addr) (n c : Nat) (L : List Dt) (w : World) (hs : PS w a n c L) (hn : n ≤ 9223372036854775807) : Tells 69 #[.slice a n c] w (.bool (vmb L)) := by
  have mixed := mixed
  have HL := hid hs.len
  go_enter Try.func69, Try.ntmps69
  go_wp2
  go_loopw [3] (fun i wr => ∃ k : Nat, k ≤ n ∧ i = .int .i64 k ∧ vmb (L.take k) = true ∧ Far w wr) (fun i _ => n - (intOf i).toNat)
  case atStart => exact ⟨0, by omega, rfl, by rw [List.take_zero]; rfl, Far.refl _⟩
  case round =>
    obtain ⟨k, hk, rfl, htk0, hW⟩ := hrel
    have htk := hid htk0
    clear htk0
    by_cases hlt : k < n
    · have hl := HL.out
      obtain ⟨g, o, rfl, hg, hcell⟩ := (hs.far hW).at (by omega)
      obtain ⟨hc0, hc1⟩ := hcell k (by omega)
      have hst : Hid _ := hid (may_step (L := L) (k := k) (by omega) htk.out)
      have hp0 : 0 < k → wr.cell? ⟨g, o + (k - 1) * 2, none⟩ = some (.int .i64 (L[k - 1]'(by omega)).1) := fun _ => (hcell (k - 1) (by omega)).1
      generalize (L[k]'(by omega)) = d at hc0 hc1 hst
      generalize (L[k - 1]'(by omega)) = p at hp0 hst
      obtain ⟨d1, d2⟩ := d
      obtain ⟨p1, p2⟩ := p
      have hM := rmay_any (d1, d2) wr
      generalize hr : mayd (d1, d2) = r at hM hst
      clear hs hcell hl hr
      go_wp2_with (first | (go_at_call 64; refine hM.mono ?_; rintro e w1 ⟨rfl, hF1⟩))
      have HW := hW.trans hF1
      have e0 := (hF1.below.cell (p := ⟨g, o + k * 2, none⟩) hg).trans hc0
      have p0 : 0 < k → w1.cell? ⟨g, o + (k - 1) * 2, none⟩ = some (.int .i64 p1) := fun h => (hF1.below.cell (p := ⟨g, o + (k - 1) * 2, none⟩) hg).trans (hp0 h)
      have E0 := fun m os => cell_grown (cell_in e0) e0 m os
      have hk1' : (k : Int) < (n : Int) := by omega
      have hk0' : (0 : Int) ≤ (k : Int) := by omega
      clear hc0 hc1 hM hp0 hW hF1 hg e0
      cases r
      · refine wp_region_quiet_grown mixed (by kernel_rfl) ?_
        repeat (go_big_quiet_step (fail))
        refine wpQuiet_nil ?_
        intro _ hw'
        obtain ⟨⟨nq, osq⟩, hw''⟩ := hw'
        subst hw''
        simp only []
        go_wp2
        go_ret
        exact ⟨by rw [vmb_take (k + 1) (by rw [hst.out]; rfl)]; rfl, HW.more nq osq⟩
      · by_cases h0 : k = 0
        · subst h0
          refine wp_region_quiet_grown mixed (by kernel_rfl) ?_
          repeat (go_big_quiet_step (fail))
          refine wpQuiet_nil ?_
          intro _ hw'
          obtain ⟨⟨nq, osq⟩, hw''⟩ := hw'
          subst hw''
          simp only []
          go_wp2
          go_roundw
          case rel => exact ⟨1, by omega, by go_num, by have := hst.out; simpa using this, HW.more nq osq⟩
          case measure => simp [intOf]; omega
        · have hq := p0 (by omega)
          have P0 := fun m os => cell_grown (cell_in hq) hq m os
          have hk1 : (k : Int) - 1 = ((k - 1 : Nat) : Int) := by omega
          have hkp : (0 : Int) < (k : Int) := by omega
          obtain ⟨j, rfl⟩ : ∃ j, k = j + 1 := ⟨k - 1, by omega⟩
          simp only [Nat.add_sub_cancel] at P0 hk1 hst
          have hjn : (j : Int) < (n : Int) := by omega
          have hj0 : (0 : Int) ≤ (j : Int) := by omega
          clear hq p0
          by_cases hpd : p1 < d1
          · have hge : ¬ (d1 ≤ p1) := by omega
            refine wp_region_quiet_grown mixed (by kernel_rfl) ?_
            repeat (go_big_quiet_step (fail))
            refine wpQuiet_nil ?_
            intro _ hw'
            obtain ⟨⟨nq, osq⟩, hw''⟩ := hw'
            subst hw''
            simp only []
            go_wp2
            go_roundw
            case rel => exact ⟨j + 1 + 1, by omega, by go_num, by have := hst.out; simpa [hpd] using this, HW.more nq osq⟩
            case measure => simp [intOf]; omega
          · have hge : d1 ≤ p1 := by omega
            refine wp_region_quiet_grown mixed (by kernel_rfl) ?_
            repeat (go_big_quiet_step (fail))
            refine wpQuiet_nil ?_
            intro _ hw'
            obtain ⟨⟨nq, osq⟩, hw''⟩ := hw'
            subst hw''
            simp only []
            go_wp2
            go_ret
            exact ⟨by rw [vmb_take (j + 1 + 1) (by rw [hst.out]; simp; omega)]; rfl, HW.more nq osq⟩
    · obtain rfl : k = n := by omega
      go_wp2
      go_ret
      have h := htk.out
      rw [List.take_of_length_le (by rw [HL.out]; exact Nat.le_refl _)] at h
      exact ⟨by rw [h]; rfl, hW⟩
end
end Go.Proofs.Ytplcohjpchfkkaa
