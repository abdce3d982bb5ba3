/- Dots as pairs of numbers: their order, rows that rise, and what puts a row in order. No function of the program. -/
import Derived.WalkKit
namespace Go.Proofs.Ytbpepmajpojacaa

/-- A dot: its Act and its Seq. -/
abbrev Dt := Int × Int

/-- Is a ahead of b? -/
def dl (a b : Dt) : Bool := decide (a.1 < b.1) || (decide (a.1 = b.1) && decide (a.2 < b.2))

theorem dl_iff (a b : Dt) : dl a b = true ↔ a.1 < b.1 ∨ (a.1 = b.1 ∧ a.2 < b.2) := by simp [dl]

theorem dl_irrefl (a : Dt) : dl a a = false := by simp [dl]

theorem dl_trans {a b c : Dt} (h : dl a b = true) (k : dl b c = true) : dl a c = true := by
  rw [dl_iff] at *
  omega

theorem dl_asymm {a b : Dt} (h : dl a b = true) : dl b a = false := by
  cases hb : dl b a
  · rfl
  · have := dl_trans h hb
    rw [dl_irrefl] at this
    cases this

theorem dl_total {a b : Dt} (h : a ≠ b) (k : dl a b = false) : dl b a = true := by
  have k' : ¬ dl a b = true := by rw [k]; simp
  rw [dl_iff] at *
  have : ¬ (a.1 = b.1 ∧ a.2 = b.2) := fun ⟨e1, e2⟩ => h (Prod.ext e1 e2)
  omega

/-- A row that rises. -/
def Up (l : List Dt) : Prop := l.Pairwise (fun a b => dl a b = true)

/-- Rising rows with the same dots are one row. -/
theorem up_ext : ∀ {l l' : List Dt}, Up l → Up l' → (∀ d, d ∈ l ↔ d ∈ l') → l = l'
  | [], [], _, _, _ => rfl
  | [], b :: s, _, _, h => by have := (h b).2 (by simp); simp at this
  | a :: r, [], _, _, h => by have := (h a).1 (by simp); simp at this
  | a :: r, b :: s, h1, h2, h => by
    obtain ⟨a1, a2⟩ := List.pairwise_cons.1 h1
    obtain ⟨b1, b2⟩ := List.pairwise_cons.1 h2
    have hab : a = b := by
      rcases List.mem_cons.1 ((h a).1 (by simp)) with e | ha
      · exact e
      · rcases List.mem_cons.1 ((h b).2 (by simp)) with e | hb
        · exact e.symm
        · have := dl_trans (a1 b hb) (b1 a ha)
          rw [dl_irrefl] at this
          cases this
    subst hab
    rw [up_ext a2 b2 (fun p => ⟨fun hp => by
      rcases List.mem_cons.1 ((h p).1 (by simp [hp])) with e | hp'
      · have := a1 p hp
        rw [e, dl_irrefl] at this
        cases this
      · exact hp', fun hp => by
      rcases List.mem_cons.1 ((h p).2 (by simp [hp])) with e | hp'
      · have := b1 p hp
        rw [e, dl_irrefl] at this
        cases this
      · exact hp'⟩)]

theorem up_nodup : ∀ {l : List Dt}, Up l → l.Nodup
  | [], _ => List.nodup_nil
  | x :: r, h => by
    obtain ⟨h1, h2⟩ := List.pairwise_cons.1 h
    refine List.nodup_cons.2 ⟨fun hm => ?_, up_nodup h2⟩
    have := h1 x hm
    rw [dl_irrefl] at this
    cases this

/-- A rising row with one more dot. -/
def ins : List Dt → Dt → List Dt
  | [], d => [d]
  | x :: r, d => if dl x d = true then x :: ins r d else if x = d then x :: r else d :: x :: r

theorem mem_ins (e d : Dt) : ∀ l : List Dt, e ∈ ins l d ↔ e = d ∨ e ∈ l
  | [] => by simp [ins]
  | x :: r => by
    unfold ins
    split
    · simp [mem_ins e d r]
      constructor
      · rintro (h | h | h) <;> simp [h]
      · rintro (h | h | h) <;> simp [h]
    · split
      · rename_i hx
        subst hx
        simp
      · simp

theorem up_ins (d : Dt) : ∀ {l : List Dt}, Up l → Up (ins l d)
  | [], _ => by simp [ins, Up]
  | x :: r, h => by
    obtain ⟨h1, h2⟩ := List.pairwise_cons.1 h
    unfold ins
    split
    · rename_i hx
      refine List.pairwise_cons.2 ⟨fun q hq => ?_, up_ins d h2⟩
      rcases (mem_ins q d r).1 hq with rfl | hq
      · exact hx
      · exact h1 q hq
    · rename_i hx
      split
      · exact h
      · rename_i hne
        have hdx : dl d x = true := dl_total hne (by simpa using hx)
        refine List.pairwise_cons.2 ⟨fun q hq => ?_, h⟩
        rcases List.mem_cons.1 hq with rfl | hq
        · exact hdx
        · exact dl_trans hdx (h1 q hq)

theorem ins_length (d : Dt) : ∀ l : List Dt, (ins l d).length ≤ l.length + 1
  | [] => by simp [ins]
  | x :: r => by
    have := ins_length d r
    unfold ins
    split
    · simp; omega
    · split <;> simp

/-- A row put in order. -/
def rise (l : List Dt) : List Dt := l.foldl ins []

theorem rise_snoc (l : List Dt) (d : Dt) : rise (l ++ [d]) = ins (rise l) d := by simp [rise, List.foldl_append]

theorem up_foldl (l : List Dt) : ∀ acc : List Dt, Up acc → Up (l.foldl ins acc) := by
  induction l with
  | nil => exact fun _ h => h
  | cons x r ih => exact fun acc h => ih _ (up_ins x h)

theorem mem_foldl (e : Dt) (l : List Dt) : ∀ acc : List Dt, e ∈ l.foldl ins acc ↔ e ∈ acc ∨ e ∈ l := by
  induction l with
  | nil => simp
  | cons x r ih =>
    intro acc
    rw [List.foldl_cons, ih, mem_ins]
    simp only [List.mem_cons]
    constructor
    · rintro ((h | h) | h) <;> simp [h]
    · rintro (h | h | h) <;> simp [h]

theorem up_rise (l : List Dt) : Up (rise l) := up_foldl l [] (by simp [Up])
theorem mem_rise (e : Dt) (l : List Dt) : e ∈ rise l ↔ e ∈ l := by simp [rise, mem_foldl]

theorem len_foldl (l : List Dt) : ∀ acc : List Dt, (l.foldl ins acc).length ≤ acc.length + l.length := by
  induction l with
  | nil => simp
  | cons x r ih =>
    intro acc
    have := ih (ins acc x)
    have := ins_length x acc
    simp only [List.foldl_cons, List.length_cons]
    omega

theorem rise_length (l : List Dt) : (rise l).length ≤ l.length := by
  have := len_foldl l []
  simpa [rise] using this

/-- What rises and has just a row's dots is that row put in order. -/
theorem eq_rise {s l : List Dt} (h : Up s) (k : ∀ d, d ∈ s ↔ d ∈ l) : s = rise l := up_ext h (up_rise l) (fun d => by rw [k, mem_rise])

theorem rise_of_up {s : List Dt} (h : Up s) : rise s = s := (eq_rise h (fun _ => Iff.rfl)).symm

/-- What is in one of both, in both, in the first alone. -/
def uni (a b : List Dt) : List Dt := rise (a ++ b)
def mee (a b : List Dt) : List Dt := rise (a.filter fun d => decide (d ∈ b))
def mis (a b : List Dt) : List Dt := rise (a.filter fun d => !decide (d ∈ b))

theorem mem_uni {d : Dt} {a b : List Dt} : d ∈ uni a b ↔ d ∈ a ∨ d ∈ b := by simp [uni, mem_rise]
theorem mem_mee {d : Dt} {a b : List Dt} : d ∈ mee a b ↔ d ∈ a ∧ d ∈ b := by simp [mee, mem_rise]
theorem mem_mis {d : Dt} {a b : List Dt} : d ∈ mis a b ↔ d ∈ a ∧ d ∉ b := by simp [mis, mem_rise]

theorem uni_turned (a b : List Dt) : uni a b = uni b a := up_ext (up_rise _) (up_rise _) (fun d => by rw [mem_uni, mem_uni]; exact Or.comm)
theorem mee_turned (a b : List Dt) : mee a b = mee b a := up_ext (up_rise _) (up_rise _) (fun d => by rw [mem_mee, mem_mee]; exact And.comm)
theorem uni_parts (a b : List Dt) : uni (mee a b) (mis a b) = rise a := up_ext (up_rise _) (up_rise _) (fun d => by
  rw [mem_uni, mem_mee, mem_mis, mem_rise]
  by_cases h : d ∈ b <;> simp [h])
theorem uni_three (a b c : List Dt) : uni (uni a b) c = uni a (uni b c) := up_ext (up_rise _) (up_rise _) (fun d => by simp only [mem_uni, or_assoc])
theorem rise_uni (a b : List Dt) : rise (uni a b) = uni a b := rise_of_up (up_rise _)
theorem mis_rise (l : List Dt) : mis l (rise l) = [] := by
  have : ∀ d, d ∉ mis l (rise l) := fun d h => by rw [mem_mis, mem_rise] at h; exact h.2 h.1
  exact List.eq_nil_iff_forall_not_mem.2 this

/-- Both numbers are int's. -/
def Dw (d : Dt) : Prop := (Lit.int .i64 d.1).wf = true ∧ (Lit.int .i64 d.2).wf = true
def Dws (l : List Dt) : Prop := ∀ d ∈ l, Dw d

theorem Dws.rise {l : List Dt} (h : Dws l) : Dws (rise l) := fun d hd => h d ((mem_rise d l).1 hd)
theorem Dws.append {l m : List Dt} (h : Dws l) (k : Dws m) : Dws (l ++ m) := fun d hd => by
  rcases List.mem_append.1 hd with hd | hd
  · exact h d hd
  · exact k d hd
theorem Dws.uni {a b : List Dt} (h : Dws a) (k : Dws b) : Dws (uni a b) := (h.append k).rise
theorem Dws.mee {a : List Dt} (h : Dws a) (b : List Dt) : Dws (mee a b) := fun d hd => h d (mem_mee.1 hd).1
theorem Dws.mis {a : List Dt} (h : Dws a) (b : List Dt) : Dws (mis a b) := fun d hd => h d (mem_mis.1 hd).1

theorem uni_length (a b : List Dt) : (uni a b).length ≤ a.length + b.length := by have := rise_length (a ++ b); simpa [Go.Proofs.Ytbpepmajpojacaa.uni] using this
theorem mee_length (a b : List Dt) : (mee a b).length ≤ a.length := Nat.le_trans (rise_length _) (List.length_filter_le _ _)
theorem mis_length (a b : List Dt) : (mis a b).length ≤ a.length := Nat.le_trans (rise_length _) (List.length_filter_le _ _)

/-- The cells of a row of dots. -/
def flat : List Dt → List Value
  | [] => []
  | d :: r => .int .i64 d.1 :: .int .i64 d.2 :: flat r

theorem flat_length : ∀ l : List Dt, (flat l).length = l.length * 2
  | [] => rfl
  | d :: r => by simp [flat, flat_length r]; omega

theorem flat_append : ∀ l m : List Dt, flat (l ++ m) = flat l ++ flat m
  | [], m => rfl
  | d :: r, m => by simp [flat, flat_append r m]

theorem flat_get : ∀ (l : List Dt) (i : Nat) (h : i < l.length), (flat l)[i * 2]? = some (.int .i64 (l[i]).1) ∧ (flat l)[i * 2 + 1]? = some (.int .i64 (l[i]).2)
  | [], i, h => by simp at h
  | d :: r, 0, h => by simp [flat]
  | d :: r, i + 1, h => by
    have := flat_get r i (by simpa using h)
    have e : (i + 1) * 2 = (i * 2) + 1 + 1 := by omega
    rw [e]
    simpa [flat] using this

end Go.Proofs.Ytbpepmajpojacaa
