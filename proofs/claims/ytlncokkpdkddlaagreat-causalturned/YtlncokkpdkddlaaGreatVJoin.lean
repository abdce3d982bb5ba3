/- Join, Meet, With: what they answer, in new memory. -/
import Derived.Test.YtlncokkpdkddlaaGreatVSame
namespace Go.Proofs.YtlncokkpdkddlaaGreat
section
open Go.RowKit
open Go.Sort (grow)

/-- The least actor of both. -/
def fa : List Dt → List Dt → Int
  | [], [] => 0
  | [], e :: _ => e.1
  | d :: _, [] => d.1
  | d :: _, e :: _ => if d.1 < e.1 then d.1 else e.1

/-- What the first dot has of an actor, and what lies behind it. -/
def hdv : List Dt → Int → Int
  | [], _ => 0
  | d :: _, y => if d.1 = y then d.2 else 0
def tlv : List Dt → Int → List Dt
  | [], _ => []
  | d :: r, y => if d.1 = y then r else d :: r

theorem fa_low {A B : List Dt} (hA : VM A) (hB : VM B) : (∀ e ∈ A, fa A B ≤ e.1) ∧ (∀ e ∈ B, fa A B ≤ e.1) := by
  cases A with
  | nil =>
    refine ⟨fun e he => by simp at he, fun e he => ?_⟩
    cases B with
    | nil => simp at he
    | cons d r =>
      rcases List.mem_cons.1 he with rfl | he
      · exact Int.le_refl _
      · have := hB.ahead e he
        simp only [fa]
        omega
  | cons a r =>
    cases B with
    | nil =>
      refine ⟨fun e he => ?_, fun e he => by simp at he⟩
      rcases List.mem_cons.1 he with rfl | he
      · exact Int.le_refl _
      · have := hA.ahead e he
        simp only [fa]
        omega
    | cons b s =>
      have h1 := hA.ahead
      have h2 := hB.ahead
      refine ⟨fun e he => ?_, fun e he => ?_⟩
      · simp only [fa]
        rcases List.mem_cons.1 he with rfl | he
        · split <;> omega
        · have := h1 e he
          split <;> omega
      · simp only [fa]
        rcases List.mem_cons.1 he with rfl | he
        · split <;> omega
        · have := h2 e he
          split <;> omega

theorem fa_there {A B : List Dt} (h : 0 < A.length + B.length) : (∃ e ∈ A, e.1 = fa A B) ∨ (∃ e ∈ B, e.1 = fa A B) := by
  cases A with
  | nil =>
    cases B with
    | nil => simp at h
    | cons b s => exact .inr ⟨b, by simp, rfl⟩
  | cons a r =>
    cases B with
    | nil => exact .inl ⟨a, by simp, rfl⟩
    | cons b s =>
      by_cases hab : a.1 < b.1
      · exact .inl ⟨a, by simp, by simp [fa, hab]⟩
      · exact .inr ⟨b, by simp, by simp [fa, hab]⟩

structure Hd (L : List Dt) (y : Int) : Prop where
  val : hdv L y = gt L y
  rest : ∀ a, gt (tlv L y) a = if a = y then 0 else gt L a
  vm : VM (tlv L y)
  far : ∀ e ∈ tlv L y, y < e.1 ∧ e ∈ L
  len : (tlv L y).length ≤ L.length
  less : (∃ e ∈ L, e.1 = y) → (tlv L y).length < L.length

theorem hd_spec {L : List Dt} (h : VM L) {y : Int} (hy : ∀ e ∈ L, y ≤ e.1) : Hd L y := by
  cases L with
  | nil => exact ⟨rfl, fun a => by simp [tlv, gt], vm_nil, fun e he => by simp [tlv] at he, by simp [tlv], fun ⟨e, he, _⟩ => by simp at he⟩
  | cons d r =>
    have h1 := h.ahead
    by_cases hd : d.1 = y
    · have e : tlv (d :: r) y = r := by simp [tlv, hd]
      refine ⟨by simp [hdv, gt, hd], fun a => ?_, by rw [e]; exact h.tail, fun q hq => ?_, by rw [e]; simp, fun _ => by rw [e]; simp⟩
      · rw [e]
        by_cases ha : a = y
        · rw [if_pos ha]
          exact gt_none fun q hq => by have := h1 q hq; omega
        · rw [if_neg ha]
          simp only [gt]
          rw [if_neg (by omega)]
      · rw [e] at hq
        exact ⟨by have := h1 q hq; omega, List.mem_cons_of_mem _ hq⟩
    · have e : tlv (d :: r) y = d :: r := by simp [tlv, hd]
      have h0 := hy d (by simp)
      have hall : ∀ q ∈ d :: r, y < q.1 := fun q hq => by
        rcases List.mem_cons.1 hq with rfl | hq
        · omega
        · have := h1 q hq; omega
      have hz : gt (d :: r) y = 0 := gt_none fun q hq => by have := hall q hq; omega
      refine ⟨by rw [hz]; simp [hdv, hd], fun a => ?_, by rw [e]; exact h, fun q hq => ?_, by rw [e]; simp, fun ⟨q, hq, hq1⟩ => by have := hall q hq; omega⟩
      · rw [e]
        by_cases ha : a = y
        · rw [if_pos ha, ha, hz]
        · rw [if_neg ha]
      · rw [e] at hq
        exact ⟨hall q hq, hq⟩

/-- Part of the way through. -/
structure MI (pk : Int → Int → Int) (A B R A1 B1 : List Dt) : Prop where
  r : VM R
  a : VM A1
  b : VM B1
  ra : ∀ d ∈ R, ∀ e ∈ A1, d.1 < e.1
  rb : ∀ d ∈ R, ∀ e ∈ B1, d.1 < e.1
  eq : ∀ y, pk (gt A y) (gt B y) = gt R y + pk (gt A1 y) (gt B1 y)
  len : R.length + A1.length + B1.length ≤ A.length + B.length

theorem MI.start {pk : Int → Int → Int} {A B : List Dt} (hA : VM A) (hB : VM B) : MI pk A B [] A B :=
  ⟨vm_nil, hA, hB, fun d hd => by simp at hd, fun d hd => by simp at hd, fun y => by simp [gt], by simp⟩

theorem gt_snoc {R : List Dt} {y z : Int} (h : ∀ d ∈ R, d.1 < y) (a : Int) : gt (R ++ [(y, z)]) a = if a = y then z else gt R a := by
  induction R with
  | nil =>
    by_cases ha : a = y
    · simp [gt, ha]
    · simp [gt, ha, Ne.symm ha]
  | cons d r ih =>
    have hd := h d (by simp)
    have ih' := ih fun e he => h e (List.mem_cons_of_mem _ he)
    simp only [List.cons_append, gt]
    rw [ih']
    by_cases ha : a = y
    · rw [if_neg (by omega), if_pos ha, if_pos ha]
    · rw [if_neg ha, if_neg ha]

theorem MI.step {pk : Int → Int → Int} (hp : Pick pk) {A B R A1 B1 : List Dt} (h : MI pk A B R A1 B1) (hne : 0 < A1.length + B1.length) :
    (0 < pk (hdv A1 (fa A1 B1)) (hdv B1 (fa A1 B1)) → MI pk A B (R ++ [(fa A1 B1, pk (hdv A1 (fa A1 B1)) (hdv B1 (fa A1 B1)))]) (tlv A1 (fa A1 B1)) (tlv B1 (fa A1 B1))) ∧
    (¬ 0 < pk (hdv A1 (fa A1 B1)) (hdv B1 (fa A1 B1)) → MI pk A B R (tlv A1 (fa A1 B1)) (tlv B1 (fa A1 B1))) ∧
    (tlv A1 (fa A1 B1)).length + (tlv B1 (fa A1 B1)).length < A1.length + B1.length := by
  obtain ⟨hlA, hlB⟩ := fa_low h.a h.b
  have hth := fa_there hne
  have sA := hd_spec h.a hlA
  have sB := hd_spec h.b hlB
  generalize hy : fa A1 B1 = y at *
  clear hy
  have hRy : ∀ d ∈ R, d.1 < y := fun d hd => by
    rcases hth with ⟨e, he, rfl⟩ | ⟨e, he, rfl⟩
    · exact h.ra d hd e he
    · exact h.rb d hd e he
  have hR0 : gt R y = 0 := gt_none fun d hd => by have := hRy d hd; omega
  have hlt : (tlv A1 y).length + (tlv B1 y).length < A1.length + B1.length := by
    have l1 := sA.len
    have l2 := sB.len
    rcases hth with hq | hq
    · have := sA.less hq; omega
    · have := sB.less hq; omega
  have eA := sA.val
  have eB := sB.val
  have hlen := h.len
  rw [eA, eB]
  have hnn : 0 ≤ pk (gt A1 y) (gt B1 y) := by
    have := h.a.gt_bounds y
    have := h.b.gt_bounds y
    rcases hp.one (gt A1 y) (gt B1 y) with e | e <;> omega
  refine ⟨fun hz => ?_, fun hz => ?_, hlt⟩
  · have hmay : mayd (y, pk (gt A1 y) (gt B1 y)) = true := by
      rcases hp.one (gt A1 y) (gt B1 y) with e | e
      · rw [e]; exact (h.a.gt_pos (by omega)).1
      · rw [e]; exact (h.b.gt_pos (by omega)).1
    refine ⟨(vmb_iff _).1 ?_, sA.vm, sB.vm, ?_, ?_, fun a => ?_, ?_⟩
    · rw [vmb_snoc ((vmb_iff R).2 h.r), hmay, Bool.true_and]
      exact List.all_eq_true.2 fun e he => decide_eq_true (hRy e he)
    · intro d hd e he
      rcases List.mem_append.1 hd with hd | hd
      · exact h.ra d hd e (sA.far e he).2
      · simp at hd
        rw [hd]
        exact (sA.far e he).1
    · intro d hd e he
      rcases List.mem_append.1 hd with hd | hd
      · exact h.rb d hd e (sB.far e he).2
      · simp at hd
        rw [hd]
        exact (sB.far e he).1
    · rw [gt_snoc hRy, sA.rest, sB.rest, h.eq a]
      by_cases ha : a = y
      · rw [if_pos ha, if_pos ha, if_pos ha, ha, hR0, hp.zero]
        omega
      · rw [if_neg ha, if_neg ha, if_neg ha]
    · rw [List.length_append, List.length_singleton]
      omega
  · refine ⟨h.r, sA.vm, sB.vm, fun d hd e he => h.ra d hd e (sA.far e he).2, fun d hd e he => h.rb d hd e (sB.far e he).2, fun a => ?_, by omega⟩
    rw [sA.rest, sB.rest, h.eq a]
    by_cases ha : a = y
    · rw [if_pos ha, if_pos ha, ha, hR0, hp.zero]
      omega
    · rw [if_neg ha, if_neg ha]

theorem MI.done {pk : Int → Int → Int} (hp : Pick pk) {A B R : List Dt} (hA : VM A) (hB : VM B) (h : MI pk A B R [] []) : R = vj pk A B :=
  eq_vj hp hA hB h.r fun a => by have := h.eq a; simp [gt, hp.zero] at this; exact this.symm

end

section
open Go.RowKit
open Go.Sort (grow)

/-- How long a slice is. -/
def sln : Value → Nat
  | .slice _ n _ => n
  | _ => 0

theorem far_grown {w w' : World} (h : Far w w') : w.grownBy w' none := by
  have hb := h.below
  exact ⟨hb.os, hb.tape, hb.output, hb.size, fun k hk _ => hb.block k hk⟩

theorem own_far {w w' : World} {b : Nat} {v : Value} {n : Nat} {xs : List Value} (h : w.ownsRow b 32 2 v n xs) (hf : Far w w') : w'.ownsRow b 32 2 v n xs :=
  h.kept (far_grown hf) (by
    by_cases he : v.ownBlock = none
    · exact .inl he
    · exact .inr he)

theorem tlv_le (L : List Dt) (y : Int) : (tlv L y).length ≤ L.length := by
  cases L with
  | nil => simp [tlv]
  | cons d r =>
    simp only [tlv]
    split
    · simp
    · exact Nat.le_refl _

end
end Go.Proofs.YtlncokkpdkddlaaGreat
