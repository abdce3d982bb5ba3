/- Worlds in which one block has turned. No function of the program. -/
import Derived.Test.YtplcohjpchfkkaaOLess
namespace Go.Proofs.Ytplcohjpchfkkaa
section
open Go.RowKit
open Go.Sort (grow)

/-- The least actor of both. -/
def fa : List Dt → List Dt → Int
  | [], [] => 0
  | [], e :: _ => e.1
  | d :: _, [] => d.1
  | d :: _, e :: _ => if d.1 < e.1 then d.1 else e.1

/-- What the first dot has of an actor, and what lies behind it. -/
def hdv : List Dt → Int → Int
  | [], _ => 0
  | d :: _, y => if d.1 = y then d.2 else 0
def tlv : List Dt → Int → List Dt
  | [], _ => []
  | d :: r, y => if d.1 = y then r else d :: r

theorem fa_low {A B : List Dt} (hA : VM A) (hB : VM B) : (∀ e ∈ A, fa A B ≤ e.1) ∧ (∀ e ∈ B, fa A B ≤ e.1) := by
  cases A with
  | nil =>
    refine ⟨fun e he => by simp at he, fun e he => ?_⟩
    cases B with
    | nil => simp at he
    | cons d r =>
      rcases List.mem_cons.1 he with rfl | he
      · exact Int.le_refl _
      · have := hB.ahead e he
        simp only [fa]
        omega
  | cons a r =>
    cases B with
    | nil =>
      refine ⟨fun e he => ?_, fun e he => by simp at he⟩
      rcases List.mem_cons.1 he with rfl | he
      · exact Int.le_refl _
      · have := hA.ahead e he
        simp only [fa]
        omega
    | cons b s =>
      have h1 := hA.ahead
      have h2 := hB.ahead
      refine ⟨fun e he => ?_, fun e he => ?_⟩
      · simp only [fa]
        rcases List.mem_cons.1 he with rfl | he
        · split <;> omega
        · have := h1 e he
          split <;> omega
      · simp only [fa]
        rcases List.mem_cons.1 he with rfl | he
        · split <;> omega
        · have := h2 e he
          split <;> omega

theorem fa_there {A B : List Dt} (h : 0 < A.length + B.length) : (∃ e ∈ A, e.1 = fa A B) ∨ (∃ e ∈ B, e.1 = fa A B) := by
  cases A with
  | nil =>
    cases B with
    | nil => simp at h
    | cons b s => exact .inr ⟨b, by simp, rfl⟩
  | cons a r =>
    cases B with
    | nil => exact .inl ⟨a, by simp, rfl⟩
    | cons b s =>
      by_cases hab : a.1 < b.1
      · exact .inl ⟨a, by simp, by simp [fa, hab]⟩
      · exact .inr ⟨b, by simp, by simp [fa, hab]⟩

structure Hd (L : List Dt) (y : Int) : Prop where
  val : hdv L y = gt L y
  rest : ∀ a, gt (tlv L y) a = if a = y then 0 else gt L a
  vm : VM (tlv L y)
  far : ∀ e ∈ tlv L y, y < e.1 ∧ e ∈ L
  len : (tlv L y).length ≤ L.length
  less : (∃ e ∈ L, e.1 = y) → (tlv L y).length < L.length

theorem hd_spec {L : List Dt} (h : VM L) {y : Int} (hy : ∀ e ∈ L, y ≤ e.1) : Hd L y := by
  cases L with
  | nil => exact ⟨rfl, fun a => by simp [tlv, gt], vm_nil, fun e he => by simp [tlv] at he, by simp [tlv], fun ⟨e, he, _⟩ => by simp at he⟩
  | cons d r =>
    have h1 := h.ahead
    by_cases hd : d.1 = y
    · have e : tlv (d :: r) y = r := by simp [tlv, hd]
      refine ⟨by simp [hdv, gt, hd], fun a => ?_, by rw [e]; exact h.tail, fun q hq => ?_, by rw [e]; simp, fun _ => by rw [e]; simp⟩
      · rw [e]
        by_cases ha : a = y
        · rw [if_pos ha]
          exact gt_none fun q hq => by have := h1 q hq; omega
        · rw [if_neg ha]
          simp only [gt]
          rw [if_neg (by omega)]
      · rw [e] at hq
        exact ⟨by have := h1 q hq; omega, List.mem_cons_of_mem _ hq⟩
    · have e : tlv (d :: r) y = d :: r := by simp [tlv, hd]
      have h0 := hy d (by simp)
      have hall : ∀ q ∈ d :: r, y < q.1 := fun q hq => by
        rcases List.mem_cons.1 hq with rfl | hq
        · omega
        · have := h1 q hq; omega
      have hz : gt (d :: r) y = 0 := gt_none fun q hq => by have := hall q hq; omega
      refine ⟨by rw [hz]; simp [hdv, hd], fun a => ?_, by rw [e]; exact h, fun q hq => ?_, by rw [e]; simp, fun ⟨q, hq, hq1⟩ => by have := hall q hq; omega⟩
      · rw [e]
        by_cases ha : a = y
        · rw [if_pos ha, ha, hz]
        · rw [if_neg ha]
      · rw [e] at hq
        exact ⟨hall q hq, hq⟩

/-- Part of the way through. -/
structure MI (pk : Int → Int → Int) (A B R A1 B1 : List Dt) : Prop where
  r : VM R
  a : VM A1
  b : VM B1
  ra : ∀ d ∈ R, ∀ e ∈ A1, d.1 < e.1
  rb : ∀ d ∈ R, ∀ e ∈ B1, d.1 < e.1
  eq : ∀ y, pk (gt A y) (gt B y) = gt R y + pk (gt A1 y) (gt B1 y)
  len : R.length + A1.length + B1.length ≤ A.length + B.length

theorem MI.start {pk : Int → Int → Int} {A B : List Dt} (hA : VM A) (hB : VM B) : MI pk A B [] A B :=
  ⟨vm_nil, hA, hB, fun d hd => by simp at hd, fun d hd => by simp at hd, fun y => by simp [gt], by simp⟩

theorem gt_snoc {R : List Dt} {y z : Int} (h : ∀ d ∈ R, d.1 < y) (a : Int) : gt (R ++ [(y, z)]) a = if a = y then z else gt R a := by
  induction R with
  | nil =>
    by_cases ha : a = y
    · simp [gt, ha]
    · simp [gt, ha, Ne.symm ha]
  | cons d r ih =>
    have hd := h d (by simp)
    have ih' := ih fun e he => h e (List.mem_cons_of_mem _ he)
    simp only [List.cons_append, gt]
    rw [ih']
    by_cases ha : a = y
    · rw [if_neg (by omega), if_pos ha, if_pos ha]
    · rw [if_neg ha, if_neg ha]

theorem MI.step {pk : Int → Int → Int} (hp : Pick pk) {A B R A1 B1 : List Dt} (h : MI pk A B R A1 B1) (hne : 0 < A1.length + B1.length) :
    (0 < pk (hdv A1 (fa A1 B1)) (hdv B1 (fa A1 B1)) → MI pk A B (R ++ [(fa A1 B1, pk (hdv A1 (fa A1 B1)) (hdv B1 (fa A1 B1)))]) (tlv A1 (fa A1 B1)) (tlv B1 (fa A1 B1))) ∧
    (¬ 0 < pk (hdv A1 (fa A1 B1)) (hdv B1 (fa A1 B1)) → MI pk A B R (tlv A1 (fa A1 B1)) (tlv B1 (fa A1 B1))) ∧
    (tlv A1 (fa A1 B1)).length + (tlv B1 (fa A1 B1)).length < A1.length + B1.length := by
  obtain ⟨hlA, hlB⟩ := fa_low h.a h.b
  have hth := fa_there hne
  have sA := hd_spec h.a hlA
  have sB := hd_spec h.b hlB
  generalize hy : fa A1 B1 = y at *
  clear hy
  have hRy : ∀ d ∈ R, d.1 < y := fun d hd => by
    rcases hth with ⟨e, he, rfl⟩ | ⟨e, he, rfl⟩
    · exact h.ra d hd e he
    · exact h.rb d hd e he
  have hR0 : gt R y = 0 := gt_none fun d hd => by have := hRy d hd; omega
  have hlt : (tlv A1 y).length + (tlv B1 y).length < A1.length + B1.length := by
    have l1 := sA.len
    have l2 := sB.len
    rcases hth with hq | hq
    · have := sA.less hq; omega
    · have := sB.less hq; omega
  have eA := sA.val
  have eB := sB.val
  have hlen := h.len
  rw [eA, eB]
  have hnn : 0 ≤ pk (gt A1 y) (gt B1 y) := by
    have := h.a.gt_bounds y
    have := h.b.gt_bounds y
    rcases hp.one (gt A1 y) (gt B1 y) with e | e <;> omega
  refine ⟨fun hz => ?_, fun hz => ?_, hlt⟩
  · have hmay : mayd (y, pk (gt A1 y) (gt B1 y)) = true := by
      rcases hp.one (gt A1 y) (gt B1 y) with e | e
      · rw [e]; exact (h.a.gt_pos (by omega)).1
      · rw [e]; exact (h.b.gt_pos (by omega)).1
    refine ⟨(vmb_iff _).1 ?_, sA.vm, sB.vm, ?_, ?_, fun a => ?_, ?_⟩
    · rw [vmb_snoc ((vmb_iff R).2 h.r), hmay, Bool.true_and]
      exact List.all_eq_true.2 fun e he => decide_eq_true (hRy e he)
    · intro d hd e he
      rcases List.mem_append.1 hd with hd | hd
      · exact h.ra d hd e (sA.far e he).2
      · simp at hd
        rw [hd]
        exact (sA.far e he).1
    · intro d hd e he
      rcases List.mem_append.1 hd with hd | hd
      · exact h.rb d hd e (sB.far e he).2
      · simp at hd
        rw [hd]
        exact (sB.far e he).1
    · rw [gt_snoc hRy, sA.rest, sB.rest, h.eq a]
      by_cases ha : a = y
      · rw [if_pos ha, if_pos ha, if_pos ha, ha, hR0, hp.zero]
        omega
      · rw [if_neg ha, if_neg ha, if_neg ha]
    · rw [List.length_append, List.length_singleton]
      omega
  · refine ⟨h.r, sA.vm, sB.vm, fun d hd e he => h.ra d hd e (sA.far e he).2, fun d hd e he => h.rb d hd e (sB.far e he).2, fun a => ?_, by omega⟩
    rw [sA.rest, sB.rest, h.eq a]
    by_cases ha : a = y
    · rw [if_pos ha, if_pos ha, ha, hR0, hp.zero]
      omega
    · rw [if_neg ha, if_neg ha]

theorem MI.done {pk : Int → Int → Int} (hp : Pick pk) {A B R : List Dt} (hA : VM A) (hB : VM B) (h : MI pk A B R [] []) : R = vj pk A B :=
  eq_vj hp hA hB h.r fun a => by have := h.eq a; simp [gt, hp.zero] at this; exact this.symm

end

section
open Go.RowKit
open Go.Sort (grow)

/-- How long a slice is. -/
def sln : Value → Nat
  | .slice _ n _ => n
  | _ => 0

theorem far_grown {w w' : World} (h : Far w w') : w.grownBy w' none := by
  have hb := h.below
  exact ⟨hb.os, hb.tape, hb.output, hb.size, fun k hk _ => hb.block k hk⟩

theorem own_far {w w' : World} {b : Nat} {v : Value} {n : Nat} {xs : List Value} (h : w.ownsRow b 24 2 v n xs) (hf : Far w w') : w'.ownsRow b 24 2 v n xs :=
  h.kept (far_grown hf) (by
    by_cases he : v.ownBlock = none
    · exact .inl he
    · exact .inr he)

theorem tlv_le (L : List Dt) (y : Int) : (tlv L y).length ≤ L.length := by
  cases L with
  | nil => simp [tlv]
  | cons d r =>
    simp only [tlv]
    split
    · simp
    · exact Nat.le_refl _

end

section
open Go.RowKit
open Go.Sort (grow)

theorem Try.info3 : (Try.prog.info? 3).map (fun i => (i.zero, i.size, i.bytes)) = some (some (.int .i64 0), 1, 8) := by kernel_rfl

abbrev ints (l : List Int) : List Value := l.map (Value.int .i64)

theorem own_far' {w w' : World} {b e z : Nat} {v : Value} {n : Nat} {xs : List Value} (h : w.ownsRow b e z v n xs) (hf : Far w w') : w'.ownsRow b e z v n xs :=
  h.kept (far_grown hf) (by
    by_cases he : v.ownBlock = none
    · exact .inl he
    · exact .inr he)

/-- Part of the way through both. -/
structure AI (A B : List Dt) (i k : Nat) (l : List Int) : Prop where
  up : l.Pairwise (fun a b => a < b)
  mem : ∀ x, x ∈ l ↔ (∃ d ∈ A.take i, d.1 = x) ∨ (∃ d ∈ B.take k, d.1 = x)
  la : ∀ x ∈ l, ∀ e ∈ A.drop i, x < e.1
  lb : ∀ x ∈ l, ∀ e ∈ B.drop k, x < e.1
  len : l.length ≤ i + k

theorem AI.start (A B : List Dt) : AI A B 0 0 [] := ⟨List.Pairwise.nil, fun x => by simp, fun x hx => by simp at hx, fun x hx => by simp at hx, by simp⟩

theorem asc_snoc {l : List Int} {y : Int} (h : l.Pairwise (fun a b => a < b)) (hy : ∀ x ∈ l, x < y) : (l ++ [y]).Pairwise (fun a b => a < b) :=
  List.pairwise_append.2 ⟨h, List.pairwise_singleton _ _, fun a ha b hb => by simp at hb; rw [hb]; exact hy a ha⟩

theorem take_more {L : List Dt} {i : Nat} {d : Dt} (h : L[i]? = some d) (x : Int) : (∃ e ∈ L.take (i + 1), e.1 = x) ↔ (∃ e ∈ L.take i, e.1 = x) ∨ x = d.1 := by
  obtain ⟨hi, rfl⟩ := List.getElem?_eq_some_iff.1 h
  rw [take_snoc hi]
  constructor
  · rintro ⟨e, he, rfl⟩
    rcases List.mem_append.1 he with he | he
    · exact .inl ⟨e, he, rfl⟩
    · simp at he; exact .inr (by rw [he])
  · rintro (⟨e, he, rfl⟩ | rfl)
    · exact ⟨e, List.mem_append.2 (.inl he), rfl⟩
    · exact ⟨_, List.mem_append.2 (.inr (by simp)), rfl⟩

theorem drop_cons {L : List Dt} {i : Nat} {d : Dt} (h : L[i]? = some d) : L.drop i = d :: L.drop (i + 1) := by
  obtain ⟨hi, rfl⟩ := List.getElem?_eq_some_iff.1 h
  exact List.drop_eq_getElem_cons hi

theorem drop_up {L : List Dt} (h : VM L) {i : Nat} {d : Dt} (hd : L[i]? = some d) : ∀ e ∈ L.drop (i + 1), d.1 < e.1 := by
  have h1 : (L.drop i).Pairwise (fun a b : Dt => a.1 < b.1) := h.ac.sublist (List.drop_sublist i L)
  rw [drop_cons hd] at h1
  exact (List.pairwise_cons.1 h1).1

theorem drop_all {L : List Dt} (h : VM L) {k : Nat} {e : Dt} (he : L[k]? = some e) {y : Int} (hy : y < e.1) : ∀ q ∈ L.drop k, y < q.1 := fun q hq => by
  rw [drop_cons he] at hq
  rcases List.mem_cons.1 hq with rfl | hq
  · exact hy
  · have := drop_up h he q hq
    omega

theorem AI.left {A B : List Dt} {i k : Nat} {l : List Int} (h : AI A B i k l) (hA : VM A) {d : Dt} (hd : A[i]? = some d) (hb : ∀ e ∈ B.drop k, d.1 < e.1) : AI A B (i + 1) k (l ++ [d.1]) := by
  have hdr := drop_cons hd
  have hla := h.la
  rw [hdr] at hla
  refine ⟨asc_snoc h.up fun x hx => hla x hx d (by simp), fun x => ?_, fun x hx e he => ?_, fun x hx e he => ?_, by have := h.len; simp; omega⟩
  · rw [List.mem_append, h.mem, take_more hd]
    simp only [List.mem_singleton]
    constructor
    · rintro ((h | h) | h)
      · exact .inl (.inl h)
      · exact .inr h
      · exact .inl (.inr h)
    · rintro ((h | h) | h)
      · exact .inl (.inl h)
      · exact .inr h
      · exact .inl (.inr h)
  · rcases List.mem_append.1 hx with hx | hx
    · exact hla x hx e (List.mem_cons_of_mem _ he)
    · simp at hx; rw [hx]; exact drop_up hA hd e he
  · rcases List.mem_append.1 hx with hx | hx
    · exact h.lb x hx e he
    · simp at hx; rw [hx]; exact hb e he

theorem AI.right {A B : List Dt} {i k : Nat} {l : List Int} (h : AI A B i k l) (hB : VM B) {d : Dt} (hd : B[k]? = some d) (hb : ∀ e ∈ A.drop i, d.1 < e.1) : AI A B i (k + 1) (l ++ [d.1]) := by
  have hdr := drop_cons hd
  have hla := h.lb
  rw [hdr] at hla
  refine ⟨asc_snoc h.up fun x hx => hla x hx d (by simp), fun x => ?_, fun x hx e he => ?_, fun x hx e he => ?_, by have := h.len; simp; omega⟩
  · rw [List.mem_append, h.mem, take_more hd]
    simp only [List.mem_singleton]
    constructor
    · rintro ((h | h) | h)
      · exact .inl h
      · exact .inr (.inl h)
      · exact .inr (.inr h)
    · rintro (h | h | h)
      · exact .inl (.inl h)
      · exact .inl (.inr h)
      · exact .inr h
  · rcases List.mem_append.1 hx with hx | hx
    · exact h.la x hx e he
    · simp at hx; rw [hx]; exact hb e he
  · rcases List.mem_append.1 hx with hx | hx
    · exact hla x hx e (List.mem_cons_of_mem _ he)
    · simp at hx; rw [hx]; exact drop_up hB hd e he

theorem AI.both {A B : List Dt} {i k : Nat} {l : List Int} (h : AI A B i k l) (hA : VM A) (hB : VM B) {d e : Dt} (hd : A[i]? = some d) (he : B[k]? = some e) (hde : d.1 = e.1) : AI A B (i + 1) (k + 1) (l ++ [d.1]) := by
  have hla := h.la
  have hlb := h.lb
  rw [drop_cons hd] at hla
  rw [drop_cons he] at hlb
  refine ⟨asc_snoc h.up fun x hx => hla x hx d (by simp), fun x => ?_, fun x hx q hq => ?_, fun x hx q hq => ?_, by have := h.len; simp; omega⟩
  · rw [List.mem_append, h.mem, take_more hd, take_more he, ← hde]
    simp only [List.mem_singleton]
    constructor
    · rintro ((h | h) | h)
      · exact .inl (.inl h)
      · exact .inr (.inl h)
      · exact .inl (.inr h)
    · rintro ((h | h) | h | h)
      · exact .inl (.inl h)
      · exact .inr h
      · exact .inl (.inr h)
      · exact .inr h
  · rcases List.mem_append.1 hx with hx | hx
    · exact hla x hx q (List.mem_cons_of_mem _ hq)
    · simp at hx; rw [hx]; exact drop_up hA hd q hq
  · rcases List.mem_append.1 hx with hx | hx
    · exact hlb x hx q (List.mem_cons_of_mem _ hq)
    · simp at hx; rw [hx, hde]; exact drop_up hB he q hq

theorem AI.done {A B : List Dt} {l : List Int} (h : AI A B A.length B.length l) : l = ua A B :=
  asc_ext h.up (ua_up A B) fun x => by
    rw [h.mem, mem_ua, List.take_of_length_le (Nat.le_refl _), List.take_of_length_le (Nat.le_refl _)]

theorem cell_new (w : World) (x : Value) (T : TypeId) : ∀ j u, ([x] : List Value)[j]? = some u → (w.alloc (.cells #[x] T)).cell? ((⟨w.heap.size, 0, none⟩ : Addr).add j) = some u := by
  intro j u hj
  match j, hj with
  | 0, hj => simp at hj; subst hj; simp [Addr.add]

/-- append of one number to a row of the call's own. -/
theorem wpList_append_int {y : Int} {w : World} {ops : Array Oper} {rest : List Oper} {o : Oper} {a : Act} {Q : Exit → Act → World → Prop} (hgd : o.guard = none) (s x : Operand)
    (ho : o.op = .call { callee := .builtin .append, args := #[s, x], argTypes := #[40, 40] }) (base : Nat) (v : Value) (n : Nat) (xs : List Value) (hs : a.eval s = v) (w0 : World) (hw : w = w0.alloc (.cells #[.int .i64 y] 3)) (hown : w0.ownsRow base 3 1 v n xs)
    (hx : a.eval x = .slice (some ⟨w0.heap.size, 0, none⟩) 1 1) (hb : n ≤ 8000000) (hbase : base ≤ w0.heap.size)
    (h : ∀ v' w', w'.ownsRow base 3 1 v' (n + 1) (xs ++ [.int .i64 y]) → w.grownBy w' v.ownBlock → wpList Try.prog ops Q rest (a.put o.dst v') w') : wpList Try.prog ops Q (o :: rest) a w := by
  obtain ⟨i0, hi, hz0, hz1, hz2⟩ := info_parts Try.info3
  subst hw
  exact wpList_append_own _ hgd s x 40 ho base 3 i0 _ 1 8 Try.underlying40 hi hz0 hz1 hz2 rfl (by decide) v n xs hs (hown.alloc _) ⟨w0.heap.size, 0, none⟩ 1 1 [.int .i64 y] hx rfl (cell_new w0 _ 3) (by simp [Value.oneCell']) (by unfold maxLen; omega) (by omega) (by simp; omega)
      (fun v' w' h1 h2 _ => h v' w' h1 h2)

set_option maxRecDepth 100000 in
set_option maxHeartbeats 8000000 in
theorem acts_any (a : Option Addr) (n c : Nat) (A : List Dt) (a' : Option Addr) (n' c' : Nat) (B : List Dt) (w : World) (hs : PS w a n c A) (hn : n ≤ 1000000) (hs' : PS w a' n' c' B) (hn' : n' ≤ 1000000) (hA : VM A) (hB : VM B) :
    Calls Try.prog 81 #[.slice a n c, .slice a' n' c'] w fun e w' => ∃ v, e = .returned v ∧ w'.ownsRow w.heap.size 3 1 v (ua A B).length (ints (ua A B)) ∧ RowKit.Below w.heap.size w w' := by
  have mixed := mixed
  have HAB := hid (And.intro hA hB)
  have hS := hid (And.intro hs hs')
  have l1 := hs.len
  have l2 := hs'.len
  clear hA hB hs hs'
  go_enter Try.func81, Try.ntmps81
  go_wp2
  have HL := hid (And.intro l1 l2)
  clear l1 l2
  go_loopw [6, 7, 5] (fun s6 s7 s5 wr => ∃ (i k : Nat) (l : List Int), i ≤ n ∧ k ≤ n' ∧ s6 = .int .i64 i ∧ s7 = .int .i64 k ∧ Hid (AI A B i k l) ∧ Hid (wr.ownsRow w.heap.size 3 1 s5 l.length (ints l)) ∧ Hid (RowKit.Below w.heap.size w wr)) (fun s6 s7 _ _ => (n - (intOf s6).toNat) + (n' - (intOf s7).toNat))
  case atStart => exact ⟨0, 0, [], by omega, by omega, rfl, rfl, hid (AI.start A B), hid (World.ownsRow_nil _ _ _ _), hid (Below.refl _ _)⟩
  case round =>
    obtain ⟨i, k, l, hi, hk, rfl, rfl, hAI, hO, hbl⟩ := hrel
    have hlen := hAI.out.len
    have l1 := HL.out.1
    have l2 := HL.out.2
    by_cases hin : i < n
    · have hin1 : decide (i < n) = true := decide_eq_true hin
      have hinb : ((i : Int) == (n : Int)) = false := by simp; omega
      obtain ⟨g, o, rfl, hg, hcell⟩ := hS.out.1.at (by omega)
      have hA0 := hid (List.getElem?_eq_getElem (l := A) (i := i) (by omega))
      have cA := hid (fun W (hW : RowKit.Below w.heap.size w W) => (hW.cell (p := ⟨g, o + i * 2, none⟩) hg).trans (hcell i (by omega)).1)
      clear hcell
      generalize (A[i]'(by omega)) = d at hA0 cA
      obtain ⟨d1, d2⟩ := d
      simp only at cA
      by_cases hkn : k < n'
      · have hkn1 : decide (k < n') = true := decide_eq_true hkn
        have hknb : ((k : Int) == (n' : Int)) = false := by simp; omega
        obtain ⟨g', o', rfl, hg', hcell'⟩ := hS.out.2.at (by omega)
        have hB0 := hid (List.getElem?_eq_getElem (l := B) (i := k) (by omega))
        have cB := hid (fun W (hW : RowKit.Below w.heap.size w W) => (hW.cell (p := ⟨g', o' + k * 2, none⟩) hg').trans (hcell' k (by omega)).1)
        clear hcell'
        generalize (B[k]'(by omega)) = e at hB0 cB
        obtain ⟨e1, e2⟩ := e
        simp only at cB
        clear l1 l2
        by_cases hde : d1 < e1
        · have C0 := fun m os => cA.out _ (hbl.out.trans ((below_class wr m os).mono hbl.out.size))
          have E0 := fun m os => cB.out _ (hbl.out.trans ((below_class wr m os).mono hbl.out.size))
          have hde1 : decide (d1 < e1) = true := decide_eq_true hde
          go_wp2_with fail
          refine wp_region_quiet_grown mixed (by kernel_rfl) ?_
          repeat (go_big_quiet_step (fail))
          refine wpQuiet_nil ?_
          intro _ hw'
          obtain ⟨⟨n1, o1⟩, hw''⟩ := hw'
          subst hw''
          simp only []
          have hF1 : Far wr (grow (wr.drewN n1) o1) := (Far.refl wr).more n1 o1
          have hO1 := hid (own_far' hO.out hF1)
          have hB1 := hid (hbl.out.trans (hF1.below.mono hbl.out.size))
          clear hF1 C0 E0
          generalize grow (wr.drewN n1) o1 = W1 at hO1 hB1 ⊢
          have x0 := cA.out _ hB1.out
          go_wp2_with (first
            | (at_builtin; refine wpList_append_int (y := d1) rfl _ _ rfl w.heap.size _ l.length (ints l) rfl W1 rfl hO1.out rfl (by omega) hB1.out.size ?_; intro v5 w5 ho5 hg5))
          go_roundw
          case rel =>
            refine ⟨i + 1, k, l ++ [d1], by omega, by omega, by go_num, by go_num, hid (hAI.out.left HAB.out.1 hA0.out (drop_all HAB.out.2 hB0.out hde)), hid ?_, hid ?_⟩
            · rw [List.length_append, List.length_singleton, show ints (l ++ [d1]) = ints l ++ [.int .i64 d1] by simp [ints]]; exact ho5
            · exact (hB1.out.alloc hB1.out.size _).grown hg5 (by have := hB1.out.size; simp; omega) (fun j hj => (hO1.out.lt j hj).1)
          case measure => simp [intOf]; omega
        · have hde1 : decide (d1 < e1) = false := decide_eq_false hde
          by_cases hed : e1 < d1
          · have C0 := fun m os => cA.out _ (hbl.out.trans ((below_class wr m os).mono hbl.out.size))
            have E0 := fun m os => cB.out _ (hbl.out.trans ((below_class wr m os).mono hbl.out.size))
            have hed1 : decide (e1 < d1) = true := decide_eq_true hed
            go_wp2_with fail
            refine wp_region_quiet_grown mixed (by kernel_rfl) ?_
            repeat (go_big_quiet_step (fail))
            refine wpQuiet_nil ?_
            intro _ hw'
            obtain ⟨⟨n1, o1⟩, hw''⟩ := hw'
            subst hw''
            simp only []
            have hF1 : Far wr (grow (wr.drewN n1) o1) := (Far.refl wr).more n1 o1
            have hO1 := hid (own_far' hO.out hF1)
            have hB1 := hid (hbl.out.trans (hF1.below.mono hbl.out.size))
            clear hF1 C0 E0
            generalize grow (wr.drewN n1) o1 = W1 at hO1 hB1 ⊢
            have C0 := fun m os => cA.out _ (hB1.out.trans ((below_class W1 m os).mono hB1.out.size))
            have E0 := fun m os => cB.out _ (hB1.out.trans ((below_class W1 m os).mono hB1.out.size))
            go_wp2_with fail
            refine wp_region_quiet_grown mixed (by kernel_rfl) ?_
            repeat (go_big_quiet_step (fail))
            refine wpQuiet_nil ?_
            intro _ hw'
            obtain ⟨⟨n2, o2⟩, hw''⟩ := hw'
            subst hw''
            simp only []
            have hF2 : Far W1 (grow (W1.drewN n2) o2) := (Far.refl W1).more n2 o2
            have hO2 := hid (own_far' hO1.out hF2)
            have hB2 := hid (hB1.out.trans (hF2.below.mono hB1.out.size))
            clear hF2 C0 E0
            generalize grow (W1.drewN n2) o2 = W2 at hO2 hB2 ⊢
            have x0 := cB.out _ hB2.out
            go_wp2_with (first
              | (at_builtin; refine wpList_append_int (y := e1) rfl _ _ rfl w.heap.size _ l.length (ints l) rfl W2 rfl hO2.out rfl (by omega) hB2.out.size ?_; intro v5 w5 ho5 hg5))
            go_roundw
            case rel =>
              refine ⟨i, k + 1, l ++ [e1], by omega, by omega, by go_num, by go_num, hid (hAI.out.right HAB.out.2 hB0.out (drop_all HAB.out.1 hA0.out hed)), hid ?_, hid ?_⟩
              · rw [List.length_append, List.length_singleton, show ints (l ++ [e1]) = ints l ++ [.int .i64 e1] by simp [ints]]; exact ho5
              · exact (hB2.out.alloc hB2.out.size _).grown hg5 (by have := hB2.out.size; simp; omega) (fun j hj => (hO2.out.lt j hj).1)
            case measure => simp [intOf]; omega
          · have C0 := fun m os => cA.out _ (hbl.out.trans ((below_class wr m os).mono hbl.out.size))
            have E0 := fun m os => cB.out _ (hbl.out.trans ((below_class wr m os).mono hbl.out.size))
            have hed1 : decide (e1 < d1) = false := decide_eq_false hed
            have heq := hid (show d1 = e1 by omega)
            go_wp2_with fail
            refine wp_region_quiet_grown mixed (by kernel_rfl) ?_
            repeat (go_big_quiet_step (fail))
            refine wpQuiet_nil ?_
            intro _ hw'
            obtain ⟨⟨n1, o1⟩, hw''⟩ := hw'
            subst hw''
            simp only []
            have hF1 : Far wr (grow (wr.drewN n1) o1) := (Far.refl wr).more n1 o1
            have hO1 := hid (own_far' hO.out hF1)
            have hB1 := hid (hbl.out.trans (hF1.below.mono hbl.out.size))
            clear hF1 C0 E0
            generalize grow (wr.drewN n1) o1 = W1 at hO1 hB1 ⊢
            have C0 := fun m os => cA.out _ (hB1.out.trans ((below_class W1 m os).mono hB1.out.size))
            have E0 := fun m os => cB.out _ (hB1.out.trans ((below_class W1 m os).mono hB1.out.size))
            go_wp2_with fail
            refine wp_region_quiet_grown mixed (by kernel_rfl) ?_
            repeat (go_big_quiet_step (fail))
            refine wpQuiet_nil ?_
            intro _ hw'
            obtain ⟨⟨n2, o2⟩, hw''⟩ := hw'
            subst hw''
            simp only []
            have hF2 : Far W1 (grow (W1.drewN n2) o2) := (Far.refl W1).more n2 o2
            have hO2 := hid (own_far' hO1.out hF2)
            have hB2 := hid (hB1.out.trans (hF2.below.mono hB1.out.size))
            clear hF2 C0 E0
            generalize grow (W1.drewN n2) o2 = W2 at hO2 hB2 ⊢
            have x0 := cA.out _ hB2.out
            go_wp2_with (first
              | (at_builtin; refine wpList_append_int (y := d1) rfl _ _ rfl w.heap.size _ l.length (ints l) rfl W2 rfl hO2.out rfl (by omega) hB2.out.size ?_; intro v5 w5 ho5 hg5))
            go_roundw
            case rel =>
              refine ⟨i + 1, k + 1, l ++ [d1], by omega, by omega, by go_num, by go_num, hid (hAI.out.both HAB.out.1 HAB.out.2 hA0.out hB0.out heq.out), hid ?_, hid ?_⟩
              · rw [List.length_append, List.length_singleton, show ints (l ++ [d1]) = ints l ++ [.int .i64 d1] by simp [ints]]; exact ho5
              · exact (hB2.out.alloc hB2.out.size _).grown hg5 (by have := hB2.out.size; simp; omega) (fun j hj => (hO2.out.lt j hj).1)
            case measure => simp [intOf]; omega
      · obtain rfl : k = n' := by omega
        have hend := hid (show B.drop k = [] from List.drop_of_length_le (by omega))
        clear l1 l2
        have C0 := fun m os => cA.out _ (hbl.out.trans ((below_class wr m os).mono hbl.out.size))
        go_wp2_with fail
        refine wp_region_quiet_grown mixed (by kernel_rfl) ?_
        repeat (go_big_quiet_step (fail))
        refine wpQuiet_nil ?_
        intro _ hw'
        obtain ⟨⟨n1, o1⟩, hw''⟩ := hw'
        subst hw''
        simp only []
        have hF1 : Far wr (grow (wr.drewN n1) o1) := (Far.refl wr).more n1 o1
        have hO1 := hid (own_far' hO.out hF1)
        have hB1 := hid (hbl.out.trans (hF1.below.mono hbl.out.size))
        clear hF1 C0 
        generalize grow (wr.drewN n1) o1 = W1 at hO1 hB1 ⊢
        have x0 := cA.out _ hB1.out
        go_wp2_with (first
          | (at_builtin; refine wpList_append_int (y := d1) rfl _ _ rfl w.heap.size _ l.length (ints l) rfl W1 rfl hO1.out rfl (by omega) hB1.out.size ?_; intro v5 w5 ho5 hg5))
        go_roundw
        case rel =>
          refine ⟨i + 1, k, l ++ [d1], by omega, by omega, by go_num, by go_num, hid (hAI.out.left HAB.out.1 hA0.out (fun e he => by rw [hend.out] at he; simp at he)), hid ?_, hid ?_⟩
          · rw [List.length_append, List.length_singleton, show ints (l ++ [d1]) = ints l ++ [.int .i64 d1] by simp [ints]]; exact ho5
          · exact (hB1.out.alloc hB1.out.size _).grown hg5 (by have := hB1.out.size; simp; omega) (fun j hj => (hO1.out.lt j hj).1)
        case measure => simp [intOf]; omega
    · obtain rfl : i = n := by omega
      by_cases hkn : k < n'
      · have hkn1 : decide (k < n') = true := decide_eq_true hkn
        have hknb : ((k : Int) == (n' : Int)) = false := by simp; omega
        obtain ⟨g', o', rfl, hg', hcell'⟩ := hS.out.2.at (by omega)
        have hB0 := hid (List.getElem?_eq_getElem (l := B) (i := k) (by omega))
        have cB := hid (fun W (hW : RowKit.Below w.heap.size w W) => (hW.cell (p := ⟨g', o' + k * 2, none⟩) hg').trans (hcell' k (by omega)).1)
        clear hcell'
        generalize (B[k]'(by omega)) = e at hB0 cB
        obtain ⟨e1, e2⟩ := e
        simp only at cB
        have hend := hid (show A.drop i = [] from List.drop_of_length_le (by omega))
        clear l1 l2
        have E0 := fun m os => cB.out _ (hbl.out.trans ((below_class wr m os).mono hbl.out.size))
        go_wp2_with fail
        refine wp_region_quiet_grown mixed (by kernel_rfl) ?_
        repeat (go_big_quiet_step (fail))
        refine wpQuiet_nil ?_
        intro _ hw'
        obtain ⟨⟨n1, o1⟩, hw''⟩ := hw'
        subst hw''
        simp only []
        have hF1 : Far wr (grow (wr.drewN n1) o1) := (Far.refl wr).more n1 o1
        have hO1 := hid (own_far' hO.out hF1)
        have hB1 := hid (hbl.out.trans (hF1.below.mono hbl.out.size))
        clear hF1 E0
        generalize grow (wr.drewN n1) o1 = W1 at hO1 hB1 ⊢
        have E0 := fun m os => cB.out _ (hB1.out.trans ((below_class W1 m os).mono hB1.out.size))
        go_wp2_with fail
        refine wp_region_quiet_grown mixed (by kernel_rfl) ?_
        repeat (go_big_quiet_step (fail))
        refine wpQuiet_nil ?_
        intro _ hw'
        obtain ⟨⟨n2, o2⟩, hw''⟩ := hw'
        subst hw''
        simp only []
        have hF2 : Far W1 (grow (W1.drewN n2) o2) := (Far.refl W1).more n2 o2
        have hO2 := hid (own_far' hO1.out hF2)
        have hB2 := hid (hB1.out.trans (hF2.below.mono hB1.out.size))
        clear hF2 E0
        generalize grow (W1.drewN n2) o2 = W2 at hO2 hB2 ⊢
        have x0 := cB.out _ hB2.out
        go_wp2_with (first
          | (at_builtin; refine wpList_append_int (y := e1) rfl _ _ rfl w.heap.size _ l.length (ints l) rfl W2 rfl hO2.out rfl (by omega) hB2.out.size ?_; intro v5 w5 ho5 hg5))
        go_roundw
        case rel =>
          refine ⟨i, k + 1, l ++ [e1], by omega, by omega, by go_num, by go_num, hid (hAI.out.right HAB.out.2 hB0.out (fun e he => by rw [hend.out] at he; simp at he)), hid ?_, hid ?_⟩
          · rw [List.length_append, List.length_singleton, show ints (l ++ [e1]) = ints l ++ [.int .i64 e1] by simp [ints]]; exact ho5
          · exact (hB2.out.alloc hB2.out.size _).grown hg5 (by have := hB2.out.size; simp; omega) (fun j hj => (hO2.out.lt j hj).1)
        case measure => simp [intOf]; omega
      · obtain rfl : k = n' := by omega
        have hdone := hid (show l = ua A B from AI.done (by rw [l1, l2]; exact hAI.out))
        clear l1 l2
        go_wp2_with fail
        go_ret
        rw [← hdone.out]
        exact ⟨_, rfl, hO.out, hbl.out⟩

end

section
open Go.RowKit
open Go.Sort (grow)

theorem sbase {w : World} {b b' : Nat} {v : Value} {n : Nat} {xs : List Value} (h : w.ownsRow b 24 2 v n xs) (hb : b' ≤ b) : w.ownsRow b' 24 2 v n xs := by
  obtain ⟨h1, h2⟩ := h
  refine ⟨h1, ?_⟩
  rcases h2 with h2 | ⟨g', cap', cur, hv, hg, r⟩
  · exact .inl h2
  · exact .inr ⟨g', cap', cur, hv, Nat.le_trans hb hg, r⟩

/-- A row of numbers of the call's own, by its cells. -/
theorem ints_cells {w : World} {b : Nat} {v : Value} {l : List Int} (h : w.ownsRow b 3 1 v l.length (ints l)) :
    ∃ a c, v = .slice a l.length c ∧ (0 < l.length → ∃ g, a = some ⟨g, 0, none⟩ ∧ g < w.heap.size ∧ ∀ i (hi : i < l.length), w.cell? ⟨g, i, none⟩ = some (.int .i64 l[i])) := by
  rcases h.2 with ⟨rfl, hn⟩ | ⟨g, cap, cur, rfl, hg, hb, hn, hcap, hsz, ht⟩
  · exact ⟨none, 0, by rw [hn], fun hp => by omega⟩
  · refine ⟨_, cap, rfl, fun _ => ⟨g, rfl, (Array.getElem?_eq_some_iff.1 hb).1, fun i hi => ?_⟩⟩
    have := h.cells (g := g) rfl i (.int .i64 l[i]) (by simp [ints, hi])
    rw [Addr.add_lit] at this
    simpa using this

theorem pks_length (pk : Int → Int → Int) (A B : List Dt) (l : List Int) : (pks pk A B l).length ≤ l.length := List.length_filterMap_le _ _

theorem rget_eq {a : Option Addr} {n c : Nat} {L : List Dt} {y : Int} {w : World} (hs : PS w a n c L) (hn : n ≤ 1000000) : Calls Try.prog 63 #[.slice a n c, .int .i64 y] w fun e w' => e = .returned (.int .i64 (gt L y)) ∧ w = w' :=
  (rget_any a n c L y w hs (Nat.le_trans hn (by decide))).mono fun _ _ ⟨he, hw⟩ => ⟨he, hw.symm⟩

set_option maxRecDepth 100000 in
set_option maxHeartbeats 4000000 in
theorem rjoin_any {a : Option Addr} {n c : Nat} {A : List Dt} {a' : Option Addr} {n' c' : Nat} {B : List Dt} {w : World} (hs : PS w a n c A) (hn : n ≤ 1000000) (hs' : PS w a' n' c' B) (hn' : n' ≤ 1000000) (hA : VM A) (hB : VM B) :
    Calls Try.prog 65 #[.slice a n c, .slice a' n' c', .bool false] w (Gives w (vj (fun x y => max x y) A B)) := by
  have hac := acts_any a n c A a' n' c' B w hs hn hs' hn' hA hB
  have hS := hid (And.intro hs hs')
  have hul : (ua A B).length ≤ 2000000 := by
    have := ua_length A B
    have := hs.len
    have := hs'.len
    omega
  have hvj : Hid (vj (fun x y => max x y) A B = pks (fun x y => max x y) A B (ua A B)) := hid rfl
  clear hA hB hs hs'
  generalize ua A B = l at hac hul hvj
  go_enter Try.func65, Try.ntmps65
  go_wp2_with (first | (go_at_call 81; refine hac.mono ?_; rintro e w1 ⟨v1, rfl, hO1, hB1⟩; obtain ⟨ad, cd, rfl, hci⟩ := ints_cells hO1))
  have HB1 := hid hB1
  have HC := hid hci
  have hvl : Hid _ := hid hO1
  clear hB1 hci hO1 hac
  go_loopw [9, 7] (fun s9 s7 wr => ∃ (i : Nat) (R : List Dt), i ≤ l.length ∧ s9 = .int .i64 i ∧ Hid (R = pks (fun x y => max x y) A B (l.take i)) ∧ Hid (wr.ownsRow w1.heap.size 24 2 s7 R.length (flat R)) ∧ Hid (RowKit.Below w1.heap.size w1 wr)) (fun s9 _ _ => l.length - (intOf s9).toNat)
  case atStart => exact ⟨0, [], by omega, rfl, hid (by simp [pks]), hid (World.ownsRow_nil _ _ _ _), hid (Below.refl _ _)⟩
  case round =>
    obtain ⟨i, R, hi, rfl, hR, hO, hbl⟩ := hrel
    by_cases hlt : i < l.length
    · obtain ⟨g, rfl, hg, hcell⟩ := HC.out (by omega)
      have hci := (hbl.out.cell (p := ⟨g, i, none⟩) hg).trans (hcell i hlt)
      have hsn : Hid (pks (fun x y => max x y) A B (l.take (i + 1)) = pks (fun x y => max x y) A B (l.take i) ++ pks (fun x y => max x y) A B [l[i]]) := hid (by rw [List.take_succ_eq_append_getElem hlt, pks_append])
      have hRl : R.length ≤ 2000000 := by
        rw [hR.out]
        have := pks_length (fun x y => max x y) A B (l.take i)
        rw [List.length_take] at this
        omega
      generalize l[i] = y at hci hsn
      clear hcell
      have hone : Hid (pks (fun x y => max x y) A B [y] = if 0 < max (gt A y) (gt B y) then [(y, max (gt A y) (gt B y))] else []) := hid (by
        simp only [pks, List.filterMap_cons, List.filterMap_nil]
        split <;> simp_all)
      have bw : RowKit.Below w.heap.size w wr := HB1.out.trans (hbl.out.mono HB1.out.size)
      have c1 := rget_eq (y := y) (hS.out.1.below bw) hn
      have c2 := rget_eq (y := y) (hS.out.2.below bw) hn'
      have hbs := hbl.out.size
      clear bw
      generalize gt A y = u at c1 hone
      generalize gt B y = v at c2 hone
      by_cases huv : u < v
      · generalize hz : max u v = z at hone
        have huvb : decide (u < v) = true := by simp; omega
        have hzz : Hid (z = v) := hid (by rw [← hz]; omega)
        clear hz
        by_cases hzp : 0 < z
        · have hp2 : 0 < v := by rw [← hzz.out]; exact hzp
          go_wp2_with (first
            | (at_builtin; have hq := hs2; refine wpList_append_dots rfl _ _ 56 Try.underlying56 rfl w1.heap.size _ R.length (flat R) rfl (hO.out.alloc _) (some ⟨wr.heap.size, 0, none⟩) 1 1 [(y, v)] rfl (ps_one wr (y, v)) (by omega) (by simp; omega) ?_; intro v5 w5 ho5 hg5)
            | (go_at_call 63; have hq := hs1; refine c2.mono ?_; rintro e w3 ⟨rfl, rfl⟩; have hs2 := hs1)
            | (go_at_call 63; refine c1.mono ?_; rintro e w2 ⟨rfl, rfl⟩; have hs1 := hid True.intro))
          go_roundw
          case rel =>
            refine ⟨i + 1, R ++ [(y, z)], by omega, by go_num, hid ?_, hid ?_, hid ?_⟩
            · rw [hsn.out, hone.out, if_pos hzp, ← hR.out]
            · rw [List.length_append, List.length_singleton, flat_append, hzz.out]; exact ho5
            · exact (hbl.out.alloc hbl.out.size _).grown hg5 (by simp; omega) (fun j hj => (hO.out.lt j hj).1)
          case measure => simp [intOf]; omega
        · have hp2 : ¬ 0 < v := by rw [← hzz.out]; exact hzp
          go_wp2_with (first
            | (go_at_call 63; have hq := hs1; refine c2.mono ?_; rintro e w3 ⟨rfl, rfl⟩; have hs2 := hs1)
            | (go_at_call 63; refine c1.mono ?_; rintro e w2 ⟨rfl, rfl⟩; have hs1 := hid True.intro))
          go_roundw
          case rel =>
            refine ⟨i + 1, R, by omega, by go_num, hid ?_, hO, hbl⟩
            rw [hsn.out, hone.out, if_neg (by omega), ← hR.out, List.append_nil]
          case measure => simp [intOf]; omega
      · generalize hz : max u v = z at hone
        have huvb : decide (u < v) = false := by simp; omega
        have hzz : Hid (z = u) := hid (by rw [← hz]; omega)
        clear hz
        by_cases hzp : 0 < z
        · have hp2 : 0 < u := by rw [← hzz.out]; exact hzp
          go_wp2_with (first
            | (at_builtin; have hq := hs2; refine wpList_append_dots rfl _ _ 56 Try.underlying56 rfl w1.heap.size _ R.length (flat R) rfl (hO.out.alloc _) (some ⟨wr.heap.size, 0, none⟩) 1 1 [(y, u)] rfl (ps_one wr (y, u)) (by omega) (by simp; omega) ?_; intro v5 w5 ho5 hg5)
            | (go_at_call 63; have hq := hs1; refine c2.mono ?_; rintro e w3 ⟨rfl, rfl⟩; have hs2 := hs1)
            | (go_at_call 63; refine c1.mono ?_; rintro e w2 ⟨rfl, rfl⟩; have hs1 := hid True.intro))
          go_roundw
          case rel =>
            refine ⟨i + 1, R ++ [(y, z)], by omega, by go_num, hid ?_, hid ?_, hid ?_⟩
            · rw [hsn.out, hone.out, if_pos hzp, ← hR.out]
            · rw [List.length_append, List.length_singleton, flat_append, hzz.out]; exact ho5
            · exact (hbl.out.alloc hbl.out.size _).grown hg5 (by simp; omega) (fun j hj => (hO.out.lt j hj).1)
          case measure => simp [intOf]; omega
        · have hp2 : ¬ 0 < u := by rw [← hzz.out]; exact hzp
          go_wp2_with (first
            | (go_at_call 63; have hq := hs1; refine c2.mono ?_; rintro e w3 ⟨rfl, rfl⟩; have hs2 := hs1)
            | (go_at_call 63; refine c1.mono ?_; rintro e w2 ⟨rfl, rfl⟩; have hs1 := hid True.intro))
          go_roundw
          case rel =>
            refine ⟨i + 1, R, by omega, by go_num, hid ?_, hO, hbl⟩
            rw [hsn.out, hone.out, if_neg (by omega), ← hR.out, List.append_nil]
          case measure => simp [intOf]; omega
    · obtain rfl : i = l.length := by omega
      go_wp2_with fail
      go_ret
      have hRR : R = vj (fun x y => max x y) A B := by rw [hvj.out, hR.out, List.take_length]
      rw [← hRR]
      exact ⟨_, rfl, sbase hO.out HB1.out.size, HB1.out.trans (hbl.out.mono HB1.out.size)⟩

set_option maxRecDepth 100000 in
set_option maxHeartbeats 4000000 in
theorem rmeet_any {a : Option Addr} {n c : Nat} {A : List Dt} {a' : Option Addr} {n' c' : Nat} {B : List Dt} {w : World} (hs : PS w a n c A) (hn : n ≤ 1000000) (hs' : PS w a' n' c' B) (hn' : n' ≤ 1000000) (hA : VM A) (hB : VM B) :
    Calls Try.prog 65 #[.slice a n c, .slice a' n' c', .bool true] w (Gives w (vj (fun x y => min x y) A B)) := by
  have hac := acts_any a n c A a' n' c' B w hs hn hs' hn' hA hB
  have hS := hid (And.intro hs hs')
  have hul : (ua A B).length ≤ 2000000 := by
    have := ua_length A B
    have := hs.len
    have := hs'.len
    omega
  have hvj : Hid (vj (fun x y => min x y) A B = pks (fun x y => min x y) A B (ua A B)) := hid rfl
  clear hA hB hs hs'
  generalize ua A B = l at hac hul hvj
  go_enter Try.func65, Try.ntmps65
  go_wp2_with (first | (go_at_call 81; refine hac.mono ?_; rintro e w1 ⟨v1, rfl, hO1, hB1⟩; obtain ⟨ad, cd, rfl, hci⟩ := ints_cells hO1))
  have HB1 := hid hB1
  have HC := hid hci
  have hvl : Hid _ := hid hO1
  clear hB1 hci hO1 hac
  go_loopw [9, 7] (fun s9 s7 wr => ∃ (i : Nat) (R : List Dt), i ≤ l.length ∧ s9 = .int .i64 i ∧ Hid (R = pks (fun x y => min x y) A B (l.take i)) ∧ Hid (wr.ownsRow w1.heap.size 24 2 s7 R.length (flat R)) ∧ Hid (RowKit.Below w1.heap.size w1 wr)) (fun s9 _ _ => l.length - (intOf s9).toNat)
  case atStart => exact ⟨0, [], by omega, rfl, hid (by simp [pks]), hid (World.ownsRow_nil _ _ _ _), hid (Below.refl _ _)⟩
  case round =>
    obtain ⟨i, R, hi, rfl, hR, hO, hbl⟩ := hrel
    by_cases hlt : i < l.length
    · obtain ⟨g, rfl, hg, hcell⟩ := HC.out (by omega)
      have hci := (hbl.out.cell (p := ⟨g, i, none⟩) hg).trans (hcell i hlt)
      have hsn : Hid (pks (fun x y => min x y) A B (l.take (i + 1)) = pks (fun x y => min x y) A B (l.take i) ++ pks (fun x y => min x y) A B [l[i]]) := hid (by rw [List.take_succ_eq_append_getElem hlt, pks_append])
      have hRl : R.length ≤ 2000000 := by
        rw [hR.out]
        have := pks_length (fun x y => min x y) A B (l.take i)
        rw [List.length_take] at this
        omega
      generalize l[i] = y at hci hsn
      clear hcell
      have hone : Hid (pks (fun x y => min x y) A B [y] = if 0 < min (gt A y) (gt B y) then [(y, min (gt A y) (gt B y))] else []) := hid (by
        simp only [pks, List.filterMap_cons, List.filterMap_nil]
        split <;> simp_all)
      have bw : RowKit.Below w.heap.size w wr := HB1.out.trans (hbl.out.mono HB1.out.size)
      have c1 := rget_eq (y := y) (hS.out.1.below bw) hn
      have c2 := rget_eq (y := y) (hS.out.2.below bw) hn'
      have hbs := hbl.out.size
      clear bw
      generalize gt A y = u at c1 hone
      generalize gt B y = v at c2 hone
      by_cases huv : u < v
      · generalize hz : min u v = z at hone
        have huvb : decide (u < v) = true := by simp; omega
        have hzz : Hid (z = u) := hid (by rw [← hz]; omega)
        clear hz
        by_cases hzp : 0 < z
        · have hp2 : 0 < u := by rw [← hzz.out]; exact hzp
          go_wp2_with (first
            | (at_builtin; have hq := hs2; refine wpList_append_dots rfl _ _ 56 Try.underlying56 rfl w1.heap.size _ R.length (flat R) rfl (hO.out.alloc _) (some ⟨wr.heap.size, 0, none⟩) 1 1 [(y, u)] rfl (ps_one wr (y, u)) (by omega) (by simp; omega) ?_; intro v5 w5 ho5 hg5)
            | (go_at_call 63; have hq := hs1; refine c2.mono ?_; rintro e w3 ⟨rfl, rfl⟩; have hs2 := hs1)
            | (go_at_call 63; refine c1.mono ?_; rintro e w2 ⟨rfl, rfl⟩; have hs1 := hid True.intro))
          go_roundw
          case rel =>
            refine ⟨i + 1, R ++ [(y, z)], by omega, by go_num, hid ?_, hid ?_, hid ?_⟩
            · rw [hsn.out, hone.out, if_pos hzp, ← hR.out]
            · rw [List.length_append, List.length_singleton, flat_append, hzz.out]; exact ho5
            · exact (hbl.out.alloc hbl.out.size _).grown hg5 (by simp; omega) (fun j hj => (hO.out.lt j hj).1)
          case measure => simp [intOf]; omega
        · have hp2 : ¬ 0 < u := by rw [← hzz.out]; exact hzp
          go_wp2_with (first
            | (go_at_call 63; have hq := hs1; refine c2.mono ?_; rintro e w3 ⟨rfl, rfl⟩; have hs2 := hs1)
            | (go_at_call 63; refine c1.mono ?_; rintro e w2 ⟨rfl, rfl⟩; have hs1 := hid True.intro))
          go_roundw
          case rel =>
            refine ⟨i + 1, R, by omega, by go_num, hid ?_, hO, hbl⟩
            rw [hsn.out, hone.out, if_neg (by omega), ← hR.out, List.append_nil]
          case measure => simp [intOf]; omega
      · generalize hz : min u v = z at hone
        have huvb : decide (u < v) = false := by simp; omega
        have hzz : Hid (z = v) := hid (by rw [← hz]; omega)
        clear hz
        by_cases hzp : 0 < z
        · have hp2 : 0 < v := by rw [← hzz.out]; exact hzp
          go_wp2_with (first
            | (at_builtin; have hq := hs2; refine wpList_append_dots rfl _ _ 56 Try.underlying56 rfl w1.heap.size _ R.length (flat R) rfl (hO.out.alloc _) (some ⟨wr.heap.size, 0, none⟩) 1 1 [(y, v)] rfl (ps_one wr (y, v)) (by omega) (by simp; omega) ?_; intro v5 w5 ho5 hg5)
            | (go_at_call 63; have hq := hs1; refine c2.mono ?_; rintro e w3 ⟨rfl, rfl⟩; have hs2 := hs1)
            | (go_at_call 63; refine c1.mono ?_; rintro e w2 ⟨rfl, rfl⟩; have hs1 := hid True.intro))
          go_roundw
          case rel =>
            refine ⟨i + 1, R ++ [(y, z)], by omega, by go_num, hid ?_, hid ?_, hid ?_⟩
            · rw [hsn.out, hone.out, if_pos hzp, ← hR.out]
            · rw [List.length_append, List.length_singleton, flat_append, hzz.out]; exact ho5
            · exact (hbl.out.alloc hbl.out.size _).grown hg5 (by simp; omega) (fun j hj => (hO.out.lt j hj).1)
          case measure => simp [intOf]; omega
        · have hp2 : ¬ 0 < v := by rw [← hzz.out]; exact hzp
          go_wp2_with (first
            | (go_at_call 63; have hq := hs1; refine c2.mono ?_; rintro e w3 ⟨rfl, rfl⟩; have hs2 := hs1)
            | (go_at_call 63; refine c1.mono ?_; rintro e w2 ⟨rfl, rfl⟩; have hs1 := hid True.intro))
          go_roundw
          case rel =>
            refine ⟨i + 1, R, by omega, by go_num, hid ?_, hO, hbl⟩
            rw [hsn.out, hone.out, if_neg (by omega), ← hR.out, List.append_nil]
          case measure => simp [intOf]; omega
    · obtain rfl : i = l.length := by omega
      go_wp2_with fail
      go_ret
      have hRR : R = vj (fun x y => min x y) A B := by rw [hvj.out, hR.out, List.take_length]
      rw [← hRR]
      exact ⟨_, rfl, sbase hO.out HB1.out.size, HB1.out.trans (hbl.out.mono HB1.out.size)⟩

end

section
open Go.RowKit

theorem grownBy_drewN (w : World) (n : Nat) (r : Option Nat) : w.grownBy (w.drewN n) r := ⟨rfl, rfl, rfl, Nat.le_refl _, fun _ _ _ => rfl⟩

theorem grownBy_setCell (w : World) (b o : Nat) (v : Value) : w.grownBy (w.setCell ⟨b, o, none⟩ v) (some b) := by
  refine ⟨rfl, rfl, rfl, by simp [World.setCell], fun k _ hne => ?_⟩
  have : b ≠ k := fun e => hne (by rw [e])
  simp [World.setCell, Array.getElem?_modify, this]

end
end Go.Proofs.Ytplcohjpchfkkaa
