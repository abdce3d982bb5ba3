/- What is missing, as plain rows: had by the one, not by the other, rising; put in it makes the join. No function of the program. -/
import Derived.Test.YtliahpjlmgplkaaVMiss
namespace Go.Proofs.Ytliahpjlmgplkaa

theorem mem_ms1 {B : List Dt} {d e : Dt} (h : e ∈ ms1 B d) : e.1 = d.1 ∧ gt B d.1 < e.2 ∧ e.2 ≤ d.2 := by
  unfold ms1 at h
  obtain ⟨j, hj, rfl⟩ := List.mem_map.1 h
  have := List.mem_range.1 hj
  refine ⟨rfl, ?_, ?_⟩
  · show gt B d.1 < gt B d.1 + 1 + (j : Int)
    omega
  · show gt B d.1 + 1 + (j : Int) ≤ d.2
    omega

theorem mem_mss {A B : List Dt} (hA : VM A) {e : Dt} (h : e ∈ mss A B) : gt B e.1 < e.2 ∧ e.2 ≤ gt A e.1 ∧ ∃ d ∈ A, d.1 = e.1 := by
  obtain ⟨d, hd, he⟩ := List.mem_flatMap.1 h
  obtain ⟨h1, h2, h3⟩ := mem_ms1 he
  have := gt_some hA.ac hd
  rw [h1]
  exact ⟨h2, by omega, d, hd, rfl⟩

theorem mss_may {A B : List Dt} (hA : VM A) (hB : VM B) {e : Dt} (h : e ∈ mss A B) : mayd e = true := by
  obtain ⟨h1, h2, d, hd, h3⟩ := mem_mss hA h
  have hm := (mayd_iff d).1 (hA.may d hd)
  have g1 := hA.gt_bounds e.1
  have g2 := hB.gt_bounds e.1
  rw [mayd_iff]
  omega

theorem mss_has {A B : List Dt} (hA : VM A) (hB : VM B) {e : Dt} (h : e ∈ mss A B) : hasv A e = true ∧ hasv B e = false := by
  obtain ⟨h1, h2, _⟩ := mem_mss hA h
  unfold hasv
  rw [mss_may hA hB h]
  constructor
  · simp; exact h2
  · simp; exact h1

theorem top_mss {A B : List Dt} (hA : VM A) (hB : VM B) {a : Int} (h : gt B a < gt A a) : (a, gt A a) ∈ mss A B := by
  have hp : 0 < gt A a := by have := hB.gt_bounds a; omega
  have hm := (hA.gt_pos hp).2
  refine List.mem_flatMap.2 ⟨_, hm, ?_⟩
  unfold ms1
  refine List.mem_map.2 ⟨(gt A a - gt B a - 1).toNat, List.mem_range.2 (by simp only; omega), ?_⟩
  refine Prod.ext rfl ?_
  show gt B a + 1 + (((gt A a - gt B a - 1).toNat : Nat) : Int) = gt A a
  omega

theorem up_ms1 (B : List Dt) (d : Dt) : Up (ms1 B d) := by
  unfold ms1 Up
  rw [List.pairwise_map]
  refine List.pairwise_lt_range.imp fun {i j} h => ?_
  rw [dl_iff]
  refine .inr ⟨rfl, ?_⟩
  show gt B d.1 + 1 + (i : Int) < gt B d.1 + 1 + (j : Int)
  omega

theorem up_mss {A B : List Dt} (hA : VM A) : Up (mss A B) := by
  induction A with
  | nil => exact List.Pairwise.nil
  | cons d r ih =>
    rw [mss_cons]
    refine List.pairwise_append.2 ⟨up_ms1 B d, ih hA.tail, fun x hx y hy => ?_⟩
    obtain ⟨h1, _⟩ := mem_ms1 hx
    obtain ⟨_, _, e, he, h2⟩ := mem_mss hA.tail hy
    have := hA.ahead e he
    rw [dl_iff]
    exact .inl (by omega)

theorem fold_le {l : List Dt} : ∀ {A : List Dt}, VM A → (∀ d ∈ l, mayd d = true) → ∀ {a m : Int}, gt A a ≤ m → (∀ d ∈ l, d.1 = a → d.2 ≤ m) → gt (l.foldl vwith A) a ≤ m := by
  induction l with
  | nil => exact fun _ _ _ _ h _ => h
  | cons d r ih =>
    intro A hA hm a m h1 h2
    refine ih (vwith_vm hA d) (fun e he => hm e (List.mem_cons_of_mem _ he)) ?_ (fun e he => h2 e (List.mem_cons_of_mem _ he))
    rw [vwith_gt hA (hm d (by simp))]
    split
    · have := h2 d (by simp) (by assumption)
      omega
    · exact h1

theorem fold_ge {l : List Dt} : ∀ {A : List Dt}, VM A → (∀ d ∈ l, mayd d = true) → ∀ a : Int, gt A a ≤ gt (l.foldl vwith A) a := by
  induction l with
  | nil => exact fun _ _ _ => Int.le_refl _
  | cons d r ih =>
    intro A hA hm a
    have := ih (vwith_vm hA d) (fun e he => hm e (List.mem_cons_of_mem _ he)) a
    have h2 := vwith_gt hA (hm d (by simp)) a
    simp only [List.foldl_cons]
    split at h2 <;> omega

theorem fold_in {l : List Dt} : ∀ {A : List Dt}, VM A → (∀ d ∈ l, mayd d = true) → ∀ e ∈ l, e.2 ≤ gt (l.foldl vwith A) e.1 := by
  induction l with
  | nil => exact fun _ _ e he => by simp at he
  | cons d r ih =>
    intro A hA hm e he
    have hr := fun x hx => hm x (List.mem_cons_of_mem _ hx)
    rcases List.mem_cons.1 he with rfl | he
    · have h1 := fold_ge (vwith_vm hA e) hr e.1
      have h2 := vwith_gt hA (hm e (by simp)) e.1
      rw [if_pos rfl] at h2
      simp only [List.foldl_cons]
      omega
    · exact ih (vwith_vm hA d) hr e he

/-- What is missing, put in, makes the join. -/
theorem fold_mss {A B : List Dt} (hA : VM A) (hB : VM B) : (mss A B).foldl vwith B = vjoin A B := by
  have hm : ∀ d ∈ mss A B, mayd d = true := fun d hd => mss_may hA hB hd
  refine eq_vj pick_max hA hB (foldl_vm _ _ hB) fun a => ?_
  have h1 := fold_le (a := a) (m := max (gt A a) (gt B a)) hB hm (by omega) (fun d hd e => by
    obtain ⟨_, h2, _⟩ := mem_mss hA hd
    rw [e] at h2
    omega)
  have h2 := fold_ge hB hm a
  show gt (List.foldl vwith B (mss A B)) a = max (gt A a) (gt B a)
  by_cases h : gt B a < gt A a
  · have h3 := fold_in hB hm _ (top_mss hA hB h)
    simp only at h3
    omega
  · omega

/-- A vector with an operation, made at its place. -/
def insv : List Dt → Dt → List Dt
  | [], d => [d]
  | e :: r, d => if e.1 < d.1 then e :: insv r d else if e.1 = d.1 then (e.1, max e.2 d.2) :: r else d :: e :: r

theorem insv_mem {d : Dt} : ∀ {A : List Dt} {x : Dt}, x ∈ insv A d → x.1 = d.1 ∨ x ∈ A
  | [], x, h => by simp [insv] at h; exact .inl (by rw [h])
  | e :: r, x, h => by
    unfold insv at h
    split at h
    · rcases List.mem_cons.1 h with rfl | h
      · exact .inr (by simp)
      · rcases insv_mem h with h | h
        · exact .inl h
        · exact .inr (List.mem_cons_of_mem _ h)
    · split at h
      · rcases List.mem_cons.1 h with rfl | h
        · exact .inl (by assumption)
        · exact .inr (List.mem_cons_of_mem _ h)
      · rcases List.mem_cons.1 h with rfl | h
        · exact .inl rfl
        · exact .inr h

theorem insv_vm {d : Dt} (hd : mayd d = true) : ∀ {A : List Dt}, VM A → VM (insv A d)
  | [], _ => vm_one hd
  | e :: r, h => by
    have h1 := h.ahead
    have he := (mayd_iff e).1 h.head
    have hd' := (mayd_iff d).1 hd
    unfold insv
    split
    · have ih := insv_vm hd h.tail
      refine ⟨List.pairwise_cons.2 ⟨fun x hx => ?_, ih.ac⟩, fun x hx => ?_⟩
      · rcases insv_mem hx with hx | hx
        · omega
        · exact h1 x hx
      · rcases List.mem_cons.1 hx with rfl | hx
        · exact h.head
        · exact ih.may x hx
    · split
      · refine ⟨List.pairwise_cons.2 ⟨fun x hx => h1 x hx, h.tail.ac⟩, fun x hx => ?_⟩
        rcases List.mem_cons.1 hx with rfl | hx
        · rw [mayd_iff]
          simp only
          omega
        · exact h.tail.may x hx
      · refine ⟨List.pairwise_cons.2 ⟨fun x hx => ?_, h.ac⟩, fun x hx => ?_⟩
        · rcases List.mem_cons.1 hx with rfl | hx
          · omega
          · have := h1 x hx; omega
        · rcases List.mem_cons.1 hx with rfl | hx
          · exact hd
          · exact h.may x hx

theorem insv_gt {d : Dt} (hd : mayd d = true) : ∀ {A : List Dt}, VM A → ∀ a, gt (insv A d) a = if d.1 = a then max (gt A a) d.2 else gt A a
  | [], _, a => by
    have hd' := (mayd_iff d).1 hd
    simp only [insv, gt]
    split <;> omega
  | e :: r, h, a => by
    have h1 := h.ahead
    have he := (mayd_iff e).1 h.head
    have hd' := (mayd_iff d).1 hd
    unfold insv
    split
    · have ih := insv_gt hd h.tail a
      simp only [gt]
      rw [ih]
      by_cases ha : e.1 = a
      · rw [if_pos ha, if_neg (by omega), if_pos ha]
      · rw [if_neg ha, if_neg ha]
    · split
      · rename_i h2
        simp only [gt]
        by_cases ha : e.1 = a
        · rw [if_pos ha, if_pos (by omega), if_pos ha]
        · rw [if_neg ha, if_neg (by omega), if_neg ha]
      · by_cases ha : d.1 = a
        · have hz : gt (e :: r) a = 0 := gt_none fun q hq => by
            rcases List.mem_cons.1 hq with rfl | hq
            · omega
            · have := h1 q hq; omega
          rw [if_pos ha, hz]
          simp only [gt]
          rw [if_pos ha]
          omega
        · rw [if_neg ha]
          show (if d.1 = a then d.2 else gt (e :: r) a) = _
          rw [if_neg ha]

theorem insv_eq {d : Dt} (hd : mayd d = true) {A : List Dt} (h : VM A) : vwith A d = insv A d :=
  vm_ext (vwith_vm h d) (insv_vm hd h) fun a => by rw [vwith_gt h hd, insv_gt hd h]

theorem cntv_cons (d : Dt) (l : List Dt) : cntv (d :: l) = d.2 + cntv l := by simp [cntv]

theorem insv_cnt {d : Dt} (hd : mayd d = true) : ∀ {A : List Dt}, VM A → cntv (insv A d) = cntv A + (max (gt A d.1) d.2 - gt A d.1)
  | [], _ => by
    have hd' := (mayd_iff d).1 hd
    simp only [insv, gt, cntv_cons]
    have : cntv [] = 0 := rfl
    rw [this]
    omega
  | e :: r, h => by
    have h1 := h.ahead
    have hd' := (mayd_iff d).1 hd
    unfold insv
    split
    · rw [cntv_cons, cntv_cons, insv_cnt hd h.tail]
      simp only [gt]
      rw [if_neg (by omega)]
      omega
    · split
      · rename_i h2
        rw [cntv_cons, cntv_cons]
        simp only [gt]
        rw [if_pos h2]
        omega
      · have hz : gt (e :: r) d.1 = 0 := gt_none fun q hq => by
          rcases List.mem_cons.1 hq with rfl | hq
          · omega
          · have := h1 q hq; omega
        rw [hz, cntv_cons]
        omega

theorem join_nil {B : List Dt} (hB : VM B) : vjoin [] B = B := (eq_vj pick_max vm_nil hB hB fun a => by
  have := hB.gt_bounds a
  show gt B a = max (gt [] a) (gt B a)
  simp only [gt]
  omega).symm

theorem join_cons {d : Dt} {r B : List Dt} (hA : VM (d :: r)) (hB : VM B) : vjoin (d :: r) B = vwith (vjoin r B) d := by
  have hr := vj_vm pick_max hA.tail hB
  refine (eq_vj pick_max hA hB (vwith_vm hr d) fun a => ?_).symm
  rw [vwith_gt hr hA.head, vj_gt pick_max hA.tail hB]
  show _ = max (gt (d :: r) a) (gt B a)
  simp only [gt]
  by_cases ha : d.1 = a
  · have hz : gt r a = 0 := gt_none fun q hq => by have := hA.ahead q hq; omega
    have := hB.gt_bounds a
    rw [if_pos ha, if_pos ha, hz]
    omega
  · rw [if_neg ha, if_neg ha]

theorem cnt_join {B : List Dt} (hB : VM B) : ∀ {A : List Dt}, VM A → cntv (vjoin A B) = cntv B + ((mss A B).length : Int)
  | [], _ => by rw [join_nil hB]; simp [mss]
  | d :: r, hA => by
    have hr := vj_vm pick_max hA.tail hB
    have ih := cnt_join hB hA.tail
    rw [join_cons hA hB, insv_eq hA.head hr, insv_cnt hA.head hr, ih, vj_gt pick_max hA.tail hB, mss_cons, List.length_append]
    have hz : gt r d.1 = 0 := gt_none fun q hq => by have := hA.ahead q hq; omega
    have hl : (ms1 B d).length = (d.2 - gt B d.1).toNat := by simp [ms1]
    have := hB.gt_bounds d.1
    rw [hz, hl]
    omega

end Go.Proofs.Ytliahpjlmgplkaa
