/- The reference beside the disk: its blocks are none of the disk's own, step by step. -/
import Derived.Test.YtocglenkdjiknaaDkRefL
import Derived.Test.YtocglenkdjiknaaDkNew
namespace Go.Proofs.Ytocglenkdjiknaa
section
set_option linter.unusedVariables false
set_option linter.unusedSimpArgs false
open Go.RowKit
set_option linter.unusedSectionVars false
variable {sp : Sep}


theorem fl_len (R : List (Nm × RFi)) : (mp RFi.fl R).length = R.length := by simp [mp]
theorem fl_bnd {R : List (Nm × RFi)} (h : ∀ x ∈ mp RFi.fl R, x.2.s ≤ x.2.b.length ∧ x.2.b.length ≤ 1000000) : ∀ x ∈ R, x.2.s ≤ x.2.b.length ∧ x.2.b.length ≤ 1000000 := fun x hx => h (x.1, x.2.fl) (List.mem_map.2 ⟨x, hx, rfl⟩)

/-- Rows that a fall can tear. -/
def Tear (G : List (Nm × Fl)) : Prop := G.length ≤ 1000 ∧ ∀ x ∈ G, x.2.s ≤ x.2.b.length ∧ x.2.b.length ≤ 1000000

theorem fall_as (G : List (Nm × Fl)) (hG : Tear G) (a : Option Addr) (c : Nat) (R : List (Nm × RFi)) (room q : Nat) (off due : Bool) (o p : Int) (w : World) (h : FR sp w (.slice a R.length c) R) (hm : mp RFi.fl R = G) (hq : q ≤ 9223372036854775807) :
    Calls Try.prog 45 #[.agg #[.slice a R.length c, .int .i64 (room : Int), .bool off, .bool due, .int .i64 o, .int .i64 p, .int .i64 (q : Int)]] w fun e w' => ∃ a2 c2 R2, e = .returned (.agg #[.slice a2 (List.length R2) c2, .int .i64 (room : Int), .bool true, .bool false, .int .i64 0, .int .i64 0, .int .i64 0]) ∧ FR sp w' (.slice a2 (List.length R2) c2) R2 ∧ mp RFi.fl R2 = mp (Fl.torn q) G ∧ Below w.heap.size w w' := by
  subst hm
  refine (rfall_any a c R room q off due o p w h (by rw [← fl_len]; exact hG.1) (fl_bnd hG.2) hq).mono ?_
  rintro e w' ⟨a2, c2, rfl, hf, hb⟩
  refine ⟨a2, c2, R.map (tornR q), by rw [List.length_map], by rw [List.length_map]; exact hf, torn_fl q R, hb⟩

theorem rdo_whole (ef : Ef) (kind : Int) (n t : Nm) (ao : Option Addr) (ll cc : Nat) (z : Int) (a : Option Addr) (c : Nat) (R : List (Nm × RFi)) (room : Nat) (due due2 : Bool) (o o2 p k : Int) (w : World) (hf : FR sp w (.slice a R.length c) R) (hll : ll ≤ cc) (hcm : cc ≤ maxLen)
    (hE : (ef none (mp RFi.fl R)).2 ≠ 0 → ∀ q, (ef q (mp RFi.fl R)).1 = mp RFi.fl R)
    (hw : ∀ w1, Below w.heap.size w w1 → Calls Try.prog 42 #[.agg #[.slice a R.length c, .int .i64 (room : Int), .bool false, .bool due, .int .i64 o, .int .i64 p, .int .i64 k], .int .i64 kind, .string (bs n), .string (bs t), .slice ao ll cc, .int .i64 z] w1 fun e w' => ∃ x : Nat, e = .returned (.int .i64 (x : Int)) ∧ x = (ef none (mp RFi.fl R)).2 ∧ Below w1.heap.size w1 w')
    (hdue : ∀ w1, Calls Try.prog 43 #[.agg #[.slice a R.length c, .int .i64 (room : Int), .bool false, .bool due, .int .i64 o, .int .i64 p, .int .i64 k]] w1 fun e w' => e = .returned (.tuple #[.agg #[.slice a R.length c, .int .i64 (room : Int), .bool false, .bool due2, .int .i64 o2, .int .i64 p, .int .i64 k], .bool false]) ∧ Below w1.heap.size w1 w')
    (hdone : (ef none (mp RFi.fl R)).2 = 0 → ∀ w1, Below w.heap.size w w1 → Calls Try.prog 44 #[.slice a R.length c, .int .i64 kind, .string (bs n), .string (bs t), .slice ao ll cc, .int .i64 z, .bool true, .bool true] w1 fun e w' => ∃ v, e = .returned v ∧ ∃ R', FR sp w' v R' ∧ mp RFi.fl R' = (ef none (mp RFi.fl R)).1 ∧ Below w1.heap.size w1 w') :
    Calls Try.prog 26 #[.agg #[.slice a R.length c, .int .i64 (room : Int), .bool false, .bool due, .int .i64 o, .int .i64 p, .int .i64 k], .int .i64 kind, .string (bs n), .string (bs t), .slice ao ll cc, .int .i64 z] w fun e w' => ∃ v, e = .returned (.tuple #[.agg #[v, .int .i64 (room : Int), .bool false, .bool due2, .int .i64 o2, .int .i64 p, .int .i64 k], .int .i64 ((ef none (mp RFi.fl R)).2 : Int)]) ∧ ∃ R', FR sp w' v R' ∧ mp RFi.fl R' = (ef none (mp RFi.fl R)).1 ∧ Below w.heap.size w w' := by
  by_cases hx : (ef none (mp RFi.fl R)).2 = 0
  · refine (do_ok kind n t ao ll cc z a c R room due due2 o o2 p k w (ef none (mp RFi.fl R)).1 hll hcm (fun w1 hb => (hw w1 hb).mono ?_) hdue (hdone hx)).mono ?_
    · rintro e w' ⟨x, rfl, rfl, hb⟩
      exact ⟨by rw [hx]; rfl, hb⟩
    · rintro e w' ⟨v, rfl, h⟩
      exact ⟨v, by rw [hx]; rfl, h⟩
  · refine (do_err kind (ef none (mp RFi.fl R)).2 n t ao ll cc z a c R room due due2 o o2 p k w (by omega) (fun w1 hb => (hw w1 hb).mono ?_) hdue).mono ?_
    · rintro e w' ⟨x, rfl, rfl, hb⟩
      exact ⟨rfl, hb⟩
    · rintro e w' ⟨rfl, hb⟩
      exact ⟨_, rfl, R, hf.below hb, (hE hx none).symm, hb⟩

theorem rdo_fall (ef : Ef) (kind : Int) (n t : Nm) (ao : Option Addr) (ll cc : Nat) (z : Int) (a : Option Addr) (c : Nat) (R : List (Nm × RFi)) (room : Nat) (due due2 : Bool) (o o2 : Int) (p k : Nat) (w : World) (hf : FR sp w (.slice a R.length c) R) (hll : ll ≤ cc) (hcm : cc ≤ maxLen) (hk : k ≤ 9223372036854775807)
    (hE : (ef none (mp RFi.fl R)).2 ≠ 0 → ∀ q, (ef q (mp RFi.fl R)).1 = mp RFi.fl R)
    (hT : Tear (ef (some p) (mp RFi.fl R)).1)
    (hw : ∀ w1, Below w.heap.size w w1 → Calls Try.prog 42 #[.agg #[.slice a R.length c, .int .i64 (room : Int), .bool false, .bool due, .int .i64 o, .int .i64 (p : Int), .int .i64 (k : Int)], .int .i64 kind, .string (bs n), .string (bs t), .slice ao ll cc, .int .i64 z] w1 fun e w' => ∃ x : Nat, e = .returned (.int .i64 (x : Int)) ∧ x = (ef none (mp RFi.fl R)).2 ∧ Below w1.heap.size w1 w')
    (hdue : ∀ w1, Calls Try.prog 43 #[.agg #[.slice a R.length c, .int .i64 (room : Int), .bool false, .bool due, .int .i64 o, .int .i64 (p : Int), .int .i64 (k : Int)]] w1 fun e w' => e = .returned (.tuple #[.agg #[.slice a R.length c, .int .i64 (room : Int), .bool false, .bool due2, .int .i64 o2, .int .i64 (p : Int), .int .i64 (k : Int)], .bool true]) ∧ Below w1.heap.size w1 w')
    (hdone : (ef none (mp RFi.fl R)).2 = 0 → ∀ w1, Below w.heap.size w w1 → Calls Try.prog 44 #[.slice a R.length c, .int .i64 kind, .string (bs n), .string (bs t), .slice ao (min p ll) cc, .int .i64 z, .bool false, .bool (decide (0 < p))] w1 fun e w' => ∃ v, e = .returned v ∧ ∃ R', FR sp w' v R' ∧ mp RFi.fl R' = (ef (some p) (mp RFi.fl R)).1 ∧ Below w1.heap.size w1 w') :
    Calls Try.prog 26 #[.agg #[.slice a R.length c, .int .i64 (room : Int), .bool false, .bool due, .int .i64 o, .int .i64 (p : Int), .int .i64 (k : Int)], .int .i64 kind, .string (bs n), .string (bs t), .slice ao ll cc, .int .i64 z] w fun e w' => ∃ a2 c2 R2, e = .returned (.tuple #[.agg #[.slice a2 (List.length R2) c2, .int .i64 (room : Int), .bool true, .bool false, .int .i64 0, .int .i64 0, .int .i64 0], .int .i64 71]) ∧ FR sp w' (.slice a2 (List.length R2) c2) R2 ∧ mp RFi.fl R2 = mp (Fl.torn k) (ef (some p) (mp RFi.fl R)).1 ∧ Below w.heap.size w w' := by
  by_cases hx : (ef none (mp RFi.fl R)).2 = 0
  · refine do_cut kind n t ao ll cc z a c R room due due2 o o2 p k w (ef (some p) (mp RFi.fl R)).1 _ (min p ll) (decide (0 < p)) (by split <;> omega) (by simp) hll hcm (fun w1 hb => (hw w1 hb).mono ?_) hdue (hdone hx) (fun w1 a1 c1 R1 hb h1 hm1 => fall_as _ hT a1 c1 R1 room k false due2 o2 p w1 h1 hm1 hk)
    rintro e w' ⟨x, rfl, rfl, hb⟩
    exact ⟨by rw [hx]; rfl, hb⟩
  · have he := hE hx (some p)
    rw [he] at hT ⊢
    refine do_errcut kind (ef none (mp RFi.fl R)).2 n t ao ll cc z a c R room due due2 o o2 p k w _ (by omega) (fun w1 hb => (hw w1 hb).mono ?_) hdue (fun w1 hb => fall_as _ hT a c R room k false due2 o2 p w1 (hf.below hb) rfl hk)
    rintro e w' ⟨x, rfl, rfl, hb⟩
    exact ⟨rfl, hb⟩

/-- A cut as the reference keeps it. -/
def DU (due : Bool) (o p k : Int) (u : Option (Nat × Nat × Nat)) : Prop :=
  (u = none ∧ due = false) ∨ ∃ o' p' k' : Nat, u = some (o', p', k') ∧ due = true ∧ o = (o' : Int) ∧ p = (p' : Int) ∧ k = (k' : Int) ∧ o' ≤ 9223372036854775807 ∧ p' ≤ 9223372036854775807 ∧ k' ≤ 9223372036854775807

/-- A disk of the reference. -/
def RDk (sp : Sep) (w : World) (v : Value) (D : Dk) : Prop := ∃ a c R due o p k, v = .agg #[.slice a (List.length R) c, .int .i64 (D.room : Int), .bool D.off, .bool due, .int .i64 o, .int .i64 p, .int .i64 k] ∧ FR sp w (.slice a (List.length R) c) R ∧ mp RFi.fl R = D.F ∧ DU due o p k D.due

theorem rdo_any (ef : Ef) (kind : Int) (n t : Nm) (ao : Option Addr) (ll cc : Nat) (z : Int) (v : Value) (D : Dk) (w : World) (h : RDk sp w v D) (hll : ll ≤ cc) (hcm : cc ≤ maxLen)
    (hE : (ef none D.F).2 ≠ 0 → ∀ q, (ef q D.F).1 = D.F)
    (hT : ∀ q, Tear (ef q D.F).1)
    (hw : ∀ w1 a c R due o p k, FR sp w1 (.slice a (List.length R) c) R → mp RFi.fl R = D.F → Below w.heap.size w w1 → Calls Try.prog 42 #[.agg #[.slice a (List.length R) c, .int .i64 (D.room : Int), .bool false, .bool due, .int .i64 o, .int .i64 p, .int .i64 k], .int .i64 kind, .string (bs n), .string (bs t), .slice ao ll cc, .int .i64 z] w1 fun e w' => ∃ x : Nat, e = .returned (.int .i64 (x : Int)) ∧ x = (ef none (mp RFi.fl R)).2 ∧ Below w1.heap.size w1 w')
    (hdone : ∀ w1 a c R, FR sp w1 (.slice a (List.length R) c) R → mp RFi.fl R = D.F → (ef none D.F).2 = 0 → Below w.heap.size w w1 → Calls Try.prog 44 #[.slice a (List.length R) c, .int .i64 kind, .string (bs n), .string (bs t), .slice ao ll cc, .int .i64 z, .bool true, .bool true] w1 fun e w' => ∃ v, e = .returned v ∧ ∃ R', FR sp w' v R' ∧ mp RFi.fl R' = (ef none (mp RFi.fl R)).1 ∧ Below w1.heap.size w1 w')
    (hcut : ∀ w1 a c R p, FR sp w1 (.slice a (List.length R) c) R → mp RFi.fl R = D.F → (ef none D.F).2 = 0 → Below w.heap.size w w1 → Calls Try.prog 44 #[.slice a (List.length R) c, .int .i64 kind, .string (bs n), .string (bs t), .slice ao (min p ll) cc, .int .i64 z, .bool false, .bool (decide (0 < p))] w1 fun e w' => ∃ v, e = .returned v ∧ ∃ R', FR sp w' v R' ∧ mp RFi.fl R' = (ef (some p) (mp RFi.fl R)).1 ∧ Below w1.heap.size w1 w') :
    Calls Try.prog 26 #[v, .int .i64 kind, .string (bs n), .string (bs t), .slice ao ll cc, .int .i64 z] w fun e w' => ∃ v', e = .returned (.tuple #[v', .int .i64 ((operD ef D).2 : Int)]) ∧ RDk sp w' v' (operD ef D).1 ∧ Below w.heap.size w w' := by
  obtain ⟨a, c, R, due, o, p, k, rfl, hf, hm, hu⟩ := h
  by_cases ho : D.off = true
  · have e1 : operD ef D = (D, 71) := by simp [operD, ho]
    rw [e1, ho]
    refine (do_off kind n t ao ll cc z a c R D.room due o p k w).mono ?_
    rintro _ w' ⟨rfl, hb⟩
    exact ⟨_, rfl, ⟨a, c, R, due, o, p, k, by rw [ho], hf.below hb, hm, hu⟩, hb⟩
  · have ho' : D.off = false := by simpa using ho
    rw [ho']
    have hW := fun w1 due o p k hb => hw w1 a c R due o p k (hf.below hb) hm hb
    have hD := fun h0 w1 hb => hdone w1 a c R (hf.below hb) hm h0 hb
    have hC := fun p h0 w1 hb => hcut w1 a c R p (hf.below hb) hm h0 hb
    rw [← hm] at hE hT hD hC
    rcases hu with ⟨hd, rfl⟩ | ⟨o', p', k', hd, rfl, rfl, rfl, rfl, ho2, hp2, hk2⟩
    · have e1 : operD ef D = (⟨D.room, false, none, (ef none (mp RFi.fl R)).1⟩, (ef none (mp RFi.fl R)).2) := by simp [operD, ho', hd, hm]
      rw [e1]
      refine (rdo_whole ef kind n t ao ll cc z a c R D.room false false o o p k w hf hll hcm hE (fun w1 hb => hW w1 _ _ _ _ hb) (fun w1 => rdue_no a R.length c D.room false false o p k w1) hD).mono ?_
      rintro e w' ⟨v, rfl, R', h1, h2, h3⟩
      obtain ⟨a', c', rfl, _⟩ := h1.row
      exact ⟨_, rfl, ⟨a', c', R', false, o, p, k, rfl, h1, h2, Or.inl ⟨rfl, rfl⟩⟩, h3⟩
    · rcases o' with _ | o'
      · have e1 : operD ef D = (⟨D.room, true, none, mp (Fl.torn k') (ef (some p') (mp RFi.fl R)).1⟩, 71) := by simp [operD, ho', hd, hm]
        rw [e1]
        refine (rdo_fall ef kind n t ao ll cc z a c R D.room true true ((0 : Nat) : Int) ((0 : Nat) : Int) p' k' w hf hll hcm hk2 hE (hT _) (fun w1 hb => hW w1 _ _ _ _ hb) (fun w1 => rdue_yes a R.length c D.room false true _ p' k' w1 (by simp)) (hC p')).mono ?_
        rintro e w' ⟨a', c', R', rfl, h1, h2, h3⟩
        exact ⟨_, rfl, ⟨a', c', R', false, 0, 0, 0, rfl, h1, h2, Or.inl ⟨rfl, rfl⟩⟩, h3⟩
      · have e1 : operD ef D = (⟨D.room, false, some (o', p', k'), (ef none (mp RFi.fl R)).1⟩, (ef none (mp RFi.fl R)).2) := by simp [operD, ho', hd, hm]
        rw [e1]
        refine (rdo_whole ef kind n t ao ll cc z a c R D.room true true ((o' + 1 : Nat) : Int) (((o' + 1 : Nat) : Int) - 1) p' k' w hf hll hcm hE (fun w1 hb => hW w1 _ _ _ _ hb) (fun w1 => rdue_dec a R.length c D.room false true _ p' k' w1 (by omega) (by omega)) hD).mono ?_
        rintro e w' ⟨v, rfl, R', h1, h2, h3⟩
        obtain ⟨a', c', rfl, _⟩ := h1.row
        exact ⟨_, rfl, ⟨a', c', R', true, _, p', k', rfl, h1, h2, Or.inr ⟨o', p', k', rfl, rfl, by omega, rfl, rfl, by omega, hp2, hk2⟩⟩, h3⟩
end

section
set_option linter.unusedVariables false
set_option linter.unusedSimpArgs false
open Go.RowKit
set_option linter.unusedSectionVars false
variable {sp : Sep}


theorem wo_fewer (F : List (Nm × Fl)) (n : Nm) : (wo F n).length ≤ F.length := by
  induction F with
  | nil => simp [wo]
  | cons p r ih =>
    obtain ⟨m, f⟩ := p
    simp only [wo]
    split <;> simp <;> omega

/-- A file that a fall can tear. -/
def FT (f : Fl) : Prop := f.s ≤ f.b.length ∧ f.b.length ≤ 1000000
theorem good_ft {D : Dk} (h : Good D) : ∀ x ∈ D.F, FT x.2 := by
  rintro ⟨n, f⟩ hx
  have e := mem_lk h.asc hx
  have h1 := sm_at Fl.n e
  have h2 := (h.nice n f e).2.2
  have h3 := h.fits
  have h4 := h.small
  unfold Fl.n at h1 h3
  exact ⟨h2, by simp only; omega⟩
theorem tear_base {D : Dk} (h : Good D) : Tear D.F := ⟨by have := h.few; omega, good_ft h⟩
theorem tear_wo {D : Dk} (h : Good D) (n : Nm) : Tear (wo D.F n) := ⟨by have := h.few; have := wo_fewer D.F n; omega, fun x hx => good_ft h x (mem_wo hx).1⟩
theorem tear_put {F : List (Nm × Fl)} (hA : Asc F) (hl : F.length ≤ 100) (hF : ∀ x ∈ F, FT x.2) (n : Nm) (f : Fl) (hf : FT f) : Tear (put F n f) := by
  refine ⟨by rw [len_put n f hA]; split <;> omega, fun x hx => ?_⟩
  rcases mem_put hx with rfl | h
  · exact hf
  · exact hF x h
theorem good_fz {D : Dk} (h : Good D) {n : Nm} {f : Fl} (e : lk D.F n = some f) : FT f := good_ft h (n, f) (lk_mem e)
theorem cutTo_ft {f : Fl} (h : FT f) (k : Nat) : FT (f.cutTo k) := by
  obtain ⟨h1, h2⟩ := h
  unfold Fl.cutTo
  split
  · exact ⟨h1, h2⟩
  · exact ⟨by simp only [List.length_take]; omega, by simp only [List.length_take]; omega⟩

/-- What Do asks of what it is given. -/
structure DoArg (n t : Nm) (ll cc : Nat) : Prop where
  n' : n.length ≤ maxLen
  t' : t.length ≤ maxLen
  ll' : ll ≤ cc
  cc' : cc ≤ maxLen

/-- What Do tells. -/
def RTold (sp : Sep) (ef : Ef) (D : Dk) (w : World) (e : Ending) (w' : World) : Prop := ∃ v', e = .returned (.tuple #[v', .int .i64 ((operD ef D).2 : Int)]) ∧ RDk sp w' v' (operD ef D).1 ∧ Below w.heap.size w w'

theorem rdo_sync (n t : Nm) (ao : Option Addr) (ll cc : Nat) (z : Int) (v : Value) (D : Dk) (w : World) (h : RDk sp w v D) (hG : Good D) (hA : DoArg n t ll cc) :
    Calls Try.prog 26 #[v, .int .i64 1, .string (bs n), .string (bs t), .slice ao ll cc, .int .i64 z] w (RTold sp (eSync n) D w) := by
  refine rdo_any (eSync n) 1 n t ao ll cc z v D w h hA.ll' hA.cc' (fun hx q => ?_) (fun q => ?_)
    (fun w1 a c R due o p k hf hm hb => wrong_sync a c R D.room false due o p k n t ao ll cc z w1 hf (by rw [← sm_RF, hm]; exact hG.fits) hG.small (by rw [← fl_len, hm]; have := hG.few; omega) hA.n' hA.t')
    (fun w1 a c R hf hm h0 hb => (done_sync a c R n t ao ll cc z true true w1 hf (by rw [← fl_len, hm]; exact hG.few) ((asc_mp _).1 (hm ▸ hG.asc))).mono ?_)
    (fun w1 a c R p hf hm h0 hb => (done_sync a c R n t ao (min p ll) cc z false (decide (0 < p)) w1 hf (by rw [← fl_len, hm]; exact hG.few) ((asc_mp _).1 (hm ▸ hG.asc))).mono ?_)
  · unfold eSync at hx ⊢
    cases e : lk D.F n with
    | none => rfl
    | some f => simp [e] at hx
  · unfold eSync
    cases e : lk D.F n with
    | none => exact tear_base hG
    | some f =>
      simp only
      split
      · exact tear_put hG.asc hG.few (good_ft hG) n _ ⟨Nat.le_refl _, (good_fz hG e).2⟩
      · exact tear_base hG
  · rintro e w' ⟨v, rfl, R', h1, h2, h3⟩
    refine ⟨v, rfl, R', h1, ?_, h3⟩
    rw [h2, hm]
    unfold eSync at h0 ⊢
    cases e : lk D.F n with
    | none => simp [e] at h0
    | some f => simp [fz]
  · rintro e w' ⟨v, rfl, R', h1, h2, h3⟩
    refine ⟨v, rfl, R', h1, ?_, h3⟩
    rw [h2, hm]
    unfold eSync at h0 ⊢
    cases e : lk D.F n with
    | none => simp [e] at h0
    | some f => simpa [fz] using put_same hG.asc e

theorem rdo_rem (n t : Nm) (ao : Option Addr) (ll cc : Nat) (z : Int) (v : Value) (D : Dk) (w : World) (h : RDk sp w v D) (hG : Good D) (hA : DoArg n t ll cc) :
    Calls Try.prog 26 #[v, .int .i64 3, .string (bs n), .string (bs t), .slice ao ll cc, .int .i64 z] w (RTold sp (eRem n) D w) := by
  refine rdo_any (eRem n) 3 n t ao ll cc z v D w h hA.ll' hA.cc' (fun hx q => ?_) (fun q => ?_)
    (fun w1 a c R due o p k hf hm hb => wrong_rem a c R D.room false due o p k n t ao ll cc z w1 hf (by rw [← sm_RF, hm]; exact hG.fits) hG.small (by rw [← fl_len, hm]; have := hG.few; omega) hA.n' hA.t')
    (fun w1 a c R hf hm h0 hb => (done_rem a c R n t ao ll cc z true true w1 hf (by rw [← fl_len, hm]; exact hG.few) ((asc_mp _).1 (hm ▸ hG.asc))).mono ?_)
    (fun w1 a c R p hf hm h0 hb => (done_rem a c R n t ao (min p ll) cc z false (decide (0 < p)) w1 hf (by rw [← fl_len, hm]; exact hG.few) ((asc_mp _).1 (hm ▸ hG.asc))).mono ?_)
  · unfold eRem at hx ⊢
    cases e : lk D.F n with
    | none => rfl
    | some f => simp [e] at hx
  · unfold eRem
    cases e : lk D.F n with
    | none => exact tear_base hG
    | some f =>
      simp only
      split
      · exact tear_base hG
      · exact tear_wo hG n
  · rintro e w' ⟨v, rfl, R', h1, h2, h3⟩
    refine ⟨v, rfl, R', h1, ?_, h3⟩
    rw [h2, hm]
    unfold eRem at h0 ⊢
    cases e : lk D.F n with
    | none => simp [e] at h0
    | some f => simp
  · rintro e w' ⟨v, rfl, R', h1, h2, h3⟩
    refine ⟨v, rfl, R', h1, ?_, h3⟩
    rw [h2, hm]
    unfold eRem at h0 ⊢
    cases e : lk D.F n with
    | none => simp [e] at h0
    | some f => rcases p with _ | p <;> simp

theorem rdo_ren (n t : Nm) (ao : Option Addr) (ll cc : Nat) (z : Int) (v : Value) (D : Dk) (w : World) (h : RDk sp w v D) (hG : Good D) (hA : DoArg n t ll cc) :
    Calls Try.prog 26 #[v, .int .i64 2, .string (bs n), .string (bs t), .slice ao ll cc, .int .i64 z] w (RTold sp (eRen n t) D w) := by
  refine rdo_any (eRen n t) 2 n t ao ll cc z v D w h hA.ll' hA.cc' (fun hx q => ?_) (fun q => ?_)
    (fun w1 a c R due o p k hf hm hb => wrong_ren a c R D.room false due o p k n t ao ll cc z w1 hf (by rw [← sm_RF, hm]; exact hG.fits) hG.small (by rw [← fl_len, hm]; have := hG.few; omega) hA.n' hA.t')
    (fun w1 a c R hf hm h0 hb => (done_ren a c R n t ao ll cc z true true w1 hf (by rw [← fl_len, hm]; exact hG.few) ((asc_mp _).1 (hm ▸ hG.asc))).mono ?_)
    (fun w1 a c R p hf hm h0 hb => (done_ren a c R n t ao (min p ll) cc z false (decide (0 < p)) w1 hf (by rw [← fl_len, hm]; exact hG.few) ((asc_mp _).1 (hm ▸ hG.asc))).mono ?_)
  · unfold eRen at hx ⊢
    by_cases hmy : mayB t = false
    · rw [if_pos hmy]
    · rw [if_neg hmy] at hx ⊢
      cases e : lk D.F n with
      | none => rfl
      | some f => simp [e] at hx
  · unfold eRen
    by_cases hmy : mayB t = false
    · rw [if_pos hmy]; exact tear_base hG
    · rw [if_neg hmy]
      cases e : lk D.F n with
      | none => exact tear_base hG
      | some f =>
        simp only
        split
        · exact tear_base hG
        · exact tear_put (asc_wo n hG.asc) (Nat.le_trans (wo_fewer _ _) hG.few) (fun x hx => good_ft hG x (mem_wo hx).1) t f (good_fz hG e)
  · rintro e w' ⟨v, rfl, R', h1, h2, h3⟩
    refine ⟨v, rfl, R', h1, ?_, h3⟩
    rw [h2, hm]
    unfold eRen at h0 ⊢
    by_cases hmy : mayB t = false
    · simp [hmy] at h0
    · rw [if_neg hmy] at h0 ⊢
      cases e : lk D.F n with
      | none => simp [e] at h0
      | some f => simp [fz]
  · rintro e w' ⟨v, rfl, R', h1, h2, h3⟩
    refine ⟨v, rfl, R', h1, ?_, h3⟩
    rw [h2, hm]
    unfold eRen at h0 ⊢
    by_cases hmy : mayB t = false
    · simp [hmy] at h0
    · rw [if_neg hmy] at h0 ⊢
      cases e : lk D.F n with
      | none => simp [e] at h0
      | some f => rcases p with _ | p <;> simp [fz]

theorem rdo_sho (n t : Nm) (ao : Option Addr) (ll cc : Nat) (z : Int) (v : Value) (D : Dk) (w : World) (h : RDk sp w v D) (hG : Good D) (hA : DoArg n t ll cc) (hz : z ≤ 9223372036854775807) :
    Calls Try.prog 26 #[v, .int .i64 4, .string (bs n), .string (bs t), .slice ao ll cc, .int .i64 z] w (RTold sp (eSho n z) D w) := by
  have hz0 : (eSho n z none D.F).2 = 0 → 0 ≤ z := by
    intro h0
    unfold eSho at h0
    cases e : lk D.F n with
    | none => simp [e] at h0
    | some f =>
      rw [e] at h0
      simp only at h0
      by_cases hz : z < 0
      · simp [hz] at h0
      · omega
  refine rdo_any (eSho n z) 4 n t ao ll cc z v D w h hA.ll' hA.cc' (fun hx q => ?_) (fun q => ?_)
    (fun w1 a c R due o p k hf hm hb => wrong_sho a c R D.room false due o p k n t ao ll cc z w1 hf (by rw [← sm_RF, hm]; exact hG.fits) hG.small (by rw [← fl_len, hm]; have := hG.few; omega) hA.n' hA.t')
    (fun w1 a c R hf hm h0 hb => (done_sho a c R n t ao ll cc z true true w1 hf (by rw [← fl_len, hm]; exact hG.few) ((asc_mp _).1 (hm ▸ hG.asc)) (hz0 h0) hz).mono ?_)
    (fun w1 a c R p hf hm h0 hb => (done_sho a c R n t ao (min p ll) cc z false (decide (0 < p)) w1 hf (by rw [← fl_len, hm]; exact hG.few) ((asc_mp _).1 (hm ▸ hG.asc)) (hz0 h0) hz).mono ?_)
  · unfold eSho at hx ⊢
    cases e : lk D.F n with
    | none => rfl
    | some f =>
      rw [e] at hx
      simp only at hx ⊢
      by_cases hz1 : z < 0
      · rw [if_pos hz1]
      · simp [hz1] at hx
  · unfold eSho
    cases e : lk D.F n with
    | none => exact tear_base hG
    | some f =>
      simp only
      split
      · exact tear_base hG
      · split
        · exact tear_base hG
        · exact tear_put hG.asc hG.few (good_ft hG) n _ (cutTo_ft (good_fz hG e) _)
  · rintro e w' ⟨v, rfl, R', h1, h2, h3⟩
    refine ⟨v, rfl, R', h1, ?_, h3⟩
    have hz1 : ¬ z < 0 := by have := hz0 h0; omega
    rw [h2, hm]
    unfold eSho at h0 ⊢
    cases e : lk D.F n with
    | none => simp [e] at h0
    | some f => simp [fz, hz1]
  · rintro e w' ⟨v, rfl, R', h1, h2, h3⟩
    refine ⟨v, rfl, R', h1, ?_, h3⟩
    have hz1 : ¬ z < 0 := by have := hz0 h0; omega
    rw [h2, hm]
    unfold eSho at h0 ⊢
    cases e : lk D.F n with
    | none => simp [e] at h0
    | some f =>
      rcases p with _ | p
      · simpa [fz, hz1] using put_same hG.asc e
      · simp [fz, hz1]

theorem src_cut {w : World} {a : Option Addr} {L : List Int} (h : Src w a L.length L) (p : Nat) : Src w a (L.take p).length (L.take p) := by
  refine ⟨rfl, fun hp => ?_⟩
  obtain ⟨ad, e, hc⟩ := h.2 (by rw [List.length_take] at hp; omega)
  refine ⟨ad, e, fun j v hj => hc j v ?_⟩
  rw [List.getElem?_take] at hj
  split at hj
  · exact hj
  · cases hj

theorem app_fits {D : Dk} (hG : Good D) {n : Nm} {L : List Int} (h0 : (eApp D.room n L none D.F).2 = 0) : (fz (lk D.F n)).b.length + L.length ≤ 1000000 ∧ (fz (lk D.F n)).s ≤ (fz (lk D.F n)).b.length ∧ mayB n ≠ false ∧ ¬ (D.room - sm Fl.n D.F < L.length ∨ (lk D.F n = none ∧ 100 ≤ D.F.length)) := by
  unfold eApp at h0
  by_cases hmy : mayB n = false
  · simp [hmy] at h0
  · rw [if_neg hmy] at h0
    by_cases hr : D.room - sm Fl.n D.F < L.length ∨ (lk D.F n = none ∧ 100 ≤ D.F.length)
    · rw [if_pos hr] at h0
      simp at h0
    · have h1 := hG.fits
      have h2 := hG.small
      have h3 : L.length ≤ D.room - sm Fl.n D.F := by
        have := fun h => hr (Or.inl h)
        omega
      cases e : lk D.F n with
      | none => exact ⟨by simp [fz]; omega, by simp [fz], hmy, e ▸ hr⟩
      | some f =>
        have h4 := sm_at Fl.n e
        unfold Fl.n at h1 h3 h4
        exact ⟨by simp only [fz]; omega, (good_fz hG e).1, hmy, e ▸ hr⟩

theorem rdo_app (n t : Nm) (ao : Option Addr) (cc : Nat) (z : Int) (L : List Int) (v : Value) (D : Dk) (w : World) (h : RDk sp w v D) (hG : Good D) (hA : DoArg n t L.length cc) (hs : Src w ao L.length L) (hao : ao = none → cc = 0) :
    Calls Try.prog 26 #[v, .int .i64 0, .string (bs n), .string (bs t), .slice ao L.length cc, .int .i64 z] w (RTold sp (eApp D.room n L) D w) := by
  refine rdo_any (eApp D.room n L) 0 n t ao L.length cc z v D w h hA.ll' hA.cc' (fun hx q => ?_) (fun q => ?_)
    (fun w1 a c R due o p k hf hm hb => wrong_app a c R D.room false due o p k n t ao L.length cc z w1 hf (by rw [← sm_RF, hm]; exact hG.fits) hG.small (by rw [← fl_len, hm]; have := hG.few; omega) hA.n' hA.t' L rfl)
    (fun w1 a c R hf hm h0 hb => (done_app a c R n t ao L.length cc z true true L w1 hf (by rw [← fl_len, hm]; exact hG.few) ((asc_mp _).1 (hm ▸ hG.asc)) (hs.below hb) hao (by rw [hm]; exact (app_fits hG h0).1)).mono ?_)
    (fun w1 a c R p hf hm h0 hb => ?_)
  · unfold eApp at hx ⊢
    by_cases hmy : mayB n = false
    · rw [if_pos hmy]
    · rw [if_neg hmy] at hx ⊢
      by_cases hr : D.room - sm Fl.n D.F < L.length ∨ (lk D.F n = none ∧ 100 ≤ D.F.length)
      · rw [if_pos hr]
      · rw [if_neg hr] at hx
        exact absurd rfl hx
  · by_cases h0 : (eApp D.room n L none D.F).2 = 0
    · obtain ⟨q1, q2, q3, q4⟩ := app_fits hG h0
      unfold eApp
      rw [if_neg q3, if_neg q4]
      refine tear_put hG.asc hG.few (good_ft hG) n _ ⟨?_, ?_⟩
      · simp only [List.length_append]; omega
      · simp only [List.length_append, List.length_take]; omega
    · unfold eApp at h0 ⊢
      by_cases hmy : mayB n = false
      · rw [if_pos hmy]; exact tear_base hG
      · rw [if_neg hmy] at h0 ⊢
        by_cases hr : D.room - sm Fl.n D.F < L.length ∨ (lk D.F n = none ∧ 100 ≤ D.F.length)
        · rw [if_pos hr]; exact tear_base hG
        · rw [if_neg hr] at h0
          exact absurd rfl h0
  · rintro e w' ⟨v, rfl, R', h1, h2, h3⟩
    refine ⟨v, rfl, R', h1, ?_, h3⟩
    obtain ⟨q1, q2, q3, q4⟩ := app_fits hG h0
    rw [h2, hm]
    unfold eApp
    rw [if_neg q3, if_neg q4]
    simp
  · obtain ⟨q1, q2, q3, q4⟩ := app_fits hG h0
    have e := List.length_take (i := p) (l := L)
    rw [← e]
    refine (done_app a c R n t ao L.length cc z false (decide (0 < p)) (L.take p) w1 hf (by rw [← fl_len, hm]; exact hG.few) ((asc_mp _).1 (hm ▸ hG.asc)) (src_cut (hs.below hb) p) hao (by rw [hm, e]; omega)).mono ?_
    rintro e w' ⟨v, rfl, R', h1, h2, h3⟩
    refine ⟨v, rfl, R', h1, ?_, h3⟩
    rw [h2, hm]
    unfold eApp
    rw [if_neg q3, if_neg q4]
    simp
end

section
set_option linter.unusedVariables false
set_option linter.unusedSimpArgs false
open Go.RowKit
set_option linter.unusedSectionVars false
variable {sp : Sep}


theorem RDk.below {w w' : World} {v : Value} {D : Dk} (h : RDk sp w v D) (hb : Below w.heap.size w w') : RDk sp w' v D := by
  obtain ⟨a, c, R, due, o, p, k, e, hf, r⟩ := h
  exact ⟨a, c, R, due, o, p, k, e, hf.below hb, r⟩

/-- The blocks that a disk of the reference stands on. -/
theorem FR.same {w w' : World} {v : Value} {R : List (Nm × RFi)} (h : FR sp w v R) {P : Nat → Prop} (hk : ∀ j, j < w.heap.size → P j → w'.heap[j]? = w.heap[j]?) (hb : ∀ p ∈ R, ∀ ad, 0 < p.2.b.length → p.2.a = some ad → P ad.block) (hr : ∀ a c, v = .slice (some ⟨a, 0, none⟩) R.length c → R ≠ [] → P a) (hz : w.heap.size ≤ w'.heap.size) : FR sp w' v R := by
  refine ⟨fun p hp => ⟨⟨(h.ok p hp).1.1, fun hpos => ?_⟩, (h.ok p hp).2⟩, ?_, h.loc, Nat.le_trans h.base hz⟩
  · obtain ⟨ad, e, hc⟩ := (h.ok p hp).1.2 hpos
    refine ⟨ad, e, fun j u hj => ?_⟩
    rw [← hc j u hj]
    exact cell_same (hk _ (src_block (h.ok p hp).1 ad hpos e) (hb p hp ad hpos e))
  · obtain ⟨a, c, e, hrow⟩ := h.row
    refine ⟨a, c, e, fun j p hj => ?_⟩
    obtain ⟨g', e', c0, c1, c2⟩ := hrow j p hj
    have hR : R ≠ [] := by rintro rfl; simp at hj
    have hg' := hk g' (cell_block c0) (hr g' c (by rw [e, e']) hR)
    have hh : ∀ (o : Nat), w'.cell? ⟨g', o, none⟩ = w.cell? ⟨g', o, none⟩ := fun o => by
      simp only [World.cell?, hg']
    exact ⟨g', e', (hh _).trans c0, (hh _).trans c1, (hh _).trans c2⟩

theorem ron_dk (v : Value) (D : Dk) (w : World) (h : RDk sp w v D) : Calls Try.prog 28 #[v] w fun e w' => ∃ v', e = .returned v' ∧ RDk sp w' v' ⟨D.room, false, none, D.F⟩ ∧ Below w.heap.size w w' := by
  obtain ⟨a, c, R, due, o, p, k, rfl, hf, hm, hu⟩ := h
  refine (ron_any a R.length c D.room D.off due o p k w).mono ?_
  rintro e w' ⟨rfl, hb⟩
  exact ⟨_, rfl, ⟨a, c, R, false, 0, 0, 0, rfl, hf.below hb, hm, Or.inl ⟨rfl, rfl⟩⟩, hb⟩

theorem rnew_dk (r : Int) (w : World) (hs : sp.b ≤ w.heap.size) : Calls Try.prog 10 #[.int .i64 r] w fun e w' => ∃ v', e = .returned v' ∧ RDk sp w' v' ⟨r.toNat, false, none, []⟩ ∧ Below w.heap.size w w' := by
  refine (rnew_any r w).mono ?_
  rintro e w' ⟨rfl, hb⟩
  exact ⟨_, rfl, ⟨none, 0, [], false, 0, 0, 0, rfl, FR.nil _ (Nat.le_trans hs hb.size), rfl, Or.inl ⟨rfl, rfl⟩⟩, hb⟩

theorem rcut_dk (v : Value) (D : Dk) (o2 p2 k2 : Int) (w : World) (h : RDk sp w v D) (ho : o2 ≤ 9223372036854775807) (hp : p2 ≤ 9223372036854775807) (hk : k2 ≤ 9223372036854775807) : Calls Try.prog 27 #[v, .int .i64 o2, .int .i64 p2, .int .i64 k2] w fun e w' => ∃ v', e = .returned (.tuple #[v', .int .i64 ((cutD D o2 p2 k2).2 : Int)]) ∧ RDk sp w' v' (cutD D o2 p2 k2).1 ∧ Below w.heap.size w w' := by
  obtain ⟨a, c, R, due, o, p, k, rfl, hf, hm, hu⟩ := h
  have hneg : (o2 < 0 ∨ p2 < 0 ∨ k2 < 0) → cutD D o2 p2 k2 = (D, 1) := fun hn => by unfold cutD; rw [if_pos hn]
  have keep : ∀ {e : Ending} {w' : World} {x : Nat}, cutD D o2 p2 k2 = (D, x) → (e = .returned (.tuple #[.agg #[.slice a (List.length R) c, .int .i64 (D.room : Int), .bool D.off, .bool due, .int .i64 o, .int .i64 p, .int .i64 k], .int .i64 (x : Int)]) ∧ Below w.heap.size w w') → ∃ v', e = .returned (.tuple #[v', .int .i64 ((cutD D o2 p2 k2).2 : Int)]) ∧ RDk sp w' v' (cutD D o2 p2 k2).1 ∧ Below w.heap.size w w' := by
    rintro e w' x hx ⟨rfl, hb⟩
    rw [hx]
    exact ⟨_, rfl, ⟨a, c, R, due, o, p, k, rfl, hf.below hb, hm, hu⟩, hb⟩
  by_cases h1 : o2 < 0
  · exact (rcut_neg1 a R.length c D.room D.off due o p k w o2 p2 k2 h1).mono fun e w' hh => keep (hneg (Or.inl h1)) hh
  by_cases h2 : p2 < 0
  · exact (rcut_neg2 a R.length c D.room D.off due o p k w o2 p2 k2 h1 h2).mono fun e w' hh => keep (hneg (Or.inr (Or.inl h2))) hh
  by_cases h3 : k2 < 0
  · exact (rcut_neg3 a R.length c D.room D.off due o p k w o2 p2 k2 h1 h2 h3).mono fun e w' hh => keep (hneg (Or.inr (Or.inr h3))) hh
  have hn : ¬ (o2 < 0 ∨ p2 < 0 ∨ k2 < 0) := by omega
  by_cases h4 : D.off = true
  · have hx : cutD D o2 p2 k2 = (D, 71) := by unfold cutD; rw [if_neg hn, if_pos h4]
    rw [h4] at keep ⊢
    exact (rcut_off a R.length c D.room D.off due o p k w o2 p2 k2 h1 h2 h3).mono fun e w' hh => keep hx hh
  · have h5 : D.off = false := by simpa using h4
    have hx : cutD D o2 p2 k2 = (⟨D.room, false, some (o2.toNat, p2.toNat, k2.toNat), D.F⟩, 0) := by unfold cutD; rw [if_neg hn, if_neg h4]
    rw [hx, h5]
    refine (rcut_ok a R.length c D.room D.off due o p k w o2 p2 k2 h1 h2 h3).mono ?_
    rintro e w' ⟨rfl, hb⟩
    exact ⟨_, rfl, ⟨a, c, R, true, o2, p2, k2, rfl, hf.below hb, hm, Or.inr ⟨o2.toNat, p2.toNat, k2.toNat, rfl, rfl, by omega, by omega, by omega, by omega, by omega, by omega⟩⟩, hb⟩
end

section
set_option linter.unusedVariables false
set_option linter.unusedSimpArgs false
open Go.RowKit
set_option linter.unusedSectionVars false

/-- The blocks that the reference may stand on. -/
def PS (s : Sep) (w : World) : Nat → Prop := fun j => s.Q j ∧ j < w.heap.size
/-- Behind what the disk did: what was the reference's, and all that is new from here on. -/
abbrev SepOf (s : Sep) (n1 n2 : Nat) : Sep := ⟨fun j => (s.Q j ∧ j < n1) ∨ n2 ≤ j, n2, fun j h => Or.inr h⟩
/-- At first. -/
abbrev SepAt (n1 n2 : Nat) : Sep := ⟨fun j => j < n1 ∨ n2 ≤ j, n2, fun j h => Or.inr h⟩

theorem FR.kp {s : Sep} {w w' : World} {v : Value} {R : List (Nm × RFi)} (h : FR s w v R) (k : KP w w' (PS s w)) : FR (SepOf s w.heap.size w'.heap.size) w' v R := by
  obtain ⟨hok, hrow, hloc, hbase⟩ := h
  have hin : ∀ {a : Addr} {u : Value}, w.cell? a = some u → s.Q a.block → w'.cell? a = some u := fun {a u} hc hq => by
    have hl := cell_block hc
    rw [← hc]
    simp only [World.cell?, k.keep a.block hl ⟨hq, hl⟩]
  refine @FR.mk (SepOf s w.heap.size w'.heap.size) w' v R (fun p hp => ?_) ?_ (fun g n c e hR => ?_) (Nat.le_refl _)
  · obtain ⟨h1, h2, h3, h4⟩ := hok p hp
    refine ⟨⟨h1.1, fun hpos => ?_⟩, h2, h3, fun ad hpos e => Or.inl ⟨h4 ad hpos e, src_block h1 ad hpos e⟩⟩
    obtain ⟨ad, e, hc⟩ := h1.2 hpos
    refine ⟨ad, e, fun j u hj => ?_⟩
    have eb : (ad.add j).block = ad.block := by
      unfold Addr.add
      split <;> rfl
    exact hin (hc j u hj) (by rw [eb]; exact h4 ad hpos e)
  · obtain ⟨a, c, e, hr⟩ := hrow
    refine ⟨a, c, e, fun i p hi => ?_⟩
    obtain ⟨g, e', c0, c1, c2⟩ := hr i p hi
    have hR : R ≠ [] := by rintro rfl; simp at hi
    have hq := hloc g R.length c (by rw [e, e']) hR
    exact ⟨g, e', hin c0 hq, hin c1 hq, hin c2 hq⟩
  · obtain ⟨a, c', e', hr⟩ := hrow
    obtain ⟨p, rest, rfl⟩ : ∃ p rest, R = p :: rest := by
      cases R with
      | nil => exact absurd rfl hR
      | cons p rest => exact ⟨p, rest, rfl⟩
    obtain ⟨g', eg, c0, _⟩ := hr 0 p rfl
    rw [e'] at e
    obtain rfl : a = some ⟨g, 0, none⟩ := by
      injection e
    obtain rfl : g = g' := by
      injection eg with eg
      injection eg
    exact Or.inl ⟨hloc g _ c' e' hR, cell_block c0⟩

theorem RDk.kp {s : Sep} {w w' : World} {v : Value} {D : Dk} (h : RDk s w v D) (k : KP w w' (PS s w)) : RDk (SepOf s w.heap.size w'.heap.size) w' v D := by
  obtain ⟨a, c, R, due, o, p, q, e, hf, r⟩ := h
  exact ⟨a, c, R, due, o, p, q, e, hf.kp k, r⟩

/-- Behind the reference's own step: the disk's blocks are none of those. -/
theorem DK.ps {s : Sep} {n : Nat} {w w' w2 : World} {d : Nat} {D : Dk} (hn : n = w.heap.size) (h : DK w' d D (PS s w)) (hb : Below w'.heap.size w' w2) : DK w2 d D (PS (SepOf s n w'.heap.size) w2) := by
  subst hn
  refine (h.more hb).less (fun j hj => ?_)
  rcases hj with ⟨hq | hq, hl⟩
  · exact Or.inl hq
  · exact Or.inr ⟨hq, hl⟩
/-- What only looks. -/
theorem DK.ps2 {s : Sep} {w w' : World} {d : Nat} {D : Dk} (h : DK w d D (PS s w)) (hb : Below w.heap.size w w') : DK w' d D (PS s w') := by
  refine (h.more hb).less (fun j hj => ?_)
  by_cases hl : j < w.heap.size
  · exact Or.inl ⟨hj.1, hl⟩
  · exact Or.inr ⟨by omega, hj.2⟩
/-- At first. -/
theorem DK.ps0 {n : Nat} {w : World} {d : Nat} {D : Dk} (h : DK w d D (fun j => j < n)) : DK w d D (PS (SepAt n w.heap.size) w) := by
  refine h.less (fun j hj => ?_)
  rcases hj with ⟨hq | hq, hl⟩
  · exact hq
  · omega
end
end Go.Proofs.Ytocglenkdjiknaa
