/- The reference: rows of files that are made. -/
import Derived.Test.YtocglenkdjiknaaDkRefB
import Derived.Deep.AppendLies
namespace Go.Proofs.Ytocglenkdjiknaa
section
set_option linter.unusedVariables false
set_option linter.unusedSimpArgs false
open Go.RowKit Go.Sort Go.Maps
set_option linter.unusedSectionVars false
variable {sp : Sep}


theorem box7 {w w1 : World} {v0 v1 v2 v3 v4 v5 v6 : Value} {t : TypeId} (hb : Below (w.alloc (.cells #[v0, v1, v2, v3, v4, v5, v6] t)).heap.size (w.alloc (.cells #[v0, v1, v2, v3, v4, v5, v6] t)) w1) : w1.cell? ⟨w.heap.size, 0, none⟩ = some v0 ∧ w1.cell? ⟨w.heap.size, 1, none⟩ = some v1 ∧ w1.cell? ⟨w.heap.size, 2, none⟩ = some v2 ∧ w1.cell? ⟨w.heap.size, 3, none⟩ = some v3 ∧ w1.cell? ⟨w.heap.size, 4, none⟩ = some v4 ∧ w1.cell? ⟨w.heap.size, 5, none⟩ = some v5 ∧ w1.cell? ⟨w.heap.size, 6, none⟩ = some v6 := by
  have h := heap_new w (.cells #[v0, v1, v2, v3, v4, v5, v6] t)
  have h1 := (hb.block w.heap.size (by simp)).trans h
  exact ⟨cell_blk h1 rfl, cell_blk h1 rfl, cell_blk h1 rfl, cell_blk h1 rfl, cell_blk h1 rfl, cell_blk h1 rfl, cell_blk h1 rfl⟩

theorem lk_RF (R : List (Nm × RFi)) (n : Nm) : lk (mp RFi.fl R) n = (lk R n).map RFi.fl := lk_mp _ R n
theorem sm_RF (R : List (Nm × RFi)) : sm Fl.n (mp RFi.fl R) = sm (fun f => f.b.length) R := by rw [sm_mp]; rfl

set_option maxRecDepth 100000 in
set_option maxHeartbeats 8000000 in
theorem wrong_sync (a : Option Addr) (c : Nat) (R : List (Nm × RFi)) (room : Nat) (off due : Bool) (o p k : Int) (n t : Nm) (ao : Option Addr) (ll cc : Nat) (z : Int) (w : World) (h : FR sp w (.slice a R.length c) R) (hsm : sm (fun f => f.b.length) R ≤ room) (hrm : room ≤ 1000000) (hl : R.length ≤ 1000) (hn : n.length ≤ maxLen) (ht : t.length ≤ maxLen) :
    Calls Try.prog 42 #[.agg #[.slice a R.length c, .int .i64 (room : Int), .bool off, .bool due, .int .i64 o, .int .i64 p, .int .i64 k], .int .i64 1, .string (bs n), .string (bs t), .slice ao ll cc, .int .i64 z] w fun e w' => ∃ x : Nat, e = .returned (.int .i64 (x : Int)) ∧ x = (eSync n none (mp RFi.fl R)).2 ∧ Below w.heap.size w w' := by
  have HR := hid h
  have HB0 := hid (new_below w (.cells #[.slice a R.length c, .int .i64 (room : Int), .bool off, .bool due, .int .i64 o, .int .i64 p, .int .i64 k] 28))
  have hat := hid (rat_any (.slice a R.length c) R room off due o p k n _ (h.below HB0.out) hl)
  have hnb : (bs n).size ≤ maxLen := by rw [bs_size]; exact hn
  have htb : (bs t).size ≤ maxLen := by rw [bs_size]; exact ht
  have hlk := lk_RF R n
  clear h
  cases hv : lk R n with
  | none =>
    have hs : (lk R n).isSome = false := by rw [hv]; rfl
    rw [hv] at hlk
    have hx : ((eSync n none (mp RFi.fl R)).2) = 70 := by unfold eSync; rw [hlk]; rfl
    have HX := hid hx
    clear hx hlk
    go_enter Try.func42, Try.ntmps42
    go_wp2_with (first
        | (go_at_call 25; refine hat.out.mono ?_; rintro e w1 ⟨i, rfl, hi, hb⟩; rw [hs] at hi; obtain ⟨x0, x1, x2, x3, x4, x5, x6⟩ := box7 hb; have HB1 := hid (HB0.out.trans (hb.mono HB0.out.size)); clear hb))
    go_ret
    exact ⟨_, rfl, HX.out.symm, HB1.out⟩
  | some f =>
    have hs : (lk R n).isSome = true := by rw [hv]; rfl
    rw [hv] at hlk
    have hx : ((eSync n none (mp RFi.fl R)).2) = 0 := by unfold eSync; rw [hlk]; rfl
    have HX := hid hx
    clear hx hlk
    go_enter Try.func42, Try.ntmps42
    go_wp2_with (first
        | (go_at_call 25; refine hat.out.mono ?_; rintro e w1 ⟨i, rfl, hi, hb⟩; rw [hs] at hi; obtain ⟨x0, x1, x2, x3, x4, x5, x6⟩ := box7 hb; have HB1 := hid (HB0.out.trans (hb.mono HB0.out.size)); clear hb))
    go_ret
    exact ⟨_, rfl, HX.out.symm, HB1.out⟩

set_option maxRecDepth 100000 in
set_option maxHeartbeats 8000000 in
theorem wrong_rem (a : Option Addr) (c : Nat) (R : List (Nm × RFi)) (room : Nat) (off due : Bool) (o p k : Int) (n t : Nm) (ao : Option Addr) (ll cc : Nat) (z : Int) (w : World) (h : FR sp w (.slice a R.length c) R) (hsm : sm (fun f => f.b.length) R ≤ room) (hrm : room ≤ 1000000) (hl : R.length ≤ 1000) (hn : n.length ≤ maxLen) (ht : t.length ≤ maxLen) :
    Calls Try.prog 42 #[.agg #[.slice a R.length c, .int .i64 (room : Int), .bool off, .bool due, .int .i64 o, .int .i64 p, .int .i64 k], .int .i64 3, .string (bs n), .string (bs t), .slice ao ll cc, .int .i64 z] w fun e w' => ∃ x : Nat, e = .returned (.int .i64 (x : Int)) ∧ x = (eRem n none (mp RFi.fl R)).2 ∧ Below w.heap.size w w' := by
  have HR := hid h
  have HB0 := hid (new_below w (.cells #[.slice a R.length c, .int .i64 (room : Int), .bool off, .bool due, .int .i64 o, .int .i64 p, .int .i64 k] 28))
  have hat := hid (rat_any (.slice a R.length c) R room off due o p k n _ (h.below HB0.out) hl)
  have hnb : (bs n).size ≤ maxLen := by rw [bs_size]; exact hn
  have htb : (bs t).size ≤ maxLen := by rw [bs_size]; exact ht
  have hlk := lk_RF R n
  clear h
  cases hv : lk R n with
  | none =>
    have hs : (lk R n).isSome = false := by rw [hv]; rfl
    rw [hv] at hlk
    have hx : ((eRem n none (mp RFi.fl R)).2) = 70 := by unfold eRem; rw [hlk]; rfl
    have HX := hid hx
    clear hx hlk
    go_enter Try.func42, Try.ntmps42
    go_wp2_with (first
        | (go_at_call 25; refine hat.out.mono ?_; rintro e w1 ⟨i, rfl, hi, hb⟩; rw [hs] at hi; obtain ⟨x0, x1, x2, x3, x4, x5, x6⟩ := box7 hb; have HB1 := hid (HB0.out.trans (hb.mono HB0.out.size)); clear hb))
    go_ret
    exact ⟨_, rfl, HX.out.symm, HB1.out⟩
  | some f =>
    have hs : (lk R n).isSome = true := by rw [hv]; rfl
    rw [hv] at hlk
    have hx : ((eRem n none (mp RFi.fl R)).2) = 0 := by unfold eRem; rw [hlk]; rfl
    have HX := hid hx
    clear hx hlk
    go_enter Try.func42, Try.ntmps42
    go_wp2_with (first
        | (go_at_call 25; refine hat.out.mono ?_; rintro e w1 ⟨i, rfl, hi, hb⟩; rw [hs] at hi; obtain ⟨x0, x1, x2, x3, x4, x5, x6⟩ := box7 hb; have HB1 := hid (HB0.out.trans (hb.mono HB0.out.size)); clear hb))
    go_ret
    exact ⟨_, rfl, HX.out.symm, HB1.out⟩

set_option maxRecDepth 100000 in
set_option maxHeartbeats 8000000 in
theorem wrong_sho (a : Option Addr) (c : Nat) (R : List (Nm × RFi)) (room : Nat) (off due : Bool) (o p k : Int) (n t : Nm) (ao : Option Addr) (ll cc : Nat) (z : Int) (w : World) (h : FR sp w (.slice a R.length c) R) (hsm : sm (fun f => f.b.length) R ≤ room) (hrm : room ≤ 1000000) (hl : R.length ≤ 1000) (hn : n.length ≤ maxLen) (ht : t.length ≤ maxLen) :
    Calls Try.prog 42 #[.agg #[.slice a R.length c, .int .i64 (room : Int), .bool off, .bool due, .int .i64 o, .int .i64 p, .int .i64 k], .int .i64 4, .string (bs n), .string (bs t), .slice ao ll cc, .int .i64 z] w fun e w' => ∃ x : Nat, e = .returned (.int .i64 (x : Int)) ∧ x = (eSho n z none (mp RFi.fl R)).2 ∧ Below w.heap.size w w' := by
  have HR := hid h
  have HB0 := hid (new_below w (.cells #[.slice a R.length c, .int .i64 (room : Int), .bool off, .bool due, .int .i64 o, .int .i64 p, .int .i64 k] 28))
  have hat := hid (rat_any (.slice a R.length c) R room off due o p k n _ (h.below HB0.out) hl)
  have hnb : (bs n).size ≤ maxLen := by rw [bs_size]; exact hn
  have htb : (bs t).size ≤ maxLen := by rw [bs_size]; exact ht
  have hlk := lk_RF R n
  clear h
  cases hv : lk R n with
  | none =>
    have hs : (lk R n).isSome = false := by rw [hv]; rfl
    rw [hv] at hlk
    have hx : ((eSho n z none (mp RFi.fl R)).2) = 70 := by unfold eSho; rw [hlk]; rfl
    have HX := hid hx
    clear hx hlk
    go_enter Try.func42, Try.ntmps42
    go_wp2_with (first
        | (go_at_call 25; refine hat.out.mono ?_; rintro e w1 ⟨i, rfl, hi, hb⟩; rw [hs] at hi; obtain ⟨x0, x1, x2, x3, x4, x5, x6⟩ := box7 hb; have HB1 := hid (HB0.out.trans (hb.mono HB0.out.size)); clear hb))
    go_ret
    exact ⟨_, rfl, HX.out.symm, HB1.out⟩
  | some f =>
    have hs : (lk R n).isSome = true := by rw [hv]; rfl
    rw [hv] at hlk
    by_cases hz : z < 0
    · have ez : decide (z < 0) = true := decide_eq_true hz
      have hx : ((eSho n z none (mp RFi.fl R)).2) = 1 := by unfold eSho; rw [hlk]; simp only [Option.map_some]; rw [if_pos hz]
      have HX := hid hx
      clear hx hlk
      go_enter Try.func42, Try.ntmps42
      go_wp2_with (first
          | (go_at_call 25; refine hat.out.mono ?_; rintro e w1 ⟨i, rfl, hi, hb⟩; rw [hs] at hi; obtain ⟨x0, x1, x2, x3, x4, x5, x6⟩ := box7 hb; have HB1 := hid (HB0.out.trans (hb.mono HB0.out.size)); clear hb))
      go_ret
      exact ⟨_, rfl, HX.out.symm, HB1.out⟩
    · have ez : decide (z < 0) = false := decide_eq_false hz
      have hx : ((eSho n z none (mp RFi.fl R)).2) = 0 := by unfold eSho; rw [hlk]; simp only [Option.map_some]; rw [if_neg hz]; rfl
      have HX := hid hx
      clear hx hlk
      go_enter Try.func42, Try.ntmps42
      go_wp2_with (first
          | (go_at_call 25; refine hat.out.mono ?_; rintro e w1 ⟨i, rfl, hi, hb⟩; rw [hs] at hi; obtain ⟨x0, x1, x2, x3, x4, x5, x6⟩ := box7 hb; have HB1 := hid (HB0.out.trans (hb.mono HB0.out.size)); clear hb))
      go_ret
      exact ⟨_, rfl, HX.out.symm, HB1.out⟩

set_option maxRecDepth 100000 in
set_option maxHeartbeats 8000000 in
theorem wrong_ren (a : Option Addr) (c : Nat) (R : List (Nm × RFi)) (room : Nat) (off due : Bool) (o p k : Int) (n t : Nm) (ao : Option Addr) (ll cc : Nat) (z : Int) (w : World) (h : FR sp w (.slice a R.length c) R) (hsm : sm (fun f => f.b.length) R ≤ room) (hrm : room ≤ 1000000) (hl : R.length ≤ 1000) (hn : n.length ≤ maxLen) (ht : t.length ≤ maxLen) :
    Calls Try.prog 42 #[.agg #[.slice a R.length c, .int .i64 (room : Int), .bool off, .bool due, .int .i64 o, .int .i64 p, .int .i64 k], .int .i64 2, .string (bs n), .string (bs t), .slice ao ll cc, .int .i64 z] w fun e w' => ∃ x : Nat, e = .returned (.int .i64 (x : Int)) ∧ x = (eRen n t none (mp RFi.fl R)).2 ∧ Below w.heap.size w w' := by
  have HR := hid h
  have HB0 := hid (new_below w (.cells #[.slice a R.length c, .int .i64 (room : Int), .bool off, .bool due, .int .i64 o, .int .i64 p, .int .i64 k] 28))
  have hat := hid (rat_any (.slice a R.length c) R room off due o p k n _ (h.below HB0.out) hl)
  have hnb : (bs n).size ≤ maxLen := by rw [bs_size]; exact hn
  have htb : (bs t).size ≤ maxLen := by rw [bs_size]; exact ht
  have hlk := lk_RF R n
  clear h
  cases hm : mayB t with
  | false =>
    cases hs : (lk R n).isSome
    · have hm' : mayB (bs t).data.toList = false := by simpa [bs] using hm
      have hx : ((eRen n t none (mp RFi.fl R)).2) = 61 := by unfold eRen; rw [hm]; rfl
      have HX := hid hx
      clear hx hlk
      go_enter Try.func42, Try.ntmps42
      go_wp2_with (first
          | (go_at_call 25; refine hat.out.mono ?_; rintro e w1 ⟨i, rfl, hi, hb⟩; rw [hs] at hi; obtain ⟨x0, x1, x2, x3, x4, x5, x6⟩ := box7 hb; have HB1 := hid (HB0.out.trans (hb.mono HB0.out.size)); clear hb)
          | (go_at_call 52; refine (rmay_any _ _ htb).mono ?_; rintro e w2 ⟨rfl, rfl⟩; rw [hm']))
      go_ret
      exact ⟨_, rfl, HX.out.symm, HB1.out⟩
    · have hm' : mayB (bs t).data.toList = false := by simpa [bs] using hm
      have hx : ((eRen n t none (mp RFi.fl R)).2) = 61 := by unfold eRen; rw [hm]; rfl
      have HX := hid hx
      clear hx hlk
      go_enter Try.func42, Try.ntmps42
      go_wp2_with (first
          | (go_at_call 25; refine hat.out.mono ?_; rintro e w1 ⟨i, rfl, hi, hb⟩; rw [hs] at hi; obtain ⟨x0, x1, x2, x3, x4, x5, x6⟩ := box7 hb; have HB1 := hid (HB0.out.trans (hb.mono HB0.out.size)); clear hb)
          | (go_at_call 52; refine (rmay_any _ _ htb).mono ?_; rintro e w2 ⟨rfl, rfl⟩; rw [hm']))
      go_ret
      exact ⟨_, rfl, HX.out.symm, HB1.out⟩
  | true =>
    have hm' : mayB (bs t).data.toList = true := by simpa [bs] using hm
    cases hv : lk R n with
    | none =>
      have hs : (lk R n).isSome = false := by rw [hv]; rfl
      rw [hv] at hlk
      have hx : ((eRen n t none (mp RFi.fl R)).2) = 70 := by unfold eRen; rw [hm, hlk]; rfl
      have HX := hid hx
      clear hx hlk
      go_enter Try.func42, Try.ntmps42
      go_wp2_with (first
          | (go_at_call 25; refine hat.out.mono ?_; rintro e w1 ⟨i, rfl, hi, hb⟩; rw [hs] at hi; obtain ⟨x0, x1, x2, x3, x4, x5, x6⟩ := box7 hb; have HB1 := hid (HB0.out.trans (hb.mono HB0.out.size)); clear hb)
          | (go_at_call 52; refine (rmay_any _ _ htb).mono ?_; rintro e w2 ⟨rfl, rfl⟩; rw [hm']))
      go_ret
      exact ⟨_, rfl, HX.out.symm, HB1.out⟩
    | some f =>
      have hs : (lk R n).isSome = true := by rw [hv]; rfl
      rw [hv] at hlk
      have hx : ((eRen n t none (mp RFi.fl R)).2) = 0 := by unfold eRen; rw [hm, hlk]; rfl
      have HX := hid hx
      clear hx hlk
      go_enter Try.func42, Try.ntmps42
      go_wp2_with (first
          | (go_at_call 25; refine hat.out.mono ?_; rintro e w1 ⟨i, rfl, hi, hb⟩; rw [hs] at hi; obtain ⟨x0, x1, x2, x3, x4, x5, x6⟩ := box7 hb; have HB1 := hid (HB0.out.trans (hb.mono HB0.out.size)); clear hb)
          | (go_at_call 52; refine (rmay_any _ _ htb).mono ?_; rintro e w2 ⟨rfl, rfl⟩; rw [hm']))
      go_ret
      exact ⟨_, rfl, HX.out.symm, HB1.out⟩

set_option maxRecDepth 100000 in
set_option maxHeartbeats 8000000 in
theorem wrong_app (a : Option Addr) (c : Nat) (R : List (Nm × RFi)) (room : Nat) (off due : Bool) (o p k : Int) (n t : Nm) (ao : Option Addr) (ll cc : Nat) (z : Int) (w : World) (h : FR sp w (.slice a R.length c) R) (hsm : sm (fun f => f.b.length) R ≤ room) (hrm : room ≤ 1000000) (hl : R.length ≤ 1000) (hn : n.length ≤ maxLen) (ht : t.length ≤ maxLen) (L : List Int) (hL : L.length = ll) :
    Calls Try.prog 42 #[.agg #[.slice a R.length c, .int .i64 (room : Int), .bool off, .bool due, .int .i64 o, .int .i64 p, .int .i64 k], .int .i64 0, .string (bs n), .string (bs t), .slice ao ll cc, .int .i64 z] w fun e w' => ∃ x : Nat, e = .returned (.int .i64 (x : Int)) ∧ x = (eApp room n L none (mp RFi.fl R)).2 ∧ Below w.heap.size w w' := by
  have HR := hid h
  have HB0 := hid (new_below w (.cells #[.slice a R.length c, .int .i64 (room : Int), .bool off, .bool due, .int .i64 o, .int .i64 p, .int .i64 k] 28))
  have hat := hid (rat_any (.slice a R.length c) R room off due o p k n _ (h.below HB0.out) hl)
  have hnb : (bs n).size ≤ maxLen := by rw [bs_size]; exact hn
  have htb : (bs t).size ≤ maxLen := by rw [bs_size]; exact ht
  have hlk := lk_RF R n
  clear h
  subst hL
  have hsmF := sm_RF R
  cases hm : mayB n with
  | false =>
    cases hs : (lk R n).isSome
    · have hm' : mayB (bs n).data.toList = false := by simpa [bs] using hm
      have hx : ((eApp room n L none (mp RFi.fl R)).2) = 61 := by unfold eApp; rw [hm]; rfl
      have HX := hid hx
      clear hx hlk
      go_enter Try.func42, Try.ntmps42
      go_wp2_with (first
          | (go_at_call 25; refine hat.out.mono ?_; rintro e w1 ⟨i, rfl, hi, hb⟩; rw [hs] at hi; obtain ⟨x0, x1, x2, x3, x4, x5, x6⟩ := box7 hb; have HB1 := hid (HB0.out.trans (hb.mono HB0.out.size)); clear hb)
          | (go_at_call 52; refine (rmay_any _ _ hnb).mono ?_; rintro e w2 ⟨rfl, rfl⟩; rw [hm']))
      go_ret
      exact ⟨_, rfl, HX.out.symm, HB1.out⟩
    · have hm' : mayB (bs n).data.toList = false := by simpa [bs] using hm
      have hx : ((eApp room n L none (mp RFi.fl R)).2) = 61 := by unfold eApp; rw [hm]; rfl
      have HX := hid hx
      clear hx hlk
      go_enter Try.func42, Try.ntmps42
      go_wp2_with (first
          | (go_at_call 25; refine hat.out.mono ?_; rintro e w1 ⟨i, rfl, hi, hb⟩; rw [hs] at hi; obtain ⟨x0, x1, x2, x3, x4, x5, x6⟩ := box7 hb; have HB1 := hid (HB0.out.trans (hb.mono HB0.out.size)); clear hb)
          | (go_at_call 52; refine (rmay_any _ _ hnb).mono ?_; rintro e w2 ⟨rfl, rfl⟩; rw [hm']))
      go_ret
      exact ⟨_, rfl, HX.out.symm, HB1.out⟩
  | true =>
    have hm' : mayB (bs n).data.toList = true := by simpa [bs] using hm
    by_cases hlong : room - sm (fun f : RFi => f.b.length) R < L.length
    · have el : decide (((room - sm (fun f : RFi => f.b.length) R : Nat) : Int) < (L.length : Int)) = true := decide_eq_true (by omega)
      cases hs : (lk R n).isSome
      · skip
        have hx : ((eApp room n L none (mp RFi.fl R)).2) = 72 := by unfold eApp; rw [if_neg (by rw [hm]; decide), if_pos (Or.inl (by rw [hsmF]; exact hlong))]
        have HX := hid hx
        clear hx hlk
        go_enter Try.func42, Try.ntmps42
        go_wp2_with (first
            | (go_at_call 25; refine hat.out.mono ?_; rintro e w1 ⟨i, rfl, hi, hb⟩; rw [hs] at hi; obtain ⟨x0, x1, x2, x3, x4, x5, x6⟩ := box7 hb; have HB1 := hid (HB0.out.trans (hb.mono HB0.out.size)); clear hb)
            | (go_at_call 52; refine (rmay_any _ _ hnb).mono ?_; rintro e w2 ⟨rfl, rfl⟩; rw [hm'])
            | (go_at_call 24; refine (rroom_any (.slice a R.length c) R room off due o p k _ (HR.out.below HB1.out) hsm hrm hl).mono ?_; rintro e w3 ⟨rfl, hb⟩; have y0 := (hb.cell (cell_block x0)).trans x0; have HB3 := hid (HB1.out.trans (hb.mono HB1.out.size)); clear hb))
        go_ret
        exact ⟨_, rfl, HX.out.symm, HB3.out⟩
      · skip
        have hx : ((eApp room n L none (mp RFi.fl R)).2) = 72 := by unfold eApp; rw [if_neg (by rw [hm]; decide), if_pos (Or.inl (by rw [hsmF]; exact hlong))]
        have HX := hid hx
        clear hx hlk
        go_enter Try.func42, Try.ntmps42
        go_wp2_with (first
            | (go_at_call 25; refine hat.out.mono ?_; rintro e w1 ⟨i, rfl, hi, hb⟩; rw [hs] at hi; obtain ⟨x0, x1, x2, x3, x4, x5, x6⟩ := box7 hb; have HB1 := hid (HB0.out.trans (hb.mono HB0.out.size)); clear hb)
            | (go_at_call 52; refine (rmay_any _ _ hnb).mono ?_; rintro e w2 ⟨rfl, rfl⟩; rw [hm'])
            | (go_at_call 24; refine (rroom_any (.slice a R.length c) R room off due o p k _ (HR.out.below HB1.out) hsm hrm hl).mono ?_; rintro e w3 ⟨rfl, hb⟩; have y0 := (hb.cell (cell_block x0)).trans x0; have HB3 := hid (HB1.out.trans (hb.mono HB1.out.size)); clear hb))
        go_ret
        exact ⟨_, rfl, HX.out.symm, HB3.out⟩
    · have el : decide (((room - sm (fun f : RFi => f.b.length) R : Nat) : Int) < (L.length : Int)) = false := decide_eq_false (by omega)
      cases hv : lk R n with
      | some f =>
        have hs : (lk R n).isSome = true := by rw [hv]; rfl
        rw [hv] at hlk
        have hx : ((eApp room n L none (mp RFi.fl R)).2) = 0 := by
          unfold eApp
          rw [if_neg (by rw [hm]; decide), if_neg (fun e => by
            rcases e with e | e
            · rw [hsmF] at e; exact hlong e
            · rw [hlk] at e; cases e.1)]
        have HX := hid hx
        clear hx hlk
        go_enter Try.func42, Try.ntmps42
        go_wp2_with (first
            | (go_at_call 25; refine hat.out.mono ?_; rintro e w1 ⟨i, rfl, hi, hb⟩; rw [hs] at hi; obtain ⟨x0, x1, x2, x3, x4, x5, x6⟩ := box7 hb; have HB1 := hid (HB0.out.trans (hb.mono HB0.out.size)); clear hb)
            | (go_at_call 52; refine (rmay_any _ _ hnb).mono ?_; rintro e w2 ⟨rfl, rfl⟩; rw [hm'])
            | (go_at_call 24; refine (rroom_any (.slice a R.length c) R room off due o p k _ (HR.out.below HB1.out) hsm hrm hl).mono ?_; rintro e w3 ⟨rfl, hb⟩; have y0 := (hb.cell (cell_block x0)).trans x0; have HB3 := hid (HB1.out.trans (hb.mono HB1.out.size)); clear hb))
        go_ret
        exact ⟨_, rfl, HX.out.symm, HB3.out⟩
      | none =>
        have hs : (lk R n).isSome = false := by rw [hv]; rfl
        rw [hv] at hlk
        by_cases hf : 100 ≤ R.length
        · have ef : decide ((100 : Int) ≤ (R.length : Int)) = true := decide_eq_true (by omega)
          have hx : ((eApp room n L none (mp RFi.fl R)).2) = 72 := by unfold eApp; rw [if_neg (by rw [hm]; decide), if_pos (Or.inr ⟨hlk, by rw [len_mp]; exact hf⟩)]
          have HX := hid hx
          clear hx hlk
          go_enter Try.func42, Try.ntmps42
          go_wp2_with (first
              | (go_at_call 25; refine hat.out.mono ?_; rintro e w1 ⟨i, rfl, hi, hb⟩; rw [hs] at hi; obtain ⟨x0, x1, x2, x3, x4, x5, x6⟩ := box7 hb; have HB1 := hid (HB0.out.trans (hb.mono HB0.out.size)); clear hb)
              | (go_at_call 52; refine (rmay_any _ _ hnb).mono ?_; rintro e w2 ⟨rfl, rfl⟩; rw [hm'])
              | (go_at_call 24; refine (rroom_any (.slice a R.length c) R room off due o p k _ (HR.out.below HB1.out) hsm hrm hl).mono ?_; rintro e w3 ⟨rfl, hb⟩; have y0 := (hb.cell (cell_block x0)).trans x0; have HB3 := hid (HB1.out.trans (hb.mono HB1.out.size)); clear hb))
          go_ret
          exact ⟨_, rfl, HX.out.symm, HB3.out⟩
        · have ef : decide ((100 : Int) ≤ (R.length : Int)) = false := decide_eq_false (by omega)
          have hx : ((eApp room n L none (mp RFi.fl R)).2) = 0 := by
            unfold eApp
            rw [if_neg (by rw [hm]; decide), if_neg (fun e => by
              rcases e with e | e
              · rw [hsmF] at e; exact hlong e
              · have := e.2; rw [len_mp] at this; exact hf this)]
          have HX := hid hx
          clear hx hlk
          go_enter Try.func42, Try.ntmps42
          go_wp2_with (first
              | (go_at_call 25; refine hat.out.mono ?_; rintro e w1 ⟨i, rfl, hi, hb⟩; rw [hs] at hi; obtain ⟨x0, x1, x2, x3, x4, x5, x6⟩ := box7 hb; have HB1 := hid (HB0.out.trans (hb.mono HB0.out.size)); clear hb)
              | (go_at_call 52; refine (rmay_any _ _ hnb).mono ?_; rintro e w2 ⟨rfl, rfl⟩; rw [hm'])
              | (go_at_call 24; refine (rroom_any (.slice a R.length c) R room off due o p k _ (HR.out.below HB1.out) hsm hrm hl).mono ?_; rintro e w3 ⟨rfl, hb⟩; have y0 := (hb.cell (cell_block x0)).trans x0; have HB3 := hid (HB1.out.trans (hb.mono HB1.out.size)); clear hb))
          go_ret
          exact ⟨_, rfl, HX.out.symm, HB3.out⟩
end

section
set_option linter.unusedVariables false
set_option linter.unusedSimpArgs false
open Go.RowKit
set_option linter.unusedSectionVars false
variable {sp : Sep}


/-- A file's cells. -/
def fcs (p : Nm × RFi) : List Value := [.string (bs p.1), .slice p.2.a p.2.b.length p.2.c, .int .i64 (p.2.s : Int)]
def flR (R : List (Nm × RFi)) : List Value := R.flatMap fcs
theorem flR_app (R S : List (Nm × RFi)) : flR (R ++ S) = flR R ++ flR S := by simp [flR]
theorem flR_get (R : List (Nm × RFi)) (i : Nat) (p : Nm × RFi) (h : R[i]? = some p) (j : Nat) (hj : j < 3) : (flR R)[i * 3 + j]? = (fcs p)[j]? := by
  induction R generalizing i with
  | nil => simp at h
  | cons q r ih =>
    cases i with
    | zero =>
      obtain rfl : q = p := by simpa using h
      simp only [flR, List.flatMap_cons]
      rw [List.getElem?_append_left (by simp [fcs]; omega)]
      simp
    | succ i =>
      have := ih i (by simpa using h)
      simp only [flR, List.flatMap_cons] at this ⊢
      rw [List.getElem?_append_right (by simp [fcs]; omega)]
      rw [← this]
      congr 1
      simp [fcs]
      omega

theorem add_at (B j : Nat) : (⟨B, 0, none⟩ : Addr).add j = ⟨B, j, none⟩ := by
  unfold Addr.add
  split
  · rename_i h0
    rw [h0]
  · simp

theorem infoFile : (Try.prog.info? 57).map (fun i => (i.zero, i.size, i.bytes)) = some (some (.agg #[.string ⟨#[]⟩, .slice none 0 0, .int .i64 0]), 3, 48) := by kernel_rfl

/-- A row of one's own that is being made. -/
def OwnF (w : World) (B : Nat) (v : Value) (R : List (Nm × RFi)) : Prop := w.ownsRow B 57 3 v R.length (flR R)
theorem OwnF.nil (w : World) (B : Nat) : OwnF w B (.slice none 0 0) [] := World.ownsRow_nil _ _ _ _
theorem OwnF.fr {w w0 : World} {B : Nat} {v : Value} {R : List (Nm × RFi)} (h : OwnF w B v R) (hb : Below w0.heap.size w0 w) (hok : ∀ p ∈ R, p.2.Ok sp w0) (hs0 : sp.b ≤ w0.heap.size) (hBB : w0.heap.size ≤ B) : FR sp w v R := by
  refine ⟨fun p hp => (hok p hp).below hb, ?_, fun g' n' c' e' _ => ?_, Nat.le_trans hs0 hb.size⟩
  rotate_left
  · rcases h.2 with ⟨e, h0⟩ | ⟨g, cap, cur, e, hbb, _⟩
    · rw [e'] at e; simp at e
    · rw [e'] at e
      obtain rfl : g' = g := by simp at e; exact e.1
      exact sp.up _ (Nat.le_trans hs0 (Nat.le_trans hBB hbb))
  rcases h.2 with ⟨e, h0⟩ | ⟨g, cap, cur, e, hbb, hg, hn, hc, hs, ht⟩
  · exact ⟨none, 0, by rw [e, h0], fun i p hi => by
      have := (List.getElem?_eq_some_iff.1 hi).1
      omega⟩
  · refine ⟨_, _, e, fun i p hi => ⟨g, rfl, ?_⟩⟩
    subst e
    have hc : ∀ j u, (flR R)[i * 3 + j]? = some u → w.cell? ⟨g, i * 3 + j, none⟩ = some u := fun j u hj => by
      have := h.cells (g := g) rfl (i * 3 + j) (u := u) hj
      rw [add_at] at this
      exact this
    exact ⟨hc 0 _ (flR_get R i p hi 0 (by omega)), hc 1 _ (flR_get R i p hi 1 (by omega)), hc 2 _ (flR_get R i p hi 2 (by omega))⟩

/-- The cells of what was just made. -/
theorem new_fcs (w : World) (p : Nm × RFi) : ∀ j u, (fcs p)[j]? = some u → (w.alloc (.cells #[.string (bs p.1), .slice p.2.a p.2.b.length p.2.c, .int .i64 (p.2.s : Int)] 57)).cell? ((⟨w.heap.size, 0, none⟩ : Addr).add j) = some u := by
  intro j u hj
  rw [add_at]
  have h := heap_new w (.cells #[.string (bs p.1), .slice p.2.a p.2.b.length p.2.c, .int .i64 (p.2.s : Int)] 57)
  refine cell_blk h ?_
  rw [← hj]
  simp [fcs]

theorem wpList_append_file {w : World} {ops : Array Oper} {rest : List Oper} {o : Oper} {a : Act} {Q : Exit → Act → World → Prop} (hgd : o.guard = none) (s x : Operand)
    (ho : o.op = .call { callee := .builtin .append, args := #[s, x], argTypes := #[26, 26] }) (base : Nat) (v : Value) (L : List (Nm × RFi)) (hs : a.eval s = v) (hown : OwnF w base v L)
    (B : Nat) (y : Nm × RFi) (hx : a.eval x = .slice (some ⟨B, 0, none⟩) 1 1) (hB : ∀ j u, (fcs y)[j]? = some u → w.cell? ((⟨B, 0, none⟩ : Addr).add j) = some u) (hb : L.length + 1 ≤ 1000000) (hbase : base ≤ w.heap.size)
    (h : ∀ g cap w', OwnF w' base (.slice (some ⟨g, 0, none⟩) (L.length + 1) cap) (L ++ [y]) → w.grownBy w' v.ownBlock → wpList Try.prog ops Q rest (a.put o.dst (.slice (some ⟨g, 0, none⟩) (L.length + 1) cap)) w') : wpList Try.prog ops Q (o :: rest) a w := by
  obtain ⟨i0, hi, hz0, hz1, hz2⟩ := info_parts infoFile
  refine wpList_append_lies w hgd s x 26 ho base 57 i0 _ 3 48 Try.underlying26 hi hz0 hz1 hz2 rfl (by decide) v L.length (flR L) hs hown ⟨B, 0, none⟩ 1 1 (fcs y) hx (by simp [fcs]) hB ?_ (by decide) (by unfold maxLen; omega) (by omega) hbase _ rfl ?_
  · simp [fcs, Value.oneCell']
  · intro g cap w' h1 h2 h3 h4
    refine h g cap w' ?_ h2
    show World.ownsRow _ _ _ _ _ (List.length _) _
    rw [List.length_append, flR_app]
    simpa [flR] using h1

theorem wo_take (R : List (Nm × RFi)) (n : Nm) (k : Nat) (p : Nm × RFi) (h : R[k]? = some p) : wo (R.take (k + 1)) n = wo (R.take k) n ++ (if p.1 = n then [] else [p]) := by
  rw [List.take_add_one, h]
  have : ∀ (A : List (Nm × RFi)) (q : Nm × RFi), wo (A ++ [q]) n = wo A n ++ (if q.1 = n then [] else [q]) := by
    intro A q
    induction A with
    | nil =>
      obtain ⟨m, f⟩ := q
      simp only [List.nil_append, wo]
    | cons x r ih =>
      obtain ⟨m, f⟩ := x
      simp only [List.cons_append, wo]
      split
      · exact ih
      · rw [ih]
        try rfl
  simpa using this (R.take k) p
theorem wo_take_len (R : List (Nm × RFi)) (n : Nm) (k : Nat) : (wo (R.take k) n).length ≤ R.length := by
  have : ∀ (A : List (Nm × RFi)), (wo A n).length ≤ A.length := by
    intro A
    induction A with
    | nil => exact Nat.le_refl _
    | cons x r ih =>
      obtain ⟨m, f⟩ := x
      simp only [wo]
      split
      · simp; omega
      · simp; omega
  exact Nat.le_trans (this _) (by simp; omega)

set_option maxRecDepth 100000 in
set_option maxHeartbeats 4000000 in
theorem rwithout_any (a : Option Addr) (c : Nat) (R : List (Nm × RFi)) (n : Nm) (w : World) (h : FR sp w (.slice a R.length c) R) (hl : R.length ≤ 1000) :
    Calls Try.prog 54 #[.slice a R.length c, .string (bs n)] w fun e w' => ∃ v, e = .returned v ∧ FR sp w' v (wo R n) ∧ Below w.heap.size w w' ∧ ∀ j, v.ownBlock = some j → w.heap.size ≤ j := by
  obtain ⟨a', c', ev, hrow⟩ := h.row
  cases ev
  have HOK := hid h.ok
  have HBS := hid h.base
  have HR := hid hrow
  clear h hrow
  go_enter Try.func54, Try.ntmps54
  go_wp2
  go_loopw [5, 6] (fun vo vi wr => ∃ k : Nat, vi = .int .i64 (k : Int) ∧ k ≤ R.length ∧ Hid (OwnF wr w.heap.size vo (wo (R.take k) n)) ∧ Hid (Below w.heap.size w wr)) (fun _ vi _ => R.length - (intOf vi).toNat)
  case atStart => exact ⟨0, rfl, Nat.zero_le _, hid (by simpa [wo] using OwnF.nil w w.heap.size), hid (Below.refl _ _)⟩
  case round =>
    obtain ⟨k, rfl, hk, HO, HB⟩ := hrel
    by_cases hlt : k < R.length
    · have e5 : decide ((k : Int) < (R.length : Int)) = true := decide_eq_true (by omega)
      obtain ⟨q, hq⟩ : ∃ q, R[k]? = some q := ⟨R[k], List.getElem?_eq_getElem hlt⟩
      obtain ⟨g, ea, x0, x1, x2⟩ := HR.out k q hq
      subst ea
      have y0 := (HB.out.cell (cell_block x0)).trans x0
      have y1 := (HB.out.cell (cell_block x1)).trans x1
      have y2 := (HB.out.cell (cell_block x2)).trans x2
      have HT := hid (wo_take R n k q hq)
      have hlen := hid (wo_take_len R n k)
      clear x0 x1 x2 hq
      by_cases hqn : q.1 = n
      · have hb : ((bs q.1).toList == (bs n).toList) = true := by rw [hqn]; simp
        have HT2 : Hid (wo (R.take (k + 1)) n = wo (R.take k) n) := hid (by rw [HT.out, if_pos hqn, List.append_nil])
        rw [hqn] at y0 hb
        clear hqn
        go_wp2
        go_roundw
        case rel => exact ⟨k + 1, by go_num, by omega, hid (by rw [HT2.out]; exact HO.out), HB⟩
        case measure => simp [intOf]; omega
      · have hb : ((bs q.1).toList == (bs n).toList) = false := by rw [bs_list, bs_list]; simpa using hqn
        have hnb : ¬ (bs q.1).toList = (bs n).toList := by rw [bs_list, bs_list]; exact hqn
        have HT2 : Hid (wo (R.take (k + 1)) n = wo (R.take k) n ++ [q]) := hid (by rw [HT.out, if_neg hqn])
        clear hqn
        go_wp2_with (at_builtin; refine wpList_append_file rfl _ _ rfl w.heap.size _ (wo (R.take k) n) rfl (HO.out.alloc _) wr.heap.size q rfl (new_fcs wr q) (by have := hlen.out; omega) (by have := HB.out.size; simp; omega) ?_; intro g7 cap7 w7 hO7 hG7; have HO7 := hid hO7; have HB7 := hid ((HB.out.trans ((new_below wr _).mono HB.out.size)).grown hG7 (by have := HB.out.size; simp; omega) (fun j hj => (HO.out.lt j hj).1)); clear hO7 hG7)
        go_roundw
        case rel => exact ⟨k + 1, by go_num, by omega, hid (by rw [HT2.out]; exact HO7.out), HB7⟩
        case measure => simp [intOf]; omega
    · obtain rfl : k = R.length := by omega
      have e5 : decide ((R.length : Int) < (R.length : Int)) = false := by simp
      have HF := hid (HO.out.fr HB.out (fun p hp => HOK.out p (List.mem_of_mem_take (mem_wo hp).1)) HBS.out (Nat.le_refl _))
      go_wp2
      go_ret
      refine ⟨_, rfl, ?_, HB.out, fun j hj => (HO.out.lt j hj).1⟩
      have := HF.out
      rw [List.take_of_length_le (Nat.le_refl _)] at this
      exact this
end
end Go.Proofs.Ytocglenkdjiknaa
