/- The reference: Shorten and Append. -/
import Derived.Test.YtocglenkdjiknaaDkRefF
namespace Go.Proofs.Ytocglenkdjiknaa
section
set_option linter.unusedVariables false
set_option linter.unusedSimpArgs false
open Go.RowKit
set_option linter.unusedSectionVars false
variable {sp : Sep}


theorem fr_set {w w6 : World} {v : Value} {R : List (Nm × RFi)} (h : FR sp w6 v R) (hb : Below w.heap.size w w6) {g : Nat} (hg : w.heap.size ≤ g) (i : Nat) (x : Value) (hne : ∀ p ∈ R, ∀ ad, 0 < p.2.b.length → p.2.a = some ad → ad.block ≠ g) (hrow : ∀ a n c, v = .slice (some ⟨a, 0, none⟩) n c → a ≠ g) : FR sp (w6.setCell ⟨g, i, none⟩ x) v R := by
  refine ⟨fun p hp => ⟨⟨(h.ok p hp).1.1, fun hpos => ?_⟩, (h.ok p hp).2⟩, ?_, h.loc, by simpa using h.base⟩
  · obtain ⟨ad, e, hc⟩ := (h.ok p hp).1.2 hpos
    refine ⟨ad, e, fun j u hj => ?_⟩
    rw [← hc j u hj]
    exact cell_same (Below.heap_setCell _ _ _ _ (hne p hp ad hpos e))
  · obtain ⟨a, c, e, hr⟩ := h.row
    refine ⟨a, c, e, fun j p hj => ?_⟩
    obtain ⟨g', e', c0, c1, c2⟩ := hr j p hj
    have hg' := hrow g' _ _ (by rw [e, e'])
    have hh : ∀ (o : Nat), (w6.setCell ⟨g, i, none⟩ x).cell? ⟨g', o, none⟩ = w6.cell? ⟨g', o, none⟩ := fun o => World.cell?_setCell_far _ _ _ _ (Ne.symm hg')
    exact ⟨g', e', (hh _).trans c0, (hh _).trans c1, (hh _).trans c2⟩

/-- The file that is found. -/
def gz : Option RFi → RFi
  | none => ⟨[], 0, none, 0⟩
  | some f => f
theorem gz_fz (o : Option RFi) : (gz o).fl = fz (o.map RFi.fl) := by cases o <;> rfl
theorem lk_app (A B : List (Nm × RFi)) (n : Nm) : lk (A ++ B) n = (lk A n).or (lk B n) := by
  induction A with
  | nil => simp [lk]
  | cons p r ih =>
    obtain ⟨m, f⟩ := p
    simp only [List.cons_append, lk]
    split
    · rfl
    · exact ih
theorem lk_take (R : List (Nm × RFi)) (n : Nm) (k : Nat) (q : Nm × RFi) (hA : Asc R) (h : R[k]? = some q) : lk (R.take (k + 1)) n = if q.1 = n then some q.2 else lk (R.take k) n := by
  rw [List.take_add_one, lk_app, h]
  obtain ⟨m, f⟩ := q
  by_cases e : m = n
  · rw [if_pos e]
    have hno : lk (R.take k) n = none := by
      refine lk_none_of _ n (fun p hp e' => ?_)
      obtain ⟨i, hi, hpi⟩ := List.mem_iff_getElem.1 hp
      have hnd := asc_nms hA
      have hki := (List.getElem?_eq_some_iff.1 h)
      obtain ⟨hk, hke⟩ := hki
      have hi' : i < k := by simp at hi; omega
      have := List.pairwise_iff_getElem.1 hnd i k (by simp [nms]; omega) (by simp [nms]; omega) hi'
      simp only [nms, List.getElem_map] at this
      rw [hke] at this
      have e2 : R[i] = p := by rw [← hpi]; simp
      rw [e2, e', ← e] at this
      exact nm_irr _ this
    rw [hno]
    simp [lk, e]
  · rw [if_neg e]
    simp [lk, e]

set_option maxRecDepth 100000 in
set_option maxHeartbeats 8000000 in
theorem done_rem (a : Option Addr) (c : Nat) (R : List (Nm × RFi)) (n t : Nm) (ao : Option Addr) (ll cc : Nat) (z : Int) (wh so : Bool) (w : World) (h : FR sp w (.slice a R.length c) R) (hl : R.length ≤ 100) (hA : Asc R) :
    Calls Try.prog 44 #[.slice a R.length c, .int .i64 3, .string (bs n), .string (bs t), .slice ao ll cc, .int .i64 z, .bool wh, .bool so] w fun e w' => ∃ v, e = .returned v ∧ ∃ R', FR sp w' v R' ∧ mp RFi.fl R' = (if so = true then wo (mp RFi.fl R) n else mp RFi.fl R) ∧ Below w.heap.size w w' := by
  obtain ⟨a', c', ev, hrow⟩ := h.row
  cases ev
  have HF := hid h
  have HR := hid hrow
  have hl2 : R.length ≤ 1000 := by omega
  clear h hrow
  go_enter Try.func44, Try.ntmps44
  go_wp2
  go_loopw [18] (fun vi wr => ∃ k : Nat, vi = .int .i64 (k : Int) ∧ k ≤ R.length ∧ Hid (wr.heap[w.heap.size]? = some (.cells #[.string (bs n), .slice (gz (lk (R.take k) n)).a (gz (lk (R.take k) n)).b.length (gz (lk (R.take k) n)).c, .int .i64 ((gz (lk (R.take k) n)).s : Int)] 57 (0, 0))) ∧ Hid (Below w.heap.size w wr)) (fun vi _ => R.length - (intOf vi).toNat)
  case atStart => exact ⟨0, rfl, Nat.zero_le _, hid (heap_new w _), hid (new_below w _)⟩
  case round =>
    obtain ⟨k, rfl, hk, HX, HB⟩ := hrel
    by_cases hlt : k < R.length
    · have e5 : decide ((k : Int) < (R.length : Int)) = true := decide_eq_true (by omega)
      obtain ⟨q, hq⟩ : ∃ q, R[k]? = some q := ⟨R[k], List.getElem?_eq_getElem hlt⟩
      obtain ⟨g, ea, x0, x1, x2⟩ := HR.out k q hq
      subst ea
      have y0 := (HB.out.cell (cell_block x0)).trans x0
      have y1 := (HB.out.cell (cell_block x1)).trans x1
      have y2 := (HB.out.cell (cell_block x2)).trans x2
      have HT := hid (lk_take R n k q hA hq)
      have b0 := cell_blk (i := 0) HX.out rfl
      have b1 := cell_blk (i := 1) HX.out rfl
      have b2 := cell_blk (i := 2) HX.out rfl
      have f0 := frz_blk (i := 0) HX.out
      have f1 := frz_blk (i := 1) HX.out
      have f2 := frz_blk (i := 2) HX.out
      clear x0 x1 x2 hq
      by_cases hqn : q.1 = n
      · have hb : ((bs q.1).toList == (bs n).toList) = true := by rw [hqn]; simp
        have HT2 : Hid (lk (R.take (k + 1)) n = some q.2) := hid (by rw [HT.out, if_pos hqn])
        rw [hqn] at y0 hb
        clear hqn
        go_wp2
        go_roundw
        case rel => exact ⟨k + 1, by go_num, by omega, hid (by rw [HT2.out]; first | (rw [set_blk (i := 2) _ (set_blk (i := 1) _ (set_blk (i := 0) _ HX.out))]; simp [gz])), hid (set_below (set_below (set_below HB.out (Nat.le_refl _) _ _) (Nat.le_refl _) _ _) (Nat.le_refl _) _ _)⟩
        case measure => simp [intOf]; omega
      · have hb : ((bs q.1).toList == (bs n).toList) = false := by rw [bs_list, bs_list]; simpa using hqn
        have hnb : ¬ (bs q.1).toList = (bs n).toList := by rw [bs_list, bs_list]; exact hqn
        have HT2 : Hid (lk (R.take (k + 1)) n = lk (R.take k) n) := hid (by rw [HT.out, if_neg hqn])
        clear hqn
        go_wp2
        go_roundw
        case rel => exact ⟨k + 1, by go_num, by omega, hid (by rw [HT2.out]; exact HX.out), HB⟩
        case measure => simp [intOf]; omega
    · obtain rfl : k = R.length := by omega
      have e5 : decide ((R.length : Int) < (R.length : Int)) = false := by simp
      have hX := HX.out
      rw [List.take_of_length_le (Nat.le_refl _)] at hX
      obtain ⟨F0, hF0⟩ : ∃ F0, F0 = gz (lk R n) := ⟨_, rfl⟩
      rw [← hF0] at hX
      have hok0 : F0.Ok sp w := by
        rw [hF0]
        cases hv : lk R n with
        | none => exact ⟨src_nil w, ⟨Nat.le_refl _, by show (0 : Nat) ≤ maxLen; omega⟩, fun _ => rfl, fun ad _ e => by cases e⟩
        | some f => exact HF.out.ok (n, f) (lk_mem hv)
      have b0 := cell_blk (i := 0) hX rfl
      have b1 := cell_blk (i := 1) hX rfl
      have b2 := cell_blk (i := 2) hX rfl
      have f0 := frz_blk (i := 0) hX
      have f1 := frz_blk (i := 1) hX
      have f2 := frz_blk (i := 2) hX
      have hfbw : w.heap.size < wr.heap.size := (Array.getElem?_eq_some_iff.1 hX).1
      have HX0 := hid hX
      have OK0 := hid hok0
      have HF0 := hid hF0
      clear hX hok0 hF0
      cases so with
      | true =>
        go_wp2_with (go_at_call 54; refine (rwithout_any a c R n _ (HF.out.below HB.out) hl2).mono ?_; rintro e w7 ⟨v7, rfl, hR7, hb7, _⟩; have R7 := hid (And.intro hR7 (HB.out.trans (hb7.mono HB.out.size))); clear hR7 hb7)
        go_ret
        exact ⟨_, rfl, wo R n, R7.out.1, by rw [wo_mp] <;> rfl, R7.out.2⟩
      | false =>
        go_wp2
        go_ret
        exact ⟨_, rfl, R, HF.out.below HB.out, rfl, HB.out⟩

set_option maxRecDepth 100000 in
set_option maxHeartbeats 8000000 in
theorem done_sync (a : Option Addr) (c : Nat) (R : List (Nm × RFi)) (n t : Nm) (ao : Option Addr) (ll cc : Nat) (z : Int) (wh so : Bool) (w : World) (h : FR sp w (.slice a R.length c) R) (hl : R.length ≤ 100) (hA : Asc R) :
    Calls Try.prog 44 #[.slice a R.length c, .int .i64 1, .string (bs n), .string (bs t), .slice ao ll cc, .int .i64 z, .bool wh, .bool so] w fun e w' => ∃ v, e = .returned v ∧ ∃ R', FR sp w' v R' ∧ mp RFi.fl R' = (put (mp RFi.fl R) n ⟨(fz (lk (mp RFi.fl R) n)).b, if wh = true then (fz (lk (mp RFi.fl R) n)).b.length else (fz (lk (mp RFi.fl R) n)).s⟩) ∧ Below w.heap.size w w' := by
  obtain ⟨a', c', ev, hrow⟩ := h.row
  cases ev
  have HF := hid h
  have HR := hid hrow
  have hl2 : R.length ≤ 1000 := by omega
  clear h hrow
  go_enter Try.func44, Try.ntmps44
  go_wp2
  go_loopw [18] (fun vi wr => ∃ k : Nat, vi = .int .i64 (k : Int) ∧ k ≤ R.length ∧ Hid (wr.heap[w.heap.size]? = some (.cells #[.string (bs n), .slice (gz (lk (R.take k) n)).a (gz (lk (R.take k) n)).b.length (gz (lk (R.take k) n)).c, .int .i64 ((gz (lk (R.take k) n)).s : Int)] 57 (0, 0))) ∧ Hid (Below w.heap.size w wr)) (fun vi _ => R.length - (intOf vi).toNat)
  case atStart => exact ⟨0, rfl, Nat.zero_le _, hid (heap_new w _), hid (new_below w _)⟩
  case round =>
    obtain ⟨k, rfl, hk, HX, HB⟩ := hrel
    by_cases hlt : k < R.length
    · have e5 : decide ((k : Int) < (R.length : Int)) = true := decide_eq_true (by omega)
      obtain ⟨q, hq⟩ : ∃ q, R[k]? = some q := ⟨R[k], List.getElem?_eq_getElem hlt⟩
      obtain ⟨g, ea, x0, x1, x2⟩ := HR.out k q hq
      subst ea
      have y0 := (HB.out.cell (cell_block x0)).trans x0
      have y1 := (HB.out.cell (cell_block x1)).trans x1
      have y2 := (HB.out.cell (cell_block x2)).trans x2
      have HT := hid (lk_take R n k q hA hq)
      have b0 := cell_blk (i := 0) HX.out rfl
      have b1 := cell_blk (i := 1) HX.out rfl
      have b2 := cell_blk (i := 2) HX.out rfl
      have f0 := frz_blk (i := 0) HX.out
      have f1 := frz_blk (i := 1) HX.out
      have f2 := frz_blk (i := 2) HX.out
      clear x0 x1 x2 hq
      by_cases hqn : q.1 = n
      · have hb : ((bs q.1).toList == (bs n).toList) = true := by rw [hqn]; simp
        have HT2 : Hid (lk (R.take (k + 1)) n = some q.2) := hid (by rw [HT.out, if_pos hqn])
        rw [hqn] at y0 hb
        clear hqn
        go_wp2
        go_roundw
        case rel => exact ⟨k + 1, by go_num, by omega, hid (by rw [HT2.out]; first | (rw [set_blk (i := 2) _ (set_blk (i := 1) _ (set_blk (i := 0) _ HX.out))]; simp [gz])), hid (set_below (set_below (set_below HB.out (Nat.le_refl _) _ _) (Nat.le_refl _) _ _) (Nat.le_refl _) _ _)⟩
        case measure => simp [intOf]; omega
      · have hb : ((bs q.1).toList == (bs n).toList) = false := by rw [bs_list, bs_list]; simpa using hqn
        have hnb : ¬ (bs q.1).toList = (bs n).toList := by rw [bs_list, bs_list]; exact hqn
        have HT2 : Hid (lk (R.take (k + 1)) n = lk (R.take k) n) := hid (by rw [HT.out, if_neg hqn])
        clear hqn
        go_wp2
        go_roundw
        case rel => exact ⟨k + 1, by go_num, by omega, hid (by rw [HT2.out]; exact HX.out), HB⟩
        case measure => simp [intOf]; omega
    · obtain rfl : k = R.length := by omega
      have e5 : decide ((R.length : Int) < (R.length : Int)) = false := by simp
      have hX := HX.out
      rw [List.take_of_length_le (Nat.le_refl _)] at hX
      obtain ⟨F0, hF0⟩ : ∃ F0, F0 = gz (lk R n) := ⟨_, rfl⟩
      rw [← hF0] at hX
      have hok0 : F0.Ok sp w := by
        rw [hF0]
        cases hv : lk R n with
        | none => exact ⟨src_nil w, ⟨Nat.le_refl _, by show (0 : Nat) ≤ maxLen; omega⟩, fun _ => rfl, fun ad _ e => by cases e⟩
        | some f => exact HF.out.ok (n, f) (lk_mem hv)
      have b0 := cell_blk (i := 0) hX rfl
      have b1 := cell_blk (i := 1) hX rfl
      have b2 := cell_blk (i := 2) hX rfl
      have f0 := frz_blk (i := 0) hX
      have f1 := frz_blk (i := 1) hX
      have f2 := frz_blk (i := 2) hX
      have hfbw : w.heap.size < wr.heap.size := (Array.getElem?_eq_some_iff.1 hX).1
      have HX0 := hid hX
      have OK0 := hid hok0
      have HF0 := hid hF0
      clear hX hok0 hF0
      have hfz := hid (show F0.fl = fz (lk (mp RFi.fl R) n) by rw [HF0.out, gz_fz, lk_RF])
      cases wh with
      | true =>
        go_wp2_with (go_at_call 53; have HB2 := hid (set_below HB.out (Nat.le_refl _) 2 (.int .i64 (F0.b.length : Int))); refine (rput_any a c R n ⟨F0.b, F0.b.length, F0.a, F0.c⟩ _ (HF.out.below HB2.out) hl2 hA (OK0.out.below HB2.out)).mono ?_; rintro e w7 ⟨v7, rfl, hR7, hb7⟩; have R7 := hid (And.intro hR7 (HB2.out.trans (hb7.mono HB2.out.size))); clear hR7 hb7)
        go_ret
        exact ⟨_, rfl, _, R7.out.1, by rw [put_mp, ← hfz.out] <;> rfl, R7.out.2⟩
      | false =>
        go_wp2_with (go_at_call 53; have HB2 := hid (HB.out); refine (rput_any a c R n F0 _ (HF.out.below HB2.out) hl2 hA (OK0.out.below HB2.out)).mono ?_; rintro e w7 ⟨v7, rfl, hR7, hb7⟩; have R7 := hid (And.intro hR7 (HB2.out.trans (hb7.mono HB2.out.size))); clear hR7 hb7)
        go_ret
        exact ⟨_, rfl, _, R7.out.1, by rw [put_mp, ← hfz.out] <;> rfl, R7.out.2⟩

set_option maxRecDepth 100000 in
set_option maxHeartbeats 8000000 in
theorem done_ren (a : Option Addr) (c : Nat) (R : List (Nm × RFi)) (n t : Nm) (ao : Option Addr) (ll cc : Nat) (z : Int) (wh so : Bool) (w : World) (h : FR sp w (.slice a R.length c) R) (hl : R.length ≤ 100) (hA : Asc R) :
    Calls Try.prog 44 #[.slice a R.length c, .int .i64 2, .string (bs n), .string (bs t), .slice ao ll cc, .int .i64 z, .bool wh, .bool so] w fun e w' => ∃ v, e = .returned v ∧ ∃ R', FR sp w' v R' ∧ mp RFi.fl R' = (if so = true then put (wo (mp RFi.fl R) n) t (fz (lk (mp RFi.fl R) n)) else mp RFi.fl R) ∧ Below w.heap.size w w' := by
  obtain ⟨a', c', ev, hrow⟩ := h.row
  cases ev
  have HF := hid h
  have HR := hid hrow
  have hl2 : R.length ≤ 1000 := by omega
  clear h hrow
  go_enter Try.func44, Try.ntmps44
  go_wp2
  go_loopw [18] (fun vi wr => ∃ k : Nat, vi = .int .i64 (k : Int) ∧ k ≤ R.length ∧ Hid (wr.heap[w.heap.size]? = some (.cells #[.string (bs n), .slice (gz (lk (R.take k) n)).a (gz (lk (R.take k) n)).b.length (gz (lk (R.take k) n)).c, .int .i64 ((gz (lk (R.take k) n)).s : Int)] 57 (0, 0))) ∧ Hid (Below w.heap.size w wr)) (fun vi _ => R.length - (intOf vi).toNat)
  case atStart => exact ⟨0, rfl, Nat.zero_le _, hid (heap_new w _), hid (new_below w _)⟩
  case round =>
    obtain ⟨k, rfl, hk, HX, HB⟩ := hrel
    by_cases hlt : k < R.length
    · have e5 : decide ((k : Int) < (R.length : Int)) = true := decide_eq_true (by omega)
      obtain ⟨q, hq⟩ : ∃ q, R[k]? = some q := ⟨R[k], List.getElem?_eq_getElem hlt⟩
      obtain ⟨g, ea, x0, x1, x2⟩ := HR.out k q hq
      subst ea
      have y0 := (HB.out.cell (cell_block x0)).trans x0
      have y1 := (HB.out.cell (cell_block x1)).trans x1
      have y2 := (HB.out.cell (cell_block x2)).trans x2
      have HT := hid (lk_take R n k q hA hq)
      have b0 := cell_blk (i := 0) HX.out rfl
      have b1 := cell_blk (i := 1) HX.out rfl
      have b2 := cell_blk (i := 2) HX.out rfl
      have f0 := frz_blk (i := 0) HX.out
      have f1 := frz_blk (i := 1) HX.out
      have f2 := frz_blk (i := 2) HX.out
      clear x0 x1 x2 hq
      by_cases hqn : q.1 = n
      · have hb : ((bs q.1).toList == (bs n).toList) = true := by rw [hqn]; simp
        have HT2 : Hid (lk (R.take (k + 1)) n = some q.2) := hid (by rw [HT.out, if_pos hqn])
        rw [hqn] at y0 hb
        clear hqn
        go_wp2
        go_roundw
        case rel => exact ⟨k + 1, by go_num, by omega, hid (by rw [HT2.out]; first | (rw [set_blk (i := 2) _ (set_blk (i := 1) _ (set_blk (i := 0) _ HX.out))]; simp [gz])), hid (set_below (set_below (set_below HB.out (Nat.le_refl _) _ _) (Nat.le_refl _) _ _) (Nat.le_refl _) _ _)⟩
        case measure => simp [intOf]; omega
      · have hb : ((bs q.1).toList == (bs n).toList) = false := by rw [bs_list, bs_list]; simpa using hqn
        have hnb : ¬ (bs q.1).toList = (bs n).toList := by rw [bs_list, bs_list]; exact hqn
        have HT2 : Hid (lk (R.take (k + 1)) n = lk (R.take k) n) := hid (by rw [HT.out, if_neg hqn])
        clear hqn
        go_wp2
        go_roundw
        case rel => exact ⟨k + 1, by go_num, by omega, hid (by rw [HT2.out]; exact HX.out), HB⟩
        case measure => simp [intOf]; omega
    · obtain rfl : k = R.length := by omega
      have e5 : decide ((R.length : Int) < (R.length : Int)) = false := by simp
      have hX := HX.out
      rw [List.take_of_length_le (Nat.le_refl _)] at hX
      obtain ⟨F0, hF0⟩ : ∃ F0, F0 = gz (lk R n) := ⟨_, rfl⟩
      rw [← hF0] at hX
      have hok0 : F0.Ok sp w := by
        rw [hF0]
        cases hv : lk R n with
        | none => exact ⟨src_nil w, ⟨Nat.le_refl _, by show (0 : Nat) ≤ maxLen; omega⟩, fun _ => rfl, fun ad _ e => by cases e⟩
        | some f => exact HF.out.ok (n, f) (lk_mem hv)
      have b0 := cell_blk (i := 0) hX rfl
      have b1 := cell_blk (i := 1) hX rfl
      have b2 := cell_blk (i := 2) hX rfl
      have f0 := frz_blk (i := 0) hX
      have f1 := frz_blk (i := 1) hX
      have f2 := frz_blk (i := 2) hX
      have hfbw : w.heap.size < wr.heap.size := (Array.getElem?_eq_some_iff.1 hX).1
      have HX0 := hid hX
      have OK0 := hid hok0
      have HF0 := hid hF0
      clear hX hok0 hF0
      have hfz := hid (show F0.fl = fz (lk (mp RFi.fl R) n) by rw [HF0.out, gz_fz, lk_RF])
      cases so with
      | true =>
        go_wp2_with (first
          | (go_at_call 54; refine (rwithout_any a c R n _ (HF.out.below HB.out) hl2).mono ?_; rintro e w6 ⟨v6, rfl, hR6, hb6, ho6⟩; obtain ⟨a6, c6, rfl, _⟩ := hR6.row; have HO6 := hid ho6; have HR6 := hid hR6; have HB6 := hid (HB.out.trans (hb6.mono HB.out.size)); have hX6 := (hb6.block w.heap.size (Array.getElem?_eq_some_iff.1 HX0.out).1).trans HX0.out; have d0 := cell_blk (i := 0) hX6 rfl; have d1 := cell_blk (i := 1) hX6 rfl; have d2 := cell_blk (i := 2) hX6 rfl; have g0 := frz_blk (i := 0) hX6; clear hR6 hb6 hX6)
          | (go_at_call 53; have HB2 := hid (set_below HB6.out (Nat.le_refl _) 0 (.string (bs t))); have hFR := fr_set HR6.out HB6.out (Nat.le_refl _) 0 (.string (bs t)) (fun p hp ad hpos e => Nat.ne_of_lt (src_block (HF.out.ok p (mem_wo hp).1).1 ad hpos e)) (fun a8 n8 c8 e => Nat.ne_of_gt (Nat.lt_of_lt_of_le hfbw (HO6.out a8 (by rw [e]; rfl)))); refine (rput_any a6 c6 (wo R n) t F0 _ (hFR) (Nat.le_trans (len_wo n hA) hl2) (asc_wo n hA) (OK0.out.below HB2.out)).mono ?_; rintro e w7 ⟨v7, rfl, hR7, hb7⟩; have R7 := hid (And.intro hR7 (HB2.out.trans (hb7.mono HB2.out.size))); clear hR7 hb7))
        go_ret
        exact ⟨_, rfl, _, R7.out.1, by rw [put_mp, wo_mp, ← hfz.out] <;> rfl, R7.out.2⟩
      | false =>
        go_wp2
        go_ret
        exact ⟨_, rfl, R, HF.out.below HB.out, rfl, HB.out⟩
end

section
set_option linter.unusedVariables false
set_option linter.unusedSimpArgs false
open Go.RowKit
set_option linter.unusedSectionVars false
variable {sp : Sep}


set_option maxRecDepth 100000 in
set_option maxHeartbeats 8000000 in
theorem done_sho (a : Option Addr) (c : Nat) (R : List (Nm × RFi)) (n t : Nm) (ao : Option Addr) (ll cc : Nat) (z : Int) (wh so : Bool) (w : World) (h : FR sp w (.slice a R.length c) R) (hl : R.length ≤ 100) (hA : Asc R) (hz : 0 ≤ z) (hz2 : z ≤ 9223372036854775807) :
    Calls Try.prog 44 #[.slice a R.length c, .int .i64 4, .string (bs n), .string (bs t), .slice ao ll cc, .int .i64 z, .bool wh, .bool so] w fun e w' => ∃ v, e = .returned v ∧ ∃ R', FR sp w' v R' ∧ mp RFi.fl R' = (put (mp RFi.fl R) n (if so = true then (fz (lk (mp RFi.fl R) n)).cutTo z.toNat else (fz (lk (mp RFi.fl R) n)))) ∧ Below w.heap.size w w' := by
  obtain ⟨a', c', ev, hrow⟩ := h.row
  cases ev
  have HF := hid h
  have HR := hid hrow
  have hl2 : R.length ≤ 1000 := by omega
  clear h hrow
  go_enter Try.func44, Try.ntmps44
  go_wp2
  go_loopw [18] (fun vi wr => ∃ k : Nat, vi = .int .i64 (k : Int) ∧ k ≤ R.length ∧ Hid (wr.heap[w.heap.size]? = some (.cells #[.string (bs n), .slice (gz (lk (R.take k) n)).a (gz (lk (R.take k) n)).b.length (gz (lk (R.take k) n)).c, .int .i64 ((gz (lk (R.take k) n)).s : Int)] 57 (0, 0))) ∧ Hid (Below w.heap.size w wr)) (fun vi _ => R.length - (intOf vi).toNat)
  case atStart => exact ⟨0, rfl, Nat.zero_le _, hid (heap_new w _), hid (new_below w _)⟩
  case round =>
    obtain ⟨k, rfl, hk, HX, HB⟩ := hrel
    by_cases hlt : k < R.length
    · have e5 : decide ((k : Int) < (R.length : Int)) = true := decide_eq_true (by omega)
      obtain ⟨q, hq⟩ : ∃ q, R[k]? = some q := ⟨R[k], List.getElem?_eq_getElem hlt⟩
      obtain ⟨g, ea, x0, x1, x2⟩ := HR.out k q hq
      subst ea
      have y0 := (HB.out.cell (cell_block x0)).trans x0
      have y1 := (HB.out.cell (cell_block x1)).trans x1
      have y2 := (HB.out.cell (cell_block x2)).trans x2
      have HT := hid (lk_take R n k q hA hq)
      have b0 := cell_blk (i := 0) HX.out rfl
      have b1 := cell_blk (i := 1) HX.out rfl
      have b2 := cell_blk (i := 2) HX.out rfl
      have f0 := frz_blk (i := 0) HX.out
      have f1 := frz_blk (i := 1) HX.out
      have f2 := frz_blk (i := 2) HX.out
      clear x0 x1 x2 hq
      by_cases hqn : q.1 = n
      · have hb : ((bs q.1).toList == (bs n).toList) = true := by rw [hqn]; simp
        have HT2 : Hid (lk (R.take (k + 1)) n = some q.2) := hid (by rw [HT.out, if_pos hqn])
        rw [hqn] at y0 hb
        clear hqn
        go_wp2
        go_roundw
        case rel => exact ⟨k + 1, by go_num, by omega, hid (by rw [HT2.out]; first | (rw [set_blk (i := 2) _ (set_blk (i := 1) _ (set_blk (i := 0) _ HX.out))]; simp [gz])), hid (set_below (set_below (set_below HB.out (Nat.le_refl _) _ _) (Nat.le_refl _) _ _) (Nat.le_refl _) _ _)⟩
        case measure => simp [intOf]; omega
      · have hb : ((bs q.1).toList == (bs n).toList) = false := by rw [bs_list, bs_list]; simpa using hqn
        have hnb : ¬ (bs q.1).toList = (bs n).toList := by rw [bs_list, bs_list]; exact hqn
        have HT2 : Hid (lk (R.take (k + 1)) n = lk (R.take k) n) := hid (by rw [HT.out, if_neg hqn])
        clear hqn
        go_wp2
        go_roundw
        case rel => exact ⟨k + 1, by go_num, by omega, hid (by rw [HT2.out]; exact HX.out), HB⟩
        case measure => simp [intOf]; omega
    · obtain rfl : k = R.length := by omega
      have e5 : decide ((R.length : Int) < (R.length : Int)) = false := by simp
      have hX := HX.out
      rw [List.take_of_length_le (Nat.le_refl _)] at hX
      obtain ⟨F0, hF0⟩ : ∃ F0, F0 = gz (lk R n) := ⟨_, rfl⟩
      rw [← hF0] at hX
      have hok0 : F0.Ok sp w := by
        rw [hF0]
        cases hv : lk R n with
        | none => exact ⟨src_nil w, ⟨Nat.le_refl _, by show (0 : Nat) ≤ maxLen; omega⟩, fun _ => rfl, fun ad _ e => by cases e⟩
        | some f => exact HF.out.ok (n, f) (lk_mem hv)
      have b0 := cell_blk (i := 0) hX rfl
      have b1 := cell_blk (i := 1) hX rfl
      have b2 := cell_blk (i := 2) hX rfl
      have f0 := frz_blk (i := 0) hX
      have f1 := frz_blk (i := 1) hX
      have f2 := frz_blk (i := 2) hX
      have hfbw : w.heap.size < wr.heap.size := (Array.getElem?_eq_some_iff.1 hX).1
      have HX0 := hid hX
      have OK0 := hid hok0
      have HF0 := hid hF0
      clear hX hok0 hF0
      have hfz := hid (show F0.fl = fz (lk (mp RFi.fl R) n) by rw [HF0.out, gz_fz, lk_RF])
      obtain ⟨zn, rfl⟩ : ∃ zn : Nat, z = (zn : Int) := ⟨z.toNat, by omega⟩
      cases so with
      | false =>
        go_wp2_with (go_at_call 53; have HB2 := hid (HB.out); refine (rput_any a c R n F0 _ (HF.out.below HB2.out) hl2 hA (OK0.out.below HB2.out)).mono ?_; rintro e w7 ⟨v7, rfl, hR7, hb7⟩; have R7 := hid (And.intro hR7 (HB2.out.trans (hb7.mono HB2.out.size))); clear hR7 hb7)
        go_ret
        exact ⟨_, rfl, _, R7.out.1, by rw [put_mp, ← hfz.out] <;> rfl, R7.out.2⟩
      | true =>
        by_cases hzl : zn < F0.b.length
        · have e7 : decide ((zn : Int) < (F0.b.length : Int)) = true := decide_eq_true (by omega)
          have hcut := hid (show F0.fl.cutTo zn = ⟨F0.b.take zn, min F0.s zn⟩ by unfold Fl.cutTo RFi.fl; exact if_neg (by simp only; omega))
          obtain ⟨bt, hbt⟩ : ∃ bt, bt = F0.b.take zn := ⟨_, rfl⟩
          have hbl : bt.length = zn := by rw [hbt, List.length_take]; omega
          have hsr := src_take OK0.out.1 zn (by omega)
          rw [← hbt] at hsr
          have hcc : zn ≤ F0.c := by have := OK0.out.2.1.1; omega
          have hncc : ¬ F0.c < zn := by omega
          subst hbl
          have HBT := hid hbt
          have okx : ∀ s, RFi.Ok ⟨bt, s, F0.a, F0.c⟩ sp w := fun s => ⟨hsr, ⟨hcc, OK0.out.2.1.2⟩, OK0.out.2.2.1, fun ad hp e => OK0.out.2.2.2 ad (by have h9 : 0 < bt.length := hp; omega) e⟩
          have OKX := hid okx
          clear okx hsr hbt
          by_cases hsu : bt.length < F0.s
          · have e8 : decide ((bt.length : Int) < (F0.s : Int)) = true := decide_eq_true (by omega)
            go_wp2_with (go_at_call 53; have HB2 := hid (set_below (set_below HB.out (Nat.le_refl _) 1 (.slice F0.a bt.length F0.c)) (Nat.le_refl _) 2 (.int .i64 (bt.length : Int))); refine (rput_any a c R n ⟨bt, bt.length, F0.a, F0.c⟩ _ (HF.out.below HB2.out) hl2 hA ((OKX.out _).below HB2.out)).mono ?_; rintro e w7 ⟨v7, rfl, hR7, hb7⟩; have R7 := hid (And.intro hR7 (HB2.out.trans (hb7.mono HB2.out.size))); clear hR7 hb7)
            go_ret
            refine ⟨_, rfl, _, R7.out.1, ?_, R7.out.2⟩
            rw [put_mp, ← hfz.out, hcut.out, ← HBT.out, Nat.min_eq_right (Nat.le_of_lt hsu)]
            rfl
          · have e8 : decide ((bt.length : Int) < (F0.s : Int)) = false := decide_eq_false (by omega)
            go_wp2_with (go_at_call 53; have HB2 := hid (set_below HB.out (Nat.le_refl _) 1 (.slice F0.a bt.length F0.c)); refine (rput_any a c R n ⟨bt, F0.s, F0.a, F0.c⟩ _ (HF.out.below HB2.out) hl2 hA ((OKX.out _).below HB2.out)).mono ?_; rintro e w7 ⟨v7, rfl, hR7, hb7⟩; have R7 := hid (And.intro hR7 (HB2.out.trans (hb7.mono HB2.out.size))); clear hR7 hb7)
            go_ret
            refine ⟨_, rfl, _, R7.out.1, ?_, R7.out.2⟩
            rw [put_mp, ← hfz.out, hcut.out, ← HBT.out, Nat.min_eq_left (by omega)]
            rfl
        · have e7 : decide ((zn : Int) < (F0.b.length : Int)) = false := decide_eq_false (by omega)
          have hcut := hid (show F0.fl.cutTo zn = F0.fl by unfold Fl.cutTo; exact if_pos (by show F0.b.length ≤ zn; omega))
          go_wp2_with (go_at_call 53; have HB2 := hid (HB.out); refine (rput_any a c R n F0 _ (HF.out.below HB2.out) hl2 hA (OK0.out.below HB2.out)).mono ?_; rintro e w7 ⟨v7, rfl, hR7, hb7⟩; have R7 := hid (And.intro hR7 (HB2.out.trans (hb7.mono HB2.out.size))); clear hR7 hb7)
          go_ret
          refine ⟨_, rfl, _, R7.out.1, ?_, R7.out.2⟩
          rw [put_mp, ← hfz.out, hcut.out]

theorem app_step {w wr w1 : World} {v : Value} (h : Below w.heap.size w wr) (hg : wr.grownBy w1 v.ownBlock) (ho : ∀ j, v.ownBlock = some j → w.heap.size ≤ j) : Below w.heap.size w w1 := h.grown hg h.size (fun j hj => ho j hj)
theorem own_new {v v0 : Value} {z b : Nat} (h : v.ownBlock = v0.ownBlock ∨ v.ownBlock = some z) (h0 : v0.ownBlock = none) (hb : b ≤ z) : ∀ j, v.ownBlock = some j → b ≤ j := fun j hj => by
  rcases h with h | h
  · rw [h, h0] at hj; cases hj
  · rw [h] at hj
    have := Option.some.inj hj
    omega
theorem own_new2 {v v0 : Value} {z b b2 : Nat} (h : v.ownBlock = v0.ownBlock ∨ v.ownBlock = some z) (h0 : ∀ j, v0.ownBlock = some j → b ≤ j) (hb : b2 < z ∧ b2 < b) : ∀ j, v.ownBlock = some j → b2 < j := fun j hj => by
  rcases h with h | h
  · have := h0 j (by rw [← h]; exact hj)
    omega
  · rw [h] at hj
    have := Option.some.inj hj
    omega
theorem own_ok {w : World} {a : Option Addr} {c s : Nat} {b : List Int} (h : w.ownsRow 0 5 1 (.slice a b.length c) b.length (b.map (Value.int .u8))) (hq : ∀ ad, 0 < b.length → a = some ad → sp.Q ad.block) : RFi.Ok ⟨b, s, a, c⟩ sp w := by
  obtain ⟨a', c', e, hs, h0, hc⟩ := own_src h
  cases e
  exact ⟨hs, hc, h0, hq⟩

set_option maxRecDepth 100000 in
set_option maxHeartbeats 8000000 in
theorem done_app (a : Option Addr) (c : Nat) (R : List (Nm × RFi)) (n t : Nm) (ao : Option Addr) (ll cc : Nat) (z : Int) (wh so : Bool) (L : List Int) (w : World) (h : FR sp w (.slice a R.length c) R) (hl : R.length ≤ 100) (hA : Asc R) (hsr : Src w ao L.length L) (hao : ao = none → cc = 0) (hsm : (fz (lk (mp RFi.fl R) n)).b.length + L.length ≤ 1000000) :
    Calls Try.prog 44 #[.slice a R.length c, .int .i64 0, .string (bs n), .string (bs t), .slice ao L.length cc, .int .i64 z, .bool wh, .bool so] w fun e w' => ∃ v, e = .returned v ∧ ∃ R', FR sp w' v R' ∧ mp RFi.fl R' = (put (mp RFi.fl R) n ⟨(fz (lk (mp RFi.fl R) n)).b ++ L, (fz (lk (mp RFi.fl R) n)).s⟩) ∧ Below w.heap.size w w' := by
  obtain ⟨a', c', ev, hrow⟩ := h.row
  cases ev
  have HF := hid h
  have HR := hid hrow
  have hl2 : R.length ≤ 1000 := by omega
  clear h hrow
  go_enter Try.func44, Try.ntmps44
  go_wp2
  go_loopw [18] (fun vi wr => ∃ k : Nat, vi = .int .i64 (k : Int) ∧ k ≤ R.length ∧ Hid (wr.heap[w.heap.size]? = some (.cells #[.string (bs n), .slice (gz (lk (R.take k) n)).a (gz (lk (R.take k) n)).b.length (gz (lk (R.take k) n)).c, .int .i64 ((gz (lk (R.take k) n)).s : Int)] 57 (0, 0))) ∧ Hid (Below w.heap.size w wr)) (fun vi _ => R.length - (intOf vi).toNat)
  case atStart => exact ⟨0, rfl, Nat.zero_le _, hid (heap_new w _), hid (new_below w _)⟩
  case round =>
    obtain ⟨k, rfl, hk, HX, HB⟩ := hrel
    by_cases hlt : k < R.length
    · have e5 : decide ((k : Int) < (R.length : Int)) = true := decide_eq_true (by omega)
      obtain ⟨q, hq⟩ : ∃ q, R[k]? = some q := ⟨R[k], List.getElem?_eq_getElem hlt⟩
      obtain ⟨g, ea, x0, x1, x2⟩ := HR.out k q hq
      subst ea
      have y0 := (HB.out.cell (cell_block x0)).trans x0
      have y1 := (HB.out.cell (cell_block x1)).trans x1
      have y2 := (HB.out.cell (cell_block x2)).trans x2
      have HT := hid (lk_take R n k q hA hq)
      have b0 := cell_blk (i := 0) HX.out rfl
      have b1 := cell_blk (i := 1) HX.out rfl
      have b2 := cell_blk (i := 2) HX.out rfl
      have f0 := frz_blk (i := 0) HX.out
      have f1 := frz_blk (i := 1) HX.out
      have f2 := frz_blk (i := 2) HX.out
      clear x0 x1 x2 hq
      by_cases hqn : q.1 = n
      · have hb : ((bs q.1).toList == (bs n).toList) = true := by rw [hqn]; simp
        have HT2 : Hid (lk (R.take (k + 1)) n = some q.2) := hid (by rw [HT.out, if_pos hqn])
        rw [hqn] at y0 hb
        clear hqn
        go_wp2
        go_roundw
        case rel => exact ⟨k + 1, by go_num, by omega, hid (by rw [HT2.out]; first | (rw [set_blk (i := 2) _ (set_blk (i := 1) _ (set_blk (i := 0) _ HX.out))]; simp [gz])), hid (set_below (set_below (set_below HB.out (Nat.le_refl _) _ _) (Nat.le_refl _) _ _) (Nat.le_refl _) _ _)⟩
        case measure => simp [intOf]; omega
      · have hb : ((bs q.1).toList == (bs n).toList) = false := by rw [bs_list, bs_list]; simpa using hqn
        have hnb : ¬ (bs q.1).toList = (bs n).toList := by rw [bs_list, bs_list]; exact hqn
        have HT2 : Hid (lk (R.take (k + 1)) n = lk (R.take k) n) := hid (by rw [HT.out, if_neg hqn])
        clear hqn
        go_wp2
        go_roundw
        case rel => exact ⟨k + 1, by go_num, by omega, hid (by rw [HT2.out]; exact HX.out), HB⟩
        case measure => simp [intOf]; omega
    · obtain rfl : k = R.length := by omega
      have e5 : decide ((R.length : Int) < (R.length : Int)) = false := by simp
      have hX := HX.out
      rw [List.take_of_length_le (Nat.le_refl _)] at hX
      obtain ⟨F0, hF0⟩ : ∃ F0, F0 = gz (lk R n) := ⟨_, rfl⟩
      rw [← hF0] at hX
      have hok0 : F0.Ok sp w := by
        rw [hF0]
        cases hv : lk R n with
        | none => exact ⟨src_nil w, ⟨Nat.le_refl _, by show (0 : Nat) ≤ maxLen; omega⟩, fun _ => rfl, fun ad _ e => by cases e⟩
        | some f => exact HF.out.ok (n, f) (lk_mem hv)
      have b0 := cell_blk (i := 0) hX rfl
      have b1 := cell_blk (i := 1) hX rfl
      have b2 := cell_blk (i := 2) hX rfl
      have f0 := frz_blk (i := 0) hX
      have f1 := frz_blk (i := 1) hX
      have f2 := frz_blk (i := 2) hX
      have hfbw : w.heap.size < wr.heap.size := (Array.getElem?_eq_some_iff.1 hX).1
      have HX0 := hid hX
      have OK0 := hid hok0
      have HF0 := hid hF0
      clear hX hok0 hF0
      have hfz := hid (show F0.fl = fz (lk (mp RFi.fl R) n) by rw [HF0.out, gz_fz, lk_RF])
      have hsum : F0.b.length + L.length ≤ 1000000 := by
        have : (fz (lk (mp RFi.fl R) n)).b.length = F0.b.length := by rw [← hfz.out]; rfl
        omega
      obtain ⟨bt, hbt⟩ : ∃ bt, bt = F0.b ++ L := ⟨_, rfl⟩
      have hbl : F0.b.length + L.length = bt.length := by rw [hbt, List.length_append]
      have HBT := hid hbt
      have HS := hid hsr
      have HZ := hid hao
      clear hbt hsr hao hsm
      go_wp2_with (first
          | (at_builtin; (fail_if_success have := HA1); refine wpList_plain rfl (fun K' hK' => wp_app (v := .slice none 0 0) _ _ rfl rfl (World.ownsRow_nil _ _ _ _) F0.a F0.b.length F0.c F0.b rfl (OK0.out.below HB.out).1 OK0.out.2.2.1 (by omega) _ rfl ?_); intro a1 c1 w1 r1 r2 r3; refine hK' _ _ ?_; clear hK'; rw [Nat.zero_add] at r1 r3 ⊢; rw [List.nil_append] at r1; have hX1 := (r2.block w.heap.size hfbw (by simp [Value.ownBlock])).trans HX0.out; have HX1 := hid hX1; have HA1 := hid (And.intro r1 (And.intro (app_step HB.out r2 (fun j e => by simp [Value.ownBlock] at e)) (own_new r3 (by simp [Value.ownBlock]) (Nat.le_refl _)))); clear r1 r2 r3 hX1)
          | (at_builtin; refine wpList_plain rfl (fun K' hK' => wp_app (v := .slice a1 F0.b.length c1) _ _ rfl rfl HA1.out.1 ao L.length cc L rfl (HS.out.below HA1.out.2.1) HZ.out (by omega) _ rfl ?_); intro a2 c2 w2 r1 r2 r3; refine hK' _ _ ?_; clear hK'; rw [hbl] at r1 r3 ⊢; rw [← List.map_append, ← HBT.out] at r1; have hX2 := (r2.block w.heap.size (Nat.lt_of_lt_of_le (Array.getElem?_eq_some_iff.1 HX1.out).1 (Nat.le_refl _)) (fun e => Nat.ne_of_gt (Nat.lt_of_lt_of_le hfbw (HA1.out.2.2 _ e.symm)) rfl)).trans HX1.out; have d0 := cell_blk (i := 0) hX2 rfl; have d1 := cell_blk (i := 1) hX2 rfl; have d2 := cell_blk (i := 2) hX2 rfl; have g1 := frz_blk (i := 1) hX2; have HA2 := hid (And.intro r1 (And.intro (app_step HA1.out.2.1 r2 (fun j e => Nat.le_trans (Nat.le_of_lt hfbw) (HA1.out.2.2 j e))) (own_new2 (b2 := w.heap.size) r3 HA1.out.2.2 ⟨(Array.getElem?_eq_some_iff.1 HX1.out).1, hfbw⟩))); clear r1 r2 r3 hX2)
          | (go_at_call 53; have HB2 := hid (set_below HA2.out.2.1 (Nat.le_refl _) 1 (.slice a2 bt.length c2)); have hro := row_kept5 HA2.out.1 (fun k hk => Below.heap_setCell w2 ⟨w.heap.size, 1, none⟩ (.slice a2 bt.length c2) k (Nat.ne_of_gt (HA2.out.2.2 k hk))); have hox := own_ok (s := F0.s) hro (fun ad _ e => sp.up _ (Nat.le_trans HF.out.base (Nat.le_of_lt (HA2.out.2.2 ad.block (by rw [e]; rfl))))); refine (rput_any a c R n ⟨bt, F0.s, a2, c2⟩ _ (HF.out.below HB2.out) hl2 hA hox).mono ?_; rintro e w7 ⟨v7, rfl, hR7, hb7⟩; have R7 := hid (And.intro hR7 (HB2.out.trans (hb7.mono HB2.out.size))); clear hR7 hb7 hro hox))
      go_ret
      refine ⟨_, rfl, _, R7.out.1, ?_, R7.out.2⟩
      rw [put_mp, ← hfz.out]
      show put (mp RFi.fl R) n ⟨bt, F0.s⟩ = _
      rw [HBT.out]
      rfl
end
end Go.Proofs.Ytocglenkdjiknaa
