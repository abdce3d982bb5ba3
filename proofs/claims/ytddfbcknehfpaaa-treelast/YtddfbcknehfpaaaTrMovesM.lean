/- A move that is later than all others. No function of the program. -/
import Derived.Test.YtddfbcknehfpaaaTrMvs
set_option linter.unusedVariables false
namespace Go.Proofs.Ytddfbcknehfpaaa
open Go.RowKit

theorem mvL_sub {l : List Mv} {m x : Mv} (h : x ∈ mvL l m) : x ∈ l ∨ x = m := by
  unfold mvL at h
  split at h
  · rcases List.mem_cons.1 ((ins_perm mvl l m).mem_iff.1 h) with h | h
    · exact Or.inr h
    · exact Or.inl h
  · exact Or.inl h

theorem fold_sub : ∀ (L l : List Mv) (x : Mv), x ∈ L.foldl mvL l → x ∈ l ∨ x ∈ L
  | [], l, x, h => Or.inl h
  | m :: L, l, x, h => by
    rcases fold_sub L (mvL l m) x h with h | h
    · rcases mvL_sub h with h | h
      · exact Or.inl h
      · exact Or.inr (by rw [h]; simp)
    · exact Or.inr (List.mem_cons_of_mem _ h)

theorem tr_sub {L : List Mv} {x : Mv} (h : x ∈ tr L) : x ∈ L := by
  rcases fold_sub L [] x h with h | h
  · simp at h
  · exact h

/-- One that is later than all others comes last. -/
theorem ins_last {l : List Mv} {m : Mv} (h : ∀ x ∈ l, x.time < m.time) : insL mvl l m = l ++ [m] := by
  have hr : rkL mvl l m = l.length := by
    unfold rkL
    rw [List.filter_eq_self.2 (fun x hx => (mvl_iff x m).2 (Or.inl (h x hx)))]
  unfold insL
  rw [hr, List.take_length, List.drop_length]

theorem blk_may {l : List Mv} (h : Lg l) {b : Dt} (hb : b ∈ blks l) : mayT b = true := by
  unfold blks at hb
  rw [mem_rise, List.mem_map] at hb
  obtain ⟨s, hs, rfl⟩ := hb
  obtain ⟨m, hm, rfl⟩ := run_mem hs
  obtain ⟨h1, h2⟩ := h.may m hm
  unfold mayT
  have e1 : m.sp.b = m.block := rfl
  rw [e1]
  simp only [Bool.and_eq_true, decide_eq_true_eq]
  exact ⟨⟨h1, fun e => h2 (Or.inl e)⟩, fun e => h2 (Or.inr e)⟩

/-- May it take effect? -/
def mayB (l : List Mv) (b p : Dt) : Bool := decide (p ≠ b) && !(decide (b ∈ pth (run l) p))

theorem last_facts {l : List Mv} (h : Lg l) (ht : ∀ x ∈ l, x.time ≤ 1000000) {b p : Dt} {key : ByteArray} (hb : b ∈ blks l) (hp : p = (0, -2) ∨ p ∈ blks l) {q : Pl} (hq : lk (run l) b = some q) (hid : ∀ x ∈ l, x.id ≠ ((99, 99) : Dt)) :
    mvE l ⟨(99, 99), 1000001, b, p, key⟩ = 0 ∧ tookB (mvL l ⟨(99, 99), 1000001, b, p, key⟩) (99, 99) = mayB l b p ∧ lk (run (mvL l ⟨(99, 99), 1000001, b, p, key⟩)) b = some (if mayB l b p = true then (p, key) else q) ∧ blks (mvL l ⟨(99, 99), 1000001, b, p, key⟩) = blks l := by
  obtain ⟨r, hr⟩ := h.run_tk
  have hE : mvE l ⟨(99, 99), 1000001, b, p, key⟩ = 0 := mvE_ok (show mayT (99, 99) = true by decide +kernel) (blk_may h hb) hid
  have hL : mvL l ⟨(99, 99), 1000001, b, p, key⟩ = l ++ [⟨(99, 99), 1000001, b, p, key⟩] := by
    unfold mvL
    rw [if_pos hE]
    exact ins_last (fun x hx => by have := ht x hx; show x.time < 1000001; omega)
  have hT : takes (run l) ⟨(99, 99), 1000001, b, p, key⟩ = mayB l b p := by
    unfold takes mayB
    have h1 : (decide (p = (0, -1)) || decide (p = (0, -2)) || (lk (run l) p).isSome) = true := by
      rcases hp with rfl | hp
      · simp
      · rw [blks_mem.1 hp]; simp
    show ((decide (p = (0, -1)) || decide (p = (0, -2)) || (lk (run l) p).isSome) && ((lk (run l) b).isSome || decide (b = (99, 99))) && decide (b ≠ p) && decide (b ∉ pth (run l) p)) = _
    rw [h1, hq]
    have e : decide (b ≠ p) = decide (p ≠ b) := by
      by_cases hbp : b = p
      · simp [hbp]
      · simp [hbp, Ne.symm hbp]
    rw [e]
    simp
  have hst : run (l ++ [⟨(99, 99), 1000001, b, p, key⟩]) = step (run l) ⟨(99, 99), 1000001, b, p, key⟩ := run_snoc _ _
  refine ⟨hE, ?_, ?_, ?_⟩
  · have hlg : Lg (mvL l ⟨(99, 99), 1000001, b, p, key⟩) := mvL_log h _
    rw [hL] at hlg ⊢
    have := tookB_at hlg.ids (i := l.length) (m := ⟨(99, 99), 1000001, b, p, key⟩) (by simp)
    rw [List.take_left'] at this
    · exact this.trans hT
    · rfl
  · rw [hL, hst]
    unfold step
    rw [hT]
    by_cases hm : mayB l b p = true
    · rw [if_pos hm, put_lk hr.nd]
      simp [Mv.sp, hm]
    · rw [if_neg hm, if_neg hm]
      exact hq
  · rw [hL]
    refine up_ext (up_rise _) (up_rise _) (fun d => ?_)
    rw [blks_mem, blks_mem, hst]
    unfold step
    rw [hT]
    by_cases hm : mayB l b p = true
    · rw [if_pos hm, put_lk hr.nd]
      by_cases hd : d = b
      · subst hd
        simp [Mv.sp, hq]
      · simp [Mv.sp, hd]
    · rw [if_neg hm]
end Go.Proofs.Ytddfbcknehfpaaa
