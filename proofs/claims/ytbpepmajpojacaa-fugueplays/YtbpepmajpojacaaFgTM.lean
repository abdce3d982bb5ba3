/- A text in memory, in one form; each call in one form. -/
import Derived.Test.YtbpepmajpojacaaFgIndex
import Derived.Test.YtbpepmajpojacaaFgPlace
import Derived.Test.YtbpepmajpojacaaFgString
set_option linter.unusedVariables false
namespace Go.Proofs.Ytbpepmajpojacaa
open Go.RowKit

/-- An int. -/
def I64 (i : Int) : Prop := -9223372036854775808 ≤ i ∧ i ≤ 9223372036854775807

/-- Block t is a text of these characters. -/
def TM (w : World) (t : Nat) (T : List Cr) : Prop := (∃ G R, TX w t T G G T.length R) ∧ ∀ c ∈ T, I64 c.ch

theorem TM.wt {w : World} {t : Nat} {T : List Cr} (h : TM w t T) : WT T := by
  obtain ⟨⟨G, R, h⟩, _⟩ := h
  exact h.wt
theorem TM.lt {w : World} {t : Nat} {T : List Cr} (h : TM w t T) : t < w.heap.size := by
  obtain ⟨⟨G, R, h⟩, _⟩ := h
  exact h.lt
theorem TM.below {w w' : World} {t : Nat} {T : List Cr} (h : TM w t T) (hb : Below w.heap.size w w') : TM w' t T := by
  obtain ⟨⟨G, R, h⟩, hc⟩ := h
  exact ⟨⟨G, R, h.below hb⟩, hc⟩

/-- What Insert tells, and what is there then. -/
def insP (T : List Cr) (id at_ : Dt) (side ch : Int) : Int × List Cr :=
  if mayI id at_ side = false then (1, T)
  else if ∃ c ∈ T, c.id = id then (32, T)
  else if ¬ (at_ = (0, 0) ∨ ∃ c ∈ T, c.id = at_) then (41, T)
  else (0, T ++ [⟨id, at_, decide (side = 1), ch, true⟩])

/-- What Delete tells, and what is there then. -/
def delP (T : List Cr) (d : Dt) : Int × List Cr := if ∃ c ∈ T, c.id = d then (0, hide T d) else (41, T)

theorem insP_len (T : List Cr) (id at_ : Dt) (side ch : Int) : (insP T id at_ side ch).2.length ≤ T.length + 1 := by
  unfold insP
  split
  · simp
  · split
    · simp
    · split <;> simp

theorem delP_len (T : List Cr) (d : Dt) : (delP T d).2.length = T.length := by
  unfold delP
  split
  · show (hide T d).length = T.length
    have := congrArg List.length (hide_ids T d)
    simpa using this
  · rfl

theorem new_tm (w : World) : Calls Try.prog 9 #[] w fun e w' => e = .returned (.pointer (some ⟨w.heap.size, 0, none⟩)) ∧ TM w' w.heap.size [] ∧ Below w.heap.size w w' :=
  (new_any w).mono (fun e w' ⟨h1, h2, h3⟩ => ⟨h1, ⟨⟨_, _, h2⟩, by simp⟩, h3⟩)

theorem insert_tm {w : World} {t : Nat} {T : List Cr} (h : TM w t T) (hn : T.length ≤ 100000) (id at_ : Dt) (side ch : Int) (hid0 : Dw id) (hat : Dw at_) (hch : I64 ch) :
    Calls Try.prog 12 #[.pointer (some ⟨t, 0, none⟩), dv id, dv at_, .int .i64 side, .int .i64 ch] w fun e w' => e = .returned (.int .i64 (insP T id at_ side ch).1) ∧ TM w' t (insP T id at_ side ch).2 ∧ FrW t w w' := by
  obtain ⟨⟨G, R, hx⟩, hc⟩ := h
  unfold insP
  by_cases hm : mayI id at_ side = false
  · rw [if_pos hm]
    exact (ins_no t T G R id at_ side ch w hx hid0 hat hm).mono (fun e w' ⟨h1, h2⟩ => ⟨h1, ⟨⟨G, R, hx.below h2⟩, hc⟩, FrW.of_below h2⟩)
  · rw [if_neg hm]
    have hm' : mayI id at_ side = true := by simpa using hm
    by_cases hf : ∃ c ∈ T, c.id = id
    · rw [if_pos hf]
      exact (ins_twice t T G R id at_ side ch w hx hid0 hat hm' hf).mono (fun e w' ⟨h1, h2⟩ => ⟨h1, ⟨⟨G, R, hx.below h2⟩, hc⟩, FrW.of_below h2⟩)
    · rw [if_neg hf]
      by_cases hnd : at_ = (0, 0) ∨ ∃ c ∈ T, c.id = at_
      · rw [if_neg (fun h => h hnd)]
        have hcn : ∀ b, ∀ c ∈ T ++ [(⟨id, at_, b, ch, true⟩ : Cr)], I64 c.ch := fun b c hcm => by
          rcases List.mem_append.1 hcm with h | h
          · exact hc c h
          · simp at h; rw [h]; exact hch
        have hlen : ∀ b, (T ++ [(⟨id, at_, b, ch, true⟩ : Cr)]).length = T.length + 1 := fun b => by simp
        have hs : side = 0 ∨ side = 1 := by
          unfold mayI at hm'
          split at hm'
          · exact Or.inl (by assumption)
          · split at hm'
            · exact Or.inr (by assumption)
            · cases hm'
        rcases hs with rfl | rfl
        · have h0 : at_ ≠ (0, 0) := by
            intro e
            simp [mayI, e] at hm'
          refine (ins_left t T G R id at_ ch w hx hid0 hat hm' hf hn h0 hnd).mono ?_
          rintro e w' ⟨h1, G', R', h2, h3⟩
          exact ⟨h1, ⟨⟨G', R', by rw [hlen]; exact h2⟩, hcn _⟩, h3⟩
        · by_cases h0 : at_ = (0, 0)
          · refine (ins_root t T G R id at_ ch w hx hid0 hat hm' hf hn h0).mono ?_
            rintro e w' ⟨h1, G', R', h2, h3⟩
            exact ⟨h1, ⟨⟨G', R', by rw [hlen]; exact h2⟩, hcn _⟩, h3⟩
          · refine (ins_right t T G R id at_ ch w hx hid0 hat hm' hf hn h0 hnd).mono ?_
            rintro e w' ⟨h1, G', R', h2, h3⟩
            exact ⟨h1, ⟨⟨G', R', by rw [hlen]; exact h2⟩, hcn _⟩, h3⟩
      · rw [if_pos hnd]
        exact (ins_index t T G R id at_ side ch w hx hid0 hat hm' hf hnd).mono (fun e w' ⟨h1, h2⟩ => ⟨h1, ⟨⟨G, R, hx.below h2⟩, hc⟩, FrW.of_below h2⟩)

theorem TX.found_iff {w : World} {t : Nat} {T : List Cr} {G M : Dt → Option Nat} {n : Nat} {R : Dt → Bool → Value} (h : TX w t T G M n R) {d : Dt} (hd : Dw d) : (∃ c ∈ T, c.id = d) ↔ ∃ g, G d = some g := by
  rw [← h.gd d hd, Option.isSome_iff_exists]

theorem delete_tm {w : World} {t : Nat} {T : List Cr} (h : TM w t T) (d : Dt) (hd : Dw d) :
    Calls Try.prog 10 #[.pointer (some ⟨t, 0, none⟩), dv d] w fun e w' => e = .returned (.int .i64 (delP T d).1) ∧ TM w' t (delP T d).2 ∧ FrW t w w' := by
  obtain ⟨⟨G, R, hx⟩, hc⟩ := h
  unfold delP
  by_cases hf : ∃ c ∈ T, c.id = d
  · rw [if_pos hf]
    obtain ⟨g, hg⟩ := (hx.found_iff hd).1 hf
    refine (del_any t T G _ R d w hx hd g hg).mono ?_
    rintro e w' ⟨h1, h2, h3⟩
    have hl : (hide T d).length = T.length := by
      have := congrArg List.length (hide_ids T d)
      simpa using this
    refine ⟨h1, ⟨⟨G, R, by rw [hl]; exact h2⟩, fun c hcm => ?_⟩, h3⟩
    obtain ⟨x, hx', _, _, _, e4, _⟩ := hide_mem hcm
    rw [← e4]
    exact hc x hx'
  · rw [if_neg hf]
    have hg : G d = none := by
      cases hgd : G d with
      | none => rfl
      | some g => exact absurd ((hx.found_iff hd).2 ⟨g, hgd⟩) hf
    exact (del_no t T G _ R d w hx hd hg).mono (fun e w' ⟨h1, h2⟩ => ⟨h1, ⟨⟨G, R, hx.below h2⟩, hc⟩, FrW.of_below h2⟩)

/-- Is a character seen? -/
def seenP (T : List Cr) (d : Dt) : Bool := match fnd T d with
  | some c => c.seen
  | none => false

theorem seen_tm {w : World} {t : Nat} {T : List Cr} (h : TM w t T) (d : Dt) (hd : Dw d) :
    Calls Try.prog 17 #[.pointer (some ⟨t, 0, none⟩), dv d] w fun e w' => e = .returned (.bool (seenP T d)) ∧ Below w.heap.size w w' := by
  obtain ⟨⟨G, R, hx⟩, hc⟩ := h
  unfold seenP
  cases hf : fnd T d with
  | some c =>
    obtain ⟨h1, h2⟩ := fnd_some hf
    exact seen_any t T G _ R d w hx hd c h1 h2
  | none =>
    have hg : G d = none := by
      cases hgd : G d with
      | none => rfl
      | some g =>
        obtain ⟨c, hc, e⟩ := (hx.found_iff hd).2 ⟨g, hgd⟩
        exact absurd e (fnd_none.1 hf c hc)
    exact seen_no t T G _ R d w hx hd hg

theorem size_tm {w : World} {t : Nat} {T : List Cr} (h : TM w t T) :
    Calls Try.prog 29 #[.pointer (some ⟨t, 0, none⟩)] w fun e w' => e = .returned (.int .i64 (T.length : Int)) ∧ w' = w := by
  obtain ⟨⟨G, R, hx⟩, hc⟩ := h
  exact size_any t T G _ R w hx

theorem len_tm {w : World} {t : Nat} {T : List Cr} (h : TM w t T) (hn : T.length ≤ 1000000) :
    Calls Try.prog 28 #[.pointer (some ⟨t, 0, none⟩)] w fun e w' => e = .returned (.int .i64 (seenC T).length) ∧ Below w.heap.size w w' := by
  obtain ⟨⟨G, R, hx⟩, hc⟩ := h
  exact len_of (hx.sight hn) hn

theorem chars_tm {w : World} {t : Nat} {T : List Cr} (h : TM w t T) (hn : T.length ≤ 1000000) :
    Calls Try.prog 27 #[.pointer (some ⟨t, 0, none⟩)] w fun e w' => ∃ v', e = .returned v' ∧ w'.ownsRow w.heap.size 3 1 v' (seenC T).length ((seenC T).map (fun c => Value.int .i64 c.ch)) ∧ Below w.heap.size w w' := by
  obtain ⟨⟨G, R, hx⟩, hc⟩ := h
  exact chars_of (hx.sight hn) (fun c hc => hx.rdc c (List.mem_filter.1 hc).1) hn

theorem dots_tm {w : World} {t : Nat} {T : List Cr} (h : TM w t T) (hn : T.length ≤ 1000000) :
    Calls Try.prog 24 #[.pointer (some ⟨t, 0, none⟩)] w (Gives w ((seenC T).map (·.id))) := by
  obtain ⟨⟨G, R, hx⟩, hc⟩ := h
  refine (dots_of (hx.sight hn) (fun c hc => hx.rdc c (List.mem_filter.1 hc).1) hn).mono ?_
  rintro e w' ⟨v, h1, h2, h3⟩
  exact ⟨v, h1, by rw [List.length_map]; exact h2, h3⟩

theorem all_tm {w : World} {t : Nat} {T : List Cr} (h : TM w t T) (hn : T.length ≤ 1000000) :
    Calls Try.prog 22 #[.pointer (some ⟨t, 0, none⟩)] w (Gives w (allT T)) := by
  obtain ⟨⟨G, R, hx⟩, hc⟩ := h
  refine (all_of (walk_seq hx hn) hx.rdc hn).mono ?_
  rintro e w' ⟨v, h1, h2, h3⟩
  have he : (allC T).map (·.id) = allT T := allC_ids hx.wt
  rw [he] at h2
  refine ⟨v, h1, ?_, h3⟩
  rw [allT_len hx.wt, ← allC_len hx.wt]
  exact h2

theorem index_tm {w : World} {t : Nat} {T : List Cr} (h : TM w t T) (hn : T.length ≤ 1000000) (d : Dt) :
    Calls Try.prog 15 #[.pointer (some ⟨t, 0, none⟩), dv d] w fun e w' => e = .returned (.tuple #[.int .i64 (idxL (allC T) d).1, .bool (idxL (allC T) d).2]) ∧ Below w.heap.size w w' := by
  obtain ⟨⟨G, R, hx⟩, hc⟩ := h
  exact index_of (walk_seq hx hn) hx.rdc hn d

theorem string_tm {w : World} {t : Nat} {T : List Cr} (h : TM w t T) (hn : T.length ≤ 1000000) :
    Calls Try.prog 23 #[.pointer (some ⟨t, 0, none⟩)] w fun e w' => e = .returned (.string ⟨(strB (seenC T)).toArray⟩) ∧ Below w.heap.size w w' := by
  obtain ⟨⟨G, R, hx⟩, hc⟩ := h
  exact string_of (hx.sight hn) (fun c hc => hx.rdc c (List.mem_filter.1 hc).1) (fun c hcm => hc c (seenC_mem hcm)) hn

theorem place_tm {w : World} {t : Nat} {T : List Cr} (h : TM w t T) (hn : T.length ≤ 1000000) (i : Int) (hi : I64 i) :
    Calls Try.prog 25 #[.pointer (some ⟨t, 0, none⟩), .int .i64 i] w fun e w' => e = .returned (.tuple #[dv (plcI T i).1, .int .i64 (plcI T i).2.1, .int .i64 (plcI T i).2.2]) ∧ Below w.heap.size w w' := by
  obtain ⟨⟨G, R, hx⟩, hc⟩ := h
  exact place_any hx hn i hi
end Go.Proofs.Ytbpepmajpojacaa
