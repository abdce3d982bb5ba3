/- Rows of dots, and of numbers, held against one another. -/
import Derived.Test.YtbpepmajpojacaaVSame
import Derived.Test.YtbpepmajpojacaaFgArg
set_option linter.unusedVariables false
namespace Go.Proofs.Ytbpepmajpojacaa
open Go.RowKit
open Go.Sort (grow)

set_option maxHeartbeats 2000000 in
theorem fsame_drew (a : Option Addr) (n c : Nat) (L : List Dt) (a' : Option Addr) (n' c' : Nat) (M : List Dt) (w : World) (hs : PS w a n c L) (hs' : PS w a' n' c' M) (hn : n ≤ 9223372036854775807) (hn' : n' ≤ 9223372036854775807) :
    Calls Try.prog 21 #[.slice a n c, .slice a' n' c'] w fun e w' => e = .returned (.bool (decide (L = M))) ∧ ∃ q, w' = w.drewN q := by
  have mixed := mixed
  have hl := hs.len
  have hl' := hs'.len
  by_cases hnn : n = n'
  · subst hnn
    go_enter Try.func21, Try.ntmps21
    go_wp2
    have HL := hid hl
    have HL' := hid hl'
    clear hl hl'
    go_loopw [5] (fun i wr => ∃ k : Nat, k ≤ n ∧ i = .int .i64 k ∧ L.take k = M.take k ∧ ∃ q, wr = w.drewN q) (fun i _ => n - (intOf i).toNat)
    case atStart => exact ⟨0, by omega, rfl, by simp, 0, rfl⟩
    case round =>
      obtain ⟨k, hk, rfl, htk0, hw0⟩ := hrel
      have hW := hid hw0
      clear hw0
      have htk := hid htk0
      clear htk0
      by_cases hlt : k < n
      · have hl := HL.out
        have hl' := HL'.out
        have hs1 : PS wr a n c L := by obtain ⟨q, hq⟩ := hW.out; rw [hq]; exact hs.drewN q
        have hs1' : PS wr a' n c' M := by obtain ⟨q, hq⟩ := hW.out; rw [hq]; exact hs'.drewN q
        obtain ⟨g, o, rfl, hg, hcell⟩ := hs1.at (by omega)
        obtain ⟨g', o', rfl, hg', hcell'⟩ := hs1'.at (by omega)
        obtain ⟨hc0, hc1⟩ := hcell k (by omega)
        obtain ⟨hd0, hd1⟩ := hcell' k (by omega)
        have hts : Hid _ := hid (take_snoc (L := L) (k := k) (by omega))
        have hts' : Hid _ := hid (take_snoc (L := M) (k := k) (by omega))
        have hLk : Hid _ := hid (List.getElem?_eq_getElem (l := L) (i := k) (by omega))
        have hMk : Hid _ := hid (List.getElem?_eq_getElem (l := M) (i := k) (by omega))
        generalize (L[k]'(by omega)) = d at hc0 hc1 hts hLk
        generalize (M[k]'(by omega)) = e at hd0 hd1 hts' hMk
        clear hs hs' hcell hcell' hl hl' hs1 hs1'
        obtain ⟨d1, d2⟩ := d
        obtain ⟨e1, e2⟩ := e
        have C0 : ∀ m, (wr.drewN m).cell? ⟨g, o + k * 2, none⟩ = some (.int .i64 d1) := fun _ => hc0
        have C1 : ∀ m, (wr.drewN m).cell? ⟨g, o + k * 2 + 1, none⟩ = some (.int .i64 d2) := fun _ => hc1
        have E0 : ∀ m, (wr.drewN m).cell? ⟨g', o' + k * 2, none⟩ = some (.int .i64 e1) := fun _ => hd0
        have E1 : ∀ m, (wr.drewN m).cell? ⟨g', o' + k * 2 + 1, none⟩ = some (.int .i64 e2) := fun _ => hd1
        have hk1 : (k : Int) < (n : Int) := by omega
        have hk0 : (0 : Int) ≤ (k : Int) := by omega
        by_cases h1 : d1 = e1
        · subst h1
          by_cases h2 : d2 = e2
          · subst h2
            go_wp2_with fail
            go_quiet (fail)
            go_wp2
            go_roundw
            case rel => exact ⟨k + 1, by omega, by go_num, by rw [hts.out, hts'.out, htk.out], drew_more hW.out _⟩
            case measure => simp [intOf]; omega
          · go_wp2_with fail
            go_quiet (fail)
            go_wp2
            go_ret
            refine ⟨?_, drew_more hW.out _⟩
            have : L ≠ M := fun e => by
              have h := hLk.out
              rw [e, hMk.out] at h
              simp at h
              exact h2 h.symm
            simp [this]
        · go_wp2_with fail
          go_quiet (fail)
          go_wp2
          go_ret
          refine ⟨?_, drew_more hW.out _⟩
          have : L ≠ M := fun e => by
            have h := hLk.out
            rw [e, hMk.out] at h
            simp at h
            exact h1 h.1.symm
          simp [this]
      · obtain rfl : k = n := by omega
        go_wp2
        go_ret
        have h := htk.out
        rw [List.take_of_length_le (by rw [HL.out]; exact Nat.le_refl _), List.take_of_length_le (by rw [HL'.out]; exact Nat.le_refl _)] at h
        exact ⟨by simp [h], hW.out⟩
  · have hz : L ≠ M := fun e => hnn (by rw [← hl, ← hl', e])
    clear hl hl' hs hs'
    go_enter Try.func21, Try.ntmps21
    go_wp2
    go_ret
    exact ⟨by simp [hz], 0, rfl⟩


theorem fsame_any {a a' : Option Addr} {n c n' c' : Nat} {L M : List Dt} {w : World} (hs : PS w a n c L) (hn : n ≤ 9223372036854775807) (hs' : PS w a' n' c' M) (hn' : n' ≤ 9223372036854775807) : Calls Try.prog 21 #[.slice a n c, .slice a' n' c'] w fun e w' => e = .returned (.bool (decide (L = M))) ∧ Below w.heap.size w w' :=
  (fsame_drew a n c L a' n' c' M w hs hs' hn hn').mono fun _ _ ⟨he, hw⟩ => ⟨he, (far_of_drew hw).below⟩

/-- A slice holds these numbers. -/
structure IS (w : World) (a : Option Addr) (n c : Nat) (L : List Int) : Prop where
  len : L.length = n
  cap : n ≤ c
  max : c ≤ maxLen
  at_ : 0 < n → ∃ g o, a = some ⟨g, o, none⟩ ∧ g < w.heap.size ∧ ∀ i (hi : i < L.length), w.cell? ⟨g, o + i, none⟩ = some (.int .i64 L[i])

theorem IS.drewN {w : World} {a : Option Addr} {n c : Nat} {L : List Int} (h : IS w a n c L) (q : Nat) : IS (w.drewN q) a n c L := ⟨h.len, h.cap, h.max, h.at_⟩
theorem IS.below {w w' : World} {a : Option Addr} {n c : Nat} {L : List Int} (h : IS w a n c L) (hb : Below w.heap.size w w') : IS w' a n c L :=
  ⟨h.len, h.cap, h.max, fun hp => by
    obtain ⟨g, o, e, hg, hx⟩ := h.at_ hp
    exact ⟨g, o, e, Nat.lt_of_lt_of_le hg hb.size, fun i hi => by rw [hb.cell (p := ⟨g, o + i, none⟩) hg]; exact hx i hi⟩⟩
theorem itake_snoc {L : List Int} {k : Nat} (h : k < L.length) : L.take (k + 1) = L.take k ++ [L[k]] := List.take_succ_eq_append_getElem h

/-- A row of numbers of one's own. -/
theorem own_is {w : World} {base n : Nat} {v : Value} {L : List Int} (h : w.ownsRow base 3 1 v n (L.map (Value.int .i64))) : ∃ a c, v = .slice a n c ∧ IS w a n c L := by
  have hl : L.length = n := by have := h.1; simpa using this
  rcases h.2 with ⟨rfl, h0⟩ | ⟨g, cap, cur, rfl, hB, hg, hn, hc, hcs, ht⟩
  · subst h0
    exact ⟨none, 0, rfl, hl, Nat.le_refl _, Nat.zero_le _, fun h => absurd h (by omega)⟩
  · refine ⟨some ⟨g, 0, none⟩, cap, rfl, hl, hn, hc, fun _ => ⟨g, 0, rfl, (Array.getElem?_eq_some_iff.1 hg).1, fun i hi => ?_⟩⟩
    have := h.cellAt i (by omega)
    simp only [Nat.zero_add]
    rw [this]
    simp [List.getElem?_eq_getElem hi]

set_option maxHeartbeats 2000000 in
theorem ints_drew (a : Option Addr) (n c : Nat) (L : List Int) (a' : Option Addr) (n' c' : Nat) (M : List Int) (w : World) (hs : IS w a n c L) (hs' : IS w a' n' c' M) (hn : n ≤ 9223372036854775807) (hn' : n' ≤ 9223372036854775807) :
    Calls Try.prog 26 #[.slice a n c, .slice a' n' c'] w fun e w' => e = .returned (.bool (decide (L = M))) ∧ ∃ q, w' = w.drewN q := by
  have mixed := mixed
  have hl := hs.len
  have hl' := hs'.len
  by_cases hnn : n = n'
  · subst hnn
    go_enter Try.func26, Try.ntmps26
    go_wp2
    have HL := hid hl
    have HL' := hid hl'
    clear hl hl'
    go_loopw [5] (fun i wr => ∃ k : Nat, k ≤ n ∧ i = .int .i64 k ∧ L.take k = M.take k ∧ ∃ q, wr = w.drewN q) (fun i _ => n - (intOf i).toNat)
    case atStart => exact ⟨0, by omega, rfl, by simp, 0, rfl⟩
    case round =>
      obtain ⟨k, hk, rfl, htk0, hw0⟩ := hrel
      have hW := hid hw0
      clear hw0
      have htk := hid htk0
      clear htk0
      by_cases hlt : k < n
      · have hl := HL.out
        have hl' := HL'.out
        have hs1 : IS wr a n c L := by obtain ⟨q, hq⟩ := hW.out; rw [hq]; exact hs.drewN q
        have hs1' : IS wr a' n c' M := by obtain ⟨q, hq⟩ := hW.out; rw [hq]; exact hs'.drewN q
        obtain ⟨g, o, rfl, hg, hcell⟩ := hs1.at_ (by omega)
        obtain ⟨g', o', rfl, hg', hcell'⟩ := hs1'.at_ (by omega)
        have hc0 := hcell k (by omega)
        have hd0 := hcell' k (by omega)
        have hts : Hid _ := hid (itake_snoc (L := L) (k := k) (by omega))
        have hts' : Hid _ := hid (itake_snoc (L := M) (k := k) (by omega))
        have hLk : Hid _ := hid (List.getElem?_eq_getElem (l := L) (i := k) (by omega))
        have hMk : Hid _ := hid (List.getElem?_eq_getElem (l := M) (i := k) (by omega))
        generalize (L[k]'(by omega)) = d1 at hc0 hts hLk
        generalize (M[k]'(by omega)) = e1 at hd0 hts' hMk
        clear hs hs' hcell hcell' hl hl' hs1 hs1'
        have C0 : ∀ m, (wr.drewN m).cell? ⟨g, o + k, none⟩ = some (.int .i64 d1) := fun _ => hc0
        have E0 : ∀ m, (wr.drewN m).cell? ⟨g', o' + k, none⟩ = some (.int .i64 e1) := fun _ => hd0
        have hk1 : (k : Int) < (n : Int) := by omega
        have hk0 : (0 : Int) ≤ (k : Int) := by omega
        by_cases h1 : d1 = e1
        · subst h1
          go_wp2_with fail
          go_quiet (fail)
          go_wp2
          go_roundw
          case rel => exact ⟨k + 1, by omega, by go_num, by rw [hts.out, hts'.out, htk.out], drew_more hW.out _⟩
          case measure => simp [intOf]; omega
        · go_wp2_with fail
          go_quiet (fail)
          go_wp2
          go_ret
          refine ⟨?_, drew_more hW.out _⟩
          have : L ≠ M := fun e => by
            have h := hLk.out
            rw [e, hMk.out] at h
            simp at h
            exact h1 h.symm
          simp [this]
      · obtain rfl : k = n := by omega
        go_wp2
        go_ret
        have h := htk.out
        rw [List.take_of_length_le (by rw [HL.out]; exact Nat.le_refl _), List.take_of_length_le (by rw [HL'.out]; exact Nat.le_refl _)] at h
        exact ⟨by simp [h], hW.out⟩
  · have hz : L ≠ M := fun e => hnn (by rw [← hl, ← hl', e])
    clear hl hl' hs hs'
    go_enter Try.func26, Try.ntmps26
    go_wp2
    go_ret
    exact ⟨by simp [hz], 0, rfl⟩


theorem ints_any {a a' : Option Addr} {n c n' c' : Nat} {L M : List Int} {w : World} (hs : IS w a n c L) (hn : n ≤ 9223372036854775807) (hs' : IS w a' n' c' M) (hn' : n' ≤ 9223372036854775807) : Calls Try.prog 26 #[.slice a n c, .slice a' n' c'] w fun e w' => e = .returned (.bool (decide (L = M))) ∧ Below w.heap.size w w' :=
  (ints_drew a n c L a' n' c' M w hs hs' hn hn').mono fun _ _ ⟨he, hw⟩ => ⟨he, (far_of_drew hw).below⟩
end Go.Proofs.Ytbpepmajpojacaa
