/- Same, of three makes, and Count: what they tell. -/
import Derived.Test.YtoapblojoblhiaaGreatVGet
namespace Go.Proofs.YtoapblojoblhiaaGreat
open Go.RowKit
open Go.Sort (grow)

theorem PS.drewN {w : World} {a : Option Addr} {n c : Nat} {L : List Dt} (h : PS w a n c L) (q : Nat) : PS (w.drewN q) a n c L :=
  ⟨h.len, h.cap, h.max, h.nil, h.cells⟩

theorem drew_more {w wr : World} (h : ∃ q, wr = w.drewN q) (n : Nat) : ∃ q, wr.drewN n = w.drewN q := by
  obtain ⟨q, rfl⟩ := h
  exact ⟨_, World.drewN_drewN _ _ _⟩

set_option maxHeartbeats 2000000 in
theorem rsame_drew (a : Option Addr) (n c : Nat) (L : List Dt) (a' : Option Addr) (n' c' : Nat) (M : List Dt) (w : World) (hs : PS w a n c L) (hs' : PS w a' n' c' M) (hn : n ≤ 9223372036854775807) (hn' : n' ≤ 9223372036854775807) :
    Calls Tryz.prog 51 #[.slice a n c, .slice a' n' c'] w fun e w' => e = .returned (.bool (decide (L = M))) ∧ ∃ q, w' = w.drewN q := by
  have mixed := mixed
  have hl := hs.len
  have hl' := hs'.len
  by_cases hnn : n = n'
  · subst hnn
    go_enter Tryz.func51, Tryz.ntmps51
    go_wp2
    have HL := hid hl
    have HL' := hid hl'
    clear hl hl'
    go_loopw [5] (fun i wr => ∃ k : Nat, k ≤ n ∧ i = .int .i64 k ∧ L.take k = M.take k ∧ ∃ q, wr = w.drewN q) (fun i _ => n - (intOf i).toNat)
    case atStart => exact ⟨0, by omega, rfl, by simp, 0, rfl⟩
    case round =>
      obtain ⟨k, hk, rfl, htk0, hw0⟩ := hrel
      have hW := hid hw0
      clear hw0
      have htk := hid htk0
      clear htk0
      by_cases hlt : k < n
      · have hl := HL.out
        have hl' := HL'.out
        have hs1 : PS wr a n c L := by obtain ⟨q, hq⟩ := hW.out; rw [hq]; exact hs.drewN q
        have hs1' : PS wr a' n c' M := by obtain ⟨q, hq⟩ := hW.out; rw [hq]; exact hs'.drewN q
        obtain ⟨g, o, rfl, hg, hcell⟩ := hs1.at (by omega)
        obtain ⟨g', o', rfl, hg', hcell'⟩ := hs1'.at (by omega)
        obtain ⟨hc0, hc1⟩ := hcell k (by omega)
        obtain ⟨hd0, hd1⟩ := hcell' k (by omega)
        have hts : Hid _ := hid (take_snoc (L := L) (k := k) (by omega))
        have hts' : Hid _ := hid (take_snoc (L := M) (k := k) (by omega))
        have hLk : Hid _ := hid (List.getElem?_eq_getElem (l := L) (i := k) (by omega))
        have hMk : Hid _ := hid (List.getElem?_eq_getElem (l := M) (i := k) (by omega))
        generalize (L[k]'(by omega)) = d at hc0 hc1 hts hLk
        generalize (M[k]'(by omega)) = e at hd0 hd1 hts' hMk
        clear hs hs' hcell hcell' hl hl' hs1 hs1'
        obtain ⟨d1, d2⟩ := d
        obtain ⟨e1, e2⟩ := e
        have C0 : ∀ m, (wr.drewN m).cell? ⟨g, o + k * 2, none⟩ = some (.int .i64 d1) := fun _ => hc0
        have C1 : ∀ m, (wr.drewN m).cell? ⟨g, o + k * 2 + 1, none⟩ = some (.int .i64 d2) := fun _ => hc1
        have E0 : ∀ m, (wr.drewN m).cell? ⟨g', o' + k * 2, none⟩ = some (.int .i64 e1) := fun _ => hd0
        have E1 : ∀ m, (wr.drewN m).cell? ⟨g', o' + k * 2 + 1, none⟩ = some (.int .i64 e2) := fun _ => hd1
        have hk1 : (k : Int) < (n : Int) := by omega
        have hk0 : (0 : Int) ≤ (k : Int) := by omega
        by_cases h1 : d1 = e1
        · subst h1
          by_cases h2 : d2 = e2
          · subst h2
            go_wp2_with fail
            go_quiet (fail)
            go_wp2
            go_roundw
            case rel => exact ⟨k + 1, by omega, by go_num, by rw [hts.out, hts'.out, htk.out], drew_more hW.out _⟩
            case measure => simp [intOf]; omega
          · go_wp2_with fail
            go_quiet (fail)
            go_wp2
            go_ret
            refine ⟨?_, drew_more hW.out _⟩
            have : L ≠ M := fun e => by
              have h := hLk.out
              rw [e, hMk.out] at h
              simp at h
              exact h2 h.symm
            simp [this]
        · go_wp2_with fail
          go_quiet (fail)
          go_wp2
          go_ret
          refine ⟨?_, drew_more hW.out _⟩
          have : L ≠ M := fun e => by
            have h := hLk.out
            rw [e, hMk.out] at h
            simp at h
            exact h1 h.1.symm
          simp [this]
      · obtain rfl : k = n := by omega
        go_wp2
        go_ret
        have h := htk.out
        rw [List.take_of_length_le (by rw [HL.out]; exact Nat.le_refl _), List.take_of_length_le (by rw [HL'.out]; exact Nat.le_refl _)] at h
        exact ⟨by simp [h], hW.out⟩
  · have hz : L ≠ M := fun e => hnn (by rw [← hl, ← hl', e])
    clear hl hl' hs hs'
    go_enter Tryz.func51, Tryz.ntmps51
    go_wp2
    go_ret
    exact ⟨by simp [hz], 0, rfl⟩

theorem far_of_drew {w w' : World} (h : ∃ q, w' = w.drewN q) : Far w w' := by
  obtain ⟨q, rfl⟩ := h
  exact (Far.refl w).drewN q

section
variable {a a' : Option Addr} {n c n' c' : Nat} {L M : List Dt} {w : World}
theorem rsame_any (hs : PS w a n c L) (hn : n ≤ 9223372036854775807) (hs' : PS w a' n' c' M) (hn' : n' ≤ 9223372036854775807) : Tells 51 #[.slice a n c, .slice a' n' c'] w (.bool (decide (L = M))) :=
  (rsame_drew a n c L a' n' c' M w hs hs' hn hn').mono fun _ _ ⟨he, hw⟩ => ⟨he, far_of_drew hw⟩
end

theorem VM.take {L : List Dt} (h : VM L) (k : Nat) : VM (L.take k) := ⟨h.ac.sublist (List.take_sublist k L), fun d hd => h.may d (List.mem_of_mem_take hd)⟩


end Go.Proofs.YtoapblojoblhiaaGreat
