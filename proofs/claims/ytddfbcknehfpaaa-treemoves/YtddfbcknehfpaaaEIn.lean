/- The reference's In: is a dot in a row. -/
import Derived.Test.YtddfbcknehfpaaaOLess
import Derived.Shelf.SlSortCmp.QuietGrown
import Derived.BigQuiet
namespace Go.Proofs.Ytddfbcknehfpaaa
open Go.RowKit
open Go.Sort (grow)

set_option maxHeartbeats 2000000 in
theorem in_any (a : Option Addr) (n c : Nat) (L : List Dt) (x : Dt) (w : World) (hs : PS w a n c L) (hn : n ≤ 1000000) :
    Calls Try.prog 22 #[.slice a n c, dv x] w fun e w' => e = .returned (.bool (decide (x ∈ L))) ∧ Far w w' := by
  obtain ⟨x1, x2⟩ := x
  have HL := hid hs.len
  have hb0 : RowKit.Below w.heap.size w (w.alloc (.cells #[.int .i64 x1, .int .i64 x2] 24)) := (Below.refl _ w).alloc (Nat.le_refl _) _
  go_enter Try.func22, Try.ntmps22
  go_wp2
  go_loopw [5] (fun i wr => ∃ k : Nat, k ≤ n ∧ i = .int .i64 k ∧ (x1, x2) ∉ L.take k ∧ ∃ q, wr = (w.alloc (.cells #[.int .i64 x1, .int .i64 x2] 24)).drewN q) (fun i _ => n - (intOf i).toNat)
  case atStart => exact ⟨0, by omega, rfl, by simp, 0, rfl⟩
  case round =>
    obtain ⟨k, hk, rfl, htk0, hw0⟩ := hrel
    have htk := hid htk0
    have hW := hid hw0
    clear htk0
    by_cases hlt : k < n
    · have hl := HL.out
      have hx0 : wr.cell? ⟨w.heap.size, 0, none⟩ = some (.int .i64 x1) := by obtain ⟨q, rfl⟩ := hw0; go_simp
      have hx1 : wr.cell? ⟨w.heap.size, 1, none⟩ = some (.int .i64 x2) := by obtain ⟨q, rfl⟩ := hw0; go_simp
      have hs1 : PS wr a n c L := by obtain ⟨q, hq⟩ := hw0; rw [hq]; exact (hs.below hb0).drewN q
      clear hw0
      obtain ⟨g, o, rfl, hg, hcell⟩ := hs1.at (by omega)
      obtain ⟨hc0, hc1⟩ := hcell k (by omega)
      have hts : Hid _ := hid (take_snoc (L := L) (k := k) (by omega))
      have hLk : Hid _ := hid (List.getElem_mem (l := L) (n := k) (by omega))
      generalize (L[k]'(by omega)) = d at hc0 hc1 hts hLk
      clear hs hcell hl hs1
      obtain ⟨d1, d2⟩ := d
      have C0 : ∀ m, (wr.drewN m).cell? ⟨g, o + k * 2, none⟩ = some (.int .i64 d1) := fun _ => hc0
      have C1 : ∀ m, (wr.drewN m).cell? ⟨g, o + k * 2 + 1, none⟩ = some (.int .i64 d2) := fun _ => hc1
      have E0 : ∀ m, (wr.drewN m).cell? ⟨w.heap.size, 0, none⟩ = some (.int .i64 x1) := fun _ => hx0
      have E1 : ∀ m, (wr.drewN m).cell? ⟨w.heap.size, 1, none⟩ = some (.int .i64 x2) := fun _ => hx1
      have hk1 : (k : Int) < (n : Int) := by omega
      have hk0 : (0 : Int) ≤ (k : Int) := by omega
      by_cases h1 : d1 = x1
      · subst h1
        by_cases h2 : d2 = x2
        · subst h2
          go_wp2_with fail
          go_quiet (fail)
          go_wp2
          go_ret
          refine ⟨by simp [hLk.out], ?_⟩
          obtain ⟨q, rfl⟩ := hW.out
          exact (((Far.refl w).alloc _).drewN q).drewN _
        · go_wp2_with fail
          go_quiet (fail)
          go_wp2
          go_roundw
          case rel => exact ⟨k + 1, by omega, by go_num, by rw [hts.out]; simp [htk.out, Ne.symm h2], drew_more hW.out _⟩
          case measure => simp [intOf]; omega
      · go_wp2_with fail
        go_quiet (fail)
        go_wp2
        go_roundw
        case rel => exact ⟨k + 1, by omega, by go_num, by rw [hts.out]; simp [htk.out, Ne.symm h1], drew_more hW.out _⟩
        case measure => simp [intOf]; omega
    · obtain rfl : k = n := by omega
      clear hw0
      go_wp2
      go_ret
      have h := htk.out
      rw [List.take_of_length_le (by rw [HL.out]; exact Nat.le_refl _)] at h
      refine ⟨by simp [h], ?_⟩
      obtain ⟨q, rfl⟩ := hW.out
      exact ((Far.refl w).alloc _).drewN q

end Go.Proofs.Ytddfbcknehfpaaa
