/- May, Get, Has, Count, Same and the reference's: what they tell. -/
import Derived.Test.YtboaofaileafdaaVBase
namespace Go.Proofs.Ytboaofaileafdaa
open Go.RowKit
open Go.Sort (grow)

theorem take_prev {L : List Dt} {k : Nat} (hk : k < L.length) (hp : 0 < k) : L.take k = L.take (k - 1) ++ [L[k - 1]] := by
  have := take_snoc (L := L) (k := k - 1) (by omega)
  rw [show k - 1 + 1 = k by omega] at this
  exact this

/-- One step of May. -/
theorem may_step {L : List Dt} {k : Nat} (hk : k < L.length) (h : vmb (L.take k) = true) : vmb (L.take (k + 1)) = (mayd L[k] && (decide (k = 0) || decide ((L[k - 1]'(by omega)).1 < L[k].1))) := by
  rw [take_snoc hk, vmb_snoc h]
  by_cases h0 : k = 0
  · subst h0
    simp
  · have e := take_prev hk (by omega)
    rw [e] at h ⊢
    rw [all_last h]
    simp [h0]

set_option maxRecDepth 100000 in
set_option maxHeartbeats 2000000 in
theorem rvmay_any (a : Option Addr) (n c : Nat) (L : List Dt) (w : World) (hs : PS w a n c L) (hn : n ≤ 9223372036854775807) : Tells 65 #[.slice a n c] w (.bool (vmb L)) := by
  have mixed := mixed
  have HL := hid hs.len
  go_enter Try.func65, Try.ntmps65
  go_wp2
  go_loopw [3] (fun i wr => ∃ k : Nat, k ≤ n ∧ i = .int .i64 k ∧ vmb (L.take k) = true ∧ Far w wr) (fun i _ => n - (intOf i).toNat)
  case atStart => exact ⟨0, by omega, rfl, by rw [List.take_zero]; rfl, Far.refl _⟩
  case round =>
    obtain ⟨k, hk, rfl, htk0, hW⟩ := hrel
    have htk := hid htk0
    clear htk0
    by_cases hlt : k < n
    · have hl := HL.out
      obtain ⟨g, o, rfl, hg, hcell⟩ := (hs.far hW).at (by omega)
      obtain ⟨hc0, hc1⟩ := hcell k (by omega)
      have hst : Hid _ := hid (may_step (L := L) (k := k) (by omega) htk.out)
      have hp0 : 0 < k → wr.cell? ⟨g, o + (k - 1) * 2, none⟩ = some (.int .i64 (L[k - 1]'(by omega)).1) := fun _ => (hcell (k - 1) (by omega)).1
      generalize (L[k]'(by omega)) = d at hc0 hc1 hst
      generalize (L[k - 1]'(by omega)) = p at hp0 hst
      obtain ⟨d1, d2⟩ := d
      obtain ⟨p1, p2⟩ := p
      have hM := rmay_any (d1, d2) wr
      generalize hr : mayd (d1, d2) = r at hM hst
      clear hs hcell hl hr
      go_wp2_with (first | (go_at_call 60; refine hM.mono ?_; rintro e w1 ⟨rfl, hF1⟩))
      have HW := hW.trans hF1
      have e0 := (hF1.below.cell (p := ⟨g, o + k * 2, none⟩) hg).trans hc0
      have p0 : 0 < k → w1.cell? ⟨g, o + (k - 1) * 2, none⟩ = some (.int .i64 p1) := fun h => (hF1.below.cell (p := ⟨g, o + (k - 1) * 2, none⟩) hg).trans (hp0 h)
      have E0 := fun m os => cell_grown (cell_in e0) e0 m os
      have hk1' : (k : Int) < (n : Int) := by omega
      have hk0' : (0 : Int) ≤ (k : Int) := by omega
      clear hc0 hc1 hM hp0 hW hF1 hg e0
      cases r
      · refine wp_region_quiet_grown mixed (by kernel_rfl) ?_
        repeat (go_big_quiet_step (fail))
        refine wpQuiet_nil ?_
        intro _ hw'
        obtain ⟨⟨nq, osq⟩, hw''⟩ := hw'
        subst hw''
        simp only []
        go_wp2
        go_ret
        exact ⟨by rw [vmb_take (k + 1) (by rw [hst.out]; rfl)]; rfl, HW.more nq osq⟩
      · by_cases h0 : k = 0
        · subst h0
          refine wp_region_quiet_grown mixed (by kernel_rfl) ?_
          repeat (go_big_quiet_step (fail))
          refine wpQuiet_nil ?_
          intro _ hw'
          obtain ⟨⟨nq, osq⟩, hw''⟩ := hw'
          subst hw''
          simp only []
          go_wp2
          go_roundw
          case rel => exact ⟨1, by omega, by go_num, by have := hst.out; simpa using this, HW.more nq osq⟩
          case measure => simp [intOf]; omega
        · have hq := p0 (by omega)
          have P0 := fun m os => cell_grown (cell_in hq) hq m os
          have hk1 : (k : Int) - 1 = ((k - 1 : Nat) : Int) := by omega
          have hkp : (0 : Int) < (k : Int) := by omega
          obtain ⟨j, rfl⟩ : ∃ j, k = j + 1 := ⟨k - 1, by omega⟩
          simp only [Nat.add_sub_cancel] at P0 hk1 hst
          have hjn : (j : Int) < (n : Int) := by omega
          have hj0 : (0 : Int) ≤ (j : Int) := by omega
          clear hq p0
          by_cases hpd : p1 < d1
          · have hge : ¬ (d1 ≤ p1) := by omega
            refine wp_region_quiet_grown mixed (by kernel_rfl) ?_
            repeat (go_big_quiet_step (fail))
            refine wpQuiet_nil ?_
            intro _ hw'
            obtain ⟨⟨nq, osq⟩, hw''⟩ := hw'
            subst hw''
            simp only []
            go_wp2
            go_roundw
            case rel => exact ⟨j + 1 + 1, by omega, by go_num, by have := hst.out; simpa [hpd] using this, HW.more nq osq⟩
            case measure => simp [intOf]; omega
          · have hge : d1 ≤ p1 := by omega
            refine wp_region_quiet_grown mixed (by kernel_rfl) ?_
            repeat (go_big_quiet_step (fail))
            refine wpQuiet_nil ?_
            intro _ hw'
            obtain ⟨⟨nq, osq⟩, hw''⟩ := hw'
            subst hw''
            simp only []
            go_wp2
            go_ret
            exact ⟨by rw [vmb_take (j + 1 + 1) (by rw [hst.out]; simp; omega)]; rfl, HW.more nq osq⟩
    · obtain rfl : k = n := by omega
      go_wp2
      go_ret
      have h := htk.out
      rw [List.take_of_length_le (by rw [HL.out]; exact Nat.le_refl _)] at h
      exact ⟨by rw [h]; rfl, hW⟩


end Go.Proofs.Ytboaofaileafdaa
