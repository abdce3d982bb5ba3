/- The next number of the reference's reader. -/
import Derived.Test.YthipadnghdodlaaBRefR
namespace Go.Proofs.Ythipadnghdodlaa
open Go.RowKit

set_option maxRecDepth 20000 in
set_option maxHeartbeats 2000000 in
theorem wuint_some (w : World) (b z : Nat) (L : List Int) (h : Rdr w b z L 0) (hL : L ≠ []) :
    Calls Try.prog 75 #[.pointer (some ⟨b, 0, none⟩)] w fun r w' => r = .returned (.int .u64 (dec L 0).1) ∧ Rdr w' b z (dec L 0).2.1 (dec L 0).2.2 ∧ Only b w w' := by
  obtain ⟨a, len, cap, hr, hs, hlc, hcap, hne, hb, hd⟩ := id h
  have hpos : 0 < len := by rw [← hs.1]; exact List.length_pos_iff.2 hL
  have hl0 : ((len : Int) == 0) = false := by simp; omega
  obtain ⟨g, off, rfl, hc⟩ := hs.flat hpos
  have hc0 := hc 0 hpos
  simp only [Nat.add_zero] at hc0
  have hrc0 := hr.c0
  have hrc1 := hr.c1
  have hrf0 := hr.f0
  have hb0 := hb.at 0
  obtain ⟨x, hx⟩ : ∃ x, x = L[0]?.getD 0 := ⟨_, rfl⟩
  rw [← hx] at hc0 hb0
  have hxH : Hid (L[0]?.getD 0 = x) := hx.symm
  clear hx
  have hcH : Hid (∀ j : Nat, j < len → w.cell? ⟨g, off + j, none⟩ = some (.int .u8 (L[j]?.getD 0))) := hc
  clear hc
  have hzH : Hid (g = z) := hne.1 _ hpos rfl
  have hzb := hne.2
  have hll : Hid (L.length = len) := hs.1
  clear hne hd
  go_enter Try.func75, Try.ntmps75
  go_wp2_with fail
  go_loop [3, 4, 5] (fun k f t => ∃ (j : Nat) (F T : Int), j ≤ 8 ∧ k = .int .i64 (j + 1) ∧ f = .int .i64 F ∧ t = .int .i64 T ∧ Hid (Bits x j F T)) (fun k _ _ => 9 - (intOf k).toNat)
  case atStart => exact ⟨0, x, 128, by omega, rfl, rfl, rfl, bits_zero x hb0.1⟩
  case round =>
    obtain ⟨j, F, T, hj, rfl, rfl, rfl, hB⟩ := hrel
    have hsm := bits_small hB.out hj hb0.2
    go_upto_region 9 with fail
    go_cut [34] from 28 to 41 (fun s wc => s = .bool (decide (0 < T ∧ T ≤ F)) ∧ w = wc)
    case first =>
      by_cases h1 : 0 < T
      · go_wp2_with fail
        all_goals go_meet
        all_goals exact ⟨by simp [h1], rfl⟩
      · go_wp2_with fail
        go_meet
        exact ⟨by rw [decide_eq_false (by omega)], rfl⟩
    case rest =>
      obtain ⟨hbool, rfl⟩ := hcut
      by_cases hlt : 0 < T ∧ T ≤ F
      · rw [decide_eq_true hlt] at hbool
        subst hbool
        have hj7 : j ≤ 7 := by
          rcases Nat.lt_or_ge j 8 with h | h
          · omega
          · have := hsm.2.2.2.2 (by omega); omega
        have hB' : Hid (Bits x (j + 1) (F - T) (T / 2)) := bits_step hB.out hj7 hlt.2
        go_wp2_with fail
        go_round
        case rel => exact ⟨j + 1, F - T, T / 2, by omega, by go_num, by go_num, by go_num, hB'⟩
        case measure => simp [intOf]; omega
      · rw [decide_eq_false hlt] at hbool
        subst hbool
        have hend := bits_end hB.out hj hb0.1 hb0.2 hlt
        have hF : Hid (F = fb (j + 1) x) := hend.2
        have hkH : Hid (sd (L[0]?.getD 0) = j + 1) := by show _ = _; rw [hxH.out]; exact hend.1
        clear hend hB hlt
        by_cases hshort : len < j + 1
        · have hD : Hid (dec L 0 = (0, [], 10)) := dec_short L (j + 1) hkH.out hL (by rw [hll.out]; exact hshort)
          go_wp2_with (go_at_call 57; refine (wfail_any _ b _ 10 hr (by decide)).mono ?_; rintro r w' ⟨rfl, hr2, ho2⟩)
          go_ret
          rw [hD.out]
          exact ⟨rfl, Rdr.dead hzb hr2, ho2⟩
        · have hj0 : Hid (jacc L (j + 1) 0 = F) := by show fb (j + 1) (L[0]?.getD 0) = F; rw [hxH.out]; exact hF.out.symm
          have hn64 := jacc_u64 L (j + 1) (by omega) (by omega) hb.at j (by omega)
          have hnext : Hid (∀ q : Nat, q < j → ∃ y : Int, w.cell? ⟨g, off + (q + 1), none⟩ = some (.int .u8 y) ∧ 0 ≤ y ∧ y < 256 ∧ 0 ≤ jacc L (j + 1) q ∧ jacc L (j + 1) q < 72057594037927936 ∧ jacc L (j + 1) (q + 1) = jacc L (j + 1) q * 256 + y) := by
            intro q hq
            have h1 := jacc_small L (j + 1) (by omega) (by omega) hb.at q (by omega)
            have h2 := hb.at (q + 1)
            exact ⟨_, hcH.out (q + 1) (by omega), h2.1, h2.2, h1.1, h1.2, rfl⟩
          go_wp2_with fail
          go_loop [6, 7] (fun n i => ∃ (q : Nat) (acc : Int), q ≤ j ∧ i = .int .i64 (q + 1) ∧ n = .int .u64 acc ∧ Hid (jacc L (j + 1) q = acc)) (fun _ i => 10 - (intOf i).toNat)
          case atStart => exact ⟨0, F, by omega, rfl, rfl, hj0⟩
          case round =>
            obtain ⟨q, acc, hq, rfl, rfl, ha⟩ := hrel
            by_cases hlt : q < j
            · obtain ⟨y, hcy, hy0, hy1, hs0, hs1, hst⟩ := hnext.out q hlt
              rw [ha.out] at hs0 hs1 hst
              have hstH : Hid (jacc L (j + 1) (q + 1) = acc * 256 + y) := hst
              clear hst
              have hql : q + 1 < len := by omega
              go_wp2_with fail
              go_round
              case rel => exact ⟨q + 1, acc * 256 + y, by omega, by go_num, rfl, hstH⟩
              case measure => simp [intOf]; omega
            · obtain rfl : q = j := by omega
              rw [ha.out] at hn64
              have hkc : q + 1 ≤ cap := by omega
              by_cases hform : sz acc = q + 1
              · have hD : Hid (dec L 0 = (acc, L.drop (q + 1), 0)) := by
                  show _ = _
                  rw [dec_ok L (q + 1) hkH.out hL (by rw [hll.out]; exact hshort) (by rw [Nat.add_sub_cancel, ha.out]; exact hform), Nat.add_sub_cancel, ha.out]
                go_wp2_with (go_at_call 83; refine (rsize_any _ _ hn64.1 hn64.2).mono ?_; rw [hform]; rintro r w' ⟨rfl, rfl⟩)
                all_goals go_ret
                all_goals rw [hD.out]
                · exact ⟨rfl, rdr_adv hr hs (by omega) (by omega) hb (by omega) (fun hq => absurd hq (by omega)) ⟨fun ad _ h => by simp at h; subst h; exact hzH.out, hzb⟩, (Only.refl _ _).setCell _ _⟩
                · exact ⟨rfl, rdr_adv hr hs (by omega) (by omega) hb (by omega) (fun _ => rfl) ⟨fun ad _ h => by simp at h; subst h; exact hzH.out, hzb⟩, (Only.refl _ _).setCell _ _⟩
              · have hformH : Hid (sz acc ≠ q + 1) := hform
                have hne2 : ((sz acc : Int) == ((q : Int) + 1)) = false := by simp; omega
                have hD : Hid (dec L 0 = (0, [], 11)) := dec_form L (q + 1) hkH.out hL (by rw [hll.out]; exact hshort) (by rw [Nat.add_sub_cancel, ha.out]; exact hform)
                go_wp2_with (first
                  | (go_at_call 83; refine (rsize_any _ _ hn64.1 hn64.2).mono ?_; rintro r w' ⟨rfl, rfl⟩)
                  | (go_at_call 57; refine (wfail_any _ b _ 11 hr (by decide)).mono ?_; rintro r w' ⟨rfl, hr2, ho2⟩))
                go_ret
                rw [hD.out]
                exact ⟨rfl, Rdr.dead hzb hr2, ho2⟩
end Go.Proofs.Ythipadnghdodlaa
