/- The way down in the heap. -/
import Derived.Test.YtlncokkpdkddlaaGreatHUp
namespace Go.Proofs.YtlncokkpdkddlaaGreat
open Go.RowKit
open Go.Sort (grow)

set_option maxRecDepth 100000 in
set_option maxHeartbeats 1000000 in
theorem down_any (b o : Nat) (w : World) (base : Nat) (v : Value) (zs : List Int) (h : OI w base v zs) (hbb : b < base) (hv : w.cell? ⟨b, o, none⟩ = some v) (n : Nat) (hd : DnI zs 0 n) (hn : n < zs.length) (hl : zs.length ≤ 1000000) :
    Calls Tryz.prog 46 #[.iface 53 (.pointer (some ⟨b, o, none⟩)), .int .i64 0, .int .i64 n] w fun e w' => ∃ r ys, e = .returned (.bool r) ∧ OI w' base v ys ∧ ys.Perm zs ∧ HpN ys n ∧ nb ys n = nb zs n ∧ w.grownBy w' v.ownBlock := by
  go_enter Tryz.func46, Tryz.ntmps46
  go_wp2
  go_loopw [7] (fun i wr => ∃ (k : Nat) (ys : List Int), i = .int .i64 k ∧ OI wr base v ys ∧ ys.Perm zs ∧ DnI ys k n ∧ nb ys n = nb zs n ∧ w.grownBy wr v.ownBlock) (fun i _ => zs.length - (intOf i).toNat)
  case atStart => exact ⟨0, zs, rfl, h, List.Perm.refl _, hd, rfl, World.grownBy.refl _ _⟩
  case round =>
    obtain ⟨k, ys, rfl, hO, hP, hU, hN, hG⟩ := hrel
    have hlen := hP.length_eq
    have hkl := hU.lt
    have hbv : v.ownBlock ≠ some b := fun e => by have := (hO.1.lt b e).1; omega
    have hb0 : b < w.heap.size := cell_in hv
    have hv1 : wr.cell? ⟨b, o, none⟩ = some v := (hG.cell_far ⟨b, o, none⟩ hb0 (fun e => hbv e.symm)).trans hv
    have hm1 := fun q => m_less b o (wr.drewN q) v hv1
    have hm0 := m_less b o wr v hv1
    have hms := fun q => m_swap b o (wr.drewN q) v hv1
    have hkm : k ≤ 1000000 := by omega
    have hnm : n ≤ 1000000 := by omega
    by_cases hc : 2 * k + 1 < n
    · have hlen2 : ys.length ≤ 1000000 := by omega
      have hny : n < ys.length := by omega
      have hzy : zs.length = ys.length := by omega
      have hH := hid (And.intro hU (And.intro hP (And.intro hN (And.intro hc hlen))))
      obtain ⟨p, hp⟩ : ∃ p, p = 2 * k + 1 := ⟨_, rfl⟩
      obtain ⟨p2, hp2⟩ : ∃ p2, p2 = 2 * k + 2 := ⟨_, rfl⟩
      have hq1 : 2 * (k : Int) + 1 = (p : Int) := by omega
      have hq2 : (p : Int) + 1 = (p2 : Int) := by omega
      have hpb : k < p ∧ p < n ∧ p < p2 ∧ p2 ≤ 3000000 ∧ p2 ≤ n := by omega
      obtain ⟨b1, b2, b3, b4, b5⟩ := hpb
      have c1 : decide ((n : Int) ≤ (p : Int)) = false := by simp; omega
      have c2 : decide ((p : Int) < 0) = false := by simp
      have hlv : Hid (lc ys k n = if p2 < n ∧ nb ys p2 < nb ys p then p2 else p) := hid (by rw [hp, hp2]; rfl)
      clear hp hp2 hc
      by_cases h2 : p2 < n
      · have hL1 := hless_any wr base v ys hO p2 p (by omega) (by omega) (by omega)
        have d2 : decide ((p2 : Int) < (n : Int)) = true := by simp; omega
        by_cases h3 : nb ys p2 < nb ys p
        · have hj : lc ys k n = p2 := by rw [hlv.out, if_pos ⟨h2, h3⟩]
          have d3 : decide (nb ys p2 < nb ys p) = true := by simp [h3]
          rw [d3] at hL1
          clear d3 h3
          by_cases h5 : nb ys p2 < nb ys k
          ·
            have hL2 := fun q => hless_any (wr.drewN q) base v ys (hO.drewN q) p2 k (by omega) hkl (by omega)
            have hL0 := hless_any wr base v ys hO p2 k (by omega) hkl (by omega)
            have hS := fun q => swap_any (wr.drewN q) base v ys (hO.drewN q) k p2 hkl (by omega) (by omega)
            have d5 : decide (nb ys p2 < nb ys k) = true := by simpa using h5
            rw [d5] at hL2 hL0
            have H5 := hid h5
            have HJ := hid hj
            clear h5 d5 hj hU hN hlen hP
            go_wp2_with (first
              | (go_at_call 131; refine (hS _).mono ?_; rintro e w3 ⟨rfl, hO3, hG3⟩)
              | (go_at_call 130; have hq := n1; refine (hL2 _).mono ?_; rintro e w2 ⟨rfl, n2, rfl⟩)
              | (go_at_call 130; refine hL1.mono ?_; rintro e w1 ⟨rfl, n1, rfl⟩))
            go_roundw
            case rel =>
              have hs := hH.out.1.step hH.out.2.2.2.1 (by rw [HJ.out]; exact H5.out)
              rw [HJ.out] at hs
              exact ⟨p2, _, rfl, hO3, (sw_perm hkl (by omega)).trans hH.out.2.1, hs, (sw_far hkl (by omega) (by omega) (by omega)).trans hH.out.2.2.1, (hG.trans (grownBy_drewN _ _ _)).trans hG3⟩
            case measure => simp [intOf]; omega
          ·
            have hL2 := fun q => hless_any (wr.drewN q) base v ys (hO.drewN q) p2 k (by omega) hkl (by omega)
            have hL0 := hless_any wr base v ys hO p2 k (by omega) hkl (by omega)
            have hS := fun q => swap_any (wr.drewN q) base v ys (hO.drewN q) k p2 hkl (by omega) (by omega)
            have d5 : decide (nb ys p2 < nb ys k) = false := by simpa using h5
            rw [d5] at hL2 hL0
            have H5 := hid h5
            have HJ := hid hj
            clear h5 d5 hj hU hN hlen hP
            go_wp2_with (first
              | (go_at_call 130; have hq := n1; refine (hL2 _).mono ?_; rintro e w2 ⟨rfl, n2, rfl⟩)
              | (go_at_call 130; refine hL1.mono ?_; rintro e w1 ⟨rfl, n1, rfl⟩))
            go_ret
            refine ⟨_, ys, rfl, hO, hH.out.2.1, hH.out.1.done ?_, hH.out.2.2.1, hG.trans (grownBy_drewN _ _ _)⟩
            have := H5.out
            rw [HJ.out]
            omega
        · have hj : lc ys k n = p := by rw [hlv.out, if_neg (fun hh => h3 hh.2)]
          have d3 : decide (nb ys p2 < nb ys p) = false := by simpa using h3
          rw [d3] at hL1
          clear d3 h3
          by_cases h5 : nb ys p < nb ys k
          ·
            have hL2 := fun q => hless_any (wr.drewN q) base v ys (hO.drewN q) p k (by omega) hkl (by omega)
            have hL0 := hless_any wr base v ys hO p k (by omega) hkl (by omega)
            have hS := fun q => swap_any (wr.drewN q) base v ys (hO.drewN q) k p hkl (by omega) (by omega)
            have d5 : decide (nb ys p < nb ys k) = true := by simpa using h5
            rw [d5] at hL2 hL0
            have H5 := hid h5
            have HJ := hid hj
            clear h5 d5 hj hU hN hlen hP
            go_wp2_with (first
              | (go_at_call 131; refine (hS _).mono ?_; rintro e w3 ⟨rfl, hO3, hG3⟩)
              | (go_at_call 130; have hq := n1; refine (hL2 _).mono ?_; rintro e w2 ⟨rfl, n2, rfl⟩)
              | (go_at_call 130; refine hL1.mono ?_; rintro e w1 ⟨rfl, n1, rfl⟩))
            go_roundw
            case rel =>
              have hs := hH.out.1.step hH.out.2.2.2.1 (by rw [HJ.out]; exact H5.out)
              rw [HJ.out] at hs
              exact ⟨p, _, rfl, hO3, (sw_perm hkl (by omega)).trans hH.out.2.1, hs, (sw_far hkl (by omega) (by omega) (by omega)).trans hH.out.2.2.1, (hG.trans (grownBy_drewN _ _ _)).trans hG3⟩
            case measure => simp [intOf]; omega
          ·
            have hL2 := fun q => hless_any (wr.drewN q) base v ys (hO.drewN q) p k (by omega) hkl (by omega)
            have hL0 := hless_any wr base v ys hO p k (by omega) hkl (by omega)
            have hS := fun q => swap_any (wr.drewN q) base v ys (hO.drewN q) k p hkl (by omega) (by omega)
            have d5 : decide (nb ys p < nb ys k) = false := by simpa using h5
            rw [d5] at hL2 hL0
            have H5 := hid h5
            have HJ := hid hj
            clear h5 d5 hj hU hN hlen hP
            go_wp2_with (first
              | (go_at_call 130; have hq := n1; refine (hL2 _).mono ?_; rintro e w2 ⟨rfl, n2, rfl⟩)
              | (go_at_call 130; refine hL1.mono ?_; rintro e w1 ⟨rfl, n1, rfl⟩))
            go_ret
            refine ⟨_, ys, rfl, hO, hH.out.2.1, hH.out.1.done ?_, hH.out.2.2.1, hG.trans (grownBy_drewN _ _ _)⟩
            have := H5.out
            rw [HJ.out]
            omega
      · have hj : lc ys k n = p := by rw [hlv.out, if_neg (fun hh => h2 hh.1)]
        have d2 : decide ((p2 : Int) < (n : Int)) = false := by simp; omega
        by_cases h5 : nb ys p < nb ys k
        ·
          have hL2 := fun q => hless_any (wr.drewN q) base v ys (hO.drewN q) p k (by omega) hkl (by omega)
          have hL0 := hless_any wr base v ys hO p k (by omega) hkl (by omega)
          have hS := fun q => swap_any (wr.drewN q) base v ys (hO.drewN q) k p hkl (by omega) (by omega)
          have d5 : decide (nb ys p < nb ys k) = true := by simpa using h5
          rw [d5] at hL2 hL0
          have H5 := hid h5
          have HJ := hid hj
          clear h5 d5 hj hU hN hlen hP
          go_wp2_with (first
            | (go_at_call 131; refine (hS _).mono ?_; rintro e w3 ⟨rfl, hO3, hG3⟩)
            | (go_at_call 130; refine hL0.mono ?_; rintro e w1 ⟨rfl, n1, rfl⟩))
          go_roundw
          case rel =>
            have hs := hH.out.1.step hH.out.2.2.2.1 (by rw [HJ.out]; exact H5.out)
            rw [HJ.out] at hs
            exact ⟨p, _, rfl, hO3, (sw_perm hkl (by omega)).trans hH.out.2.1, hs, (sw_far hkl (by omega) (by omega) (by omega)).trans hH.out.2.2.1, (hG.trans (grownBy_drewN _ _ _)).trans hG3⟩
          case measure => simp [intOf]; omega
        ·
          have hL2 := fun q => hless_any (wr.drewN q) base v ys (hO.drewN q) p k (by omega) hkl (by omega)
          have hL0 := hless_any wr base v ys hO p k (by omega) hkl (by omega)
          have hS := fun q => swap_any (wr.drewN q) base v ys (hO.drewN q) k p hkl (by omega) (by omega)
          have d5 : decide (nb ys p < nb ys k) = false := by simpa using h5
          rw [d5] at hL2 hL0
          have H5 := hid h5
          have HJ := hid hj
          clear h5 d5 hj hU hN hlen hP
          go_wp2_with (first
            | (go_at_call 130; refine hL0.mono ?_; rintro e w1 ⟨rfl, n1, rfl⟩))
          go_ret
          refine ⟨_, ys, rfl, hO, hH.out.2.1, hH.out.1.done ?_, hH.out.2.2.1, hG.trans (grownBy_drewN _ _ _)⟩
          have := H5.out
          rw [HJ.out]
          omega
    · have c1 : decide ((n : Int) ≤ 2 * (k : Int) + 1) = true := by simp; omega
      have hH := hid (And.intro hU (And.intro hP (And.intro hN hc)))
      clear hc hU hP hN hlen
      go_wp2
      go_ret
      exact ⟨_, ys, rfl, hO, hH.out.2.1, hH.out.1.leaf (by have := hH.out.2.2.2; omega), hH.out.2.2.1, hG⟩
end Go.Proofs.YtlncokkpdkddlaaGreat
