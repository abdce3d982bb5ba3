/- The reference: the first frame, all frames, rows that are the same. -/
import Derived.Test.YtajopapcknnfoaaFRefA
namespace Go.Proofs.Ytajopapcknnfoaa
open Go.RowKit

theorem u32_small {n : Int} (h : 0 ≤ n ∧ n < 4294967296) : n % 4294967296 = n := by omega

theorem drewN_add (w : World) (q m : Nat) : (w.drewN q).drewN m = w.drewN (q + m) := by
  simp [World.drewN, Nat.add_assoc]

set_option maxHeartbeats 1000000 in
theorem rnext_any (a : Option Addr) (len cap : Nat) (L : List Int) (w : World) (hs : Src w a len L) (hb : Bts L) (hlc : len ≤ cap) (hm : len ≤ 140737488355328) :
    Calls Try.prog 15 #[.slice a len cap] w fun e w' => e = .returned (.tuple #[pc a cap L, .int .i64 (nx L).2.2, .int .i64 (nx L).1]) ∧ ∃ q, w' = w.drewN q := by
  by_cases h4 : len < 4
  · have e1 := nx_short (L := L) (by rw [hs.1]; exact h4)
    go_enter Try.func15, Try.ntmps15
    go_wp2_with fail
    go_ret3
    exact ⟨by unfold pc; rw [e1]; rfl, 0, rfl⟩
  · have hL4 : ¬ L.length < 4 := by rw [hs.1]; exact h4
    have hn := num4_bounds hb
    obtain ⟨n, hn'⟩ : ∃ n : Nat, num4 L = (n : Int) := ⟨(num4 L).toNat, by omega⟩
    have hR := rnum_any a len cap L w hs hb (by omega) hm
    rw [hn'] at hR hn
    by_cases h5 : 4194304 < n
    · have e1 := nx_great (L := L) hL4 (by rw [hn']; omega)
      go_enter Try.func15, Try.ntmps15
      go_wp2_with (go_at_call 24; refine hR.mono ?_; rintro e w' ⟨rfl, q, rfl⟩)
      go_ret3
      exact ⟨by unfold pc; rw [e1]; rfl, _, rfl⟩
    · by_cases h6 : len < n + 8
      · have e1 := nx_early (L := L) hL4 (by rw [hn']; omega) (by rw [hn', hs.1]; omega)
        go_enter Try.func15, Try.ntmps15
        go_wp2_with (go_at_call 24; refine hR.mono ?_; rintro e w' ⟨rfl, q, rfl⟩)
        go_ret3
        exact ⟨by unfold pc; rw [e1]; rfl, _, rfl⟩
      · obtain ⟨g, off, rfl, hc⟩ := hs.flat (by omega)
        have sd := src_drop hs (n + 4)
        have stt := src_take hs (n + 4) (by rw [hs.1]; omega)
        have hsd := num4_bounds (hb.drop (n + 4))
        go_enter Try.func15, Try.ntmps15
        go_wp2_with (go_at_call 24; refine hR.mono ?_; rintro e w' ⟨rfl, q, rfl⟩)
        obtain ⟨W, hW⟩ : ∃ W, W = w.drewN q := ⟨_, rfl⟩
        have sdW : Src W (some ⟨g, off + (n + 4), none⟩) (len - (n + 4)) (L.drop (n + 4)) := by rw [hW]; exact sd.drewN q
        have stW : Src W (some ⟨g, off, none⟩) (n + 4) (L.take (n + 4)) := by rw [hW]; exact stt.drewN q
        rw [← hW]
        have hW' := hid hW
        clear hW
        have hLr := fun q => (rnum_any _ (len - (n + 4)) (cap - (n + 4)) _ _ (sdW.drewN q) (hb.drop (n + 4)) (by omega) (by omega)).mono (R' := fun e w'' => e = .returned (.int .i64 (num4 (L.drop (n + 4)))) ∧ ∃ m, w'' = W.drewN m) (fun _ _ h => ⟨h.1, by obtain ⟨m, hm⟩ := h.2; exact ⟨q + m, by rw [hm]; exact drewN_add W q m⟩⟩)
        have hLs := fun q => Calls.quiet_of_same (w := W) (n := q) ((rsum_any _ (n + 4) cap _ _ (stW.drewN q) (hb.take _) (by omega)).mono (fun _ _ h => ⟨h.1, h.2.symm⟩))
        have hcn : ¬ cap = n + 4 := by omega
        have hc0 : ¬ cap = 0 := by omega
        have hu := u32_small hsd
        clear hR hc sd stt
        go_quiet (first | (go_at_call 24; exact hLr _) | (go_at_call 11; exact hLs _))
        by_cases h7 : num4 (L.drop (n + 4)) = sumI (L.take (n + 4))
        · have e1 := nx_right (L := L) hL4 (by rw [hn']; omega) (by rw [hn', hs.1]; omega) (by rw [hn', Int.toNat_natCast]; exact h7)
          have hbq : (num4 (L.drop (n + 4)) != sumI (L.take (n + 4))) = false := by simp [h7]
          rw [hn', Int.toNat_natCast] at e1
          rw [hbq]
          clear hLr hLs hbq h7 hu
          have hc4 : ¬ cap = 4 := by omega
          go_wp2_with fail
          go_ret3
          refine ⟨?_, q + nq, by rw [hW'.out]; exact drewN_add w q nq⟩
          have hl : ((L.drop 4).take n).length = n := by rw [List.length_take, List.length_drop, hs.1]; omega
          unfold pc
          rw [e1]
          simp only [if_true, hl, Option.map_some, Addr.add_lit]
          rfl
        · have e1 := nx_other (L := L) hL4 (by rw [hn']; omega) (by rw [hn', hs.1]; omega) (by rw [hn', Int.toNat_natCast]; exact h7)
          have hbq : (num4 (L.drop (n + 4)) != sumI (L.take (n + 4))) = true := by simp [h7]
          rw [hbq]
          clear hLr hLs hbq h7 hu
          go_wp2_with fail
          go_ret3
          exact ⟨by unfold pc; rw [e1]; rfl, q + nq, by rw [hW'.out]; exact drewN_add w q nq⟩
end Go.Proofs.Ytajopapcknnfoaa
