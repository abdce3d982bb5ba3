/- The program's look at the first frame, as a piece of the bytes. -/
import Derived.Test.YtajopapcknnfoaaFOps
import Derived.BigQuiet
import Derived.Deep.CutBlock
namespace Go.Proofs.Ytajopapcknnfoaa
open Go.RowKit

/-- The first frame's body, as a piece of the bytes. -/
def pc (a : Option Addr) (cap : Nat) (L : List Int) : Value := if (nx L).1 = 0 then .slice (a.map (·.add 4)) (nx L).2.1.length (cap - 4) else .slice none 0 0
theorem Src.drewN {w : World} {a : Option Addr} {len : Nat} {L : List Int} (h : Src w a len L) (q : Nat) : Src (w.drewN q) a len L := h
theorem src_drop {w : World} {g off len : Nat} {L : List Int} (h : Src w (some ⟨g, off, none⟩) len L) (k : Nat) : Src w (some ⟨g, off + k, none⟩) (len - k) (L.drop k) := by
  refine ⟨by rw [List.length_drop, h.1], fun hp => ⟨_, rfl, fun j v hj => ?_⟩⟩
  obtain ⟨ad, ha, hc⟩ := h.2 (by omega)
  obtain rfl := Option.some.inj ha
  rw [List.getElem?_drop] at hj
  have := hc (k + j) v hj
  rw [Addr.add_lit] at this ⊢
  rw [Nat.add_assoc]; exact this

theorem nx_short {L : List Int} (h : L.length < 4) : nx L = (10, [], 0) := by unfold nx; rw [if_pos h]
theorem nx_great {L : List Int} (h : ¬ L.length < 4) (h2 : 4194304 < num4 L) : nx L = (11, [], 0) := by unfold nx; rw [if_neg h, if_pos h2]
theorem nx_early {L : List Int} (h : ¬ L.length < 4) (h2 : ¬ 4194304 < num4 L) (h3 : (L.length : Int) < num4 L + 8) : nx L = (10, [], 0) := by unfold nx; rw [if_neg h, if_neg h2, if_pos h3]
theorem nx_other {L : List Int} (h : ¬ L.length < 4) (h2 : ¬ 4194304 < num4 L) (h3 : ¬ (L.length : Int) < num4 L + 8) (h4 : num4 (L.drop ((num4 L).toNat + 4)) ≠ sumI (L.take ((num4 L).toNat + 4))) : nx L = (12, [], 0) := by unfold nx; rw [if_neg h, if_neg h2, if_neg h3, if_pos h4]
theorem nx_right {L : List Int} (h : ¬ L.length < 4) (h2 : ¬ 4194304 < num4 L) (h3 : ¬ (L.length : Int) < num4 L + 8) (h4 : num4 (L.drop ((num4 L).toNat + 4)) = sumI (L.take ((num4 L).toNat + 4))) : nx L = (0, (L.drop 4).take (num4 L).toNat, (num4 L).toNat + 8) := by unfold nx; rw [if_neg h, if_neg h2, if_neg h3, if_neg (by simp [h4])]

set_option maxHeartbeats 1000000 in
theorem first_any (a : Option Addr) (len cap : Nat) (L : List Int) (w : World) (hs : Src w a len L) (hb : Bts L) (hlc : len ≤ cap) (hm : len ≤ 140737488355328) :
    Calls Try.prog 22 #[.slice a len cap] w fun e w' => e = .returned (.tuple #[pc a cap L, .int .i64 (nx L).1]) ∧ ∃ q, w' = w.drewN q := by
  by_cases h4 : len < 4
  · have e1 := nx_short (L := L) (by rw [hs.1]; exact h4)
    go_enter Try.func22, Try.ntmps22
    go_wp2_with fail
    go_ret2
    exact ⟨by unfold pc; rw [e1]; rfl, 0, rfl⟩
  · have hL4 : ¬ L.length < 4 := by rw [hs.1]; exact h4
    have hn := num4_bounds hb
    obtain ⟨n, hn'⟩ : ∃ n : Nat, num4 L = (n : Int) := ⟨(num4 L).toNat, by omega⟩
    have hR := read_any a len cap L w hs hb (by omega) hm
    rw [hn'] at hR hn
    by_cases h5 : 4194304 < n
    · have e1 := nx_great (L := L) hL4 (by rw [hn']; omega)
      go_enter Try.func22, Try.ntmps22
      go_wp2_with (go_at_call 26; refine hR.mono ?_; rintro e w' ⟨rfl, rfl⟩)
      go_ret2
      exact ⟨by unfold pc; rw [e1]; rfl, 0, rfl⟩
    · by_cases h6 : len < n + 8
      · have e1 := nx_early (L := L) hL4 (by rw [hn']; omega) (by rw [hn', hs.1]; omega)
        go_enter Try.func22, Try.ntmps22
        go_wp2_with (go_at_call 26; refine hR.mono ?_; rintro e w' ⟨rfl, rfl⟩)
        go_ret2
        exact ⟨by unfold pc; rw [e1]; rfl, 0, rfl⟩
      · obtain ⟨g, off, rfl, hc⟩ := hs.flat (by omega)
        have sd := src_drop hs (4 + n)
        have stt := src_take hs (4 + n) (by rw [hs.1]; omega)
        have hLr := fun q => Calls.quiet_of_same (w := w) (n := q) ((read_any _ (len - (4 + n)) (cap - (4 + n)) _ _ (sd.drewN q) (hb.drop _) (by omega) (by omega)).mono (fun _ _ h => ⟨h.1, h.2.symm⟩))
        have hLs := fun q => Calls.quiet_of_same (w := w) (n := q) ((sum_any _ (4 + n) cap _ _ (stt.drewN q) (hb.take _) (by omega)).mono (fun _ _ h => ⟨h.1, h.2.symm⟩))
        go_enter Try.func22, Try.ntmps22
        go_wp2_with (go_at_call 26; refine hR.mono ?_; rintro e w' ⟨rfl, rfl⟩)
        have hcn : ¬ cap = 4 + n := by omega
        have hc0 : ¬ cap = 0 := by omega
        clear hR hc
        go_quiet (first | (go_at_call 26; exact hLr _) | (go_at_call 10; exact hLs _))
        by_cases h7 : num4 (L.drop (4 + n)) = sumI (L.take (4 + n))
        · have e1 := nx_right (L := L) hL4 (by rw [hn']; omega) (by rw [hn', hs.1]; omega) (by rw [hn', Int.toNat_natCast, Nat.add_comm n 4]; exact h7)
          have hbq : (num4 (L.drop (4 + n)) != sumI (L.take (4 + n))) = false := by simp [h7]
          rw [hn', Int.toNat_natCast] at e1
          rw [hbq]
          clear hLr hLs hbq h7
          have hc4 : ¬ cap = 4 := by omega
          go_wp2_with fail
          go_ret2
          refine ⟨?_, _, rfl⟩
          have hl : ((L.drop 4).take n).length = n := by rw [List.length_take, List.length_drop, hs.1]; omega
          unfold pc
          rw [e1]
          simp only [if_true, hl, Option.map_some, Addr.add_lit]
          congr 4
          show Value.slice _ (4 + n - 4) _ = _
          rw [Nat.add_sub_cancel_left]
        · have e1 := nx_other (L := L) hL4 (by rw [hn']; omega) (by rw [hn', hs.1]; omega) (by rw [hn', Int.toNat_natCast, Nat.add_comm n 4]; exact h7)
          have hbq : (num4 (L.drop (4 + n)) != sumI (L.take (4 + n))) = true := by simp [h7]
          rw [hbq]
          clear hLr hLs hbq h7
          go_wp2_with fail
          go_ret2
          exact ⟨by unfold pc; rw [e1]; rfl, _, rfl⟩
theorem src_pc {w : World} {a : Option Addr} {len : Nat} {L : List Int} (hs : Src w a len L) (hb : Bts L) (h : (nx L).1 = 0) : Src w (a.map (·.add 4)) (nx L).2.1.length (nx L).2.1 ∧ 8 ≤ len := by
  have hk := nx_ok hb h
  rw [hs.1] at hk
  obtain ⟨g, off, rfl, _⟩ := hs.flat (by omega)
  have e : (nx L).2.1 = (L.drop 4).take (nx L).2.1.length := by
    have h1 : ∃ m, (nx L).2.1 = (L.drop 4).take m := by
      by_cases a1 : L.length < 4
      · rw [nx_short a1] at h; simp at h
      · by_cases a2 : 4194304 < num4 L
        · rw [nx_great a1 a2] at h; simp at h
        · by_cases a3 : (L.length : Int) < num4 L + 8
          · rw [nx_early a1 a2 a3] at h; simp at h
          · by_cases a4 : num4 (L.drop ((num4 L).toNat + 4)) = sumI (L.take ((num4 L).toNat + 4))
            · exact ⟨_, by rw [nx_right a1 a2 a3 a4]⟩
            · rw [nx_other a1 a2 a3 a4] at h; simp at h
    obtain ⟨m, hm⟩ := h1
    rw [hm, List.length_take, ← List.take_eq_take_min]
  refine ⟨?_, by omega⟩
  have s4 := src_drop hs 4
  have := src_take s4 (nx L).2.1.length (by rw [List.length_drop, hs.1]; omega)
  rw [← e] at this
  exact this
end Go.Proofs.Ytajopapcknnfoaa
