/- With, the reference's With, Made, Below: what they answer. -/
import Derived.Test.YtoapblojoblhiaaVRJoin
namespace Go.Proofs.Ytoapblojoblhiaa
open Go.RowKit
open Go.Sort (grow)

theorem run_eql_nil (w : World) (a : Option Addr) (l c : Nat) : (binOp BinOp.eql 25 (Value.slice a l c) (Value.slice none 0 0)).run Try.prog w = .ok (.bool a.isNone) w := by
  simp [binOp, go_sem, run_equal_slice_nil w 25 24 a l c Try.underlying25]

set_option maxHeartbeats 400000 in
theorem clone_any {a : Option Addr} {n c : Nat} {L : List Dt} {w : World} (hs : PS w a n c L) (hn : n ≤ 1000000) : Calls Try.prog 43 #[.slice a n c] w (Gives w L) := by
  have hq := run_eql_nil
  have hl := hs.len
  cases a with
  | none =>
    obtain ⟨rfl, rfl⟩ := hs.nil rfl
    obtain rfl : L = [] := List.eq_nil_of_length_eq_zero hl
    go_enter Try.func43, Try.ntmps43
    go_wp2
    go_ret
    exact ⟨_, rfl, World.ownsRow_nil _ _ _ _, Below.refl _ _⟩
  | some ad =>
    have hw : RowKit.Below w.heap.size w (w.alloc (.cells #[] 24)) := (Below.refl _ w).alloc (Nat.le_refl _) _
    have ho : (w.alloc (.cells #[] 24)).ownsRow w.heap.size 24 2 (.slice (some ⟨w.heap.size, 0, none⟩) 0 0) 0 [] := World.ownsRow_made w #[] 0 (Nat.le_refl _) (by unfold maxLen; omega) rfl
    have hs1 := hid (hs.below hw)
    have HL := hid hl
    clear hs hl
    go_enter Try.func43, Try.ntmps43
    go_wp2_with (first
      | (at_builtin; refine wpList_append_dots rfl _ _ 25 Try.underlying25 rfl w.heap.size _ 0 [] rfl ho (some ad) n c L rfl hs1.out (by omega) (by simp) ?_; intro v5 w5 ho5 hg5))
    go_ret
    refine ⟨_, rfl, ?_, hw.grown hg5 (by simp) (fun j hj => (ho.lt j hj).1)⟩
    rw [HL.out]
    simpa using ho5

set_option maxHeartbeats 1000000 in
theorem rwith_any {a : Option Addr} {n c : Nat} {A : List Dt} {w : World} (d : Dt) (hs : PS w a n c A) (hn : n ≤ 1000000) (hA : VM A) : Calls Try.prog 17 #[.slice a n c, dv d] w (Ans w (vwith A d)) := by
  obtain ⟨d1, d2⟩ := d
  have b0 : RowKit.Below w.heap.size w (w.alloc (.cells #[.int .i64 d1, .int .i64 d2] 24)) := (Below.refl _ w).alloc (Nat.le_refl _) _
  have hM := rmay_any (d1, d2) (w.alloc (.cells #[.int .i64 d1, .int .i64 d2] 24))
  have k0 : (w.alloc (.cells #[.int .i64 d1, .int .i64 d2] 24)).cell? ⟨w.heap.size, 0, none⟩ = some (.int .i64 d1) := by go_simp
  have k1 : (w.alloc (.cells #[.int .i64 d1, .int .i64 d2] 24)).cell? ⟨w.heap.size, 1, none⟩ = some (.int .i64 d2) := by go_simp
  have hk : w.heap.size < (w.alloc (.cells #[.int .i64 d1, .int .i64 d2] 24)).heap.size := by simp
  by_cases hd : mayd (d1, d2) = true
  · have hv : Hid (vwith A (d1, d2) = vjoin A [(d1, d2)]) := hid (by unfold vwith; rw [if_pos hd])
    have hone := hid (vm_one hd)
    rw [hd] at hM
    go_enter Try.func17, Try.ntmps17
    go_wp2_with (first
      | (go_at_call 35; have hq := f0; refine (rjoin_any (A := A) (B := [(d1, d2)]) (hsW.below ((Below.refl _ w1).alloc (Nat.le_refl _) _)) hn (ps_one w1 (d1, d2)) (by omega) hA hone.out).mono ?_; rintro e w2 h2; obtain ⟨a2, c2, rfl, hp2, hb2⟩ := h2.ans)
      | (go_at_call 34; refine hM.mono ?_; rintro e w1 ⟨rfl, hF1⟩; have f0 := (hF1.below.cell (p := ⟨w.heap.size, 0, none⟩) hk).trans k0; have f1 := (hF1.below.cell (p := ⟨w.heap.size, 1, none⟩) hk).trans k1; have hbw := below2 b0 hF1.below; have hsW := hs.below hbw))
    go_ret
    rw [hv.out]
    have hbb : RowKit.Below w.heap.size w w2 := below2 hbw (below2 ((Below.refl _ w1).alloc (Nat.le_refl _) _) hb2)
    exact ⟨a2, c2, rfl, hp2, hbb⟩
  · have hv : Hid (vwith A (d1, d2) = A) := hid (by unfold vwith; rw [if_neg hd])
    have hd' : mayd (d1, d2) = false := by simpa using hd
    rw [hd'] at hM
    have HS := hid hs
    clear hs
    go_enter Try.func17, Try.ntmps17
    go_wp2_with (first
      | (go_at_call 34; refine hM.mono ?_; rintro e w1 ⟨rfl, hF1⟩; have hbw := below2 b0 hF1.below))
    go_ret
    rw [hv.out]
    exact ⟨a, c, by rw [HS.out.len]; rfl, by rw [HS.out.len]; exact HS.out.below hbw, hbw⟩

theorem made_snoc {l : List Dt} {k : Nat} (h : k < l.length) (hk : k < 50) : made (l.take (k + 1)) = vwith (made (l.take k)) l[k] := by
  unfold made
  rw [List.take_take, List.take_take, Nat.min_eq_right (by omega), Nat.min_eq_right (by omega), take_snoc h, List.foldl_append]
  rfl

theorem made_end {l : List Dt} {k : Nat} (h : k = l.length ∨ k = 50) : made (l.take k) = made l := by
  unfold made
  rw [List.take_take]
  rcases h with rfl | rfl
  · rw [show l.take (min 50 l.length) = l.take 50 by rw [List.take_eq_take_iff]; omega]
  · simp

set_option maxHeartbeats 1000000 in
theorem made_any {a : Option Addr} {n c : Nat} {L : List Dt} {w : World} (hs : PS w a n c L) : Calls Try.prog 6 #[.slice a n c] w (Ans w (made L)) := by
  have HL := hid hs.len
  have hmx : n ≤ maxLen := Nat.le_trans hs.cap hs.max
  unfold maxLen at hmx
  go_enter Try.func6, Try.ntmps6
  go_wp2
  go_loopw [4, 3] (fun i v wr => ∃ (k : Nat) (a1 : Option Addr) (c1 : Nat), k ≤ n ∧ k ≤ 50 ∧ i = .int .i64 k ∧ v = .slice a1 (made (L.take k)).length c1 ∧ Hid (PS wr a1 (made (L.take k)).length c1 (made (L.take k))) ∧ Hid (RowKit.Below w.heap.size w wr)) (fun i _ _ => n - (intOf i).toNat)
  case atStart => exact ⟨0, none, 0, by omega, by omega, rfl, rfl, hid (PS.none w), hid (Below.refl _ _)⟩
  case round =>
    obtain ⟨k, a1, c1, hk, hk5, rfl, rfl, hp, hbl⟩ := hrel
    have hl := HL.out
    have hml := made_length (L.take k)
    by_cases hlt : k < n ∧ k < 50
    · obtain ⟨hkn, hk50⟩ := hlt
      obtain ⟨g, o, rfl, hg, hcell⟩ := (hs.below hbl.out).at (by omega)
      obtain ⟨hc0, hc1⟩ := hcell k (by omega)
      have hsn : Hid _ := hid (made_snoc (l := L) (k := k) (by omega) hk50)
      generalize (L[k]'(by omega)) = d at hc0 hc1 hsn
      have hput := rwith_any d hp.out (by omega) (made_vm (L.take k))
      rw [← hsn.out] at hput
      generalize made (L.take k) = M at hp hml hput hsn ⊢
      clear hs hl hcell
      obtain ⟨d1, d2⟩ := d
      go_wp2_with (first
        | (go_at_call 17; refine hput.mono ?_; rintro e w2 ⟨a2, c2, rfl, hp2, b2⟩))
      go_roundw
      case rel => exact ⟨k + 1, a2, c2, by omega, by omega, by go_num, rfl, hid hp2, hid (below2 hbl.out b2)⟩
      case measure => simp [intOf]; omega
    · have hend : Hid _ := hid (made_end (l := L) (k := k) (by omega))
      clear hl hs
      by_cases hkn : k < n
      · have hk50 : k = 50 := by omega
        subst hk50
        go_wp2_with fail
        go_ret
        rw [← hend.out]
        exact ⟨a1, c1, rfl, hp.out, hbl.out⟩
      · have hkn2 : k = n := by omega
        subst hkn2
        go_wp2_with fail
        go_ret
        rw [← hend.out]
        exact ⟨a1, c1, rfl, hp.out, hbl.out⟩


end Go.Proofs.Ytoapblojoblhiaa
