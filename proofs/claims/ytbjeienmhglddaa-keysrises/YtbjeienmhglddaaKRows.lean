/- The reference's Row; what KeysRow walks through. -/
import Derived.Test.YtbjeienmhglddaaKRow
import Derived.Test.YtbjeienmhglddaaKRef
namespace Go.Proofs.Ytbjeienmhglddaa
open Go.RowKit

set_option maxHeartbeats 2000000 in
set_option maxRecDepth 20000 in
theorem rrow_any (a b : ByteArray) (n : Int) (w : World) (ha : a.size ≤ maxLen) (hb : b.size ≤ maxLen) :
    Calls Try.prog 15 #[.string a, .string b, .int .i64 n] w fun e w' => RowOut w a.toList b.toList n e w' := by
  by_cases hn : n < 0 ∨ 1000 < n
  · have e := hid (rsp_arg (a := a.toList) (b := b.toList) hn)
    by_cases h0 : n < 0
    · clear hn
      go_enter Try.func15, Try.ntmps15
      go_wp2
      go_ret2
      unfold RowOut; rw [e.out]
      exact ⟨_, [], rfl, SR.nil _ _, rfl, Below.refl _ _⟩
    · have h1 : 1000 < n := by omega
      clear hn
      go_enter Try.func15, Try.ntmps15
      go_wp2
      go_ret2
      unfold RowOut; rw [e.out]
      exact ⟨_, [], rfl, SR.nil _ _, rfl, Below.refl _ _⟩
  have hbd := right_any a b w ha hb
  cases hr : rtb a.toList b.toList
  · have e := hid (rsp_key hn hr)
    rw [hr] at hbd
    have h0 : 0 ≤ n := by omega
    have h1 : n ≤ 1000 := by omega
    clear hn hr
    go_enter Try.func15, Try.ntmps15
    go_wp2_with (first
      | (go_at_call 19; refine hbd.mono ?_; rintro e w' ⟨rfl, rfl⟩))
    go_ret2
    unfold RowOut; rw [e.out]
    exact ⟨_, [], rfl, SR.nil _ _, rfl, Below.refl _ _⟩
  rw [hr] at hbd
  obtain ⟨m, rfl⟩ := Int.eq_ofNat_of_zero_le (show 0 ≤ n by omega)
  have hm : m ≤ 1000 := by omega
  have HR := hid hr
  clear hn hr
  go_enter Try.func15, Try.ntmps15
  go_wp2_with (first
    | (go_at_call 19; refine hbd.mono ?_; rintro e w' ⟨rfl, rfl⟩))
  clear hbd
  go_loopw [10, 9, 0] (fun i v t wx => ∃ (j : Nat) (s : ByteArray) (L : List ByteArray), j ≤ m ∧ i = .int .i64 j ∧ t = .string s ∧ Hid (SR wx w.heap.size v L) ∧ Hid (Rds a.toList b.toList j s L) ∧ Hid (Below w.heap.size w wx)) (fun i _ _ _ => m - (intOf i).toNat)
  case atStart => exact ⟨0, a, [], by omega, rfl, rfl, hid (SR.nil _ _), hid (Rds.start ha), hid (Below.refl _ _)⟩
  case round =>
    obtain ⟨j, t, L, hj, rfl, rfl, HS, HD, HB⟩ := hrel
    by_cases hlt : j < m
    · obtain ⟨k, hk⟩ := ex_str (btw t.toList b.toList)
      by_cases hn : btw t.toList b.toList = []
      · have cN := rbetween_is hk (er_none hn) HD.out.size hb
        have e := hid (HD.out.full hn HR.out hm hlt)
        clear hk hn
        go_wp2_with (first
          | (go_at_call 11; refine (cN _).mono ?_; rintro e w3 ⟨rfl, b3⟩))
        go_ret2
        unfold RowOut; rw [e.out]
        exact ⟨_, [], rfl, SR.nil _ _, rfl, below2 HB.out b3⟩
      · have cN := rbetween_is hk (er_some hn) HD.out.size hb
        have HD' := hid (HD.out.next hk hn)
        have hl := HD.out.len
        clear hk hn
        go_wp2_with (first
          | (go_at_call 11; refine (cN _).mono ?_; rintro e w3 ⟨rfl, b3⟩; have hw3 := (below2 HB.out b3).size)
          | (at_builtin; refine wl_append rfl _ _ rfl w.heap.size _ L rfl ((HS.out.below b3).below ((Below.refl _ _).alloc (Nat.le_refl _) _)) w3.heap.size _ k rfl (by go_simp) (by simp; omega) (by omega) ?_; intro v' w4 s4 b4))
        have b5 := (below2 HB.out b3).trans (((Below.refl w.heap.size w3).alloc hw3 (.cells #[.string k] 9)).trans b4)
        go_roundw
        case rel => exact ⟨j + 1, k, L ++ [k], by omega, by go_num, rfl, hid s4, HD', hid b5⟩
        case measure => simp [intOf]; omega
    · obtain rfl : j = m := by omega
      have e := hid (HD.out.done HR.out hm)
      go_wp2
      go_ret2
      unfold RowOut; rw [e.out]
      exact ⟨_, L, rfl, HS.out, rfl, HB.out⟩

theorem row_inj {L M : List ByteArray} (h : L.map ByteArray.toList = M.map ByteArray.toList) : L = M := by
  induction L generalizing M with
  | nil =>
    cases M with
    | nil => rfl
    | cons => simp at h
  | cons x L ih =>
    cases M with
    | nil => simp at h
    | cons y M =>
      simp only [List.map_cons, List.cons.injEq] at h
      rw [str_inj h.1, ih h.2]

/-- What a row of texts looks like. -/
theorem SR.form {w : World} {B : Nat} {v : Value} {L : List ByteArray} (h : SR w B v L) : ∃ ad cap, v = .slice ad L.length cap ∧ L.length ≤ cap ∧ cap ≤ maxLen ∧ (0 < L.length → ∃ g, ad = some ⟨g, 0, none⟩ ∧ g < w.heap.size ∧ ∀ i (hi : i < L.length), w.cell? ⟨g, i, none⟩ = some (.string L[i])) := by
  obtain ⟨h1, h2⟩ := id h
  rcases h2 with ⟨h2, h3⟩ | ⟨g, cap, cur, q1, q2, q3, q4, q5, _⟩
  · exact ⟨none, 0, by rw [h3]; exact h2, by omega, by unfold maxLen; omega, fun hp => by omega⟩
  · refine ⟨_, cap, q1, q4, q5, fun hp => ⟨g, rfl, (Array.getElem?_eq_some_iff.1 q3).1, fun i hi => ?_⟩⟩
    subst q1
    have := World.ownsRow.cellAt h i (by omega)
    rw [this]
    simp [hi]

set_option maxHeartbeats 2000000 in
theorem row_walk (a b : ByteArray) (n : Int) (w : World) (ha : a.size ≤ maxLen) (hb : b.size ≤ maxLen) :
    Calls Try.prog 4 #[.string a, .string b, .int .i64 n] w fun e w' => e = .returned (.bool true) ∧ Below w.heap.size w w' := by
  have c1 := fun w => row_any a b n w ha hb
  have c2 := fun w => rrow_any a b n w ha hb
  go_enter Try.func4, Try.ntmps4
  go_wp2_with (first
    | (go_at_call 9; refine (awake_any _).mono ?_; rintro e w1 ⟨rfl, b1⟩)
    | (go_at_call 14; refine (c1 _).mono ?_; rintro e w2 ⟨v, L, rfl, s2, hL, b2⟩; obtain ⟨ad, cap, rfl, hc, hcm, f2⟩ := s2.form; have HL := hid hL; have F2 := hid f2; clear hL f2)
    | (go_at_call 15; refine (c2 _).mono ?_; rintro e w3 ⟨v3, L3, rfl, s3, hL3, b3⟩; obtain rfl := row_inj (hL3.trans HL.out.symm); obtain ⟨ad3, cap3, rfl, hc3, hcm3, f3⟩ := s3.form; have F3 := hid f3; clear f3 hL3))
  have BB := hid (below2 (below2 b1 b2) b3)
  by_cases hp : 0 < L3.length
  · obtain ⟨g2, rfl, l2, q2⟩ := F2.out hp
    obtain ⟨g3, rfl, _, q3⟩ := F3.out hp
    have Q2 : Hid (∀ i (hi : i < L3.length), w3.cell? ⟨g2, i, none⟩ = some (.string L3[i])) := hid fun i hi => (b3.cell (p := ⟨g2, i, none⟩) l2).trans (q2 i hi)
    have Q3 := hid q3
    clear q2 q3 F2 F3 s2 s3 b1 b2 b3 c1 c2 HL
    unfold maxLen at hcm hcm3
    go_loopw [12] (fun i wx => ∃ j : Nat, j ≤ L3.length ∧ i = .int .i64 j ∧ Hid (∀ i (hi : i < L3.length), wx.cell? ⟨g2, i, none⟩ = some (.string L3[i])) ∧ Hid (∀ i (hi : i < L3.length), wx.cell? ⟨g3, i, none⟩ = some (.string L3[i])) ∧ Hid (Below w.heap.size w wx)) (fun i _ => L3.length - (intOf i).toNat)
    case atStart => exact ⟨0, by omega, rfl, Q2, Q3, BB⟩
    case round =>
      obtain ⟨j, hj, rfl, C2, C3, HB⟩ := hrel
      by_cases hlt : j < L3.length
      · have d2 := C2.out j hlt
        have d3 := C3.out j hlt
        obtain ⟨x, hx⟩ : ∃ x, x = L3[j] := ⟨_, rfl⟩
        rw [← hx] at d2 d3
        clear hx
        go_wp2
        go_region
        go_wp2
        go_roundw
        case rel => exact ⟨j + 1, by omega, by go_num, hid fun i hi => by simpa using C2.out i hi, hid fun i hi => by simpa using C3.out i hi, hid HB.out.drew⟩
        case measure => simp [intOf]; omega
      · go_wp2
        go_ret
        exact ⟨rfl, HB.out⟩
  · have hz : L3.length = 0 := by omega
    go_loopw [12] (fun i wx => i = .int .i64 0 ∧ wx = w3) (fun _ _ => 0)
    case atStart => exact ⟨rfl, rfl⟩
    case round =>
      obtain ⟨rfl, rfl⟩ := hrel
      go_wp2
      go_ret
      exact ⟨rfl, BB.out⟩
end Go.Proofs.Ytbjeienmhglddaa
