/- The reference: its sum, four bytes, the number that four bytes say, its frame. -/
import Derived.Test.YtajopapcknnfoaaFSplitB
import Derived.Laws.AppendOwnNone
namespace Go.Proofs.Ytajopapcknnfoaa
open Go.RowKit

set_option maxHeartbeats 1000000 in
theorem rsum_any (a : Option Addr) (len cap : Nat) (L : List Int) (w : World) (hs : Src w a len L) (hb : Bts L) (hm : len ≤ 9223372036854775806) :
    Calls Try.prog 11 #[.slice a len cap] w fun e w' => e = .returned (.int .u32 (sumI L)) ∧ w = w' := by
  go_enter Try.func11, Try.ntmps11
  go_wp2
  go_loop [4, 3] (fun i r => ∃ (j R : Nat), j ≤ len ∧ i = .int .i64 j ∧ r = .int .u32 R ∧ R < 4294967296 ∧ Hid (creg R ((L.drop j).map Int.toNat) = creg 4294967295 (L.map Int.toNat))) (fun i _ => len - (intOf i).toNat)
  case atStart => exact ⟨0, 4294967295, by omega, rfl, rfl, by omega, rfl⟩
  case round =>
    obtain ⟨j, R, hj, rfl, rfl, hR, hreg⟩ := hrel
    by_cases hlt : j < len
    · obtain ⟨g, off, rfl, hc⟩ := hs.flat (by omega)
      have hcj := hc j hlt
      have hv := hb.at j
      obtain ⟨x, hx⟩ : ∃ x : Nat, L[j]?.getD 0 = (x : Int) := ⟨(L[j]?.getD 0).toNat, by omega⟩
      rw [hx] at hcj hv
      go_wp2
      go_loop [6, 3, 5] (fun i r c => ∃ (k S C : Nat), k ≤ 8 ∧ i = .int .i64 k ∧ r = .int .u32 S ∧ S < 4294967296 ∧ c = .int .u8 C ∧ C < 256 ∧ Hid (cbits (8 - k) S C = cbyte R x)) (fun i _ _ => 8 - (intOf i).toNat)
      case atStart => exact ⟨0, R, x, by omega, rfl, rfl, hR, rfl, by omega, rfl⟩
      case round =>
        obtain ⟨k, S, C, hk, rfl, rfl, hS, rfl, hC, hsh⟩ := hrel
        by_cases hk8 : k < 8
        · by_cases hq : S % 2 = C % 2
          · have hq' : ((S : Int) % 2 != (C : Int) % 2) = false := by simp; omega
            go_wp2
            go_round
            case rel =>
              refine ⟨k + 1, S / 2, C / 2, by omega, by go_num, by go_num, by omega, by go_num, by omega, ?_⟩
              have e : 8 - k = (8 - (k + 1)) + 1 := by omega
              have h := hsh.out
              rw [e] at h
              have h1 : cbits (8 - (k + 1)) (cbit S C) (C / 2) = cbyte R x := h
              have h2 : cbit S C = S / 2 := by unfold cbit; rw [if_neg (by omega)]
              rw [h2] at h1
              exact h1
            case measure => simp [intOf]; omega
          · have hq' : ((S : Int) % 2 != (C : Int) % 2) = true := by simp; omega
            have hxr := bits_xor32 (S / 2) 2197175160 (by omega) (by omega)
            go_wp2
            go_round
            case rel =>
              refine ⟨k + 1, (S / 2) ^^^ 2197175160, C / 2, by omega, by go_num, ?_, xor_lt32 (by omega) (by omega), by go_num, by omega, ?_⟩
              · have e2 : ((S : Int) / 2) = ((S / 2 : Nat) : Int) := by omega
                rw [← hxr, e2]
                rfl
              · have e : 8 - k = (8 - (k + 1)) + 1 := by omega
                have h := hsh.out
                rw [e] at h
                have h1 : cbits (8 - (k + 1)) (cbit S C) (C / 2) = cbyte R x := h
                have h2 : cbit S C = (S / 2) ^^^ 2197175160 := by unfold cbit; rw [if_pos (by omega)]
                rw [h2] at h1
                exact h1
            case measure => simp [intOf]; omega
        · obtain rfl : k = 8 := by omega
          go_wp2
          go_round
          case rel =>
            refine ⟨j + 1, S, by omega, by go_num, rfl, hS, ?_⟩
            have h1 : S = cbyte R x := hsh.out
            have h := hreg.out
            have hl : j < L.length := by rw [hs.1]; exact hlt
            rw [List.drop_eq_getElem_cons hl, List.map_cons, creg_cons] at h
            rw [List.getElem?_eq_getElem hl, Option.getD_some] at hx
            rw [hx, Int.toNat_natCast] at h
            rw [h1]
            exact h
          case measure => simp [intOf]; omega
    · obtain rfl : j = len := by omega
      go_wp2
      go_ret
      refine ⟨ret_int ?_, rfl⟩
      have h := hreg.out
      rw [List.drop_eq_nil_of_le (by rw [hs.1]; exact Nat.le_refl _)] at h
      have h' : R = creg 4294967295 (L.map Int.toNat) := h
      unfold sumI csum
      rw [← h']
      omega

set_option maxHeartbeats 400000 in
theorem rfour_any (n : Int) (w : World) (h0 : 0 ≤ n) (h1 : n < 4294967296) :
    Calls Try.prog 21 #[.int .u32 n] w fun e w' => e = .returned (.slice (some ⟨w.heap.size, 0, none⟩) 4 4) ∧ Row w' w.heap.size (le4 n) ∧ Below w.heap.size w w' := by
  go_enter Try.func21, Try.ntmps21
  go_wp2
  go_ret
  refine ⟨rfl, ?_, new_below w _⟩
  refine row_lit w _ _ ?_
  simp [le4]
  omega

set_option maxHeartbeats 1000000 in
theorem rnum_any (a : Option Addr) (len cap : Nat) (L : List Int) (w : World) (hs : Src w a len L) (hb : Bts L) (h4 : 4 ≤ len) (hm : len ≤ 140737488355328) :
    Calls Try.prog 24 #[.slice a len cap] w fun e w' => e = .returned (.int .i64 (num4 L)) ∧ ∃ q, w' = w.drewN q := by
  obtain ⟨g, off, rfl, hc⟩ := hs.flat (by omega)
  have a0 := hb.at 0
  have a1 := hb.at 1
  have a2 := hb.at 2
  have a3 := hb.at 3
  have c0 := hc 0 (by omega)
  have c1 := hc 1 (by omega)
  have c2 := hc 2 (by omega)
  have c3 := hc 3 (by omega)
  rw [Nat.add_zero] at c0
  have hn : num4 L = L[0]?.getD 0 + 256 * L[1]?.getD 0 + 65536 * L[2]?.getD 0 + 16777216 * L[3]?.getD 0 := rfl
  rw [hn]
  clear hn
  generalize L[0]?.getD 0 = x0 at *
  generalize L[1]?.getD 0 = x1 at *
  generalize L[2]?.getD 0 = x2 at *
  generalize L[3]?.getD 0 = x3 at *
  have p0 : (0 : Int) < (len : Int) := by omega
  have p1 : (1 : Int) < (len : Int) := by omega
  have p2 : (2 : Int) < (len : Int) := by omega
  have p3 : (3 : Int) < (len : Int) := by omega
  clear hs hb hc
  go_enter Try.func24, Try.ntmps24
  go_wp2
  go_quiet (fail)
  go_wp2
  go_ret
  exact ⟨rfl, _, rfl⟩

theorem row_owns {w : World} {B g n : Nat} {L : List Int} (h : Row w g L) (hn : L.length = n) (hB : B ≤ g) (hm : n ≤ maxLen) : w.ownsRow B 5 1 (.slice (some ⟨g, 0, none⟩) n n) n (L.map (Value.int .u8)) := by
  refine ⟨by rw [List.length_map, hn]; omega, .inr ⟨g, n, _, rfl, hB, h, Nat.le_refl _, hm, by simp [hn], ?_⟩⟩
  rw [List.take_of_length_le (by simp [hn])]
theorem src_cells {w w1 : World} {ad : Addr} {len : Nat} {L : List Int} (hs : Src w (some ad) len L) (hb : Below w.heap.size w w1) : ∀ j u, (L.map (Value.int .u8))[j]? = some u → w1.cell? (ad.add j) = some u := by
  intro j u hj
  have hp : 0 < (L.map (Value.int .u8)).length := by
    rcases Nat.eq_zero_or_pos (L.map (Value.int .u8)).length with h | h
    · rw [List.getElem?_eq_none (by omega)] at hj; simp at hj
    · exact h
  obtain ⟨_, ad', ha, hcc⟩ := src_pos (g := 0) hs hb hp
  obtain rfl := Option.some.inj ha
  exact hcc j u hj

/-- The second half of the reference's frame. -/
theorem fr_eq (L : List Int) (len : Nat) (h : L.length = len) : fr L = (le4 len ++ L) ++ le4 (sumI (le4 len ++ L)) := by unfold fr; rw [h]

set_option maxHeartbeats 1000000 in
theorem rframe_any (a : Option Addr) (len cap : Nat) (L : List Int) (w : World) (hs : Src w a len L) (hb : Bts L) (hnil : a = none → len = 0 ∧ cap = 0) (hm : len ≤ 4194304) :
    Calls Try.prog 13 #[.slice a len cap] w fun e w' => ∃ a' c', e = .returned (.tuple #[.slice a' (len + 8) c', .int .i64 0]) ∧ Src w' a' (len + 8) (fr L) ∧ Below w.heap.size w w' := by
  obtain ⟨i0, hi, hz0, hz1, hz2⟩ := info_parts Try.info5
  have hF := fr_eq L len hs.1
  have hbt : Bts (le4 (len : Int) ++ L) := (le4_bts _).app hb
  have hsr := sumI_range (le4 (len : Int) ++ L)
  rw [hF]
  clear hF
  cases a with
  | none =>
    obtain ⟨rfl, rfl⟩ := hnil rfl
    obtain rfl : L = [] := List.eq_nil_of_length_eq_zero hs.1
    go_enter Try.func13, Try.ntmps13
    go_wp2_with (go_at_call 21; refine (rfour_any 0 _ (by omega) (by omega)).mono ?_; rintro e w1 ⟨rfl, r1, b1⟩)
    refine (rsum_any _ 4 4 (le4 0) w1 (r1.src 4 rfl) (le4_bts _) (by omega)).mono ?_
    rintro e w2 ⟨rfl, rfl⟩
    go_wp2_with fail
    have hsr := sumI_range (le4 0)
    refine (rfour_any (sumI (le4 0)) w1 hsr.1 hsr.2).mono ?_
    rintro e w2 ⟨rfl, r2, b2⟩
    have b1s := b1.size
    have ho := row_owns (B := w.heap.size) (n := 4) (r1.below b2) rfl (Nat.le_refl _) (by unfold maxLen; omega)
    have hc2 := src_cells (r2.src 4 rfl) (Below.refl _ w2)
    have b2s := b2.size
    have hl4 : ((le4 (sumI (le4 0))).map (Value.int .u8)).length = 4 * 1 := rfl
    go_wp2_with (at_builtin; refine wpList_append_own _ rfl _ _ 22 rfl w.heap.size 5 i0 (.int .u8 0) 1 1 Try.underlying22 hi hz0 hz1 hz2 rfl (by decide) _ _ _ rfl ho ⟨w1.heap.size, 0, none⟩ 4 4 _ rfl hl4 hc2 (ones_int _) (by unfold maxLen; omega) (by omega) (by omega) ?_; intro v3 w3 hown3 hgrow3 _)
    have b3 : Below w.heap.size w w3 := (bnext b1 b2).grown hgrow3 (by omega) (fun k hk => (ho.lt k hk).1)
    rw [← List.map_append] at hown3
    obtain ⟨a3, c3, rfl, _, _, _, s3⟩ := owns_any hown3
    clear hown3 ho r1 r2 hc2 hl4 hgrow3
    go_ret2
    exact ⟨a3, c3, rfl, s3, b3⟩
  | some ad =>
    have hL1 : (L.map (Value.int .u8)).length = len * 1 := by rw [List.length_map, hs.1]; omega
    go_enter Try.func13, Try.ntmps13
    go_wp2_with (first
      | (go_at_call 21; refine (rfour_any len _ (by omega) (by omega)).mono ?_; rintro e w1 ⟨rfl, r1, b1⟩; have ho := row_owns (B := w.heap.size) (n := 4) r1 rfl (Nat.le_refl _) (by unfold maxLen; omega); have hc1 := src_cells hs b1; have b1s := b1.size)
      | (at_builtin; refine wpList_append_own _ rfl _ _ 22 rfl w.heap.size 5 i0 (.int .u8 0) 1 1 Try.underlying22 hi hz0 hz1 hz2 rfl (by decide) _ _ _ rfl ho ad len cap (L.map (Value.int .u8)) rfl hL1 hc1 (ones_int L) (by unfold maxLen; omega) (by omega) b1s ?_; intro v2 w2 hown2 hgrow2 _))
    have b2 : Below w.heap.size w w2 := b1.grown hgrow2 b1s (fun k hk => (ho.lt k hk).1)
    rw [← List.map_append] at hown2
    obtain ⟨a2, c2, rfl, _, _, _, s2⟩ := owns_any hown2
    clear ho hc1 r1 hgrow2
    refine (rsum_any a2 (4 + len) c2 _ w2 s2 hbt (by omega)).mono ?_
    rintro e w3 ⟨rfl, rfl⟩
    go_wp2_with fail
    refine (rfour_any (sumI (le4 (len : Int) ++ L)) w2 hsr.1 hsr.2).mono ?_
    rintro e w3 ⟨rfl, r3, b3⟩
    have b2s := b2.size
    have b3s := b3.size
    have ho := owns_below hown2 b3
    have hc2 := src_cells (r3.src 4 rfl) (Below.refl _ w3)
    have hl4 : ((le4 (sumI (le4 (len : Int) ++ L))).map (Value.int .u8)).length = 4 * 1 := rfl
    go_wp2_with (at_builtin; refine wpList_append_own _ rfl _ _ 22 rfl w.heap.size 5 i0 (.int .u8 0) 1 1 Try.underlying22 hi hz0 hz1 hz2 rfl (by decide) _ _ _ rfl ho ⟨w2.heap.size, 0, none⟩ 4 4 _ rfl hl4 hc2 (ones_int _) (by unfold maxLen; omega) (by omega) (by omega) ?_; intro v4 w4 hown4 hgrow4 _)
    have b4 : Below w.heap.size w w4 := (bnext b2 b3).grown hgrow4 (by omega) (fun k hk => (ho.lt k hk).1)
    rw [← List.map_append] at hown4
    obtain ⟨a4, c4, rfl, _, _, _, s4⟩ := owns_any hown4
    clear hown4 ho r3 hc2 hl4 hgrow4
    have hlen : 4 + len + 4 = len + 8 := by omega
    rw [hlen] at s4 ⊢
    go_ret2
    exact ⟨a4, c4, rfl, s4, b4⟩
end Go.Proofs.Ytajopapcknnfoaa
