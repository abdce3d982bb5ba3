/- What the reference's bytes of a number do to memory. -/
import Derived.Test.YthipadnghdodlaaBRefS
namespace Go.Proofs.Ythipadnghdodlaa
open Go.RowKit

/-- The i lowest bytes, the lowest first. -/
def le (i : Nat) (n : Int) : List Int := (be i n).reverse
theorem le_length (i : Nat) (n : Int) : (le i n).length = i := by simp [le, be_length]
theorem le_get (i : Nat) (n : Int) (j : Nat) (hj : j < i) : (le i n)[j]? = some (n / 2 ^ (8 * j) % 256) := by
  unfold le
  rw [List.getElem?_reverse (by rw [be_length]; exact hj), be_length, be_get _ _ _ (by omega)]
  congr 4
  omega
theorem le_step (i : Nat) (n : Int) : le (i + 1) n = le i n ++ [n / 2 ^ (8 * i) % 256] := by
  apply List.ext_getElem?
  intro j
  by_cases h : j < i
  · rw [List.getElem?_append_left (by rw [le_length]; exact h), le_get _ _ _ h, le_get _ _ _ (by omega)]
  · by_cases h2 : j = i
    · subst h2
      rw [List.getElem?_append_right (by rw [le_length]; omega), le_length, le_get _ _ _ (by omega)]
      simp
    · rw [List.getElem?_eq_none (by rw [le_length]; omega), List.getElem?_eq_none (by simp [le_length]; omega)]

theorem shift_step (n : Int) (i : Nat) : n / 2 ^ (8 * i) / 256 = n / 2 ^ (8 * (i + 1)) := by
  rw [Int.ediv_ediv_of_nonneg (Int.le_of_lt (Int.pow_pos (by decide))), show 8 * (i + 1) = 8 * i + 8 by omega, Int.pow_add]; rfl

/-- The first byte of a number of k bytes, by its place. -/
def hx (k : Nat) (n : Int) : Int := (n + hd k) / 2 ^ (8 * (k - 1)) % 256
theorem set_hx (k : Nat) (n : Int) (hf : Fits k n) : (be k n).set 0 (hx k n) = be k (n + hd k) := by
  obtain ⟨h1, h9, h0, hn⟩ := hf
  have cases : k = 1 ∨ k = 2 ∨ k = 3 ∨ k = 4 ∨ k = 5 ∨ k = 6 ∨ k = 7 ∨ k = 8 ∨ k = 9 := by omega
  rcases cases with rfl | rfl | rfl | rfl | rfl | rfl | rfl | rfl | rfl <;> simp [be, hd, hx] at hn ⊢ <;> omega
theorem set_last (k : Nat) (n : Int) (hf : Fits k n) : ((le k n).set (k - 1) (hx k n)).reverse = be k (n + hd k) := by
  rw [← set_hx k n hf]
  have hk := hf.1
  apply List.ext_getElem?
  intro j
  have hl : ((le k n).set (k - 1) (hx k n)).length = k := by rw [List.length_set, le_length]
  by_cases hj : j < k
  · rw [List.getElem?_reverse (by rw [hl]; exact hj), hl, List.getElem?_set, List.getElem?_set]
    by_cases h0 : j = 0
    · subst h0
      rw [if_pos (by omega), if_pos (by rw [le_length]; omega), if_pos rfl, if_pos (by rw [be_length]; omega)]
    · rw [if_neg (by omega), if_neg (by omega), le_get _ _ _ (by omega), be_get _ _ _ hj]
  · rw [List.getElem?_eq_none (by rw [List.length_reverse, hl]; omega), List.getElem?_eq_none (by rw [List.length_set, be_length]; omega)]
theorem hx_nine (n : Int) (hf : Fits 9 n) : hx 9 n = 255 := by
  obtain ⟨_, _, h0, hn⟩ := hf
  simp [hx, hd] at hn ⊢; omega
theorem hx_small (k : Nat) (n : Int) (hk : k ≤ 8) (hf : Fits k n) : (n / 2 ^ (8 * (k - 1)) % 256 + (256 - 2 ^ (9 - k)) % 256) % 256 = hx k n := by
  obtain ⟨h1, _, h0, hn⟩ := hf
  have cases : k = 1 ∨ k = 2 ∨ k = 3 ∨ k = 4 ∨ k = 5 ∨ k = 6 ∨ k = 7 ∨ k = 8 := by omega
  rcases cases with rfl | rfl | rfl | rfl | rfl | rfl | rfl | rfl <;> simp [hx, hd] at hn ⊢ <;> omega
theorem bit_step (i : Nat) (h1 : 1 ≤ i) (h7 : i ≤ 7) : (256 - 2 ^ (9 - i) + 2 ^ (8 - i) : Int) = 256 - 2 ^ (9 - (i + 1)) ∧ (2 ^ (8 - i) / 2 : Int) = 2 ^ (8 - (i + 1)) ∧ (0 : Int) ≤ 256 - 2 ^ (9 - i) ∧ (256 - 2 ^ (9 - i) : Int) ≤ 255 ∧ (0 : Int) ≤ 2 ^ (8 - i) ∧ (2 ^ (8 - i) : Int) ≤ 128 := by
  have cases : i = 1 ∨ i = 2 ∨ i = 3 ∨ i = 4 ∨ i = 5 ∨ i = 6 ∨ i = 7 := by omega
  rcases cases with rfl | rfl | rfl | rfl | rfl | rfl | rfl <;> simp

theorem top_bound (k : Nat) (h1 : 1 ≤ k) (h8 : k ≤ 8) : (0 : Int) ≤ 256 - 2 ^ (9 - k) ∧ (256 - 2 ^ (9 - k) : Int) ≤ 255 := by
  have cases : k = 1 ∨ k = 2 ∨ k = 3 ∨ k = 4 ∨ k = 5 ∨ k = 6 ∨ k = 7 ∨ k = 8 := by omega
  rcases cases with rfl | rfl | rfl | rfl | rfl | rfl | rfl | rfl <;> simp

theorem owns_base {w : World} {B B' n : Nat} {v : Value} {xs : List Value} (h : w.ownsRow B 5 1 v n xs) (hB : B' ≤ B) : w.ownsRow B' 5 1 v n xs := by
  refine ⟨h.1, ?_⟩
  rcases h.2 with h | ⟨g, cap, cur, h1, h2, h3⟩
  · exact .inl h
  · exact .inr ⟨g, cap, cur, h1, Nat.le_trans hB h2, h3⟩
theorem hidU {p : Prop} (h : p) : Hid p := h
theorem owns_stored {w : World} {B g n cap : Nat} {L : List Int} (h : w.ownsRow B 5 1 (.slice (some ⟨g, 0, none⟩) n cap) n (L.map (Value.int .u8))) (i : Nat) (u : Int) :
    (w.setCell ⟨g, i, none⟩ (.int .u8 u)).ownsRow B 5 1 (.slice (some ⟨g, 0, none⟩) n cap) n ((L.set i u).map (Value.int .u8)) := by
  have := (h.stored i (.int .u8 u)).1
  rw [List.map_set]; exact this
theorem back_cell {w : World} {B g n cap : Nat} {E : List Int} (h : w.ownsRow B 5 1 (.slice (some ⟨g, 0, none⟩) n cap) n (E.reverse.map (Value.int .u8))) (hl : E.length = n) (t : Nat) (ht : t < n) :
    w.cell? ⟨g, n - 1 - t, none⟩ = some (.int .u8 (E[t]?.getD 0)) := by
  rw [h.cellAt (n - 1 - t) (by omega), List.getElem?_map, List.getElem?_reverse (by omega), hl, show n - 1 - (n - 1 - t) = t by omega, List.getElem?_eq_getElem (by omega)]
  rfl
theorem owns_src {w : World} {B g n cap : Nat} {L : List Int} (h : w.ownsRow B 5 1 (.slice (some ⟨g, 0, none⟩) n cap) n (L.map (Value.int .u8))) : Src w (some ⟨g, 0, none⟩) n L := by
  have hl := h.1
  rw [List.length_map, Nat.mul_one] at hl
  refine ⟨hl, fun _ => ⟨_, rfl, fun j v hj => ?_⟩⟩
  have hlt : j < n := by
    rw [← hl]
    rcases Nat.lt_or_ge j L.length with h | h
    · exact h
    · rw [List.getElem?_eq_none h] at hj; simp at hj
  have := h.cellAt j (by omega)
  rw [List.getElem?_map, hj, Option.map_some] at this
  by_cases hj0 : j = 0
  · subst hj0; simpa [Addr.add] using this
  · simpa [Addr.add, hj0] using this
theorem enc_turned {n0 : Int} {L : List Int} (h : L.reverse = be (sz n0) (n0 + hd (sz n0))) : L = (enc n0).reverse := by
  unfold enc; rw [← h, List.reverse_reverse]
theorem set_turned {n0 V : Int} (hf : Fits (sz n0) n0) (h : V = hx (sz n0) n0) : (le (sz n0) n0).set (sz n0 - 1) V = (enc n0).reverse := by
  subst h; exact enc_turned (set_last (sz n0) n0 hf)
theorem set_turned9 {n0 V : Int} (hf : Fits (sz n0) n0) (h : V = hx (sz n0) n0) (h8 : sz n0 - 1 = 8) : (le (sz n0) n0).set 8 V = (enc n0).reverse := by
  have := set_turned hf h
  rw [h8] at this; exact this
theorem out_step {w : World} {B t : Nat} {v : Value} {E : List Int} {x : Int} (hx : E[t]?.getD 0 = x) (ht : t < E.length) (h : w.ownsRow B 5 1 v (t + 1) ((E.take t).map (Value.int .u8) ++ [.int .u8 x])) : w.ownsRow B 5 1 v (t + 1) ((E.take (t + 1)).map (Value.int .u8)) := by
  rw [List.take_add_one, List.getElem?_eq_getElem ht]
  rw [List.getElem?_eq_getElem ht] at hx
  simp only [Option.toList_some, List.map_append, List.map_cons, List.map_nil]
  rw [show E[t] = x from hx]
  exact h
/-- What the first loop has gathered, as a slice that isn't nil. -/
theorem owns_open {w : World} {B n : Nat} {v : Value} {xs : List Value} (h : w.ownsRow B 5 1 v n xs) (hn : 0 < n) : ∃ g cap, v = .slice (some ⟨g, 0, none⟩) n cap ∧ B ≤ g ∧ g < w.heap.size := by
  rcases h.2 with ⟨_, h0⟩ | ⟨g, cap, cur, rfl, hB, hg, _⟩
  · omega
  · refine ⟨g, cap, rfl, hB, ?_⟩
    rcases Nat.lt_or_ge g w.heap.size with hlt | hge
    · exact hlt
    · simp [Array.getElem?_eq_none hge] at hg
set_option maxHeartbeats 1000000 in
theorem ruintref_any (n0 : Int) (w : World) (h0 : 0 ≤ n0) (h1 : n0 < 18446744073709551616) :
    Calls Try.prog 71 #[.int .u64 n0] w fun e w' => ∃ g cap, e = .returned (.slice (some ⟨g, 0, none⟩) (sz n0) cap) ∧ w.heap.size ≤ g ∧ w'.ownsRow w.heap.size 5 1 (.slice (some ⟨g, 0, none⟩) (sz n0) cap) (sz n0) ((enc n0).map (Value.int .u8)) ∧ Below w.heap.size w w' := by
  obtain ⟨i0, hi, hz0, hz1, hz2⟩ := info_parts Try.info5
  have hk1 := sz_pos n0
  have hk9 := sz_le n0
  go_enter Try.func71, Try.ntmps71
  go_wp2_with (go_at_call 83; refine (rsize_any n0 _ h0 h1).mono ?_; rintro e w' ⟨rfl, rfl⟩)
  go_loopw [0, 4, 5] (fun m v i wr => ∃ (j : Nat) (N : Int), j ≤ sz n0 ∧ i = .int .i64 j ∧ m = .int .u64 N ∧ Hid (N = n0 / 2 ^ (8 * j)) ∧ 0 ≤ N ∧ N < 18446744073709551616 ∧ wr.ownsRow w.heap.size 5 1 v j ((le j n0).map (Value.int .u8)) ∧ Below w.heap.size w wr) (fun _ _ i _ => sz n0 - (intOf i).toNat)
  case atStart => exact ⟨0, n0, by omega, rfl, rfl, by show _ = _; simp, h0, h1, World.ownsRow_nil _ _ _ _, Below.refl _ _⟩
  case round =>
    obtain ⟨j, N, hj, rfl, rfl, hN, hN0, hN1, hown, hb⟩ := hrel
    have hbs := hb.size
    by_cases hlt : j < sz n0
    · go_wp2_with (first
        | (at_builtin; refine wpList_append_own _ rfl _ _ 32 rfl w.heap.size 5 i0 (.int .u8 0) 1 1 Try.underlying32 hi hz0 hz1 hz2 rfl (by decide) _ _ _ rfl (hown.alloc _) ⟨wr.heap.size, 0, none⟩ 1 1 [.int .u8 (N % 256)] rfl rfl (cell_one_new _ _ _) (by simp [Value.oneCell']) (by unfold maxLen; omega) (by omega) (by simp; omega) ?_; intro v' w1 hown' hgrow _))
      have R : w1.ownsRow w.heap.size 5 1 v' (j + 1) ((le (j + 1) n0).map (Value.int .u8)) := by
        rw [le_step, ← hN.out]; simpa using hown'
      have hbel : Below w.heap.size w w1 := (hb.alloc hbs _).grown hgrow (by simp; omega) (fun k hk => (hown.lt k hk).1)
      go_roundw
      case rel => exact ⟨j + 1, N / 256, by omega, by go_num, rfl, by show _ = _; rw [hN.out]; exact shift_step n0 j, by omega, by omega, R, hbel⟩
      case measure => simp [intOf]; omega
    · obtain rfl : j = sz n0 := by omega
      obtain ⟨g, cap, hv, hBg, hgs⟩ := owns_open hown (by omega)
      rw [hv] at hown
      subst hv
      have hf := fits_sz n0 h0 h1
      have hlast := hown.cellAt (sz n0 - 1) (by omega)
      rw [List.getElem?_map, le_get _ _ _ (by omega), Option.map_some] at hlast
      have hfz := hown.frozenAt (sz n0 - 1)
      have hst := fun u => owns_stored hown (sz n0 - 1) u
      by_cases h9 : sz n0 = 9
      · have h255 : Hid ((255 : Int) = hx (sz n0) n0) := by show _ = _; have := hx_nine n0 (by rw [← h9]; exact hf); rw [h9]; exact this.symm
        have h9' : ((sz n0 : Int) == 9) = true := by simp; omega
        have h8I : (8 : Int) < (sz n0 : Int) := by omega
        have hl8 : wr.cell? ⟨g, 8, none⟩ = some (.int .u8 (n0 / 2 ^ (8 * (sz n0 - 1)) % 256)) := by have := hlast; rw [h9] at this ⊢; exact this
        have hf8 : wr.frozen? ⟨g, 8, none⟩ = false := by have := hfz; rw [h9] at this; exact this
        have hst8 := hst 255
        rw [show sz n0 - 1 = 8 by omega] at hst8
        clear h9
        go_wp2_with fail
        have hown3 := hst8
        rw [set_turned9 hf h255.out (by omega)] at hown3
        have hb3 : Below w.heap.size w (wr.setCell ⟨g, 8, none⟩ (.int .u8 255)) := hb.setCell hBg _
        have hgs3 : g < (wr.setCell ⟨g, 8, none⟩ (.int .u8 255)).heap.size := by simpa using hgs
        generalize wr.setCell ⟨g, 8, none⟩ (.int .u8 255) = wS at *
        clear hst hlast hfz hown hb hbs hst8 hl8 hf8
        go_loopw [9, 10] (fun v i wr => ∃ t : Nat, t ≤ sz n0 ∧ i = .int .i64 ((sz n0 : Int) - 1 - t) ∧ wr.ownsRow w.heap.size 5 1 (.slice (some ⟨g, 0, none⟩) (sz n0) cap) (sz n0) ((enc n0).reverse.map (Value.int .u8)) ∧ wr.ownsRow (g + 1) 5 1 v t (((enc n0).take t).map (Value.int .u8)) ∧ Below w.heap.size w wr ∧ g < wr.heap.size) (fun _ i _ => (intOf i + 1).toNat)
        case atStart => exact ⟨0, by omega, by go_num, hown3, World.ownsRow_nil _ _ _ _, hb3, hgs3⟩
        case round =>
          clear hown3 hb3 hgs3
          obtain ⟨t, ht, rfl, hback, hout, hbt, hgt⟩ := hrel
          have hel := enc_length n0
          have hbts := hbt.size
          by_cases htlt : t < sz n0
          · have hcell := back_cell hback hel t htlt
            generalize hx : (enc n0)[t]?.getD 0 = x at *
            replace hx := hidU hx
            have hge : (0 : Int) ≤ (sz n0 : Int) - 1 - t := by omega
            go_wp2_with (first
              | (at_builtin; refine wpList_append_own _ rfl _ _ 32 rfl (g + 1) 5 i0 (.int .u8 0) 1 1 Try.underlying32 hi hz0 hz1 hz2 rfl (by decide) _ _ _ rfl (hout.alloc _) ⟨wr.heap.size, 0, none⟩ 1 1 [.int .u8 x] rfl rfl (cell_one_new _ _ _) (by simp [Value.oneCell']) (by unfold maxLen; omega) (by omega) (by simp; omega) ?_; intro v' w1 hown' hgrow _))
            have R := out_step hx.out (by omega) hown'
            have hbel : Below w.heap.size w w1 := (hbt.alloc hbts _).grown hgrow (by simp; omega) (fun k hk => Nat.le_trans (by omega) (hout.lt k hk).1)
            have hback' := (hback.alloc _).kept hgrow (.inr (by show some g ≠ _; intro h; have := (hout.lt g h.symm).1; omega))
            have hgl := hgrow.size
            go_roundw
            case rel => first | exact ⟨t + 1, by omega, by go_num, hback', R, hbel, by simp at hgl; omega⟩ | ((repeat apply Exists.intro); exact ⟨⟨t + 1, by omega, by go_num, hback', R, hbel, by simp at hgl; omega⟩, rfl⟩)
            case measure => simp [intOf]; omega
          · have et : t = sz n0 := by omega
            rw [et] at hout
            rw [List.take_of_length_le (by omega)] at hout
            obtain ⟨g2, cap2, hv2, hBg2, hgs2⟩ := owns_open hout (by omega)
            rw [hv2] at hout
            subst hv2
            go_wp2_with fail
            go_ret
            exact ⟨g2, cap2, rfl, by omega, owns_base hout (by omega), hbt⟩

      · have h8 : sz n0 ≤ 8 := by omega
        have h9' : ((sz n0 : Int) == 9) = false := by simp; omega
        go_wp2_with fail
        go_loop [6, 7, 8] (fun h b i => ∃ (q : Nat) (Hh Bt : Int), 1 ≤ q ∧ q ≤ sz n0 ∧ i = .int .i64 q ∧ h = .int .i64 Hh ∧ b = .int .i64 Bt ∧ Hid (Hh = 256 - 2 ^ (9 - q)) ∧ Hid (Bt = 2 ^ (8 - q))) (fun _ _ i => 9 - (intOf i).toNat)
        case atStart => exact ⟨1, 0, 128, by omega, hk1, rfl, rfl, rfl, rfl, rfl⟩
        case round =>
          obtain ⟨q, Hh, Bt, hq1, hqk, rfl, rfl, rfl, hH, hB⟩ := hrel
          by_cases hqlt : q < sz n0
          · have bs := bit_step q hq1 (by omega)
            rw [← hH.out, ← hB.out] at bs
            obtain ⟨b1, b2, b3, b4, b5, b6⟩ := bs
            replace b1 := hidU b1
            replace b2 := hidU b2
            clear hst hlast hfz
            go_wp2
            go_round
            case rel => exact ⟨q + 1, Hh + Bt, Bt / 2, by omega, by omega, by go_num, rfl, rfl, b1, b2⟩
            case measure => simp [intOf]; omega
          · have eq : q = sz n0 := by omega
            rw [eq] at hH
            have hHb : 0 ≤ Hh ∧ Hh ≤ 255 := by rw [hH.out]; exact top_bound (sz n0) hk1 h8
            have hval := hx_small (sz n0) n0 h8 hf
            rw [← hH.out] at hval
            generalize hdg : n0 / 2 ^ (8 * (sz n0 - 1)) % 256 = dg at *
            have hdg0 : 0 ≤ dg ∧ dg < 256 := by omega
            replace hdg := hidU hdg
            replace hval := hidU hval
            clear hB hqk
            go_wp2_with fail
            have hown3 := hst ((dg + Hh) % 256)
            rw [set_turned hf (show (dg + Hh) % 256 = hx (sz n0) n0 by rw [← hval.out]; omega)] at hown3
            have hb3 : Below w.heap.size w (wr.setCell ⟨g, sz n0 - 1, none⟩ (.int .u8 ((dg + Hh) % 256))) := hb.setCell hBg _
            have hgs3 : g < (wr.setCell ⟨g, sz n0 - 1, none⟩ (.int .u8 ((dg + Hh) % 256))).heap.size := by simpa using hgs
            generalize wr.setCell ⟨g, sz n0 - 1, none⟩ (.int .u8 ((dg + Hh) % 256)) = wS at *
            clear hst hlast hfz hown hb hbs
            go_loopw [9, 10] (fun v i wr => ∃ t : Nat, t ≤ sz n0 ∧ i = .int .i64 ((sz n0 : Int) - 1 - t) ∧ wr.ownsRow w.heap.size 5 1 (.slice (some ⟨g, 0, none⟩) (sz n0) cap) (sz n0) ((enc n0).reverse.map (Value.int .u8)) ∧ wr.ownsRow (g + 1) 5 1 v t (((enc n0).take t).map (Value.int .u8)) ∧ Below w.heap.size w wr ∧ g < wr.heap.size) (fun _ i _ => (intOf i + 1).toNat)
            case atStart => exact ⟨0, by omega, by go_num, hown3, World.ownsRow_nil _ _ _ _, hb3, hgs3⟩
            case round =>
              clear hown3 hb3 hgs3
              obtain ⟨t, ht, rfl, hback, hout, hbt, hgt⟩ := hrel
              have hel := enc_length n0
              have hbts := hbt.size
              by_cases htlt : t < sz n0
              · have hcell := back_cell hback hel t htlt
                generalize hx : (enc n0)[t]?.getD 0 = x at *
                replace hx := hidU hx
                have hge : (0 : Int) ≤ (sz n0 : Int) - 1 - t := by omega
                go_wp2_with (first
                  | (at_builtin; refine wpList_append_own _ rfl _ _ 32 rfl (g + 1) 5 i0 (.int .u8 0) 1 1 Try.underlying32 hi hz0 hz1 hz2 rfl (by decide) _ _ _ rfl (hout.alloc _) ⟨wr.heap.size, 0, none⟩ 1 1 [.int .u8 x] rfl rfl (cell_one_new _ _ _) (by simp [Value.oneCell']) (by unfold maxLen; omega) (by omega) (by simp; omega) ?_; intro v' w1 hown' hgrow _))
                have R := out_step hx.out (by omega) hown'
                have hbel : Below w.heap.size w w1 := (hbt.alloc hbts _).grown hgrow (by simp; omega) (fun k hk => Nat.le_trans (by omega) (hout.lt k hk).1)
                have hback' := (hback.alloc _).kept hgrow (.inr (by show some g ≠ _; intro h; have := (hout.lt g h.symm).1; omega))
                have hgl := hgrow.size
                go_roundw
                case rel => first | exact ⟨t + 1, by omega, by go_num, hback', R, hbel, by simp at hgl; omega⟩ | ((repeat apply Exists.intro); exact ⟨⟨t + 1, by omega, by go_num, hback', R, hbel, by simp at hgl; omega⟩, rfl⟩)
                case measure => simp [intOf]; omega
              · have et : t = sz n0 := by omega
                rw [et] at hout
                rw [List.take_of_length_le (by omega)] at hout
                obtain ⟨g2, cap2, hv2, hBg2, hgs2⟩ := owns_open hout (by omega)
                rw [hv2] at hout
                subst hv2
                go_wp2_with fail
                go_ret
                exact ⟨g2, cap2, rfl, by omega, owns_base hout (by omega), hbt⟩

end Go.Proofs.Ythipadnghdodlaa
