/- Rows of bodies, held against each other. -/
import Derived.Test.YtegikicpffoglaaWlRun
import Derived.Lib.SlBytesConst
import Derived.Test.YtegikicpffoglaaWlB
import Derived.Laws.AppendOwnNone
namespace Go.Proofs.Ytegikicpffoglaa
section
set_option linter.unusedVariables false
set_option linter.unusedSimpArgs false
open Go.RowKit Go.Sort Go.Maps Go.Shelf

theorem bts1 (a : Int) (h : 0 ≤ a ∧ a < 256) : Bts [a] := fun x hx => by
  simp at hx
  rw [hx]
  exact h
theorem bts2 (a b : Int) (h : (0 ≤ a ∧ a < 256) ∧ 0 ≤ b ∧ b < 256) : Bts [a, b] := fun x hx => by
  simp at hx
  rcases hx with rfl | rfl
  · exact h.1
  · exact h.2
theorem aw_rows : spl (([] ++ fr [97]) ++ fr [98, 99]) = ([[97], [98, 99]], (([] ++ fr [97]) ++ fr [98, 99]).length) := by
  have e : ([] ++ fr [97]) ++ fr [98, 99] = frs [[97], [98, 99]] := by simp [frs]
  rw [e]
  refine spl_all _ (fun B hB => ?_)
  simp at hB
  rcases hB with rfl | rfl
  · exact ⟨bts1 _ (by decide), by simp⟩
  · exact ⟨bts2 _ _ (by decide), by simp⟩

set_option maxRecDepth 100000 in
set_option maxHeartbeats 4000000 in
theorem awake_any (w : World) : Calls Try.prog 8 #[] w fun e w' => e = .returned (.bool true) ∧ Below w.heap.size w w' := by
  have hst : strOfNums [98, 99] = ⟨#[98, 99]⟩ := by kernel_rfl
  have kc := fun (w : World) (C : Array Value) (n c : Nat) => Lib.run_convert_bytes_const (P := Try.prog) w 22 5 C n c Try.underlying22 Try.underlying5
  go_enter Try.func8, Try.ntmps8
  go_wp2_with (first
    | (go_at_call 15; refine (count_any l6 _ _ G6.out.log).mono ?_; rintro e w8 ⟨rfl, rfl⟩)
    | (go_at_call 15; refine (count_any l2 _ _ G5'.out.log).mono ?_; rintro e w8 ⟨rfl, rfl⟩)
    | (go_at_call 16; refine (sure_any l2 _ _ G5'.out.log).mono ?_; rintro e w8 ⟨rfl, rfl⟩)
    | (go_at_call 11; have hq := K5.out; refine (run_open hq (by simp [fr_length])).mono ?_; rintro e w6 ⟨D6, l6, a6, c6, P6, rfl, k6, g6, r6, kp6, hp6, hl6⟩; rw [aw_rows] at g6 r6 ⊢; have K6 := hid k6; have G6 := hid g6; have G5' := hid (G5.out.kp kp6 G5.out.own hp6); obtain ⟨gr, rfl, hgr, hrr⟩ := r6 (by simp); obtain ⟨b1, cb1, hc1, hs1, _⟩ := hrr 1 [98, 99] rfl; have hcv : (convert 22 9 (.slice b1 2 cb1)).run Try.prog w6 = .ok (.string ⟨#[98, 99]⟩) w6 := (conv_src hs1 cb1).trans (by rw [hst]); have hc2 : w6.cell? ⟨gr, 1, none⟩ = some (.slice b1 2 cb1) := hc1; clear hq k6 g6 r6 kp6 hp6 hl6 hgr hrr hc1 hs1)
    | (go_at_call 19; have hq := K4.out; refine (run_append_new hq G4.out (by simp) [98, 99] _ _ rfl (bts2 _ _ (by decide)) (by simp) (by simp [fr_length])).mono ?_; rintro e w5 ⟨D5, rfl, k5, g5, _⟩; have K5 := hid k5; have G5 := hid g5; clear hq k5 g5)
    | (go_at_call 17; have hq := K3.out; refine (run_sync hq G3.out (by simp) (fr_ne _ _)).mono ?_; rintro e w4 ⟨D4, rfl, k4, g4, _⟩; have K4 := hid k4; have G4 := hid g4; clear hq k4 g4)
    | (go_at_call 19; have hq := K2.out; refine (run_append_new hq G2.out (by simp) [97] _ _ rfl (bts1 _ (by decide)) (by simp) (by simp [fr_length])).mono ?_; rintro e w3 ⟨D3, rfl, k3, g3, _⟩; have K3 := hid k3; have G3 := hid g3; clear hq k3 g3)
    | (go_at_call 11; have hq := K1.out; refine (run_open hq (by simp)).mono ?_; rintro e w2 ⟨D2, l2, a2, c2, P2, rfl, k2, g2, r2, _⟩; rw [spl_nil] at k2 g2 r2 ⊢; have K2 := hid (k2.eq (b2 := []) rfl); have G2 := hid g2; clear hq k2 g2 r2)
    | (go_at_call 9; refine (run_new (w := w) 1000 1000 rfl (by omega) (Below.refl _ _)).mono ?_; rintro e w1 ⟨d, D1, rfl, k1⟩; have K1 := hid k1; clear k1))
  go_ret
  exact ⟨rfl, kp_below K6.out.kp⟩
end

section
open Go.RowKit

set_option maxHeartbeats 1000000 in
theorem rsum_any (a : Option Addr) (len cap : Nat) (L : List Int) (w : World) (hs : Src w a len L) (hb : Bts L) (hm : len ≤ 9223372036854775806) :
    Calls Try.prog 47 #[.slice a len cap] w fun e w' => e = .returned (.int .u32 (sumI L)) ∧ w = w' := by
  go_enter Try.func47, Try.ntmps47
  go_wp2
  go_loop [4, 3] (fun i r => ∃ (j R : Nat), j ≤ len ∧ i = .int .i64 j ∧ r = .int .u32 R ∧ R < 4294967296 ∧ Hid (creg R ((L.drop j).map Int.toNat) = creg 4294967295 (L.map Int.toNat))) (fun i _ => len - (intOf i).toNat)
  case atStart => exact ⟨0, 4294967295, by omega, rfl, rfl, by omega, rfl⟩
  case round =>
    obtain ⟨j, R, hj, rfl, rfl, hR, hreg⟩ := hrel
    by_cases hlt : j < len
    · obtain ⟨g, off, rfl, hc⟩ := hs.flat (by omega)
      have hcj := hc j hlt
      have hv := hb.at j
      obtain ⟨x, hx⟩ : ∃ x : Nat, L[j]?.getD 0 = (x : Int) := ⟨(L[j]?.getD 0).toNat, by omega⟩
      rw [hx] at hcj hv
      go_wp2
      go_loop [6, 3, 5] (fun i r c => ∃ (k S C : Nat), k ≤ 8 ∧ i = .int .i64 k ∧ r = .int .u32 S ∧ S < 4294967296 ∧ c = .int .u8 C ∧ C < 256 ∧ Hid (cbits (8 - k) S C = cbyte R x)) (fun i _ _ => 8 - (intOf i).toNat)
      case atStart => exact ⟨0, R, x, by omega, rfl, rfl, hR, rfl, by omega, rfl⟩
      case round =>
        obtain ⟨k, S, C, hk, rfl, rfl, hS, rfl, hC, hsh⟩ := hrel
        by_cases hk8 : k < 8
        · by_cases hq : S % 2 = C % 2
          · have hq' : ((S : Int) % 2 != (C : Int) % 2) = false := by simp; omega
            go_wp2
            go_round
            case rel =>
              refine ⟨k + 1, S / 2, C / 2, by omega, by go_num, by go_num, by omega, by go_num, by omega, ?_⟩
              have e : 8 - k = (8 - (k + 1)) + 1 := by omega
              have h := hsh.out
              rw [e] at h
              have h1 : cbits (8 - (k + 1)) (cbit S C) (C / 2) = cbyte R x := h
              have h2 : cbit S C = S / 2 := by unfold cbit; rw [if_neg (by omega)]
              rw [h2] at h1
              exact h1
            case measure => simp [intOf]; omega
          · have hq' : ((S : Int) % 2 != (C : Int) % 2) = true := by simp; omega
            have hxr := bits_xor32 (S / 2) 2197175160 (by omega) (by omega)
            go_wp2
            go_round
            case rel =>
              refine ⟨k + 1, (S / 2) ^^^ 2197175160, C / 2, by omega, by go_num, ?_, xor_lt32 (by omega) (by omega), by go_num, by omega, ?_⟩
              · have e2 : ((S : Int) / 2) = ((S / 2 : Nat) : Int) := by omega
                rw [← hxr, e2]
                rfl
              · have e : 8 - k = (8 - (k + 1)) + 1 := by omega
                have h := hsh.out
                rw [e] at h
                have h1 : cbits (8 - (k + 1)) (cbit S C) (C / 2) = cbyte R x := h
                have h2 : cbit S C = (S / 2) ^^^ 2197175160 := by unfold cbit; rw [if_pos (by omega)]
                rw [h2] at h1
                exact h1
            case measure => simp [intOf]; omega
        · obtain rfl : k = 8 := by omega
          go_wp2
          go_round
          case rel =>
            refine ⟨j + 1, S, by omega, by go_num, rfl, hS, ?_⟩
            have h1 : S = cbyte R x := hsh.out
            have h := hreg.out
            have hl : j < L.length := by rw [hs.1]; exact hlt
            rw [List.drop_eq_getElem_cons hl, List.map_cons, creg_cons] at h
            rw [List.getElem?_eq_getElem hl, Option.getD_some] at hx
            rw [hx, Int.toNat_natCast] at h
            rw [h1]
            exact h
          case measure => simp [intOf]; omega
    · obtain rfl : j = len := by omega
      go_wp2
      go_ret
      refine ⟨ret_int ?_, rfl⟩
      have h := hreg.out
      rw [List.drop_eq_nil_of_le (by rw [hs.1]; exact Nat.le_refl _)] at h
      have h' : R = creg 4294967295 (L.map Int.toNat) := h
      unfold sumI csum
      rw [← h']
      omega

set_option maxHeartbeats 1000000 in
theorem rnum_any (a : Option Addr) (len cap : Nat) (L : List Int) (w : World) (hs : Src w a len L) (hb : Bts L) (h4 : 4 ≤ len) (hm : len ≤ 140737488355328) :
    Calls Try.prog 46 #[.slice a len cap] w fun e w' => e = .returned (.int .i64 (num4 L)) ∧ ∃ q, w' = w.drewN q := by
  obtain ⟨g, off, rfl, hc⟩ := hs.flat (by omega)
  have a0 := hb.at 0
  have a1 := hb.at 1
  have a2 := hb.at 2
  have a3 := hb.at 3
  have c0 := hc 0 (by omega)
  have c1 := hc 1 (by omega)
  have c2 := hc 2 (by omega)
  have c3 := hc 3 (by omega)
  rw [Nat.add_zero] at c0
  have hn : num4 L = L[0]?.getD 0 + 256 * L[1]?.getD 0 + 65536 * L[2]?.getD 0 + 16777216 * L[3]?.getD 0 := rfl
  rw [hn]
  clear hn
  generalize L[0]?.getD 0 = x0 at *
  generalize L[1]?.getD 0 = x1 at *
  generalize L[2]?.getD 0 = x2 at *
  generalize L[3]?.getD 0 = x3 at *
  have p0 : (0 : Int) < (len : Int) := by omega
  have p1 : (1 : Int) < (len : Int) := by omega
  have p2 : (2 : Int) < (len : Int) := by omega
  have p3 : (3 : Int) < (len : Int) := by omega
  clear hs hb hc
  go_enter Try.func46, Try.ntmps46
  go_wp2
  go_quiet (fail)
  go_wp2
  go_ret
  exact ⟨rfl, _, rfl⟩
end

section
open Go.RowKit

theorem u32_small {n : Int} (h : 0 ≤ n ∧ n < 4294967296) : n % 4294967296 = n := by omega

theorem drewN_add (w : World) (q m : Nat) : (w.drewN q).drewN m = w.drewN (q + m) := by
  simp [World.drewN, Nat.add_assoc]

set_option maxHeartbeats 1000000 in
theorem rnext_any (a : Option Addr) (len cap : Nat) (L : List Int) (w : World) (hs : Src w a len L) (hb : Bts L) (hlc : len ≤ cap) (hm : len ≤ 140737488355328) :
    Calls Try.prog 32 #[.slice a len cap] w fun e w' => e = .returned (.tuple #[pc a cap L, .int .i64 (nx L).2.2, .int .i64 (nx L).1]) ∧ ∃ q, w' = w.drewN q := by
  by_cases h4 : len < 4
  · have e1 := nx_short (L := L) (by rw [hs.1]; exact h4)
    go_enter Try.func32, Try.ntmps32
    go_wp2_with fail
    go_ret3
    exact ⟨by unfold pc; rw [e1]; rfl, 0, rfl⟩
  · have hL4 : ¬ L.length < 4 := by rw [hs.1]; exact h4
    have hn := num4_bounds hb
    obtain ⟨n, hn'⟩ : ∃ n : Nat, num4 L = (n : Int) := ⟨(num4 L).toNat, by omega⟩
    have hR := rnum_any a len cap L w hs hb (by omega) hm
    rw [hn'] at hR hn
    by_cases h5 : 4194304 < n
    · have e1 := nx_great (L := L) hL4 (by rw [hn']; omega)
      go_enter Try.func32, Try.ntmps32
      go_wp2_with (go_at_call 46; refine hR.mono ?_; rintro e w' ⟨rfl, q, rfl⟩)
      go_ret3
      exact ⟨by unfold pc; rw [e1]; rfl, _, rfl⟩
    · by_cases h6 : len < n + 8
      · have e1 := nx_early (L := L) hL4 (by rw [hn']; omega) (by rw [hn', hs.1]; omega)
        go_enter Try.func32, Try.ntmps32
        go_wp2_with (go_at_call 46; refine hR.mono ?_; rintro e w' ⟨rfl, q, rfl⟩)
        go_ret3
        exact ⟨by unfold pc; rw [e1]; rfl, _, rfl⟩
      · obtain ⟨g, off, rfl, hc⟩ := hs.flat (by omega)
        have sd := src_drop hs (n + 4)
        have stt := src_take hs (n + 4) (by rw [hs.1]; omega)
        have hsd := num4_bounds (hb.drop (n + 4))
        go_enter Try.func32, Try.ntmps32
        go_wp2_with (go_at_call 46; refine hR.mono ?_; rintro e w' ⟨rfl, q, rfl⟩)
        obtain ⟨W, hW⟩ : ∃ W, W = w.drewN q := ⟨_, rfl⟩
        have sdW : Src W (some ⟨g, off + (n + 4), none⟩) (len - (n + 4)) (L.drop (n + 4)) := by rw [hW]; exact sd.drewN q
        have stW : Src W (some ⟨g, off, none⟩) (n + 4) (L.take (n + 4)) := by rw [hW]; exact stt.drewN q
        rw [← hW]
        have hW' := hid hW
        clear hW
        have hLr := fun q => (rnum_any _ (len - (n + 4)) (cap - (n + 4)) _ _ (sdW.drewN q) (hb.drop (n + 4)) (by omega) (by omega)).mono (R' := fun e w'' => e = .returned (.int .i64 (num4 (L.drop (n + 4)))) ∧ ∃ m, w'' = W.drewN m) (fun _ _ h => ⟨h.1, by obtain ⟨m, hm⟩ := h.2; exact ⟨q + m, by rw [hm]; exact drewN_add W q m⟩⟩)
        have hLs := fun q => Calls.quiet_of_same (w := W) (n := q) ((rsum_any _ (n + 4) cap _ _ (stW.drewN q) (hb.take _) (by omega)).mono (fun _ _ h => ⟨h.1, h.2.symm⟩))
        have hcn : ¬ cap = n + 4 := by omega
        have hc0 : ¬ cap = 0 := by omega
        have hu := u32_small hsd
        clear hR hc sd stt
        go_quiet (first | (go_at_call 46; exact hLr _) | (go_at_call 47; exact hLs _))
        by_cases h7 : num4 (L.drop (n + 4)) = sumI (L.take (n + 4))
        · have e1 := nx_right (L := L) hL4 (by rw [hn']; omega) (by rw [hn', hs.1]; omega) (by rw [hn', Int.toNat_natCast]; exact h7)
          have hbq : (num4 (L.drop (n + 4)) != sumI (L.take (n + 4))) = false := by simp [h7]
          rw [hn', Int.toNat_natCast] at e1
          rw [hbq]
          clear hLr hLs hbq h7 hu
          have hc4 : ¬ cap = 4 := by omega
          go_wp2_with fail
          go_ret3
          refine ⟨?_, q + nq, by rw [hW'.out]; exact drewN_add w q nq⟩
          have hl : ((L.drop 4).take n).length = n := by rw [List.length_take, List.length_drop, hs.1]; omega
          unfold pc
          rw [e1]
          simp only [if_true, hl, Option.map_some, Addr.add_lit]
          rfl
        · have e1 := nx_other (L := L) hL4 (by rw [hn']; omega) (by rw [hn', hs.1]; omega) (by rw [hn', Int.toNat_natCast]; exact h7)
          have hbq : (num4 (L.drop (n + 4)) != sumI (L.take (n + 4))) = true := by simp [h7]
          rw [hbq]
          clear hLr hLs hbq h7 hu
          go_wp2_with fail
          go_ret3
          exact ⟨by unfold pc; rw [e1]; rfl, q + nq, by rw [hW'.out]; exact drewN_add w q nq⟩
end

section
open Go.RowKit

/-- Slices that each lead to the bytes of a body. -/
def Pcs (w : World) (R : List (List Int)) (Vs : List Value) : Prop :=
  Vs.length = R.length ∧ ∀ i, i < R.length → ∃ ai ci, Vs[i]? = some (.slice ai (R[i]?.getD []).length ci) ∧ Src w ai (R[i]?.getD []).length (R[i]?.getD []) ∧ (R[i]?.getD []).length ≤ ci ∧ (ai = none → (R[i]?.getD []).length = 0 ∧ ci = 0)
theorem pcs_snoc {w : World} {R : List (List Int)} {Vs : List Value} (h : Pcs w R Vs) (a : Option Addr) (c : Nat) (L : List Int) (hs : Src w a L.length L) (hc : L.length ≤ c) (hn : a = none → L.length = 0 ∧ c = 0) : Pcs w (R ++ [L]) (Vs ++ [.slice a L.length c]) := by
  refine ⟨by rw [List.length_append, List.length_append, h.1]; rfl, fun i hi => ?_⟩
  rw [List.length_append, List.length_singleton] at hi
  by_cases h1 : i < R.length
  · rw [List.getElem?_append_left h1, List.getElem?_append_left (by rw [h.1]; exact h1)]
    exact h.2 i h1
  · obtain rfl : i = R.length := by omega
    rw [List.getElem?_append_right (Nat.le_refl _), List.getElem?_append_right (by rw [h.1]; exact Nat.le_refl _), h.1, Nat.sub_self]
    exact ⟨a, c, rfl, hs, hc, hn⟩

/-- What the reference's Split tells. -/
def RS (w : World) (L : List Int) (e : Ending) (w' : World) : Prop := ∃ a' c', e = .returned (.tuple #[.slice a' (spl L).1.length c', .int .i64 (spl L).2]) ∧ BSrc w' a' (spl L).1.length (spl L).1 ∧ Below w.heap.size w w'
theorem rs_end {w wr : World} {L : List Int} {v : Value} {R : List (List Int)} {Vs : List Value} {k : Nat} (hown : wr.ownsRow w.heap.size 22 1 v R.length Vs) (hpcs : Pcs w R Vs) (hspl : spl L = (R, k)) (hbr : Below w.heap.size w wr) : RS w L (.returned (.tuple #[v, .int .i64 (k : Int)])) wr := by
  unfold RS
  rw [hspl]
  rcases hown.2 with ⟨rfl, h0⟩ | ⟨g, cap', cur, rfl, hB, hg, hn, hc, hcs, ht⟩
  · exact ⟨none, 0, by rw [h0], ⟨rfl, fun hp => absurd hp (by simp only at hp; omega)⟩, hbr⟩
  · refine ⟨_, cap', rfl, ⟨rfl, fun _ => ⟨g, 0, rfl, fun i hi => ?_⟩⟩, hbr⟩
    obtain ⟨ai, ci, h1, h2, h3⟩ := hpcs.2 i hi
    refine ⟨ai, ci, ?_, h2.below hbr, h3⟩
    have hil : i < R.length := hi
    have := hown.cellAt i (by have := hpcs.1; omega)
    rw [h1] at this
    rw [Nat.zero_add]
    exact this

set_option maxHeartbeats 1000000 in
theorem rsplit_any (a : Option Addr) (len cap : Nat) (L : List Int) (w : World) (hs : Src w a len L) (hb : Bts L) (hlc : len ≤ cap) (hm : len ≤ 5000) :
    Calls Try.prog 12 #[.slice a len cap] w (RS w L) := by
  obtain ⟨i0, hi, hz0, hz1, hz2⟩ := info_parts Try.info22
  by_cases hp : 0 < len
  · obtain ⟨g, off, rfl, _⟩ := hs.flat hp
    go_enter Try.func12, Try.ntmps12
    go_wp2
    go_loopw [4, 5] (fun v p wr => ∃ (k : Nat) (R : List (List Int)) (Vs : List Value), k ≤ len ∧ p = .int .i64 k ∧ wr.ownsRow w.heap.size 22 1 v R.length Vs ∧ Pcs w R Vs ∧ R.length ≤ k ∧ Hid (spl L = (R ++ (spl (L.drop k)).1, k + (spl (L.drop k)).2)) ∧ Below w.heap.size w wr) (fun _ p _ => len - (intOf p).toNat)
    case atStart => exact ⟨0, [], [], by omega, rfl, World.ownsRow_nil _ _ _ _, ⟨rfl, fun i hi => absurd hi (by simp)⟩, by simp, by show _ = _; simp, Below.refl _ _⟩
    case round =>
      obtain ⟨k, R, Vs, hk, rfl, hown, hpcs, hRk, hspl, hbr⟩ := hrel
      have hcut := src_cut hs cap k hlc
      have hN := rnext_any (cutA (some ⟨g, off, none⟩) cap k) (len - k) (cap - k) (L.drop k) wr (hcut.below hbr) (hb.drop k) (by omega) (by omega)
      have hcA : cutA (some ⟨g, off, none⟩) cap k = if cap = k then some ⟨g, off, none⟩ else some ⟨g, off + k, none⟩ := by unfold cutA; rw [Option.map_some, Addr.add_lit]
      by_cases h0 : (nx (L.drop k)).1 = 0
      · have hok := nx_ok (hb.drop k) h0
        have hsm := nx_small (hb.drop k) h0
        have hp8 := (src_pc hcut (hb.drop k) h0).1
        rw [hcut.1] at hok
        have hck : ¬ cap = k := by omega
        rw [if_neg hck] at hcA
        have hpc : pc (cutA (some ⟨g, off, none⟩) cap k) (cap - k) (L.drop k) = .slice (some ⟨g, off + k + 4, none⟩) (nx (L.drop k)).2.1.length (cap - k - 4) := by unfold pc; rw [if_pos h0, hcA, Option.map_some, Addr.add_lit]
        rw [hpc, hcA, h0, hok.1] at hN
        rw [hcA, Option.map_some, Addr.add_lit] at hp8
        have hpcs' := pcs_snoc hpcs (some ⟨g, off + k + 4, none⟩) (cap - k - 4) _ hp8 (by omega) (by simp)
        have hspl' : spl L = ((R ++ [(nx (L.drop k)).2.1]) ++ (spl (L.drop (k + ((nx (L.drop k)).2.1.length + 8)))).1, (k + ((nx (L.drop k)).2.1.length + 8)) + (spl (L.drop (k + ((nx (L.drop k)).2.1.length + 8)))).2) := by
          have h := hspl.out
          rw [spl_ok (hb.drop k) h0, hok.1, List.drop_drop] at h
          rw [h]
          simp [Nat.add_assoc]
        have hle : (nx (L.drop k)).2.1.length + 8 ≤ len - k := by omega
        have hspl'' := hid hspl'
        clear hpc hcA h0 hok hspl' hspl hpcs hcut
        generalize (nx (L.drop k)).2.1 = M at *
        obtain ⟨n, hn⟩ : ∃ n, n = M.length := ⟨_, rfl⟩
        rw [← hn] at hN hpcs' hspl'' hle hsm hp8
        clear hn
        have hbs := hbr.size
        have hrl : (R ++ [M]).length = R.length + 1 := by simp
        go_wp2_with (first
          | (go_at_call 32; refine hN.mono ?_; rintro e w1 ⟨rfl, q, rfl⟩; have ho1 : (wr.drewN q).ownsRow w.heap.size 22 1 u4 R.length Vs := hown)
          | (at_builtin; refine wpList_append_own _ rfl _ _ 29 rfl w.heap.size 22 i0 (.slice none 0 0) 1 24 Try.underlying29 hi hz0 hz1 hz2 rfl (by decide) _ _ _ rfl (ho1.alloc _) ⟨(wr.drewN q).heap.size, 0, none⟩ 1 1 [.slice (some ⟨g, off + k + 4, none⟩) n (cap - k - 4)] rfl rfl (cell_one_new _ _ _) (by simp [Value.oneCell']) (by unfold maxLen; omega) (by omega) (by simp; omega) ?_; intro v' w2 hown' hgrow _))
        have hb1 : Below w.heap.size w (wr.drewN q) := below_drewN hbr q
        have hb2 : Below w.heap.size w w2 := (hb1.alloc hb1.size _).grown hgrow (by simp; omega) (fun j hj => (hown.lt j hj).1)
        go_roundw
        case rel =>
          refine ⟨k + (n + 8), R ++ [M], _, by omega, by go_num, ?_, hpcs', by simp; omega, hspl'', hb2⟩
          rw [hrl]
          exact hown'
        case measure => simp [intOf]; omega
      · have hpc : pc (cutA (some ⟨g, off, none⟩) cap k) (cap - k) (L.drop k) = .slice none 0 0 := by unfold pc; rw [if_neg h0]
        rw [hpc, hcA] at hN
        have hne : ((nx (L.drop k)).1 != 0) = true := by simp [h0]
        have hsp := hspl.out
        rw [spl_bad h0, List.append_nil, Nat.add_zero] at hsp
        have hend := fun q => rs_end (wr := wr.drewN q) hown hpcs hsp (below_drewN hbr q)
        clear hpc hcA hsp hspl h0
        generalize nx (L.drop k) = E at *
        go_wp2_with (go_at_call 32; refine hN.mono ?_; rintro e w1 ⟨rfl, q, rfl⟩)
        · go_ret2
          exact hend q
        · go_ret2
          exact hend q
  · obtain rfl : len = 0 := by omega
    obtain rfl : L = [] := List.eq_nil_of_length_eq_zero hs.1
    have hN := rnext_any a 0 cap [] w hs hb hlc (by omega)
    have hnx : nx [] = (10, [], 0) := nx_short (by simp)
    have hpc : pc a cap [] = .slice none 0 0 := by unfold pc; rw [hnx]; rfl
    rw [hpc, hnx] at hN
    have hsp : spl [] = ([], 0) := spl_bad (by rw [hnx]; simp)
    have hend := fun q => rs_end (w := w) (wr := w.drewN q) (v := .slice none 0 0) (R := []) (Vs := []) (World.ownsRow_nil _ _ _ _) ⟨rfl, fun i hi => absurd hi (by simp)⟩ hsp (below_drewN (Below.refl _ _) q)
    clear hnx hpc hsp
    go_enter Try.func12, Try.ntmps12
    go_wp2_with fail
    go_loopw [4, 5] (fun v p wr => v = .slice none 0 0 ∧ p = .int .i64 0 ∧ wr = w) (fun _ _ _ => 0)
    case atStart => exact ⟨rfl, rfl, rfl⟩
    case round =>
      obtain ⟨rfl, rfl, rfl⟩ := hrel
      go_wp2_with (go_at_call 32; refine hN.mono ?_; rintro e w1 ⟨rfl, q, rfl⟩)
      go_ret2
      exact hend q
end

section
set_option linter.unusedVariables false
set_option linter.unusedSimpArgs false
open Go.RowKit Go.Sort Go.Maps Go.Shelf

theorem frs_cons (B : List Int) (R : List (List Int)) : frs (B :: R) = fr B ++ frs R := rfl
theorem frs_cnt (R : List (List Int)) : R.length ≤ (frs R).length := by
  induction R with
  | nil => simp
  | cons B R ih =>
    rw [frs_cons, List.length_append, fr_length, List.length_cons]
    omega
/-- Bytes that came in, later on. -/
theorem WD.src {w wr : World} {d : Nat} {D : Dk} {b : List Int} {room : Nat} {P : Nat → Prop} (h : WD w wr d D b room P) {a : Option Addr} {L : List Int} (hs : Src w a L.length L) : Src wr a L.length L := src_kp2 h.kp (fun hp ad e => src_block hs ad hp e) hs
theorem row_none {w : World} {a : Option Addr} {len cap : Nat} {zs : List Int} (h : IsRow .u8 w a len cap zs) : a = none → cap = 0 := by
  intro e
  rcases h with ⟨_, _, rfl, _⟩ | ⟨x, e', _⟩
  · rfl
  · rw [e'] at e; cases e
end

section
set_option linter.unusedVariables false
set_option linter.unusedSimpArgs false
open Go.RowKit

/-- A row of bodies, as it is read. -/
def BS (w : World) (a : Option Addr) (R : List (List Int)) : Prop := 0 < R.length → ∃ g off, a = some ⟨g, off, none⟩ ∧ ∀ i r, R[i]? = some r → ∃ ai ci, w.cell? ⟨g, off + i, none⟩ = some (.slice ai r.length ci) ∧ Src w ai r.length r
theorem BRow.bs {w : World} {Q : Nat → Prop} {a : Option Addr} {R : List (List Int)} (h : BRow w Q a R) : BS w a R := fun hp => by
  obtain ⟨g, e, _, hr⟩ := h hp
  refine ⟨g, 0, e, fun i r hi => ?_⟩
  obtain ⟨ai, ci, h1, h2, _⟩ := hr i r hi
  exact ⟨ai, ci, by rw [Nat.zero_add]; exact h1, h2⟩
theorem BSrc.bs {w : World} {a : Option Addr} {n : Nat} {R : List (List Int)} (h : BSrc w a n R) : BS w a R := fun hp => by
  obtain ⟨g, off, e, hr⟩ := h.2 (by rw [← h.1]; exact hp)
  refine ⟨g, off, e, fun i r hi => ?_⟩
  obtain ⟨ai, ci, h1, h2, _⟩ := hr i (by rw [← h.1]; exact (List.getElem?_eq_some_iff.1 hi).1)
  rw [hi] at h1 h2
  exact ⟨ai, ci, h1, h2⟩
theorem BS.below {w w' : World} {a : Option Addr} {R : List (List Int)} (h : BS w a R) (hb : Below w.heap.size w w') : BS w' a R := fun hp => by
  obtain ⟨g, off, e, hr⟩ := h hp
  refine ⟨g, off, e, fun i r hi => ?_⟩
  obtain ⟨ai, ci, h1, h2⟩ := hr i r hi
  exact ⟨ai, ci, (hb.cell (cell_block h1)).trans h1, h2.below hb⟩

set_option maxRecDepth 100000 in
set_option maxHeartbeats 4000000 in
theorem begins_any (a b : Option Addr) (ca cb : Nat) (R S : List (List Int)) (k : Nat) (w : World) (ha : BS w a R) (hb : BS w b S) (hl : R.length ≤ S.length) (hk : k ≤ R.length) (hp : ∀ (i : Nat) (r : List Int), R[i]? = some r → S[i]? = some r) (hm : S.length ≤ 1000000000000) :
    Calls Try.prog 23 #[.slice a R.length ca, .slice b S.length cb, .int .i64 (k : Int)] w fun e w' => e = .returned (.bool true) ∧ Below w.heap.size w w' := by
  have HA := hid ha
  have HB := hid hb
  have HP := hid hp
  have e1 : decide ((S.length : Int) < (R.length : Int)) = false := decide_eq_false (by omega)
  have e1' : ¬ S.length < R.length := by omega
  have e2 : decide ((R.length : Int) < (k : Int)) = false := decide_eq_false (by omega)
  have e2' : ¬ R.length < k := by omega
  have hmxo : Try.prog.follows .mixedOrders = true := by kernel_rfl
  clear ha hb hp
  go_enter Try.func23, Try.ntmps23
  go_wp2
  go_loopw [7] (fun vi wr => ∃ j : Nat, vi = .int .i64 (j : Int) ∧ j ≤ R.length ∧ Hid (Below w.heap.size w wr)) (fun vi _ => R.length - (intOf vi).toNat)
  case atStart => exact ⟨0, rfl, Nat.zero_le _, hid (Below.refl _ _)⟩
  case round =>
    obtain ⟨j, rfl, hj, HW⟩ := hrel
    by_cases hlt : j < R.length
    · have e5 : decide ((j : Int) < (R.length : Int)) = true := decide_eq_true (by omega)
      have hlt2 : j < S.length := by omega
      obtain ⟨r, hr⟩ : ∃ r, R[j]? = some r := ⟨R[j], List.getElem?_eq_getElem hlt⟩
      obtain ⟨ga, oa, rfl, hra⟩ := (HA.out.below HW.out) (by omega)
      obtain ⟨gb, ob, rfl, hrb⟩ := (HB.out.below HW.out) (by omega)
      obtain ⟨p0, q0, x0, y0⟩ := hra j r hr
      obtain ⟨p1, q1, x1, y1⟩ := hrb j r (HP.out j r hr)
      clear hra hrb hr
      have S0 : (fun u : World => u.cell? ⟨ga, oa + j, none⟩ = some (.slice p0 r.length q0) ∧ u.cell? ⟨gb, ob + j, none⟩ = some (.slice p1 r.length q1) ∧ (convert 22 9 (.slice p0 r.length q0)).run Try.prog u = .ok (.string (strOfNums r)) u ∧ (convert 22 9 (.slice p1 r.length q1)).run Try.prog u = .ok (.string (strOfNums r)) u) wr.drew := ⟨x0, x1, conv_src (w := wr.drew) y0 q0, conv_src (w := wr.drew) y1 q1⟩
      clear x0 x1 y0 y1
      go_wp2
      refine wp_region_held_drew (S := fun u => u.cell? ⟨ga, oa + j, none⟩ = some (.slice p0 r.length q0) ∧ u.cell? ⟨gb, ob + j, none⟩ = some (.slice p1 r.length q1) ∧ (convert 22 9 (.slice p0 r.length q0)).run Try.prog u = .ok (.string (strOfNums r)) u ∧ (convert 22 9 (.slice p1 r.length q1)).run Try.prog u = .ok (.string (strOfNums r)) u) hmxo S0 ?_
      intro _
      refine wpAnyH_take (i := 0) (v := .slice (some ⟨ga, oa, none⟩) R.length ca) rfl (by kernel_rfl) (by kernel_rfl) (by kernel_rfl) (fun _ _ _ h => h) (Or.inl ⟨by kernel_rfl, fun u hSu => ?_⟩) S0 ?_
      · obtain ⟨z0, z1, z2, z3⟩ := hSu; go_simp
      simp only [Act.put, List.getElem_toArray, List.getElem_cons_succ, List.getElem_cons_zero, List.setIfInBounds_toArray, List.set_cons_zero, List.set_cons_succ]
      refine wpAnyH_take (i := 1) (v := .int .i64 (j : Int)) rfl (by kernel_rfl) (by kernel_rfl) (by kernel_rfl) (fun _ _ _ h => h) (Or.inl ⟨by kernel_rfl, fun u hSu => ?_⟩) S0 ?_
      · obtain ⟨z0, z1, z2, z3⟩ := hSu; go_simp
      simp only [Act.put, List.getElem_toArray, List.getElem_cons_succ, List.getElem_cons_zero, List.setIfInBounds_toArray, List.set_cons_zero, List.set_cons_succ]
      refine wpAnyH_take (i := 2) (v := .pointer (some ⟨ga, oa + j, none⟩)) rfl (by kernel_rfl) (by kernel_rfl) (by kernel_rfl) (fun _ _ _ h => h) (Or.inl ⟨by kernel_rfl, fun u hSu => ?_⟩) S0 ?_
      · obtain ⟨z0, z1, z2, z3⟩ := hSu; go_simp
      simp only [Act.put, List.getElem_toArray, List.getElem_cons_succ, List.getElem_cons_zero, List.setIfInBounds_toArray, List.set_cons_zero, List.set_cons_succ]
      refine wpAnyH_take (i := 3) (v := .slice p0 r.length q0) rfl (by kernel_rfl) (by kernel_rfl) (by kernel_rfl) (fun _ _ _ h => h) (Or.inl ⟨by kernel_rfl, fun u hSu => ?_⟩) S0 ?_
      · obtain ⟨z0, z1, z2, z3⟩ := hSu; go_simp
      simp only [Act.put, List.getElem_toArray, List.getElem_cons_succ, List.getElem_cons_zero, List.setIfInBounds_toArray, List.set_cons_zero, List.set_cons_succ]
      refine wpAnyH_take (i := 4) (v := .string (strOfNums r)) rfl (by kernel_rfl) (by kernel_rfl) (by kernel_rfl) (fun _ _ _ h => h) (Or.inl ⟨by kernel_rfl, fun u hSu => ?_⟩) S0 ?_
      · obtain ⟨z0, z1, z2, z3⟩ := hSu; go_simp
      simp only [Act.put, List.getElem_toArray, List.getElem_cons_succ, List.getElem_cons_zero, List.setIfInBounds_toArray, List.set_cons_zero, List.set_cons_succ]
      refine wpAnyH_take (i := 5) (v := .slice (some ⟨gb, ob, none⟩) S.length cb) rfl (by kernel_rfl) (by kernel_rfl) (by kernel_rfl) (fun _ _ _ h => h) (Or.inl ⟨by kernel_rfl, fun u hSu => ?_⟩) S0 ?_
      · obtain ⟨z0, z1, z2, z3⟩ := hSu; go_simp
      simp only [Act.put, List.getElem_toArray, List.getElem_cons_succ, List.getElem_cons_zero, List.setIfInBounds_toArray, List.set_cons_zero, List.set_cons_succ]
      refine wpAnyH_take (i := 6) (v := .int .i64 (j : Int)) rfl (by kernel_rfl) (by kernel_rfl) (by kernel_rfl) (fun _ _ _ h => h) (Or.inl ⟨by kernel_rfl, fun u hSu => ?_⟩) S0 ?_
      · obtain ⟨z0, z1, z2, z3⟩ := hSu; go_simp
      simp only [Act.put, List.getElem_toArray, List.getElem_cons_succ, List.getElem_cons_zero, List.setIfInBounds_toArray, List.set_cons_zero, List.set_cons_succ]
      refine wpAnyH_take (i := 7) (v := .pointer (some ⟨gb, ob + j, none⟩)) rfl (by kernel_rfl) (by kernel_rfl) (by kernel_rfl) (fun _ _ _ h => h) (Or.inl ⟨by kernel_rfl, fun u hSu => ?_⟩) S0 ?_
      · obtain ⟨z0, z1, z2, z3⟩ := hSu; go_simp
      simp only [Act.put, List.getElem_toArray, List.getElem_cons_succ, List.getElem_cons_zero, List.setIfInBounds_toArray, List.set_cons_zero, List.set_cons_succ]
      refine wpAnyH_take (i := 8) (v := .slice p1 r.length q1) rfl (by kernel_rfl) (by kernel_rfl) (by kernel_rfl) (fun _ _ _ h => h) (Or.inl ⟨by kernel_rfl, fun u hSu => ?_⟩) S0 ?_
      · obtain ⟨z0, z1, z2, z3⟩ := hSu; go_simp
      simp only [Act.put, List.getElem_toArray, List.getElem_cons_succ, List.getElem_cons_zero, List.setIfInBounds_toArray, List.set_cons_zero, List.set_cons_succ]
      refine wpAnyH_take (i := 9) (v := .string (strOfNums r)) rfl (by kernel_rfl) (by kernel_rfl) (by kernel_rfl) (fun _ _ _ h => h) (Or.inl ⟨by kernel_rfl, fun u hSu => ?_⟩) S0 ?_
      · obtain ⟨z0, z1, z2, z3⟩ := hSu; go_simp
      simp only [Act.put, List.getElem_toArray, List.getElem_cons_succ, List.getElem_cons_zero, List.setIfInBounds_toArray, List.set_cons_zero, List.set_cons_succ]
      refine wpAnyH_take (i := 10) (v := .bool false) rfl (by kernel_rfl) (by kernel_rfl) (by kernel_rfl) (fun _ _ _ h => h) (Or.inl ⟨by kernel_rfl, fun u hSu => ?_⟩) S0 ?_
      · obtain ⟨z0, z1, z2, z3⟩ := hSu; go_simp
      simp only [Act.put, List.getElem_toArray, List.getElem_cons_succ, List.getElem_cons_zero, List.setIfInBounds_toArray, List.set_cons_zero, List.set_cons_succ]
      refine wpAnyH_done (by kernel_rfl) ?_ _
      go_wp2
      go_roundw
      case rel => exact ⟨j + 1, by go_num, by omega, hid (bdrew HW.out)⟩
      case measure => simp [intOf]; omega
    · obtain rfl : j = R.length := by omega
      have e5 : decide ((R.length : Int) < (R.length : Int)) = false := by simp
      go_wp2
      go_ret
      exact ⟨rfl, HW.out⟩

/-- The same bodies. -/
theorem rsame_any (a b : Option Addr) (ca cb : Nat) (R : List (List Int)) (w : World) (ha : BS w a R) (hb : BS w b R) (hm : R.length ≤ 1000000000000) :
    Calls Try.prog 14 #[.slice a R.length ca, .slice b R.length cb] w fun e w' => e = .returned (.bool true) ∧ Below w.heap.size w w' := by
  have HA := hid ha
  have HB := hid hb
  clear ha hb
  go_enter Try.func14, Try.ntmps14
  go_wp2_with (go_at_call 23; refine (begins_any a b ca cb R R 0 w HA.out HB.out (Nat.le_refl _) (Nat.zero_le _) (fun _ _ h => h) hm).mono ?_; rintro e w1 ⟨rfl, hb1⟩; have HB1 := hid hb1; clear hb1)
  go_ret
  exact ⟨rfl, HB1.out⟩
end
end Go.Proofs.Ytegikicpffoglaa
