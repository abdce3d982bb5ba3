/- DiskSure: the walk. -/
import Derived.Test.YtocglenkdjiknaaDkSureE
import Derived.Test.YtocglenkdjiknaaDkArg
set_option linter.unusedVariables false
set_option linter.unusedSimpArgs false
namespace Go.Proofs.Ytocglenkdjiknaa
open Go.RowKit Go.Sort Go.Maps

/-- A row of the slice of slices, its bytes' block is old. -/
theorem src_wb {w wr : World} {R : List (List Int)} {g off k ci : Nat} {ai : Option Addr} {B : List Int} (h : RSrc w (some ⟨g, off, none⟩) R.length R) (hk : k < R.length) (hB : B = R[k]?.getD []) (hq : KP w wr (fun j => j < w.heap.size)) (hc : wr.cell? ⟨g, off + k, none⟩ = some (.slice ai B.length ci)) (hp : 0 < B.length) {ad : Addr} (e : ai = some ad) : ad.block < w.heap.size := by
  obtain ⟨g', off', e', hall⟩ := h.2 (by omega)
  cases e'
  obtain ⟨aj, cj, c1, s1, _⟩ := hall k hk
  have c2 := ((kp_below hq).cell (cell_block c1)).trans c1
  rw [hc, ← hB] at c2
  have ea : ai = aj := by simpa using congrArg (fun v => match v with | some (Value.slice a _ _) => a | _ => none) c2
  rw [← ea, ← hB] at s1
  exact src_block s1 ad hp e
theorem src_cell {w wr w2 : World} {R : List (List Int)} {g off k ci : Nat} {ai : Option Addr} {B : List Int} (h : RSrc w (some ⟨g, off, none⟩) R.length R) (hk : k < R.length) (hB : B = R[k]?.getD []) (hq : KP w wr (fun j => j < w.heap.size)) (hc : wr.cell? ⟨g, off + k, none⟩ = some (.slice ai B.length ci)) (h2 : KP w w2 (fun j => j < w.heap.size)) : w2.cell? ⟨g, off + k, none⟩ = some (.slice ai B.length ci) := by
  obtain ⟨g', off', e', hall⟩ := h.2 (by omega)
  cases e'
  obtain ⟨aj, cj, c1, s1, _⟩ := hall k hk
  have c2 := ((kp_below hq).cell (cell_block c1)).trans c1
  rw [hc] at c2
  rw [c2, ← c1]
  exact (kp_below h2).cell (cell_block c1)
theorem src_kp2 {w wr w2 : World} {R : List (List Int)} {g off k ci : Nat} {ai : Option Addr} {B : List Int} (h : RSrc w (some ⟨g, off, none⟩) R.length R) (hk : k < R.length) (hB : B = R[k]?.getD []) (hq : KP w wr (fun j => j < w.heap.size)) (hc : wr.cell? ⟨g, off + k, none⟩ = some (.slice ai B.length ci)) (h2 : KP w w2 (fun j => j < w.heap.size)) (_ : Src wr ai B.length B) : Src w2 ai B.length B := by
  obtain ⟨g', off', e', hall⟩ := h.2 (by omega)
  cases e'
  obtain ⟨aj, cj, c1, s1, _⟩ := hall k hk
  have c2 := ((kp_below hq).cell (cell_block c1)).trans c1
  rw [hc, ← hB] at c2
  have ea : ai = aj := by simpa using congrArg (fun v => match v with | some (Value.slice a _ _) => a | _ => none) c2
  rw [← ea, ← hB] at s1
  exact s1.below (kp_below h2)

theorem se3n (L : List Int) (R : List (List Int)) (s n p q : Nat) : cutD (su1 L s) (n : Int) (p : Int) (q : Int) = (sD L R s n p q 0, 0) := by
  rw [se3 L R s n p q (by omega) (by omega) (by omega)]
  simp
theorem sA_len (L : List Int) (R : List (List Int)) (n k : Nat) (h : ∀ j, j < k → (R[j]?.getD []).length ≤ 1000) : (sA L R n k).length ≤ L.length + k * 1000 := by
  unfold sA
  split
  · rw [List.length_append]
    exact Nat.add_le_add_left (tk_len h) _
  · rename_i hk
    rw [List.length_append]
    have h1 := tk_len (R := R) (k := n + 1) (fun j hj => h j (by omega))
    have h2 : (n + 1) * 1000 ≤ k * 1000 := Nat.mul_le_mul_right _ (by omega)
    exact Nat.add_le_add_left (Nat.le_trans h1 h2) _
theorem str_cut (A X : List Int) (h : A.take X.length = X) : (strOfNums A).extract 0 X.length = strOfNums X := by
  apply ByteArray.ext
  rw [← h]
  simp only [strOfNums, ByteArray.data_extract]
  rw [List.map_take]
  simp

set_option maxRecDepth 100000 in
set_option maxHeartbeats 8000000 in
theorem sure_walk0 (a0 a2 : Option Addr) (cap0 cap2 : Nat) (L0 : List Int) (R : List (List Int)) (sure : Bool) (n p q : Int) (w : World) (s0 : Src w a0 L0.length L0) (b0 : Bts L0) (c0 : L0.length ≤ cap0 ∧ cap0 ≤ maxLen) (z0 : a0 = none → cap0 = 0) (s2 : RSrc w a2 R.length R) (b2 : ∀ B ∈ R, Bts B) (hn : n ≤ 9223372036854775807) (hp : p ≤ 9223372036854775807) (hq : q ≤ 9223372036854775807) :
    Calls Try.prog 4 #[.slice a0 L0.length cap0, .bool sure, .slice a2 R.length cap2, .int .i64 n, .int .i64 p, .int .i64 q] w fun e w' => e = .returned (.bool true) ∧ Below w.heap.size w w' := by
  have HS0 := hid s0
  have HL0 := hid b0
  have HB0 := hid c0
  have HZ0 := hid z0
  have HS2 := hid s2
  have HL2 := hid b2
  clear s0 b0 c0 z0 s2 b2
  by_cases hc : 1000 < L0.length
  · have e1 : decide ((1000 : Int) < (L0.length : Int)) = true := decide_eq_true (by omega)
    go_enter Try.func4, Try.ntmps4
    go_wp2_with (go_at_call 8; refine (awake_any _).mono ?_; rintro e w0 ⟨rfl, hb0⟩; have HB00 := hid hb0; clear hb0)
    go_ret
    exact ⟨rfl, HB00.out⟩
  have f0 : decide ((1000 : Int) < (L0.length : Int)) = false := decide_eq_false (by omega)
  have g0 : ¬ 1000 < L0.length := hc
  clear hc
  by_cases hc : 20 < R.length
  · have e1 : decide ((20 : Int) < (R.length : Int)) = true := decide_eq_true (by omega)
    go_enter Try.func4, Try.ntmps4
    go_wp2_with (go_at_call 8; refine (awake_any _).mono ?_; rintro e w0 ⟨rfl, hb0⟩; have HB00 := hid hb0; clear hb0)
    go_ret
    exact ⟨rfl, HB00.out⟩
  have f1 : decide ((20 : Int) < (R.length : Int)) = false := decide_eq_false (by omega)
  have g1 : ¬ 20 < R.length := hc
  clear hc
  by_cases hc : n < 0
  · have e1 : decide (n < 0) = true := decide_eq_true (by omega)
    go_enter Try.func4, Try.ntmps4
    go_wp2_with (go_at_call 8; refine (awake_any _).mono ?_; rintro e w0 ⟨rfl, hb0⟩; have HB00 := hid hb0; clear hb0)
    go_ret
    exact ⟨rfl, HB00.out⟩
  have f2 : decide (n < 0) = false := decide_eq_false (by omega)
  have g2 : ¬ n < 0 := hc
  clear hc
  by_cases hc : p < 0
  · have e1 : decide (p < 0) = true := decide_eq_true (by omega)
    go_enter Try.func4, Try.ntmps4
    go_wp2_with (go_at_call 8; refine (awake_any _).mono ?_; rintro e w0 ⟨rfl, hb0⟩; have HB00 := hid hb0; clear hb0)
    go_ret
    exact ⟨rfl, HB00.out⟩
  have f3 : decide (p < 0) = false := decide_eq_false (by omega)
  have g3 : ¬ p < 0 := hc
  clear hc
  by_cases hc : q < 0
  · have e1 : decide (q < 0) = true := decide_eq_true (by omega)
    go_enter Try.func4, Try.ntmps4
    go_wp2_with (go_at_call 8; refine (awake_any _).mono ?_; rintro e w0 ⟨rfl, hb0⟩; have HB00 := hid hb0; clear hb0)
    go_ret
    exact ⟨rfl, HB00.out⟩
  have f4 : decide (q < 0) = false := decide_eq_false (by omega)
  have g4 : ¬ q < 0 := hc
  clear hc
  obtain ⟨nn, rfl⟩ : ∃ k : Nat, n = (k : Int) := ⟨n.toNat, by omega⟩
  obtain ⟨pp, rfl⟩ : ∃ k : Nat, p = (k : Int) := ⟨p.toNat, by omega⟩
  obtain ⟨qq, rfl⟩ : ∃ k : Nat, q = (k : Int) := ⟨q.toNat, by omega⟩
  have hl0' : L0.length ≤ 1000 := by omega
  have hl2' : R.length ≤ 20 := by omega
  cases sure with
  | true =>
    have hmxo : Try.prog.follows .mixedOrders = true := by kernel_rfl
    go_enter Try.func4, Try.ntmps4
    have hq_ := hq
    clear hq
    go_wp2_with (first
        | (go_at_call 15; have hq := K3.out; refine (cut_any _ (nn : Int) (pp : Int) (qq : Int) _ _ _ hq.1 hn hp hq_).mono ?_; rintro e w4 ⟨x, rfl, hx, q1, q2⟩; rw [se3n L0 R] at hx q1; subst hx; have K4 := hid (And.intro q1 (hq.2.trans q2)); have hS := HS0.out.below (kp_below K4.out.2); have cb := conv_src hS cap0; clear hq q1 q2 hS)
        | (go_at_call 14; have hq := K2.out; refine (sync_any _ [97] _ _ _ hq.1 (by simp)).mono ?_; rintro e w3 ⟨x, rfl, hx, q1, q2⟩; rw [se2] at hx q1; subst hx; have K3 := hid (And.intro q1 (hq.2.trans q2)); clear hq q1 q2)
        | (go_at_call 13; have hq := K1.out; refine (append_any _ [97] L0 a0 cap0 _ _ _ hq.1 (by simp) (src_kp hq.2 (fun j hj => hj) HS0.out (fun hp ad e => src_block HS0.out ad hp e)) (fun hp ad e => src_block HS0.out ad hp e) HZ0.out HB0.out HL0.out).mono ?_; rintro e w2 ⟨x, rfl, hx, q1, q2⟩; rw [se1 _ hl0'] at hx q1; subst hx; have K2 := hid (And.intro q1 (hq.2.trans q2)); clear hq q1 q2)
        | (go_at_call 9; refine (new_any 1000000 (by omega) _).mono ?_; rintro e w1 ⟨d, rfl, hb1, q1⟩; have K1 : Hid (DK w1 d su0 (fun j => j < w.heap.size) ∧ KP w w1 (fun j => j < w.heap.size)) := hid (And.intro (q1.less (fun j hj => Nat.lt_of_lt_of_le hj HB00.out.size)) ((KP.below HB00.out).trans (KP.below hb1))); clear hb1 q1)
        | (go_at_call 8; refine (awake_any _).mono ?_; rintro e w0 ⟨rfl, hb0⟩; have HB00 := hid hb0; clear hb0))
    go_loopw [19, 20] (fun va vi wr => ∃ k : Nat, vi = .int .i64 (k : Int) ∧ k ≤ R.length ∧ va = .string (strOfNums (sA L0 R nn k)) ∧ Hid (∀ j, j < k → (R[j]?.getD []).length ≤ 1000) ∧ Hid (DK wr d (sD L0 R (L0.length) nn pp qq k) (fun j => j < w.heap.size) ∧ KP w wr (fun j => j < w.heap.size))) (fun _ vi _ => R.length - (intOf vi).toNat)
    case atStart =>
      refine ⟨0, rfl, Nat.zero_le _, ?_, hid (fun j hj => by omega), K4⟩
      simp [sA, tk]
    case round =>
      obtain ⟨k, rfl, hk, rfl, HR, HK⟩ := hrel
      by_cases hlt : k < R.length
      · obtain ⟨gR, oR, eR, hcR⟩ := (HS2.out.below (kp_below HK.out.2)).2 (by omega)
        subst eR
        obtain ⟨ai, ci, cR, sR, lR, mR, zR⟩ := hcR k hlt
        have bR : Bts (R[k]?.getD []) := by
          have hm : R[k]?.getD [] ∈ R := by
            rw [List.getElem?_eq_getElem hlt]
            exact List.getElem_mem hlt
          exact HL2.out _ hm
        have e5 : decide ((k : Int) < (R.length : Int)) = true := decide_eq_true (by omega)
        obtain ⟨B, hBk⟩ : ∃ B, B = R[k]?.getD [] := ⟨_, rfl⟩
        have HBk := hid hBk
        rw [← hBk] at cR sR lR zR bR
        have SR := hid (And.intro sR (And.intro (And.intro lR mR) (And.intro (fun e => (zR e).2) bR)))
        clear hBk sR lR mR zR bR hcR
        by_cases hb1 : 1000 < B.length
        · have e6 : decide ((1000 : Int) < (B.length : Int)) = true := decide_eq_true (by omega)
          have K9 := hid HK.out.2
          go_wp2
          go_ret
          exact ⟨rfl, kp_below K9.out⟩
        · have e6 : decide ((1000 : Int) < (B.length : Int)) = false := decide_eq_false (by omega)
          have hss : ¬ 9223372036854775807 < (strOfNums (sA L0 R nn k)).size + (strOfNums B).size := by
            have h1 := sA_len L0 R nn k HR.out
            rw [strOfNums_size, strOfNums_size]
            omega
          have hstep := hid (se4 L0 R (L0.length) nn pp qq k hlt hl2' hl0' (fun j hj => by
            by_cases hjk : j = k
            · rw [hjk, ← HBk.out]; omega
            · exact HR.out j (by omega)))
          have HRn : Hid (∀ j, j < k + 1 → (R[j]?.getD []).length ≤ 1000) := hid (fun j hj => by
            by_cases hjk : j = k
            · rw [hjk, ← HBk.out]; omega
            · exact HR.out j (by omega))
          have hall := hid (sA_succ L0 R nn k hlt)
          have o1 := hid (sD_off L0 R (L0.length) nn pp qq k)
          have o2 := hid (sD_off L0 R (L0.length) nn pp qq (k + 1))
          rcases Nat.lt_trichotomy k nn with hkn | hkn | hkn
          · have E1 : Hid ((sD L0 R (L0.length) nn pp qq k).off = false) := hid (by rw [o1.out]; simp; omega)
            have E2 : Hid ((sD L0 R (L0.length) nn pp qq (k + 1)).off = false) := hid (by rw [o2.out]; simp; omega)
            go_wp2_with (first
                | (go_at_call 16; have hq := KA.out; refine (off_any _ _ _ _ hq.1).mono ?_; rintro e w3 ⟨rfl, rfl⟩; rw [E2.out]; clear hq)
                | (go_at_call 13; have hq := HK.out; have sr := SR.out; refine (append_any _ [97] B ai ci _ _ _ hq.1 (by simp) sr.1 (fun hp ad e => src_wb HS2.out hlt HBk.out hq.2 cR hp e) sr.2.2.1 sr.2.1 sr.2.2.2).mono ?_; rintro e w2 ⟨x, rfl, hx, q1, q2⟩; rw [HBk.out, hstep.out] at hx q1; rw [if_pos hkn] at hx; subst hx; have KA := hid (And.intro q1 (hq.2.trans q2)); have cR2 := src_cell HS2.out hlt HBk.out hq.2 cR (hq.2.trans q2); have cw := conv_src (src_kp2 HS2.out hlt HBk.out hq.2 cR (hq.2.trans q2) sr.1) ci; clear hq q1 q2 sr)
                | (go_at_call 16; have hq := HK.out; refine (off_any _ _ _ _ hq.1).mono ?_; rintro e w1 ⟨rfl, rfl⟩; rw [E1.out]; clear hq))
            go_roundw
            case rel => exact ⟨k + 1, by go_num, by omega, by rw [hall.out, if_neg (by omega), ← HBk.out, str_app], HRn, KA⟩
            case measure => simp [intOf]; omega
          · have E1 : Hid ((sD L0 R (L0.length) nn pp qq k).off = false) := hid (by rw [o1.out]; simp; omega)
            have E2 : Hid ((sD L0 R (L0.length) nn pp qq (k + 1)).off = true) := hid (by rw [o2.out]; simp; omega)
            have hif : ¬ k < nn := by omega
            have hif2 : ¬ nn < k := by omega
            clear hkn
            go_wp2_with (first
                | (go_at_call 16; have hq := KA.out; refine (off_any _ _ _ _ hq.1).mono ?_; rintro e w3 ⟨rfl, rfl⟩; rw [E2.out]; clear hq)
                | (go_at_call 13; have hq := HK.out; have sr := SR.out; refine (append_any _ [97] B ai ci _ _ _ hq.1 (by simp) sr.1 (fun hp ad e => src_wb HS2.out hlt HBk.out hq.2 cR hp e) sr.2.2.1 sr.2.1 sr.2.2.2).mono ?_; rintro e w2 ⟨x, rfl, hx, q1, q2⟩; rw [HBk.out, hstep.out] at hx q1; rw [if_neg (by omega)] at hx; subst hx; have KA := hid (And.intro q1 (hq.2.trans q2)); have cR2 := src_cell HS2.out hlt HBk.out hq.2 cR (hq.2.trans q2); have cw := conv_src (src_kp2 HS2.out hlt HBk.out hq.2 cR (hq.2.trans q2) sr.1) ci; clear hq q1 q2 sr)
                | (go_at_call 16; have hq := HK.out; refine (off_any _ _ _ _ hq.1).mono ?_; rintro e w1 ⟨rfl, rfl⟩; rw [E1.out]; clear hq))
            go_roundw
            case rel => exact ⟨k + 1, by go_num, by omega, by rw [hall.out, if_neg (by omega), ← HBk.out, str_app], HRn, KA⟩
            case measure => simp [intOf]; omega
          · have E1 : Hid ((sD L0 R (L0.length) nn pp qq k).off = true) := hid (by rw [o1.out]; simp; omega)
            have E2 : Hid ((sD L0 R (L0.length) nn pp qq (k + 1)).off = true) := hid (by rw [o2.out]; simp; omega)
            have hif : ¬ k < nn := by omega
            have hif2 : nn < k := by omega
            clear hkn
            go_wp2_with (first
                | (go_at_call 16; have hq := KA.out; refine (off_any _ _ _ _ hq.1).mono ?_; rintro e w3 ⟨rfl, rfl⟩; rw [E2.out]; clear hq)
                | (go_at_call 13; have hq := HK.out; have sr := SR.out; refine (append_any _ [97] B ai ci _ _ _ hq.1 (by simp) sr.1 (fun hp ad e => src_wb HS2.out hlt HBk.out hq.2 cR hp e) sr.2.2.1 sr.2.1 sr.2.2.2).mono ?_; rintro e w2 ⟨x, rfl, hx, q1, q2⟩; rw [HBk.out, hstep.out] at hx q1; rw [if_neg (by omega)] at hx; subst hx; have KA := hid (And.intro q1 (hq.2.trans q2)); have cR2 := src_cell HS2.out hlt HBk.out hq.2 cR (hq.2.trans q2); have cw := conv_src (src_kp2 HS2.out hlt HBk.out hq.2 cR (hq.2.trans q2) sr.1) ci; clear hq q1 q2 sr)
                | (go_at_call 16; have hq := HK.out; refine (off_any _ _ _ _ hq.1).mono ?_; rintro e w1 ⟨rfl, rfl⟩; rw [E1.out]; clear hq))
            go_roundw
            case rel => exact ⟨k + 1, by go_num, by omega, by rw [hall.out, if_pos (by omega)], HRn, KA⟩
            case measure => simp [intOf]; omega
      · obtain rfl : k = R.length := by omega
        have e5 : decide ((R.length : Int) < (R.length : Int)) = false := by simp
        obtain ⟨p1, p2, p3, p4⟩ := sF_pre L0 R (L0.length) nn pp qq R.length (by omega) (Nat.le_refl _)
        have hread := hid (sr L0 R (L0.length) nn pp qq R.length)
        have o1 := hid (sD_off L0 R (L0.length) nn pp qq R.length)
        obtain ⟨X, hX⟩ : ∃ X, X = sF L0 R (L0.length) nn pp qq R.length := ⟨_, rfl⟩
        obtain ⟨AL, hAL⟩ : ∃ AL, AL = sA L0 R nn R.length := ⟨_, rfl⟩
        rw [← hX] at hread p1 p2 p3 p4
        rw [← hAL] at p2 p3 p4 ⊢
        have hsz := strOfNums_size AL
        have hex := str_cut AL X p3
        have t1 : decide ((X.length : Int) < ((L0.length : Nat) : Int)) = false := decide_eq_false (by omega)
        have t2 : decide ((AL.length : Int) < (X.length : Int)) = false := decide_eq_false (by omega)
        have t3 : ¬ AL.length < X.length := by omega
        have HP := hid (And.intro p3 (And.intro p2 p4))
        clear hX hAL p3
        by_cases hnr : nn < R.length
        · have E1 : Hid ((sD L0 R (L0.length) nn pp qq R.length).off = true) := hid (by rw [o1.out]; simp; omega)
          have t4 : decide ((nn : Int) < (R.length : Int)) = true := decide_eq_true (by omega)
          go_wp2_with (first
              | (go_at_call 18; have hq := KO.out; refine (read_any _ [97] _ _ _ hq.1 (by simp)).mono ?_; rintro e w3 ⟨ra, rc, x, rfl, hx, hr, hb⟩; rw [hread.out] at hx hr ⊢; subst hx; have KR := hid (hq.2.trans (KP.below hb)); have S3 : (convert 31 9 (.slice ra X.length rc)).run Try.prog w3.drew = .ok (.string (strOfNums X)) w3.drew := conv_src (w := w3.drew) (own_src_at hr rfl) rc; clear hq hb hr)
              | (go_at_call 17; have hq := HK.out; refine (on_any _ _ _ _ hq.1).mono ?_; rintro e w2 ⟨rfl, q1, q2⟩; have KO := hid (And.intro q1 (hq.2.trans q2)); clear hq q1 q2)
              | (go_at_call 16; have hq := HK.out; refine (off_any _ _ _ _ hq.1).mono ?_; rintro e w1 ⟨rfl, rfl⟩; rw [E1.out]; clear hq))
          refine wp_region_held_drew (S := fun w' => (convert 31 9 (.slice ra X.length rc)).run Try.prog w' = .ok (.string (strOfNums X)) w') hmxo S3 ?_
          intro _
          refine wpAnyH_take (i := 0) (v := .int .i64 0) rfl (by kernel_rfl) (by kernel_rfl) (by kernel_rfl) (fun _ _ _ h => h) (Or.inl ⟨by kernel_rfl, fun w hSw => ?_⟩) S3 ?_
          · have e1 := hSw; go_simp
          simp only [Act.put, List.getElem_toArray, List.getElem_cons_succ, List.getElem_cons_zero, List.setIfInBounds_toArray, List.set_cons_zero, List.set_cons_succ]
          refine wpAnyH_take (i := 1) (v := .bool false) rfl (by kernel_rfl) (by kernel_rfl) (by kernel_rfl) (fun _ _ _ h => h) (Or.inl ⟨by kernel_rfl, fun w hSw => ?_⟩) S3 ?_
          · have e1 := hSw; go_simp
          simp only [Act.put, List.getElem_toArray, List.getElem_cons_succ, List.getElem_cons_zero, List.setIfInBounds_toArray, List.set_cons_zero, List.set_cons_succ]
          refine wpAnyH_take (i := 2) (v := .bool false) rfl (by kernel_rfl) (by kernel_rfl) (by kernel_rfl) (fun _ _ _ h => h) (Or.inl ⟨by kernel_rfl, fun w hSw => ?_⟩) S3 ?_
          · have e1 := hSw; go_simp
          simp only [Act.put, List.getElem_toArray, List.getElem_cons_succ, List.getElem_cons_zero, List.setIfInBounds_toArray, List.set_cons_zero, List.set_cons_succ]
          refine wpAnyH_take (i := 3) (v := .slice ra X.length rc) rfl (by kernel_rfl) (by kernel_rfl) (by kernel_rfl) (fun _ _ _ h => h) (Or.inl ⟨by kernel_rfl, fun w hSw => ?_⟩) S3 ?_
          · have e1 := hSw; go_simp
          simp only [Act.put, List.getElem_toArray, List.getElem_cons_succ, List.getElem_cons_zero, List.setIfInBounds_toArray, List.set_cons_zero, List.set_cons_succ]
          refine wpAnyH_take (i := 4) (v := .int .i64 (X.length : Int)) rfl (by kernel_rfl) (by kernel_rfl) (by kernel_rfl) (fun _ _ _ h => h) (Or.inl ⟨by kernel_rfl, fun w hSw => ?_⟩) S3 ?_
          · have e1 := hSw; go_simp
          simp only [Act.put, List.getElem_toArray, List.getElem_cons_succ, List.getElem_cons_zero, List.setIfInBounds_toArray, List.set_cons_zero, List.set_cons_succ]
          refine wpAnyH_take (i := 5) (v := .int .i64 ((L0.length : Nat) : Int)) rfl (by kernel_rfl) (by kernel_rfl) (by kernel_rfl) (fun _ _ _ h => h) (Or.inl ⟨by kernel_rfl, fun w hSw => ?_⟩) S3 ?_
          · have e1 := hSw; go_simp
          simp only [Act.put, List.getElem_toArray, List.getElem_cons_succ, List.getElem_cons_zero, List.setIfInBounds_toArray, List.set_cons_zero, List.set_cons_succ]
          refine wpAnyH_take (i := 6) (v := .bool false) rfl (by kernel_rfl) (by kernel_rfl) (by kernel_rfl) (fun _ _ _ h => h) (Or.inl ⟨by kernel_rfl, fun w hSw => ?_⟩) S3 ?_
          · have e1 := hSw; go_simp
          simp only [Act.put, List.getElem_toArray, List.getElem_cons_succ, List.getElem_cons_zero, List.setIfInBounds_toArray, List.set_cons_zero, List.set_cons_succ]
          refine wpAnyH_take (i := 7) (v := .bool false) rfl (by kernel_rfl) (by kernel_rfl) (by kernel_rfl) (fun _ _ _ h => h) (Or.inl ⟨by kernel_rfl, fun w hSw => ?_⟩) S3 ?_
          · have e1 := hSw; go_simp
          simp only [Act.put, List.getElem_toArray, List.getElem_cons_succ, List.getElem_cons_zero, List.setIfInBounds_toArray, List.set_cons_zero, List.set_cons_succ]
          refine wpAnyH_take (i := 8) (v := .bool false) rfl (by kernel_rfl) (by kernel_rfl) (by kernel_rfl) (fun _ _ _ h => h) (Or.inl ⟨by kernel_rfl, fun w hSw => ?_⟩) S3 ?_
          · have e1 := hSw; go_simp
          simp only [Act.put, List.getElem_toArray, List.getElem_cons_succ, List.getElem_cons_zero, List.setIfInBounds_toArray, List.set_cons_zero, List.set_cons_succ]
          refine wpAnyH_take (i := 9) (v := .slice ra X.length rc) rfl (by kernel_rfl) (by kernel_rfl) (by kernel_rfl) (fun _ _ _ h => h) (Or.inl ⟨by kernel_rfl, fun w hSw => ?_⟩) S3 ?_
          · have e1 := hSw; go_simp
          simp only [Act.put, List.getElem_toArray, List.getElem_cons_succ, List.getElem_cons_zero, List.setIfInBounds_toArray, List.set_cons_zero, List.set_cons_succ]
          refine wpAnyH_take (i := 10) (v := .int .i64 (X.length : Int)) rfl (by kernel_rfl) (by kernel_rfl) (by kernel_rfl) (fun _ _ _ h => h) (Or.inl ⟨by kernel_rfl, fun w hSw => ?_⟩) S3 ?_
          · have e1 := hSw; go_simp
          simp only [Act.put, List.getElem_toArray, List.getElem_cons_succ, List.getElem_cons_zero, List.setIfInBounds_toArray, List.set_cons_zero, List.set_cons_succ]
          refine wpAnyH_take (i := 11) (v := .string (strOfNums AL)) rfl (by kernel_rfl) (by kernel_rfl) (by kernel_rfl) (fun _ _ _ h => h) (Or.inl ⟨by kernel_rfl, fun w hSw => ?_⟩) S3 ?_
          · have e1 := hSw; go_simp
          simp only [Act.put, List.getElem_toArray, List.getElem_cons_succ, List.getElem_cons_zero, List.setIfInBounds_toArray, List.set_cons_zero, List.set_cons_succ]
          refine wpAnyH_take (i := 12) (v := .int .i64 (AL.length : Int)) rfl (by kernel_rfl) (by kernel_rfl) (by kernel_rfl) (fun _ _ _ h => h) (Or.inl ⟨by kernel_rfl, fun w hSw => ?_⟩) S3 ?_
          · have e1 := hSw; go_simp
          simp only [Act.put, List.getElem_toArray, List.getElem_cons_succ, List.getElem_cons_zero, List.setIfInBounds_toArray, List.set_cons_zero, List.set_cons_succ]
          refine wpAnyH_take (i := 13) (v := .bool false) rfl (by kernel_rfl) (by kernel_rfl) (by kernel_rfl) (fun _ _ _ h => h) (Or.inl ⟨by kernel_rfl, fun w hSw => ?_⟩) S3 ?_
          · have e1 := hSw; go_simp
          simp only [Act.put, List.getElem_toArray, List.getElem_cons_succ, List.getElem_cons_zero, List.setIfInBounds_toArray, List.set_cons_zero, List.set_cons_succ]
          refine wpAnyH_take (i := 14) (v := .bool false) rfl (by kernel_rfl) (by kernel_rfl) (by kernel_rfl) (fun _ _ _ h => h) (Or.inl ⟨by kernel_rfl, fun w hSw => ?_⟩) S3 ?_
          · have e1 := hSw; go_simp
          simp only [Act.put, List.getElem_toArray, List.getElem_cons_succ, List.getElem_cons_zero, List.setIfInBounds_toArray, List.set_cons_zero, List.set_cons_succ]
          refine wpAnyH_take (i := 15) (v := .bool false) rfl (by kernel_rfl) (by kernel_rfl) (by kernel_rfl) (fun _ _ _ h => h) (Or.inl ⟨by kernel_rfl, fun w hSw => ?_⟩) S3 ?_
          · have e1 := hSw; go_simp
          simp only [Act.put, List.getElem_toArray, List.getElem_cons_succ, List.getElem_cons_zero, List.setIfInBounds_toArray, List.set_cons_zero, List.set_cons_succ]
          refine wpAnyH_take (i := 16) (v := .slice ra X.length rc) rfl (by kernel_rfl) (by kernel_rfl) (by kernel_rfl) (fun _ _ _ h => h) (Or.inl ⟨by kernel_rfl, fun w hSw => ?_⟩) S3 ?_
          · have e1 := hSw; go_simp
          simp only [Act.put, List.getElem_toArray, List.getElem_cons_succ, List.getElem_cons_zero, List.setIfInBounds_toArray, List.set_cons_zero, List.set_cons_succ]
          refine wpAnyH_take (i := 17) (v := .string (strOfNums X)) rfl (by kernel_rfl) (by kernel_rfl) (by kernel_rfl) (fun _ _ _ h => h) (Or.inl ⟨by kernel_rfl, fun w hSw => ?_⟩) S3 ?_
          · have e1 := hSw; go_simp
          simp only [Act.put, List.getElem_toArray, List.getElem_cons_succ, List.getElem_cons_zero, List.setIfInBounds_toArray, List.set_cons_zero, List.set_cons_succ]
          refine wpAnyH_take (i := 18) (v := .string (strOfNums AL)) rfl (by kernel_rfl) (by kernel_rfl) (by kernel_rfl) (fun _ _ _ h => h) (Or.inl ⟨by kernel_rfl, fun w hSw => ?_⟩) S3 ?_
          · have e1 := hSw; go_simp
          simp only [Act.put, List.getElem_toArray, List.getElem_cons_succ, List.getElem_cons_zero, List.setIfInBounds_toArray, List.set_cons_zero, List.set_cons_succ]
          refine wpAnyH_take (i := 19) (v := .slice ra X.length rc) rfl (by kernel_rfl) (by kernel_rfl) (by kernel_rfl) (fun _ _ _ h => h) (Or.inl ⟨by kernel_rfl, fun w hSw => ?_⟩) S3 ?_
          · have e1 := hSw; go_simp
          simp only [Act.put, List.getElem_toArray, List.getElem_cons_succ, List.getElem_cons_zero, List.setIfInBounds_toArray, List.set_cons_zero, List.set_cons_succ]
          refine wpAnyH_take (i := 20) (v := .int .i64 (X.length : Int)) rfl (by kernel_rfl) (by kernel_rfl) (by kernel_rfl) (fun _ _ _ h => h) (Or.inl ⟨by kernel_rfl, fun w hSw => ?_⟩) S3 ?_
          · have e1 := hSw; go_simp
          simp only [Act.put, List.getElem_toArray, List.getElem_cons_succ, List.getElem_cons_zero, List.setIfInBounds_toArray, List.set_cons_zero, List.set_cons_succ]
          refine wpAnyH_take (i := 21) (v := .string (strOfNums X)) rfl (by kernel_rfl) (by kernel_rfl) (by kernel_rfl) (fun _ _ _ h => h) (Or.inl ⟨by kernel_rfl, fun w hSw => ?_⟩) S3 ?_
          · have e1 := hSw; go_simp
          simp only [Act.put, List.getElem_toArray, List.getElem_cons_succ, List.getElem_cons_zero, List.setIfInBounds_toArray, List.set_cons_zero, List.set_cons_succ]
          refine wpAnyH_take (i := 22) (v := .bool false) rfl (by kernel_rfl) (by kernel_rfl) (by kernel_rfl) (fun _ _ _ h => h) (Or.inl ⟨by kernel_rfl, fun w hSw => ?_⟩) S3 ?_
          · have e1 := hSw; go_simp
          simp only [Act.put, List.getElem_toArray, List.getElem_cons_succ, List.getElem_cons_zero, List.setIfInBounds_toArray, List.set_cons_zero, List.set_cons_succ]
          refine wpAnyH_take (i := 23) (v := .bool false) rfl (by kernel_rfl) (by kernel_rfl) (by kernel_rfl) (fun _ _ _ h => h) (Or.inl ⟨by kernel_rfl, fun w hSw => ?_⟩) S3 ?_
          · have e1 := hSw; go_simp
          simp only [Act.put, List.getElem_toArray, List.getElem_cons_succ, List.getElem_cons_zero, List.setIfInBounds_toArray, List.set_cons_zero, List.set_cons_succ]
          refine wpAnyH_done (by kernel_rfl) ?_ _
          go_wp2
          go_ret
          exact ⟨by simp, kp_below (show KP w w3.drew _ from ⟨KR.out.size, KR.out.keep, KR.out.sm⟩)⟩
        · have E1 : Hid ((sD L0 R (L0.length) nn pp qq R.length).off = false) := hid (by rw [o1.out]; simp; omega)
          have t4 : decide ((nn : Int) < (R.length : Int)) = false := decide_eq_false (by omega)
          have t5 : X.length = AL.length := HP.out.2.2 (by omega)
          obtain rfl : X = AL := by
            have := HP.out.1
            rw [t5, List.take_of_length_le (Nat.le_refl _)] at this
            exact this.symm
          clear t5
          go_wp2_with (first
              | (go_at_call 18; have hq := KO.out; refine (read_any _ [97] _ _ _ hq.1 (by simp)).mono ?_; rintro e w3 ⟨ra, rc, x, rfl, hx, hr, hb⟩; rw [hread.out] at hx hr ⊢; subst hx; have KR := hid (hq.2.trans (KP.below hb)); have S3 : (convert 31 9 (.slice ra X.length rc)).run Try.prog w3.drew = .ok (.string (strOfNums X)) w3.drew := conv_src (w := w3.drew) (own_src_at hr rfl) rc; clear hq hb hr)
              | (go_at_call 17; have hq := HK.out; refine (on_any _ _ _ _ hq.1).mono ?_; rintro e w2 ⟨rfl, q1, q2⟩; have KO := hid (And.intro q1 (hq.2.trans q2)); clear hq q1 q2)
              | (go_at_call 16; have hq := HK.out; refine (off_any _ _ _ _ hq.1).mono ?_; rintro e w1 ⟨rfl, rfl⟩; rw [E1.out]; clear hq))
          refine wp_region_held_drew (S := fun w' => (convert 31 9 (.slice ra X.length rc)).run Try.prog w' = .ok (.string (strOfNums X)) w') hmxo S3 ?_
          intro _
          refine wpAnyH_take (i := 0) (v := .int .i64 0) rfl (by kernel_rfl) (by kernel_rfl) (by kernel_rfl) (fun _ _ _ h => h) (Or.inl ⟨by kernel_rfl, fun w hSw => ?_⟩) S3 ?_
          · have e1 := hSw; go_simp
          simp only [Act.put, List.getElem_toArray, List.getElem_cons_succ, List.getElem_cons_zero, List.setIfInBounds_toArray, List.set_cons_zero, List.set_cons_succ]
          refine wpAnyH_take (i := 1) (v := .bool false) rfl (by kernel_rfl) (by kernel_rfl) (by kernel_rfl) (fun _ _ _ h => h) (Or.inl ⟨by kernel_rfl, fun w hSw => ?_⟩) S3 ?_
          · have e1 := hSw; go_simp
          simp only [Act.put, List.getElem_toArray, List.getElem_cons_succ, List.getElem_cons_zero, List.setIfInBounds_toArray, List.set_cons_zero, List.set_cons_succ]
          refine wpAnyH_take (i := 2) (v := .bool false) rfl (by kernel_rfl) (by kernel_rfl) (by kernel_rfl) (fun _ _ _ h => h) (Or.inl ⟨by kernel_rfl, fun w hSw => ?_⟩) S3 ?_
          · have e1 := hSw; go_simp
          simp only [Act.put, List.getElem_toArray, List.getElem_cons_succ, List.getElem_cons_zero, List.setIfInBounds_toArray, List.set_cons_zero, List.set_cons_succ]
          refine wpAnyH_take (i := 3) (v := .slice ra X.length rc) rfl (by kernel_rfl) (by kernel_rfl) (by kernel_rfl) (fun _ _ _ h => h) (Or.inl ⟨by kernel_rfl, fun w hSw => ?_⟩) S3 ?_
          · have e1 := hSw; go_simp
          simp only [Act.put, List.getElem_toArray, List.getElem_cons_succ, List.getElem_cons_zero, List.setIfInBounds_toArray, List.set_cons_zero, List.set_cons_succ]
          refine wpAnyH_take (i := 4) (v := .int .i64 (X.length : Int)) rfl (by kernel_rfl) (by kernel_rfl) (by kernel_rfl) (fun _ _ _ h => h) (Or.inl ⟨by kernel_rfl, fun w hSw => ?_⟩) S3 ?_
          · have e1 := hSw; go_simp
          simp only [Act.put, List.getElem_toArray, List.getElem_cons_succ, List.getElem_cons_zero, List.setIfInBounds_toArray, List.set_cons_zero, List.set_cons_succ]
          refine wpAnyH_take (i := 5) (v := .int .i64 ((L0.length : Nat) : Int)) rfl (by kernel_rfl) (by kernel_rfl) (by kernel_rfl) (fun _ _ _ h => h) (Or.inl ⟨by kernel_rfl, fun w hSw => ?_⟩) S3 ?_
          · have e1 := hSw; go_simp
          simp only [Act.put, List.getElem_toArray, List.getElem_cons_succ, List.getElem_cons_zero, List.setIfInBounds_toArray, List.set_cons_zero, List.set_cons_succ]
          refine wpAnyH_take (i := 6) (v := .bool false) rfl (by kernel_rfl) (by kernel_rfl) (by kernel_rfl) (fun _ _ _ h => h) (Or.inl ⟨by kernel_rfl, fun w hSw => ?_⟩) S3 ?_
          · have e1 := hSw; go_simp
          simp only [Act.put, List.getElem_toArray, List.getElem_cons_succ, List.getElem_cons_zero, List.setIfInBounds_toArray, List.set_cons_zero, List.set_cons_succ]
          refine wpAnyH_take (i := 7) (v := .bool false) rfl (by kernel_rfl) (by kernel_rfl) (by kernel_rfl) (fun _ _ _ h => h) (Or.inl ⟨by kernel_rfl, fun w hSw => ?_⟩) S3 ?_
          · have e1 := hSw; go_simp
          simp only [Act.put, List.getElem_toArray, List.getElem_cons_succ, List.getElem_cons_zero, List.setIfInBounds_toArray, List.set_cons_zero, List.set_cons_succ]
          refine wpAnyH_take (i := 8) (v := .bool false) rfl (by kernel_rfl) (by kernel_rfl) (by kernel_rfl) (fun _ _ _ h => h) (Or.inl ⟨by kernel_rfl, fun w hSw => ?_⟩) S3 ?_
          · have e1 := hSw; go_simp
          simp only [Act.put, List.getElem_toArray, List.getElem_cons_succ, List.getElem_cons_zero, List.setIfInBounds_toArray, List.set_cons_zero, List.set_cons_succ]
          refine wpAnyH_take (i := 9) (v := .slice ra X.length rc) rfl (by kernel_rfl) (by kernel_rfl) (by kernel_rfl) (fun _ _ _ h => h) (Or.inl ⟨by kernel_rfl, fun w hSw => ?_⟩) S3 ?_
          · have e1 := hSw; go_simp
          simp only [Act.put, List.getElem_toArray, List.getElem_cons_succ, List.getElem_cons_zero, List.setIfInBounds_toArray, List.set_cons_zero, List.set_cons_succ]
          refine wpAnyH_take (i := 10) (v := .int .i64 (X.length : Int)) rfl (by kernel_rfl) (by kernel_rfl) (by kernel_rfl) (fun _ _ _ h => h) (Or.inl ⟨by kernel_rfl, fun w hSw => ?_⟩) S3 ?_
          · have e1 := hSw; go_simp
          simp only [Act.put, List.getElem_toArray, List.getElem_cons_succ, List.getElem_cons_zero, List.setIfInBounds_toArray, List.set_cons_zero, List.set_cons_succ]
          refine wpAnyH_take (i := 11) (v := .string (strOfNums X)) rfl (by kernel_rfl) (by kernel_rfl) (by kernel_rfl) (fun _ _ _ h => h) (Or.inl ⟨by kernel_rfl, fun w hSw => ?_⟩) S3 ?_
          · have e1 := hSw; go_simp
          simp only [Act.put, List.getElem_toArray, List.getElem_cons_succ, List.getElem_cons_zero, List.setIfInBounds_toArray, List.set_cons_zero, List.set_cons_succ]
          refine wpAnyH_take (i := 12) (v := .int .i64 (X.length : Int)) rfl (by kernel_rfl) (by kernel_rfl) (by kernel_rfl) (fun _ _ _ h => h) (Or.inl ⟨by kernel_rfl, fun w hSw => ?_⟩) S3 ?_
          · have e1 := hSw; go_simp
          simp only [Act.put, List.getElem_toArray, List.getElem_cons_succ, List.getElem_cons_zero, List.setIfInBounds_toArray, List.set_cons_zero, List.set_cons_succ]
          refine wpAnyH_take (i := 13) (v := .bool false) rfl (by kernel_rfl) (by kernel_rfl) (by kernel_rfl) (fun _ _ _ h => h) (Or.inl ⟨by kernel_rfl, fun w hSw => ?_⟩) S3 ?_
          · have e1 := hSw; go_simp
          simp only [Act.put, List.getElem_toArray, List.getElem_cons_succ, List.getElem_cons_zero, List.setIfInBounds_toArray, List.set_cons_zero, List.set_cons_succ]
          refine wpAnyH_take (i := 14) (v := .bool false) rfl (by kernel_rfl) (by kernel_rfl) (by kernel_rfl) (fun _ _ _ h => h) (Or.inl ⟨by kernel_rfl, fun w hSw => ?_⟩) S3 ?_
          · have e1 := hSw; go_simp
          simp only [Act.put, List.getElem_toArray, List.getElem_cons_succ, List.getElem_cons_zero, List.setIfInBounds_toArray, List.set_cons_zero, List.set_cons_succ]
          refine wpAnyH_take (i := 15) (v := .bool false) rfl (by kernel_rfl) (by kernel_rfl) (by kernel_rfl) (fun _ _ _ h => h) (Or.inl ⟨by kernel_rfl, fun w hSw => ?_⟩) S3 ?_
          · have e1 := hSw; go_simp
          simp only [Act.put, List.getElem_toArray, List.getElem_cons_succ, List.getElem_cons_zero, List.setIfInBounds_toArray, List.set_cons_zero, List.set_cons_succ]
          refine wpAnyH_take (i := 16) (v := .slice ra X.length rc) rfl (by kernel_rfl) (by kernel_rfl) (by kernel_rfl) (fun _ _ _ h => h) (Or.inl ⟨by kernel_rfl, fun w hSw => ?_⟩) S3 ?_
          · have e1 := hSw; go_simp
          simp only [Act.put, List.getElem_toArray, List.getElem_cons_succ, List.getElem_cons_zero, List.setIfInBounds_toArray, List.set_cons_zero, List.set_cons_succ]
          refine wpAnyH_take (i := 17) (v := .string (strOfNums X)) rfl (by kernel_rfl) (by kernel_rfl) (by kernel_rfl) (fun _ _ _ h => h) (Or.inl ⟨by kernel_rfl, fun w hSw => ?_⟩) S3 ?_
          · have e1 := hSw; go_simp
          simp only [Act.put, List.getElem_toArray, List.getElem_cons_succ, List.getElem_cons_zero, List.setIfInBounds_toArray, List.set_cons_zero, List.set_cons_succ]
          refine wpAnyH_take (i := 18) (v := .string (strOfNums X)) rfl (by kernel_rfl) (by kernel_rfl) (by kernel_rfl) (fun _ _ _ h => h) (Or.inl ⟨by kernel_rfl, fun w hSw => ?_⟩) S3 ?_
          · have e1 := hSw; go_simp
          simp only [Act.put, List.getElem_toArray, List.getElem_cons_succ, List.getElem_cons_zero, List.setIfInBounds_toArray, List.set_cons_zero, List.set_cons_succ]
          refine wpAnyH_take (i := 19) (v := .slice ra X.length rc) rfl (by kernel_rfl) (by kernel_rfl) (by kernel_rfl) (fun _ _ _ h => h) (Or.inl ⟨by kernel_rfl, fun w hSw => ?_⟩) S3 ?_
          · have e1 := hSw; go_simp
          simp only [Act.put, List.getElem_toArray, List.getElem_cons_succ, List.getElem_cons_zero, List.setIfInBounds_toArray, List.set_cons_zero, List.set_cons_succ]
          refine wpAnyH_take (i := 20) (v := .int .i64 (X.length : Int)) rfl (by kernel_rfl) (by kernel_rfl) (by kernel_rfl) (fun _ _ _ h => h) (Or.inl ⟨by kernel_rfl, fun w hSw => ?_⟩) S3 ?_
          · have e1 := hSw; go_simp
          simp only [Act.put, List.getElem_toArray, List.getElem_cons_succ, List.getElem_cons_zero, List.setIfInBounds_toArray, List.set_cons_zero, List.set_cons_succ]
          refine wpAnyH_take (i := 21) (v := .string (strOfNums X)) rfl (by kernel_rfl) (by kernel_rfl) (by kernel_rfl) (fun _ _ _ h => h) (Or.inl ⟨by kernel_rfl, fun w hSw => ?_⟩) S3 ?_
          · have e1 := hSw; go_simp
          simp only [Act.put, List.getElem_toArray, List.getElem_cons_succ, List.getElem_cons_zero, List.setIfInBounds_toArray, List.set_cons_zero, List.set_cons_succ]
          refine wpAnyH_take (i := 22) (v := .bool false) rfl (by kernel_rfl) (by kernel_rfl) (by kernel_rfl) (fun _ _ _ h => h) (Or.inl ⟨by kernel_rfl, fun w hSw => ?_⟩) S3 ?_
          · have e1 := hSw; go_simp
          simp only [Act.put, List.getElem_toArray, List.getElem_cons_succ, List.getElem_cons_zero, List.setIfInBounds_toArray, List.set_cons_zero, List.set_cons_succ]
          refine wpAnyH_take (i := 23) (v := .bool false) rfl (by kernel_rfl) (by kernel_rfl) (by kernel_rfl) (fun _ _ _ h => h) (Or.inl ⟨by kernel_rfl, fun w hSw => ?_⟩) S3 ?_
          · have e1 := hSw; go_simp
          simp only [Act.put, List.getElem_toArray, List.getElem_cons_succ, List.getElem_cons_zero, List.setIfInBounds_toArray, List.set_cons_zero, List.set_cons_succ]
          refine wpAnyH_done (by kernel_rfl) ?_ _
          go_wp2
          go_ret
          exact ⟨by simp, kp_below (show KP w w3.drew _ from ⟨KR.out.size, KR.out.keep, KR.out.sm⟩)⟩
  | false =>
    have hmxo : Try.prog.follows .mixedOrders = true := by kernel_rfl
    go_enter Try.func4, Try.ntmps4
    have hq_ := hq
    clear hq
    go_wp2_with (first
        | (go_at_call 15; have hq := K2.out; refine (cut_any _ (nn : Int) (pp : Int) (qq : Int) _ _ _ hq.1 hn hp hq_).mono ?_; rintro e w3 ⟨x, rfl, hx, q1, q2⟩; rw [se3n L0 R] at hx q1; subst hx; have K3 := hid (And.intro q1 (hq.2.trans q2)); have hS := HS0.out.below (kp_below K3.out.2); have cb := conv_src hS cap0; clear hq q1 q2 hS)
        | (go_at_call 13; have hq := K1.out; refine (append_any _ [97] L0 a0 cap0 _ _ _ hq.1 (by simp) (src_kp hq.2 (fun j hj => hj) HS0.out (fun hp ad e => src_block HS0.out ad hp e)) (fun hp ad e => src_block HS0.out ad hp e) HZ0.out HB0.out HL0.out).mono ?_; rintro e w2 ⟨x, rfl, hx, q1, q2⟩; rw [se1 _ hl0'] at hx q1; subst hx; have K2 := hid (And.intro q1 (hq.2.trans q2)); clear hq q1 q2)
        | (go_at_call 9; refine (new_any 1000000 (by omega) _).mono ?_; rintro e w1 ⟨d, rfl, hb1, q1⟩; have K1 : Hid (DK w1 d su0 (fun j => j < w.heap.size) ∧ KP w w1 (fun j => j < w.heap.size)) := hid (And.intro (q1.less (fun j hj => Nat.lt_of_lt_of_le hj HB00.out.size)) ((KP.below HB00.out).trans (KP.below hb1))); clear hb1 q1)
        | (go_at_call 8; refine (awake_any _).mono ?_; rintro e w0 ⟨rfl, hb0⟩; have HB00 := hid hb0; clear hb0))
    go_loopw [19, 20] (fun va vi wr => ∃ k : Nat, vi = .int .i64 (k : Int) ∧ k ≤ R.length ∧ va = .string (strOfNums (sA L0 R nn k)) ∧ Hid (∀ j, j < k → (R[j]?.getD []).length ≤ 1000) ∧ Hid (DK wr d (sD L0 R (0) nn pp qq k) (fun j => j < w.heap.size) ∧ KP w wr (fun j => j < w.heap.size))) (fun _ vi _ => R.length - (intOf vi).toNat)
    case atStart =>
      refine ⟨0, rfl, Nat.zero_le _, ?_, hid (fun j hj => by omega), K3⟩
      simp [sA, tk]
    case round =>
      obtain ⟨k, rfl, hk, rfl, HR, HK⟩ := hrel
      by_cases hlt : k < R.length
      · obtain ⟨gR, oR, eR, hcR⟩ := (HS2.out.below (kp_below HK.out.2)).2 (by omega)
        subst eR
        obtain ⟨ai, ci, cR, sR, lR, mR, zR⟩ := hcR k hlt
        have bR : Bts (R[k]?.getD []) := by
          have hm : R[k]?.getD [] ∈ R := by
            rw [List.getElem?_eq_getElem hlt]
            exact List.getElem_mem hlt
          exact HL2.out _ hm
        have e5 : decide ((k : Int) < (R.length : Int)) = true := decide_eq_true (by omega)
        obtain ⟨B, hBk⟩ : ∃ B, B = R[k]?.getD [] := ⟨_, rfl⟩
        have HBk := hid hBk
        rw [← hBk] at cR sR lR zR bR
        have SR := hid (And.intro sR (And.intro (And.intro lR mR) (And.intro (fun e => (zR e).2) bR)))
        clear hBk sR lR mR zR bR hcR
        by_cases hb1 : 1000 < B.length
        · have e6 : decide ((1000 : Int) < (B.length : Int)) = true := decide_eq_true (by omega)
          have K9 := hid HK.out.2
          go_wp2
          go_ret
          exact ⟨rfl, kp_below K9.out⟩
        · have e6 : decide ((1000 : Int) < (B.length : Int)) = false := decide_eq_false (by omega)
          have hss : ¬ 9223372036854775807 < (strOfNums (sA L0 R nn k)).size + (strOfNums B).size := by
            have h1 := sA_len L0 R nn k HR.out
            rw [strOfNums_size, strOfNums_size]
            omega
          have hstep := hid (se4 L0 R (0) nn pp qq k hlt hl2' hl0' (fun j hj => by
            by_cases hjk : j = k
            · rw [hjk, ← HBk.out]; omega
            · exact HR.out j (by omega)))
          have HRn : Hid (∀ j, j < k + 1 → (R[j]?.getD []).length ≤ 1000) := hid (fun j hj => by
            by_cases hjk : j = k
            · rw [hjk, ← HBk.out]; omega
            · exact HR.out j (by omega))
          have hall := hid (sA_succ L0 R nn k hlt)
          have o1 := hid (sD_off L0 R (0) nn pp qq k)
          have o2 := hid (sD_off L0 R (0) nn pp qq (k + 1))
          rcases Nat.lt_trichotomy k nn with hkn | hkn | hkn
          · have E1 : Hid ((sD L0 R (0) nn pp qq k).off = false) := hid (by rw [o1.out]; simp; omega)
            have E2 : Hid ((sD L0 R (0) nn pp qq (k + 1)).off = false) := hid (by rw [o2.out]; simp; omega)
            go_wp2_with (first
                | (go_at_call 16; have hq := KA.out; refine (off_any _ _ _ _ hq.1).mono ?_; rintro e w3 ⟨rfl, rfl⟩; rw [E2.out]; clear hq)
                | (go_at_call 13; have hq := HK.out; have sr := SR.out; refine (append_any _ [97] B ai ci _ _ _ hq.1 (by simp) sr.1 (fun hp ad e => src_wb HS2.out hlt HBk.out hq.2 cR hp e) sr.2.2.1 sr.2.1 sr.2.2.2).mono ?_; rintro e w2 ⟨x, rfl, hx, q1, q2⟩; rw [HBk.out, hstep.out] at hx q1; rw [if_pos hkn] at hx; subst hx; have KA := hid (And.intro q1 (hq.2.trans q2)); have cR2 := src_cell HS2.out hlt HBk.out hq.2 cR (hq.2.trans q2); have cw := conv_src (src_kp2 HS2.out hlt HBk.out hq.2 cR (hq.2.trans q2) sr.1) ci; clear hq q1 q2 sr)
                | (go_at_call 16; have hq := HK.out; refine (off_any _ _ _ _ hq.1).mono ?_; rintro e w1 ⟨rfl, rfl⟩; rw [E1.out]; clear hq))
            go_roundw
            case rel => exact ⟨k + 1, by go_num, by omega, by rw [hall.out, if_neg (by omega), ← HBk.out, str_app], HRn, KA⟩
            case measure => simp [intOf]; omega
          · have E1 : Hid ((sD L0 R (0) nn pp qq k).off = false) := hid (by rw [o1.out]; simp; omega)
            have E2 : Hid ((sD L0 R (0) nn pp qq (k + 1)).off = true) := hid (by rw [o2.out]; simp; omega)
            have hif : ¬ k < nn := by omega
            have hif2 : ¬ nn < k := by omega
            clear hkn
            go_wp2_with (first
                | (go_at_call 16; have hq := KA.out; refine (off_any _ _ _ _ hq.1).mono ?_; rintro e w3 ⟨rfl, rfl⟩; rw [E2.out]; clear hq)
                | (go_at_call 13; have hq := HK.out; have sr := SR.out; refine (append_any _ [97] B ai ci _ _ _ hq.1 (by simp) sr.1 (fun hp ad e => src_wb HS2.out hlt HBk.out hq.2 cR hp e) sr.2.2.1 sr.2.1 sr.2.2.2).mono ?_; rintro e w2 ⟨x, rfl, hx, q1, q2⟩; rw [HBk.out, hstep.out] at hx q1; rw [if_neg (by omega)] at hx; subst hx; have KA := hid (And.intro q1 (hq.2.trans q2)); have cR2 := src_cell HS2.out hlt HBk.out hq.2 cR (hq.2.trans q2); have cw := conv_src (src_kp2 HS2.out hlt HBk.out hq.2 cR (hq.2.trans q2) sr.1) ci; clear hq q1 q2 sr)
                | (go_at_call 16; have hq := HK.out; refine (off_any _ _ _ _ hq.1).mono ?_; rintro e w1 ⟨rfl, rfl⟩; rw [E1.out]; clear hq))
            go_roundw
            case rel => exact ⟨k + 1, by go_num, by omega, by rw [hall.out, if_neg (by omega), ← HBk.out, str_app], HRn, KA⟩
            case measure => simp [intOf]; omega
          · have E1 : Hid ((sD L0 R (0) nn pp qq k).off = true) := hid (by rw [o1.out]; simp; omega)
            have E2 : Hid ((sD L0 R (0) nn pp qq (k + 1)).off = true) := hid (by rw [o2.out]; simp; omega)
            have hif : ¬ k < nn := by omega
            have hif2 : nn < k := by omega
            clear hkn
            go_wp2_with (first
                | (go_at_call 16; have hq := KA.out; refine (off_any _ _ _ _ hq.1).mono ?_; rintro e w3 ⟨rfl, rfl⟩; rw [E2.out]; clear hq)
                | (go_at_call 13; have hq := HK.out; have sr := SR.out; refine (append_any _ [97] B ai ci _ _ _ hq.1 (by simp) sr.1 (fun hp ad e => src_wb HS2.out hlt HBk.out hq.2 cR hp e) sr.2.2.1 sr.2.1 sr.2.2.2).mono ?_; rintro e w2 ⟨x, rfl, hx, q1, q2⟩; rw [HBk.out, hstep.out] at hx q1; rw [if_neg (by omega)] at hx; subst hx; have KA := hid (And.intro q1 (hq.2.trans q2)); have cR2 := src_cell HS2.out hlt HBk.out hq.2 cR (hq.2.trans q2); have cw := conv_src (src_kp2 HS2.out hlt HBk.out hq.2 cR (hq.2.trans q2) sr.1) ci; clear hq q1 q2 sr)
                | (go_at_call 16; have hq := HK.out; refine (off_any _ _ _ _ hq.1).mono ?_; rintro e w1 ⟨rfl, rfl⟩; rw [E1.out]; clear hq))
            go_roundw
            case rel => exact ⟨k + 1, by go_num, by omega, by rw [hall.out, if_pos (by omega)], HRn, KA⟩
            case measure => simp [intOf]; omega
      · obtain rfl : k = R.length := by omega
        have e5 : decide ((R.length : Int) < (R.length : Int)) = false := by simp
        obtain ⟨p1, p2, p3, p4⟩ := sF_pre L0 R (0) nn pp qq R.length (by omega) (Nat.le_refl _)
        have hread := hid (sr L0 R (0) nn pp qq R.length)
        have o1 := hid (sD_off L0 R (0) nn pp qq R.length)
        obtain ⟨X, hX⟩ : ∃ X, X = sF L0 R (0) nn pp qq R.length := ⟨_, rfl⟩
        obtain ⟨AL, hAL⟩ : ∃ AL, AL = sA L0 R nn R.length := ⟨_, rfl⟩
        rw [← hX] at hread p1 p2 p3 p4
        rw [← hAL] at p2 p3 p4 ⊢
        have hsz := strOfNums_size AL
        have hex := str_cut AL X p3
        have t1 : decide ((X.length : Int) < ((0 : Nat) : Int)) = false := decide_eq_false (by omega)
        have t2 : decide ((AL.length : Int) < (X.length : Int)) = false := decide_eq_false (by omega)
        have t3 : ¬ AL.length < X.length := by omega
        have HP := hid (And.intro p3 (And.intro p2 p4))
        clear hX hAL p3
        by_cases hnr : nn < R.length
        · have E1 : Hid ((sD L0 R (0) nn pp qq R.length).off = true) := hid (by rw [o1.out]; simp; omega)
          have t4 : decide ((nn : Int) < (R.length : Int)) = true := decide_eq_true (by omega)
          go_wp2_with (first
              | (go_at_call 18; have hq := KO.out; refine (read_any _ [97] _ _ _ hq.1 (by simp)).mono ?_; rintro e w3 ⟨ra, rc, x, rfl, hx, hr, hb⟩; rw [hread.out] at hx hr ⊢; subst hx; have KR := hid (hq.2.trans (KP.below hb)); have S3 : (convert 31 9 (.slice ra X.length rc)).run Try.prog w3.drew = .ok (.string (strOfNums X)) w3.drew := conv_src (w := w3.drew) (own_src_at hr rfl) rc; clear hq hb hr)
              | (go_at_call 17; have hq := HK.out; refine (on_any _ _ _ _ hq.1).mono ?_; rintro e w2 ⟨rfl, q1, q2⟩; have KO := hid (And.intro q1 (hq.2.trans q2)); clear hq q1 q2)
              | (go_at_call 16; have hq := HK.out; refine (off_any _ _ _ _ hq.1).mono ?_; rintro e w1 ⟨rfl, rfl⟩; rw [E1.out]; clear hq))
          refine wp_region_held_drew (S := fun w' => (convert 31 9 (.slice ra X.length rc)).run Try.prog w' = .ok (.string (strOfNums X)) w') hmxo S3 ?_
          intro _
          refine wpAnyH_take (i := 0) (v := .int .i64 0) rfl (by kernel_rfl) (by kernel_rfl) (by kernel_rfl) (fun _ _ _ h => h) (Or.inl ⟨by kernel_rfl, fun w hSw => ?_⟩) S3 ?_
          · have e1 := hSw; go_simp
          simp only [Act.put, List.getElem_toArray, List.getElem_cons_succ, List.getElem_cons_zero, List.setIfInBounds_toArray, List.set_cons_zero, List.set_cons_succ]
          refine wpAnyH_take (i := 1) (v := .bool false) rfl (by kernel_rfl) (by kernel_rfl) (by kernel_rfl) (fun _ _ _ h => h) (Or.inl ⟨by kernel_rfl, fun w hSw => ?_⟩) S3 ?_
          · have e1 := hSw; go_simp
          simp only [Act.put, List.getElem_toArray, List.getElem_cons_succ, List.getElem_cons_zero, List.setIfInBounds_toArray, List.set_cons_zero, List.set_cons_succ]
          refine wpAnyH_take (i := 2) (v := .bool false) rfl (by kernel_rfl) (by kernel_rfl) (by kernel_rfl) (fun _ _ _ h => h) (Or.inl ⟨by kernel_rfl, fun w hSw => ?_⟩) S3 ?_
          · have e1 := hSw; go_simp
          simp only [Act.put, List.getElem_toArray, List.getElem_cons_succ, List.getElem_cons_zero, List.setIfInBounds_toArray, List.set_cons_zero, List.set_cons_succ]
          refine wpAnyH_take (i := 3) (v := .slice ra X.length rc) rfl (by kernel_rfl) (by kernel_rfl) (by kernel_rfl) (fun _ _ _ h => h) (Or.inl ⟨by kernel_rfl, fun w hSw => ?_⟩) S3 ?_
          · have e1 := hSw; go_simp
          simp only [Act.put, List.getElem_toArray, List.getElem_cons_succ, List.getElem_cons_zero, List.setIfInBounds_toArray, List.set_cons_zero, List.set_cons_succ]
          refine wpAnyH_take (i := 4) (v := .int .i64 (X.length : Int)) rfl (by kernel_rfl) (by kernel_rfl) (by kernel_rfl) (fun _ _ _ h => h) (Or.inl ⟨by kernel_rfl, fun w hSw => ?_⟩) S3 ?_
          · have e1 := hSw; go_simp
          simp only [Act.put, List.getElem_toArray, List.getElem_cons_succ, List.getElem_cons_zero, List.setIfInBounds_toArray, List.set_cons_zero, List.set_cons_succ]
          refine wpAnyH_take (i := 5) (v := .int .i64 ((0 : Nat) : Int)) rfl (by kernel_rfl) (by kernel_rfl) (by kernel_rfl) (fun _ _ _ h => h) (Or.inl ⟨by kernel_rfl, fun w hSw => ?_⟩) S3 ?_
          · have e1 := hSw; go_simp
          simp only [Act.put, List.getElem_toArray, List.getElem_cons_succ, List.getElem_cons_zero, List.setIfInBounds_toArray, List.set_cons_zero, List.set_cons_succ]
          refine wpAnyH_take (i := 6) (v := .bool false) rfl (by kernel_rfl) (by kernel_rfl) (by kernel_rfl) (fun _ _ _ h => h) (Or.inl ⟨by kernel_rfl, fun w hSw => ?_⟩) S3 ?_
          · have e1 := hSw; go_simp
          simp only [Act.put, List.getElem_toArray, List.getElem_cons_succ, List.getElem_cons_zero, List.setIfInBounds_toArray, List.set_cons_zero, List.set_cons_succ]
          refine wpAnyH_take (i := 7) (v := .bool false) rfl (by kernel_rfl) (by kernel_rfl) (by kernel_rfl) (fun _ _ _ h => h) (Or.inl ⟨by kernel_rfl, fun w hSw => ?_⟩) S3 ?_
          · have e1 := hSw; go_simp
          simp only [Act.put, List.getElem_toArray, List.getElem_cons_succ, List.getElem_cons_zero, List.setIfInBounds_toArray, List.set_cons_zero, List.set_cons_succ]
          refine wpAnyH_take (i := 8) (v := .bool false) rfl (by kernel_rfl) (by kernel_rfl) (by kernel_rfl) (fun _ _ _ h => h) (Or.inl ⟨by kernel_rfl, fun w hSw => ?_⟩) S3 ?_
          · have e1 := hSw; go_simp
          simp only [Act.put, List.getElem_toArray, List.getElem_cons_succ, List.getElem_cons_zero, List.setIfInBounds_toArray, List.set_cons_zero, List.set_cons_succ]
          refine wpAnyH_take (i := 9) (v := .slice ra X.length rc) rfl (by kernel_rfl) (by kernel_rfl) (by kernel_rfl) (fun _ _ _ h => h) (Or.inl ⟨by kernel_rfl, fun w hSw => ?_⟩) S3 ?_
          · have e1 := hSw; go_simp
          simp only [Act.put, List.getElem_toArray, List.getElem_cons_succ, List.getElem_cons_zero, List.setIfInBounds_toArray, List.set_cons_zero, List.set_cons_succ]
          refine wpAnyH_take (i := 10) (v := .int .i64 (X.length : Int)) rfl (by kernel_rfl) (by kernel_rfl) (by kernel_rfl) (fun _ _ _ h => h) (Or.inl ⟨by kernel_rfl, fun w hSw => ?_⟩) S3 ?_
          · have e1 := hSw; go_simp
          simp only [Act.put, List.getElem_toArray, List.getElem_cons_succ, List.getElem_cons_zero, List.setIfInBounds_toArray, List.set_cons_zero, List.set_cons_succ]
          refine wpAnyH_take (i := 11) (v := .string (strOfNums AL)) rfl (by kernel_rfl) (by kernel_rfl) (by kernel_rfl) (fun _ _ _ h => h) (Or.inl ⟨by kernel_rfl, fun w hSw => ?_⟩) S3 ?_
          · have e1 := hSw; go_simp
          simp only [Act.put, List.getElem_toArray, List.getElem_cons_succ, List.getElem_cons_zero, List.setIfInBounds_toArray, List.set_cons_zero, List.set_cons_succ]
          refine wpAnyH_take (i := 12) (v := .int .i64 (AL.length : Int)) rfl (by kernel_rfl) (by kernel_rfl) (by kernel_rfl) (fun _ _ _ h => h) (Or.inl ⟨by kernel_rfl, fun w hSw => ?_⟩) S3 ?_
          · have e1 := hSw; go_simp
          simp only [Act.put, List.getElem_toArray, List.getElem_cons_succ, List.getElem_cons_zero, List.setIfInBounds_toArray, List.set_cons_zero, List.set_cons_succ]
          refine wpAnyH_take (i := 13) (v := .bool false) rfl (by kernel_rfl) (by kernel_rfl) (by kernel_rfl) (fun _ _ _ h => h) (Or.inl ⟨by kernel_rfl, fun w hSw => ?_⟩) S3 ?_
          · have e1 := hSw; go_simp
          simp only [Act.put, List.getElem_toArray, List.getElem_cons_succ, List.getElem_cons_zero, List.setIfInBounds_toArray, List.set_cons_zero, List.set_cons_succ]
          refine wpAnyH_take (i := 14) (v := .bool false) rfl (by kernel_rfl) (by kernel_rfl) (by kernel_rfl) (fun _ _ _ h => h) (Or.inl ⟨by kernel_rfl, fun w hSw => ?_⟩) S3 ?_
          · have e1 := hSw; go_simp
          simp only [Act.put, List.getElem_toArray, List.getElem_cons_succ, List.getElem_cons_zero, List.setIfInBounds_toArray, List.set_cons_zero, List.set_cons_succ]
          refine wpAnyH_take (i := 15) (v := .bool false) rfl (by kernel_rfl) (by kernel_rfl) (by kernel_rfl) (fun _ _ _ h => h) (Or.inl ⟨by kernel_rfl, fun w hSw => ?_⟩) S3 ?_
          · have e1 := hSw; go_simp
          simp only [Act.put, List.getElem_toArray, List.getElem_cons_succ, List.getElem_cons_zero, List.setIfInBounds_toArray, List.set_cons_zero, List.set_cons_succ]
          refine wpAnyH_take (i := 16) (v := .slice ra X.length rc) rfl (by kernel_rfl) (by kernel_rfl) (by kernel_rfl) (fun _ _ _ h => h) (Or.inl ⟨by kernel_rfl, fun w hSw => ?_⟩) S3 ?_
          · have e1 := hSw; go_simp
          simp only [Act.put, List.getElem_toArray, List.getElem_cons_succ, List.getElem_cons_zero, List.setIfInBounds_toArray, List.set_cons_zero, List.set_cons_succ]
          refine wpAnyH_take (i := 17) (v := .string (strOfNums X)) rfl (by kernel_rfl) (by kernel_rfl) (by kernel_rfl) (fun _ _ _ h => h) (Or.inl ⟨by kernel_rfl, fun w hSw => ?_⟩) S3 ?_
          · have e1 := hSw; go_simp
          simp only [Act.put, List.getElem_toArray, List.getElem_cons_succ, List.getElem_cons_zero, List.setIfInBounds_toArray, List.set_cons_zero, List.set_cons_succ]
          refine wpAnyH_take (i := 18) (v := .string (strOfNums AL)) rfl (by kernel_rfl) (by kernel_rfl) (by kernel_rfl) (fun _ _ _ h => h) (Or.inl ⟨by kernel_rfl, fun w hSw => ?_⟩) S3 ?_
          · have e1 := hSw; go_simp
          simp only [Act.put, List.getElem_toArray, List.getElem_cons_succ, List.getElem_cons_zero, List.setIfInBounds_toArray, List.set_cons_zero, List.set_cons_succ]
          refine wpAnyH_take (i := 19) (v := .slice ra X.length rc) rfl (by kernel_rfl) (by kernel_rfl) (by kernel_rfl) (fun _ _ _ h => h) (Or.inl ⟨by kernel_rfl, fun w hSw => ?_⟩) S3 ?_
          · have e1 := hSw; go_simp
          simp only [Act.put, List.getElem_toArray, List.getElem_cons_succ, List.getElem_cons_zero, List.setIfInBounds_toArray, List.set_cons_zero, List.set_cons_succ]
          refine wpAnyH_take (i := 20) (v := .int .i64 (X.length : Int)) rfl (by kernel_rfl) (by kernel_rfl) (by kernel_rfl) (fun _ _ _ h => h) (Or.inl ⟨by kernel_rfl, fun w hSw => ?_⟩) S3 ?_
          · have e1 := hSw; go_simp
          simp only [Act.put, List.getElem_toArray, List.getElem_cons_succ, List.getElem_cons_zero, List.setIfInBounds_toArray, List.set_cons_zero, List.set_cons_succ]
          refine wpAnyH_take (i := 21) (v := .string (strOfNums X)) rfl (by kernel_rfl) (by kernel_rfl) (by kernel_rfl) (fun _ _ _ h => h) (Or.inl ⟨by kernel_rfl, fun w hSw => ?_⟩) S3 ?_
          · have e1 := hSw; go_simp
          simp only [Act.put, List.getElem_toArray, List.getElem_cons_succ, List.getElem_cons_zero, List.setIfInBounds_toArray, List.set_cons_zero, List.set_cons_succ]
          refine wpAnyH_take (i := 22) (v := .bool false) rfl (by kernel_rfl) (by kernel_rfl) (by kernel_rfl) (fun _ _ _ h => h) (Or.inl ⟨by kernel_rfl, fun w hSw => ?_⟩) S3 ?_
          · have e1 := hSw; go_simp
          simp only [Act.put, List.getElem_toArray, List.getElem_cons_succ, List.getElem_cons_zero, List.setIfInBounds_toArray, List.set_cons_zero, List.set_cons_succ]
          refine wpAnyH_take (i := 23) (v := .bool false) rfl (by kernel_rfl) (by kernel_rfl) (by kernel_rfl) (fun _ _ _ h => h) (Or.inl ⟨by kernel_rfl, fun w hSw => ?_⟩) S3 ?_
          · have e1 := hSw; go_simp
          simp only [Act.put, List.getElem_toArray, List.getElem_cons_succ, List.getElem_cons_zero, List.setIfInBounds_toArray, List.set_cons_zero, List.set_cons_succ]
          refine wpAnyH_done (by kernel_rfl) ?_ _
          go_wp2
          go_ret
          exact ⟨by simp, kp_below (show KP w w3.drew _ from ⟨KR.out.size, KR.out.keep, KR.out.sm⟩)⟩
        · have E1 : Hid ((sD L0 R (0) nn pp qq R.length).off = false) := hid (by rw [o1.out]; simp; omega)
          have t4 : decide ((nn : Int) < (R.length : Int)) = false := decide_eq_false (by omega)
          have t5 : X.length = AL.length := HP.out.2.2 (by omega)
          obtain rfl : X = AL := by
            have := HP.out.1
            rw [t5, List.take_of_length_le (Nat.le_refl _)] at this
            exact this.symm
          clear t5
          go_wp2_with (first
              | (go_at_call 18; have hq := KO.out; refine (read_any _ [97] _ _ _ hq.1 (by simp)).mono ?_; rintro e w3 ⟨ra, rc, x, rfl, hx, hr, hb⟩; rw [hread.out] at hx hr ⊢; subst hx; have KR := hid (hq.2.trans (KP.below hb)); have S3 : (convert 31 9 (.slice ra X.length rc)).run Try.prog w3.drew = .ok (.string (strOfNums X)) w3.drew := conv_src (w := w3.drew) (own_src_at hr rfl) rc; clear hq hb hr)
              | (go_at_call 17; have hq := HK.out; refine (on_any _ _ _ _ hq.1).mono ?_; rintro e w2 ⟨rfl, q1, q2⟩; have KO := hid (And.intro q1 (hq.2.trans q2)); clear hq q1 q2)
              | (go_at_call 16; have hq := HK.out; refine (off_any _ _ _ _ hq.1).mono ?_; rintro e w1 ⟨rfl, rfl⟩; rw [E1.out]; clear hq))
          refine wp_region_held_drew (S := fun w' => (convert 31 9 (.slice ra X.length rc)).run Try.prog w' = .ok (.string (strOfNums X)) w') hmxo S3 ?_
          intro _
          refine wpAnyH_take (i := 0) (v := .int .i64 0) rfl (by kernel_rfl) (by kernel_rfl) (by kernel_rfl) (fun _ _ _ h => h) (Or.inl ⟨by kernel_rfl, fun w hSw => ?_⟩) S3 ?_
          · have e1 := hSw; go_simp
          simp only [Act.put, List.getElem_toArray, List.getElem_cons_succ, List.getElem_cons_zero, List.setIfInBounds_toArray, List.set_cons_zero, List.set_cons_succ]
          refine wpAnyH_take (i := 1) (v := .bool false) rfl (by kernel_rfl) (by kernel_rfl) (by kernel_rfl) (fun _ _ _ h => h) (Or.inl ⟨by kernel_rfl, fun w hSw => ?_⟩) S3 ?_
          · have e1 := hSw; go_simp
          simp only [Act.put, List.getElem_toArray, List.getElem_cons_succ, List.getElem_cons_zero, List.setIfInBounds_toArray, List.set_cons_zero, List.set_cons_succ]
          refine wpAnyH_take (i := 2) (v := .bool false) rfl (by kernel_rfl) (by kernel_rfl) (by kernel_rfl) (fun _ _ _ h => h) (Or.inl ⟨by kernel_rfl, fun w hSw => ?_⟩) S3 ?_
          · have e1 := hSw; go_simp
          simp only [Act.put, List.getElem_toArray, List.getElem_cons_succ, List.getElem_cons_zero, List.setIfInBounds_toArray, List.set_cons_zero, List.set_cons_succ]
          refine wpAnyH_take (i := 3) (v := .slice ra X.length rc) rfl (by kernel_rfl) (by kernel_rfl) (by kernel_rfl) (fun _ _ _ h => h) (Or.inl ⟨by kernel_rfl, fun w hSw => ?_⟩) S3 ?_
          · have e1 := hSw; go_simp
          simp only [Act.put, List.getElem_toArray, List.getElem_cons_succ, List.getElem_cons_zero, List.setIfInBounds_toArray, List.set_cons_zero, List.set_cons_succ]
          refine wpAnyH_take (i := 4) (v := .int .i64 (X.length : Int)) rfl (by kernel_rfl) (by kernel_rfl) (by kernel_rfl) (fun _ _ _ h => h) (Or.inl ⟨by kernel_rfl, fun w hSw => ?_⟩) S3 ?_
          · have e1 := hSw; go_simp
          simp only [Act.put, List.getElem_toArray, List.getElem_cons_succ, List.getElem_cons_zero, List.setIfInBounds_toArray, List.set_cons_zero, List.set_cons_succ]
          refine wpAnyH_take (i := 5) (v := .int .i64 ((0 : Nat) : Int)) rfl (by kernel_rfl) (by kernel_rfl) (by kernel_rfl) (fun _ _ _ h => h) (Or.inl ⟨by kernel_rfl, fun w hSw => ?_⟩) S3 ?_
          · have e1 := hSw; go_simp
          simp only [Act.put, List.getElem_toArray, List.getElem_cons_succ, List.getElem_cons_zero, List.setIfInBounds_toArray, List.set_cons_zero, List.set_cons_succ]
          refine wpAnyH_take (i := 6) (v := .bool false) rfl (by kernel_rfl) (by kernel_rfl) (by kernel_rfl) (fun _ _ _ h => h) (Or.inl ⟨by kernel_rfl, fun w hSw => ?_⟩) S3 ?_
          · have e1 := hSw; go_simp
          simp only [Act.put, List.getElem_toArray, List.getElem_cons_succ, List.getElem_cons_zero, List.setIfInBounds_toArray, List.set_cons_zero, List.set_cons_succ]
          refine wpAnyH_take (i := 7) (v := .bool false) rfl (by kernel_rfl) (by kernel_rfl) (by kernel_rfl) (fun _ _ _ h => h) (Or.inl ⟨by kernel_rfl, fun w hSw => ?_⟩) S3 ?_
          · have e1 := hSw; go_simp
          simp only [Act.put, List.getElem_toArray, List.getElem_cons_succ, List.getElem_cons_zero, List.setIfInBounds_toArray, List.set_cons_zero, List.set_cons_succ]
          refine wpAnyH_take (i := 8) (v := .bool false) rfl (by kernel_rfl) (by kernel_rfl) (by kernel_rfl) (fun _ _ _ h => h) (Or.inl ⟨by kernel_rfl, fun w hSw => ?_⟩) S3 ?_
          · have e1 := hSw; go_simp
          simp only [Act.put, List.getElem_toArray, List.getElem_cons_succ, List.getElem_cons_zero, List.setIfInBounds_toArray, List.set_cons_zero, List.set_cons_succ]
          refine wpAnyH_take (i := 9) (v := .slice ra X.length rc) rfl (by kernel_rfl) (by kernel_rfl) (by kernel_rfl) (fun _ _ _ h => h) (Or.inl ⟨by kernel_rfl, fun w hSw => ?_⟩) S3 ?_
          · have e1 := hSw; go_simp
          simp only [Act.put, List.getElem_toArray, List.getElem_cons_succ, List.getElem_cons_zero, List.setIfInBounds_toArray, List.set_cons_zero, List.set_cons_succ]
          refine wpAnyH_take (i := 10) (v := .int .i64 (X.length : Int)) rfl (by kernel_rfl) (by kernel_rfl) (by kernel_rfl) (fun _ _ _ h => h) (Or.inl ⟨by kernel_rfl, fun w hSw => ?_⟩) S3 ?_
          · have e1 := hSw; go_simp
          simp only [Act.put, List.getElem_toArray, List.getElem_cons_succ, List.getElem_cons_zero, List.setIfInBounds_toArray, List.set_cons_zero, List.set_cons_succ]
          refine wpAnyH_take (i := 11) (v := .string (strOfNums X)) rfl (by kernel_rfl) (by kernel_rfl) (by kernel_rfl) (fun _ _ _ h => h) (Or.inl ⟨by kernel_rfl, fun w hSw => ?_⟩) S3 ?_
          · have e1 := hSw; go_simp
          simp only [Act.put, List.getElem_toArray, List.getElem_cons_succ, List.getElem_cons_zero, List.setIfInBounds_toArray, List.set_cons_zero, List.set_cons_succ]
          refine wpAnyH_take (i := 12) (v := .int .i64 (X.length : Int)) rfl (by kernel_rfl) (by kernel_rfl) (by kernel_rfl) (fun _ _ _ h => h) (Or.inl ⟨by kernel_rfl, fun w hSw => ?_⟩) S3 ?_
          · have e1 := hSw; go_simp
          simp only [Act.put, List.getElem_toArray, List.getElem_cons_succ, List.getElem_cons_zero, List.setIfInBounds_toArray, List.set_cons_zero, List.set_cons_succ]
          refine wpAnyH_take (i := 13) (v := .bool false) rfl (by kernel_rfl) (by kernel_rfl) (by kernel_rfl) (fun _ _ _ h => h) (Or.inl ⟨by kernel_rfl, fun w hSw => ?_⟩) S3 ?_
          · have e1 := hSw; go_simp
          simp only [Act.put, List.getElem_toArray, List.getElem_cons_succ, List.getElem_cons_zero, List.setIfInBounds_toArray, List.set_cons_zero, List.set_cons_succ]
          refine wpAnyH_take (i := 14) (v := .bool false) rfl (by kernel_rfl) (by kernel_rfl) (by kernel_rfl) (fun _ _ _ h => h) (Or.inl ⟨by kernel_rfl, fun w hSw => ?_⟩) S3 ?_
          · have e1 := hSw; go_simp
          simp only [Act.put, List.getElem_toArray, List.getElem_cons_succ, List.getElem_cons_zero, List.setIfInBounds_toArray, List.set_cons_zero, List.set_cons_succ]
          refine wpAnyH_take (i := 15) (v := .bool false) rfl (by kernel_rfl) (by kernel_rfl) (by kernel_rfl) (fun _ _ _ h => h) (Or.inl ⟨by kernel_rfl, fun w hSw => ?_⟩) S3 ?_
          · have e1 := hSw; go_simp
          simp only [Act.put, List.getElem_toArray, List.getElem_cons_succ, List.getElem_cons_zero, List.setIfInBounds_toArray, List.set_cons_zero, List.set_cons_succ]
          refine wpAnyH_take (i := 16) (v := .slice ra X.length rc) rfl (by kernel_rfl) (by kernel_rfl) (by kernel_rfl) (fun _ _ _ h => h) (Or.inl ⟨by kernel_rfl, fun w hSw => ?_⟩) S3 ?_
          · have e1 := hSw; go_simp
          simp only [Act.put, List.getElem_toArray, List.getElem_cons_succ, List.getElem_cons_zero, List.setIfInBounds_toArray, List.set_cons_zero, List.set_cons_succ]
          refine wpAnyH_take (i := 17) (v := .string (strOfNums X)) rfl (by kernel_rfl) (by kernel_rfl) (by kernel_rfl) (fun _ _ _ h => h) (Or.inl ⟨by kernel_rfl, fun w hSw => ?_⟩) S3 ?_
          · have e1 := hSw; go_simp
          simp only [Act.put, List.getElem_toArray, List.getElem_cons_succ, List.getElem_cons_zero, List.setIfInBounds_toArray, List.set_cons_zero, List.set_cons_succ]
          refine wpAnyH_take (i := 18) (v := .string (strOfNums X)) rfl (by kernel_rfl) (by kernel_rfl) (by kernel_rfl) (fun _ _ _ h => h) (Or.inl ⟨by kernel_rfl, fun w hSw => ?_⟩) S3 ?_
          · have e1 := hSw; go_simp
          simp only [Act.put, List.getElem_toArray, List.getElem_cons_succ, List.getElem_cons_zero, List.setIfInBounds_toArray, List.set_cons_zero, List.set_cons_succ]
          refine wpAnyH_take (i := 19) (v := .slice ra X.length rc) rfl (by kernel_rfl) (by kernel_rfl) (by kernel_rfl) (fun _ _ _ h => h) (Or.inl ⟨by kernel_rfl, fun w hSw => ?_⟩) S3 ?_
          · have e1 := hSw; go_simp
          simp only [Act.put, List.getElem_toArray, List.getElem_cons_succ, List.getElem_cons_zero, List.setIfInBounds_toArray, List.set_cons_zero, List.set_cons_succ]
          refine wpAnyH_take (i := 20) (v := .int .i64 (X.length : Int)) rfl (by kernel_rfl) (by kernel_rfl) (by kernel_rfl) (fun _ _ _ h => h) (Or.inl ⟨by kernel_rfl, fun w hSw => ?_⟩) S3 ?_
          · have e1 := hSw; go_simp
          simp only [Act.put, List.getElem_toArray, List.getElem_cons_succ, List.getElem_cons_zero, List.setIfInBounds_toArray, List.set_cons_zero, List.set_cons_succ]
          refine wpAnyH_take (i := 21) (v := .string (strOfNums X)) rfl (by kernel_rfl) (by kernel_rfl) (by kernel_rfl) (fun _ _ _ h => h) (Or.inl ⟨by kernel_rfl, fun w hSw => ?_⟩) S3 ?_
          · have e1 := hSw; go_simp
          simp only [Act.put, List.getElem_toArray, List.getElem_cons_succ, List.getElem_cons_zero, List.setIfInBounds_toArray, List.set_cons_zero, List.set_cons_succ]
          refine wpAnyH_take (i := 22) (v := .bool false) rfl (by kernel_rfl) (by kernel_rfl) (by kernel_rfl) (fun _ _ _ h => h) (Or.inl ⟨by kernel_rfl, fun w hSw => ?_⟩) S3 ?_
          · have e1 := hSw; go_simp
          simp only [Act.put, List.getElem_toArray, List.getElem_cons_succ, List.getElem_cons_zero, List.setIfInBounds_toArray, List.set_cons_zero, List.set_cons_succ]
          refine wpAnyH_take (i := 23) (v := .bool false) rfl (by kernel_rfl) (by kernel_rfl) (by kernel_rfl) (fun _ _ _ h => h) (Or.inl ⟨by kernel_rfl, fun w hSw => ?_⟩) S3 ?_
          · have e1 := hSw; go_simp
          simp only [Act.put, List.getElem_toArray, List.getElem_cons_succ, List.getElem_cons_zero, List.setIfInBounds_toArray, List.set_cons_zero, List.set_cons_succ]
          refine wpAnyH_done (by kernel_rfl) ?_ _
          go_wp2
          go_ret
          exact ⟨by simp, kp_below (show KP w w3.drew _ from ⟨KR.out.size, KR.out.keep, KR.out.sm⟩)⟩
end Go.Proofs.Ytocglenkdjiknaa
