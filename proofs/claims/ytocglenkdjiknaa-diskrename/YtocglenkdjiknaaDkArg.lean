/- Arguments that come in. -/
import Derived.Test.YtocglenkdjiknaaDkRenE
import Derived.Test.YtocglenkdjiknaaDkMay
import Derived.WalkKit
import Derived.ProofKit
import Derived.OpenShut
import Derived.ShutString
import Derived.ChangeOld
import Derived.Below
import Derived.ChangeMaps5
import Derived.Deep.Matrix
namespace Go.Proofs.Ytocglenkdjiknaa
section
set_option linter.unusedVariables false
set_option linter.unusedSimpArgs false
open Go.RowKit Go.Sort Go.Maps

theorem row_none {k : IntKind} {w : World} {a : Option Addr} {len cap : Nat} {zs : List Int} (h : IsRow k w a len cap zs) : a = none → cap = 0 := by
  rcases h with ⟨_, _, h, _⟩ | ⟨x, h, _⟩
  · exact fun _ => h
  · exact fun e => by rw [h] at e; cases e
theorem own_src_at {w : World} {B n c : Nat} {a : Option Addr} {L : List Int} (h : w.ownsRow B 5 1 (.slice a n c) L.length (L.map (Value.int .u8))) (hn : n = L.length) : Src w a L.length L := by
  obtain ⟨a', c', e, hs, _⟩ := own_src h
  subst hn
  cases e
  exact hs

set_option maxRecDepth 100000 in
set_option maxHeartbeats 8000000 in
theorem rename_walk0 (a0 a1 : Option Addr) (cap0 cap1 : Nat) (L0 L1 : List Int) (sure : Bool) (cut part : Int) (w : World) (s0 : Src w a0 L0.length L0) (s1 : Src w a1 L1.length L1) (b0 : Bts L0) (b1 : Bts L1) (c0 : L0.length ≤ cap0 ∧ cap0 ≤ maxLen) (c1 : L1.length ≤ cap1 ∧ cap1 ≤ maxLen) (z0 : a0 = none → cap0 = 0) (z1 : a1 = none → cap1 = 0) (hpm : part ≤ 9223372036854775807) :
    Calls Try.prog 6 #[.slice a0 L0.length cap0, .slice a1 L1.length cap1, .bool sure, .int .i64 cut, .int .i64 part] w fun e w' => e = .returned (.bool true) ∧ Below w.heap.size w w' := by
  have HS0 := hid s0
  have HS1 := hid s1
  have HL0 := hid b0
  have HL1 := hid b1
  have HB0 := hid c0
  have HB1 := hid c1
  have HZ0 := hid z0
  have HZ1 := hid z1
  clear s0 s1 b0 b1 c0 c1 z0 z1
  by_cases hl0 : 1000 < L0.length
  · have e1 : decide ((1000 : Int) < (L0.length : Int)) = true := decide_eq_true (by omega)
    go_enter Try.func6, Try.ntmps6
    go_wp2_with (go_at_call 8; refine (awake_any _).mono ?_; rintro e w0 ⟨rfl, hb0⟩; have HB00 := hid hb0; clear hb0)
    go_ret
    exact ⟨rfl, HB00.out⟩
  have e1 : decide ((1000 : Int) < (L0.length : Int)) = false := decide_eq_false (by omega)
  by_cases hl1 : 1000 < L1.length
  · have e2 : decide ((1000 : Int) < (L1.length : Int)) = true := decide_eq_true (by omega)
    go_enter Try.func6, Try.ntmps6
    go_wp2_with (go_at_call 8; refine (awake_any _).mono ?_; rintro e w0 ⟨rfl, hb0⟩; have HB00 := hid hb0; clear hb0)
    go_ret
    exact ⟨rfl, HB00.out⟩
  have e2 : decide ((1000 : Int) < (L1.length : Int)) = false := decide_eq_false (by omega)
  have hl0' : L0.length ≤ 1000 := by omega
  have hl1' : L1.length ≤ 1000 := by omega
  by_cases hcut : cut = 1
  · subst hcut
    by_cases hp0 : 0 ≤ part
    · have e3 : decide (0 ≤ part) = true := decide_eq_true hp0
      by_cases hq1 : part = 0
      · have hq0 : part.toNat = 0 := by omega
        subst hq1
        cases sure with
        | true =>
          go_enter Try.func6, Try.ntmps6
          go_wp2_with (first
              | (go_at_call 18; have hq := K9.out; refine (read_any _ [97] _ _ _ hq.1 (by simp)).mono ?_; rintro e w10 ⟨ra10, rc10, x, rfl, hx, hr, hb⟩; rw [rd3a] at hx hr ⊢; subst hx; have HR10 := hid hr; have HBR10 := hid hb; have K10 := hid (And.intro (hq.1.below hb) (hq.2.trans (KP.below hb))); have cx := conv_src ((own_src_at HR9.out rfl).below hb) rc9; have hbw := kp_below (K10.out.2); have ca := conv_src (HS0.out.below hbw) cap0; have cb := conv_src (HS1.out.below hbw) cap1; clear hbw; clear hq hb hr)
              | (go_at_call 18; have hq := K8.out; refine (read_any _ [98] _ _ _ hq.1 (by simp)).mono ?_; rintro e w9 ⟨ra9, rc9, x, rfl, hx, hr, hb⟩; rw [rd3b] at hx hr ⊢; subst hx; have HR9 := hid hr; have HBR9 := hid hb; have K9 := hid (And.intro (hq.1.below hb) (hq.2.trans (KP.below hb))); clear hq hb hr)
              | (go_at_call 17; have hq := K7.out; refine (on_any _ _ _ _ hq.1).mono ?_; rintro e w8 ⟨rfl, q1, q2⟩; have K8 : Hid (DK w8 _ (rn6 false (L0.length) L0 L1) (fun j => j < w.heap.size) ∧ KP w w8 (fun j => j < w.heap.size)) := hid (And.intro q1 (hq.2.trans q2)); clear hq q1 q2)
              | (go_at_call 19; have hq := K6.out; refine (rename_any _ [97] [98] _ _ _ hq.1 (by simp) (by simp)).mono ?_; rintro e w7 ⟨x, rfl, hx, q1, q2⟩; rw [re6] at hx q1; subst hx; have K7 := hid (And.intro q1 (hq.2.trans q2)); clear hq q1 q2)
              | (go_at_call 15; have hq := K5.out; refine (cut_any _ 0 0 0 _ _ _ hq.1 (by omega) (by omega) (by omega)).mono ?_; rintro e w6 ⟨x, rfl, hx, q1, q2⟩; rw [re8z] at hx q1; subst hx; have K6 := hid (And.intro q1 (hq.2.trans q2)); clear hq q1 q2)
              | (go_at_call 14; have hq := K4.out; refine (sync_any _ [97] _ _ _ hq.1 (by simp)).mono ?_; rintro e w5 ⟨x, rfl, hx, q1, q2⟩; rw [re4] at hx q1; subst hx; have K5 := hid (And.intro q1 (hq.2.trans q2)); clear hq q1 q2)
              | (go_at_call 14; have hq := K3.out; refine (sync_any _ [98] _ _ _ hq.1 (by simp)).mono ?_; rintro e w4 ⟨x, rfl, hx, q1, q2⟩; rw [re3] at hx q1; subst hx; have K4 := hid (And.intro q1 (hq.2.trans q2)); clear hq q1 q2)
              | (go_at_call 13; have hq := K2.out; refine (append_any _ [98] L1 a1 cap1 _ _ _ hq.1 (by simp) (src_kp hq.2 (fun j hj => hj) HS1.out (fun hp ad e => src_block HS1.out ad hp e)) (fun hp ad e => src_block HS1.out ad hp e) HZ1.out HB1.out HL1.out).mono ?_; rintro e w3 ⟨x, rfl, hx, q1, q2⟩; rw [re2 _ _ hl0' hl1'] at hx q1; subst hx; have K3 := hid (And.intro q1 (hq.2.trans q2)); clear hq q1 q2)
              | (go_at_call 13; have hq := K1.out; refine (append_any _ [97] L0 a0 cap0 _ _ _ hq.1 (by simp) (src_kp hq.2 (fun j hj => hj) HS0.out (fun hp ad e => src_block HS0.out ad hp e)) (fun hp ad e => src_block HS0.out ad hp e) HZ0.out HB0.out HL0.out).mono ?_; rintro e w2 ⟨x, rfl, hx, q1, q2⟩; rw [re1 _ hl0'] at hx q1; subst hx; have K2 := hid (And.intro q1 (hq.2.trans q2)); clear hq q1 q2)
              | (go_at_call 9; refine (new_any 100000 (by omega) _).mono ?_; rintro e w1 ⟨d, rfl, hb1, q1⟩; have K1 : Hid (DK w1 d rn0 (fun j => j < w.heap.size) ∧ KP w w1 (fun j => j < w.heap.size)) := hid (And.intro (q1.less (fun j hj => Nat.lt_of_lt_of_le hj HB00.out.size)) ((KP.below HB00.out).trans (KP.below hb1))); clear hb1 q1)
              | (go_at_call 8; refine (awake_any _).mono ?_; rintro e w0 ⟨rfl, hb0⟩; have HB00 := hid hb0; clear hb0))
          go_ret
          exact ⟨by simp, kp_below K10.out.2⟩
        | false =>
          go_enter Try.func6, Try.ntmps6
          go_wp2_with (first
              | (go_at_call 18; have hq := K8.out; refine (read_any _ [97] _ _ _ hq.1 (by simp)).mono ?_; rintro e w9 ⟨ra9, rc9, x, rfl, hx, hr, hb⟩; rw [rd3a] at hx hr ⊢; subst hx; have HR9 := hid hr; have HBR9 := hid hb; have K9 := hid (And.intro (hq.1.below hb) (hq.2.trans (KP.below hb))); have cx := conv_src ((own_src_at HR8.out rfl).below hb) rc8; have hbw := kp_below (K9.out.2); have ca := conv_src (HS0.out.below hbw) cap0; have cb := conv_src (HS1.out.below hbw) cap1; clear hbw; clear hq hb hr)
              | (go_at_call 18; have hq := K7.out; refine (read_any _ [98] _ _ _ hq.1 (by simp)).mono ?_; rintro e w8 ⟨ra8, rc8, x, rfl, hx, hr, hb⟩; rw [rd3b] at hx hr ⊢; subst hx; have HR8 := hid hr; have HBR8 := hid hb; have K8 := hid (And.intro (hq.1.below hb) (hq.2.trans (KP.below hb))); clear hq hb hr)
              | (go_at_call 17; have hq := K6.out; refine (on_any _ _ _ _ hq.1).mono ?_; rintro e w7 ⟨rfl, q1, q2⟩; have K7 : Hid (DK w7 _ (rn6 false (0) L0 L1) (fun j => j < w.heap.size) ∧ KP w w7 (fun j => j < w.heap.size)) := hid (And.intro q1 (hq.2.trans q2)); clear hq q1 q2)
              | (go_at_call 19; have hq := K5.out; refine (rename_any _ [97] [98] _ _ _ hq.1 (by simp) (by simp)).mono ?_; rintro e w6 ⟨x, rfl, hx, q1, q2⟩; rw [re6] at hx q1; subst hx; have K6 := hid (And.intro q1 (hq.2.trans q2)); clear hq q1 q2)
              | (go_at_call 15; have hq := K4.out; refine (cut_any _ 0 0 0 _ _ _ hq.1 (by omega) (by omega) (by omega)).mono ?_; rintro e w5 ⟨x, rfl, hx, q1, q2⟩; rw [re8z] at hx q1; subst hx; have K5 := hid (And.intro q1 (hq.2.trans q2)); clear hq q1 q2)
              | (go_at_call 14; have hq := K3.out; refine (sync_any _ [98] _ _ _ hq.1 (by simp)).mono ?_; rintro e w4 ⟨x, rfl, hx, q1, q2⟩; rw [re3] at hx q1; subst hx; have K4 := hid (And.intro q1 (hq.2.trans q2)); clear hq q1 q2)
              | (go_at_call 13; have hq := K2.out; refine (append_any _ [98] L1 a1 cap1 _ _ _ hq.1 (by simp) (src_kp hq.2 (fun j hj => hj) HS1.out (fun hp ad e => src_block HS1.out ad hp e)) (fun hp ad e => src_block HS1.out ad hp e) HZ1.out HB1.out HL1.out).mono ?_; rintro e w3 ⟨x, rfl, hx, q1, q2⟩; rw [re2 _ _ hl0' hl1'] at hx q1; subst hx; have K3 := hid (And.intro q1 (hq.2.trans q2)); clear hq q1 q2)
              | (go_at_call 13; have hq := K1.out; refine (append_any _ [97] L0 a0 cap0 _ _ _ hq.1 (by simp) (src_kp hq.2 (fun j hj => hj) HS0.out (fun hp ad e => src_block HS0.out ad hp e)) (fun hp ad e => src_block HS0.out ad hp e) HZ0.out HB0.out HL0.out).mono ?_; rintro e w2 ⟨x, rfl, hx, q1, q2⟩; rw [re1 _ hl0'] at hx q1; subst hx; have K2 := hid (And.intro q1 (hq.2.trans q2)); clear hq q1 q2)
              | (go_at_call 9; refine (new_any 100000 (by omega) _).mono ?_; rintro e w1 ⟨d, rfl, hb1, q1⟩; have K1 : Hid (DK w1 d rn0 (fun j => j < w.heap.size) ∧ KP w w1 (fun j => j < w.heap.size)) := hid (And.intro (q1.less (fun j hj => Nat.lt_of_lt_of_le hj HB00.out.size)) ((KP.below HB00.out).trans (KP.below hb1))); clear hb1 q1)
              | (go_at_call 8; refine (awake_any _).mono ?_; rintro e w0 ⟨rfl, hb0⟩; have HB00 := hid hb0; clear hb0))
          go_ret
          exact ⟨by simp, kp_below K9.out.2⟩
      · have hq0 : part.toNat ≠ 0 := by omega
        cases sure with
        | true =>
          go_enter Try.func6, Try.ntmps6
          go_wp2_with (first
              | (go_at_call 18; have hq := K9.out; refine (read_any _ [97] _ _ _ hq.1 (by simp)).mono ?_; rintro e w10 ⟨ra10, rc10, x, rfl, hx, hr, hb⟩; rw [rd7a] at hx hr ⊢; subst hx; have HR10 := hid hr; have HBR10 := hid hb; have K10 := hid (And.intro (hq.1.below hb) (hq.2.trans (KP.below hb))); have cx := conv_src ((own_src_at HR9.out rfl).below hb) rc9; have hbw := kp_below (K10.out.2); have ca := conv_src (HS0.out.below hbw) cap0; have cb := conv_src (HS1.out.below hbw) cap1; clear hbw; clear hq hb hr)
              | (go_at_call 18; have hq := K8.out; refine (read_any _ [98] _ _ _ hq.1 (by simp)).mono ?_; rintro e w9 ⟨ra9, rc9, x, rfl, hx, hr, hb⟩; rw [rd7s] at hx hr ⊢; subst hx; have HR9 := hid hr; have HBR9 := hid hb; have K9 := hid (And.intro (hq.1.below hb) (hq.2.trans (KP.below hb))); clear hq hb hr)
              | (go_at_call 17; have hq := K7.out; refine (on_any _ _ _ _ hq.1).mono ?_; rintro e w8 ⟨rfl, q1, q2⟩; have K8 : Hid (DK w8 _ (rn7 false (L0.length) L0) (fun j => j < w.heap.size) ∧ KP w w8 (fun j => j < w.heap.size)) := hid (And.intro q1 (hq.2.trans q2)); clear hq q1 q2)
              | (go_at_call 19; have hq := K6.out; refine (rename_any _ [97] [98] _ _ _ hq.1 (by simp) (by simp)).mono ?_; rintro e w7 ⟨x, rfl, hx, q1, q2⟩; rw [re7 _ _ hq0] at hx q1; subst hx; have K7 := hid (And.intro q1 (hq.2.trans q2)); clear hq q1 q2)
              | (go_at_call 15; have hq := K5.out; refine (cut_any _ 0 part 0 _ _ _ hq.1 (by omega) hpm (by omega)).mono ?_; rintro e w6 ⟨x, rfl, hx, q1, q2⟩; rw [re8 _ _ _ _ hp0] at hx q1; subst hx; have K6 := hid (And.intro q1 (hq.2.trans q2)); clear hq q1 q2)
              | (go_at_call 14; have hq := K4.out; refine (sync_any _ [97] _ _ _ hq.1 (by simp)).mono ?_; rintro e w5 ⟨x, rfl, hx, q1, q2⟩; rw [re4] at hx q1; subst hx; have K5 := hid (And.intro q1 (hq.2.trans q2)); clear hq q1 q2)
              | (go_at_call 14; have hq := K3.out; refine (sync_any _ [98] _ _ _ hq.1 (by simp)).mono ?_; rintro e w4 ⟨x, rfl, hx, q1, q2⟩; rw [re3] at hx q1; subst hx; have K4 := hid (And.intro q1 (hq.2.trans q2)); clear hq q1 q2)
              | (go_at_call 13; have hq := K2.out; refine (append_any _ [98] L1 a1 cap1 _ _ _ hq.1 (by simp) (src_kp hq.2 (fun j hj => hj) HS1.out (fun hp ad e => src_block HS1.out ad hp e)) (fun hp ad e => src_block HS1.out ad hp e) HZ1.out HB1.out HL1.out).mono ?_; rintro e w3 ⟨x, rfl, hx, q1, q2⟩; rw [re2 _ _ hl0' hl1'] at hx q1; subst hx; have K3 := hid (And.intro q1 (hq.2.trans q2)); clear hq q1 q2)
              | (go_at_call 13; have hq := K1.out; refine (append_any _ [97] L0 a0 cap0 _ _ _ hq.1 (by simp) (src_kp hq.2 (fun j hj => hj) HS0.out (fun hp ad e => src_block HS0.out ad hp e)) (fun hp ad e => src_block HS0.out ad hp e) HZ0.out HB0.out HL0.out).mono ?_; rintro e w2 ⟨x, rfl, hx, q1, q2⟩; rw [re1 _ hl0'] at hx q1; subst hx; have K2 := hid (And.intro q1 (hq.2.trans q2)); clear hq q1 q2)
              | (go_at_call 9; refine (new_any 100000 (by omega) _).mono ?_; rintro e w1 ⟨d, rfl, hb1, q1⟩; have K1 : Hid (DK w1 d rn0 (fun j => j < w.heap.size) ∧ KP w w1 (fun j => j < w.heap.size)) := hid (And.intro (q1.less (fun j hj => Nat.lt_of_lt_of_le hj HB00.out.size)) ((KP.below HB00.out).trans (KP.below hb1))); clear hb1 q1)
              | (go_at_call 8; refine (awake_any _).mono ?_; rintro e w0 ⟨rfl, hb0⟩; have HB00 := hid hb0; clear hb0))
          go_ret
          exact ⟨by simp, kp_below K10.out.2⟩
        | false =>
          go_enter Try.func6, Try.ntmps6
          go_wp2_with (first
              | (go_at_call 18; have hq := K8.out; refine (read_any _ [97] _ _ _ hq.1 (by simp)).mono ?_; rintro e w9 ⟨ra9, rc9, x, rfl, hx, hr, hb⟩; rw [rd7a] at hx hr ⊢; subst hx; have HR9 := hid hr; have HBR9 := hid hb; have K9 := hid (And.intro (hq.1.below hb) (hq.2.trans (KP.below hb))); have cx := conv_src ((own_src_at HR8.out rfl).below hb) rc8; have hbw := kp_below (K9.out.2); have ca := conv_src (HS0.out.below hbw) cap0; have cb := conv_src (HS1.out.below hbw) cap1; clear hbw; clear hq hb hr)
              | (go_at_call 18; have hq := K7.out; refine (read_any _ [98] _ _ _ hq.1 (by simp)).mono ?_; rintro e w8 ⟨ra8, rc8, x, rfl, hx, hr, hb⟩; rw [rd7z] at hx hr ⊢; subst hx; have HR8 := hid hr; have HBR8 := hid hb; have K8 := hid (And.intro (hq.1.below hb) (hq.2.trans (KP.below hb))); clear hq hb hr)
              | (go_at_call 17; have hq := K6.out; refine (on_any _ _ _ _ hq.1).mono ?_; rintro e w7 ⟨rfl, q1, q2⟩; have K7 : Hid (DK w7 _ (rn7 false (0) L0) (fun j => j < w.heap.size) ∧ KP w w7 (fun j => j < w.heap.size)) := hid (And.intro q1 (hq.2.trans q2)); clear hq q1 q2)
              | (go_at_call 19; have hq := K5.out; refine (rename_any _ [97] [98] _ _ _ hq.1 (by simp) (by simp)).mono ?_; rintro e w6 ⟨x, rfl, hx, q1, q2⟩; rw [re7 _ _ hq0] at hx q1; subst hx; have K6 := hid (And.intro q1 (hq.2.trans q2)); clear hq q1 q2)
              | (go_at_call 15; have hq := K4.out; refine (cut_any _ 0 part 0 _ _ _ hq.1 (by omega) hpm (by omega)).mono ?_; rintro e w5 ⟨x, rfl, hx, q1, q2⟩; rw [re8 _ _ _ _ hp0] at hx q1; subst hx; have K5 := hid (And.intro q1 (hq.2.trans q2)); clear hq q1 q2)
              | (go_at_call 14; have hq := K3.out; refine (sync_any _ [98] _ _ _ hq.1 (by simp)).mono ?_; rintro e w4 ⟨x, rfl, hx, q1, q2⟩; rw [re3] at hx q1; subst hx; have K4 := hid (And.intro q1 (hq.2.trans q2)); clear hq q1 q2)
              | (go_at_call 13; have hq := K2.out; refine (append_any _ [98] L1 a1 cap1 _ _ _ hq.1 (by simp) (src_kp hq.2 (fun j hj => hj) HS1.out (fun hp ad e => src_block HS1.out ad hp e)) (fun hp ad e => src_block HS1.out ad hp e) HZ1.out HB1.out HL1.out).mono ?_; rintro e w3 ⟨x, rfl, hx, q1, q2⟩; rw [re2 _ _ hl0' hl1'] at hx q1; subst hx; have K3 := hid (And.intro q1 (hq.2.trans q2)); clear hq q1 q2)
              | (go_at_call 13; have hq := K1.out; refine (append_any _ [97] L0 a0 cap0 _ _ _ hq.1 (by simp) (src_kp hq.2 (fun j hj => hj) HS0.out (fun hp ad e => src_block HS0.out ad hp e)) (fun hp ad e => src_block HS0.out ad hp e) HZ0.out HB0.out HL0.out).mono ?_; rintro e w2 ⟨x, rfl, hx, q1, q2⟩; rw [re1 _ hl0'] at hx q1; subst hx; have K2 := hid (And.intro q1 (hq.2.trans q2)); clear hq q1 q2)
              | (go_at_call 9; refine (new_any 100000 (by omega) _).mono ?_; rintro e w1 ⟨d, rfl, hb1, q1⟩; have K1 : Hid (DK w1 d rn0 (fun j => j < w.heap.size) ∧ KP w w1 (fun j => j < w.heap.size)) := hid (And.intro (q1.less (fun j hj => Nat.lt_of_lt_of_le hj HB00.out.size)) ((KP.below HB00.out).trans (KP.below hb1))); clear hb1 q1)
              | (go_at_call 8; refine (awake_any _).mono ?_; rintro e w0 ⟨rfl, hb0⟩; have HB00 := hid hb0; clear hb0))
          go_ret
          exact ⟨by simp, kp_below K9.out.2⟩
    · have e3 : decide (0 ≤ part) = false := decide_eq_false hp0
      have hp0 : part < 0 := by omega
      cases sure with
      | true =>
        go_enter Try.func6, Try.ntmps6
        go_wp2_with (first
            | (go_at_call 18; have hq := K9.out; refine (read_any _ [97] _ _ _ hq.1 (by simp)).mono ?_; rintro e w10 ⟨ra10, rc10, x, rfl, hx, hr, hb⟩; rw [rd5a] at hx hr ⊢; subst hx; have HR10 := hid hr; have HBR10 := hid hb; have K10 := hid (And.intro (hq.1.below hb) (hq.2.trans (KP.below hb))); have cx := conv_src ((own_src_at HR9.out rfl).below hb) rc9; have hbw := kp_below (K10.out.2); have ca := conv_src (HS0.out.below hbw) cap0; have cb := conv_src (HS1.out.below hbw) cap1; clear hbw; clear hq hb hr)
            | (go_at_call 18; have hq := K8.out; refine (read_any _ [98] _ _ _ hq.1 (by simp)).mono ?_; rintro e w9 ⟨ra9, rc9, x, rfl, hx, hr, hb⟩; rw [rd5b] at hx hr ⊢; subst hx; have HR9 := hid hr; have HBR9 := hid hb; have K9 := hid (And.intro (hq.1.below hb) (hq.2.trans (KP.below hb))); clear hq hb hr)
            | (go_at_call 17; have hq := K7.out; refine (on_any _ _ _ _ hq.1).mono ?_; rintro e w8 ⟨rfl, q1, q2⟩; have K8 : Hid (DK w8 _ (rn5 (L0.length) L0) (fun j => j < w.heap.size) ∧ KP w w8 (fun j => j < w.heap.size)) := hid (And.intro q1 (hq.2.trans q2)); clear hq q1 q2)
            | (go_at_call 19; have hq := K6.out; refine (rename_any _ [97] [98] _ _ _ hq.1 (by simp) (by simp)).mono ?_; rintro e w7 ⟨x, rfl, hx, q1, q2⟩; rw [re5] at hx q1; subst hx; have K7 := hid (And.intro q1 (hq.2.trans q2)); clear hq q1 q2)
            | (go_at_call 15; have hq := K5.out; refine (cut_any _ 0 part 0 _ _ _ hq.1 (by omega) hpm (by omega)).mono ?_; rintro e w6 ⟨x, rfl, hx, q1, q2⟩; rw [re9 _ _ _ _ hp0] at hx q1; subst hx; have K6 := hid (And.intro q1 (hq.2.trans q2)); clear hq q1 q2)
            | (go_at_call 14; have hq := K4.out; refine (sync_any _ [97] _ _ _ hq.1 (by simp)).mono ?_; rintro e w5 ⟨x, rfl, hx, q1, q2⟩; rw [re4] at hx q1; subst hx; have K5 := hid (And.intro q1 (hq.2.trans q2)); clear hq q1 q2)
            | (go_at_call 14; have hq := K3.out; refine (sync_any _ [98] _ _ _ hq.1 (by simp)).mono ?_; rintro e w4 ⟨x, rfl, hx, q1, q2⟩; rw [re3] at hx q1; subst hx; have K4 := hid (And.intro q1 (hq.2.trans q2)); clear hq q1 q2)
            | (go_at_call 13; have hq := K2.out; refine (append_any _ [98] L1 a1 cap1 _ _ _ hq.1 (by simp) (src_kp hq.2 (fun j hj => hj) HS1.out (fun hp ad e => src_block HS1.out ad hp e)) (fun hp ad e => src_block HS1.out ad hp e) HZ1.out HB1.out HL1.out).mono ?_; rintro e w3 ⟨x, rfl, hx, q1, q2⟩; rw [re2 _ _ hl0' hl1'] at hx q1; subst hx; have K3 := hid (And.intro q1 (hq.2.trans q2)); clear hq q1 q2)
            | (go_at_call 13; have hq := K1.out; refine (append_any _ [97] L0 a0 cap0 _ _ _ hq.1 (by simp) (src_kp hq.2 (fun j hj => hj) HS0.out (fun hp ad e => src_block HS0.out ad hp e)) (fun hp ad e => src_block HS0.out ad hp e) HZ0.out HB0.out HL0.out).mono ?_; rintro e w2 ⟨x, rfl, hx, q1, q2⟩; rw [re1 _ hl0'] at hx q1; subst hx; have K2 := hid (And.intro q1 (hq.2.trans q2)); clear hq q1 q2)
            | (go_at_call 9; refine (new_any 100000 (by omega) _).mono ?_; rintro e w1 ⟨d, rfl, hb1, q1⟩; have K1 : Hid (DK w1 d rn0 (fun j => j < w.heap.size) ∧ KP w w1 (fun j => j < w.heap.size)) := hid (And.intro (q1.less (fun j hj => Nat.lt_of_lt_of_le hj HB00.out.size)) ((KP.below HB00.out).trans (KP.below hb1))); clear hb1 q1)
            | (go_at_call 8; refine (awake_any _).mono ?_; rintro e w0 ⟨rfl, hb0⟩; have HB00 := hid hb0; clear hb0))
        go_ret
        exact ⟨by simp, kp_below K10.out.2⟩
      | false =>
        go_enter Try.func6, Try.ntmps6
        go_wp2_with (first
            | (go_at_call 18; have hq := K8.out; refine (read_any _ [97] _ _ _ hq.1 (by simp)).mono ?_; rintro e w9 ⟨ra9, rc9, x, rfl, hx, hr, hb⟩; rw [rd5a] at hx hr ⊢; subst hx; have HR9 := hid hr; have HBR9 := hid hb; have K9 := hid (And.intro (hq.1.below hb) (hq.2.trans (KP.below hb))); have cx := conv_src ((own_src_at HR8.out rfl).below hb) rc8; have hbw := kp_below (K9.out.2); have ca := conv_src (HS0.out.below hbw) cap0; have cb := conv_src (HS1.out.below hbw) cap1; clear hbw; clear hq hb hr)
            | (go_at_call 18; have hq := K7.out; refine (read_any _ [98] _ _ _ hq.1 (by simp)).mono ?_; rintro e w8 ⟨ra8, rc8, x, rfl, hx, hr, hb⟩; rw [rd5b] at hx hr ⊢; subst hx; have HR8 := hid hr; have HBR8 := hid hb; have K8 := hid (And.intro (hq.1.below hb) (hq.2.trans (KP.below hb))); clear hq hb hr)
            | (go_at_call 17; have hq := K6.out; refine (on_any _ _ _ _ hq.1).mono ?_; rintro e w7 ⟨rfl, q1, q2⟩; have K7 : Hid (DK w7 _ (rn5 (0) L0) (fun j => j < w.heap.size) ∧ KP w w7 (fun j => j < w.heap.size)) := hid (And.intro q1 (hq.2.trans q2)); clear hq q1 q2)
            | (go_at_call 19; have hq := K5.out; refine (rename_any _ [97] [98] _ _ _ hq.1 (by simp) (by simp)).mono ?_; rintro e w6 ⟨x, rfl, hx, q1, q2⟩; rw [re5] at hx q1; subst hx; have K6 := hid (And.intro q1 (hq.2.trans q2)); clear hq q1 q2)
            | (go_at_call 15; have hq := K4.out; refine (cut_any _ 0 part 0 _ _ _ hq.1 (by omega) hpm (by omega)).mono ?_; rintro e w5 ⟨x, rfl, hx, q1, q2⟩; rw [re9 _ _ _ _ hp0] at hx q1; subst hx; have K5 := hid (And.intro q1 (hq.2.trans q2)); clear hq q1 q2)
            | (go_at_call 14; have hq := K3.out; refine (sync_any _ [98] _ _ _ hq.1 (by simp)).mono ?_; rintro e w4 ⟨x, rfl, hx, q1, q2⟩; rw [re3] at hx q1; subst hx; have K4 := hid (And.intro q1 (hq.2.trans q2)); clear hq q1 q2)
            | (go_at_call 13; have hq := K2.out; refine (append_any _ [98] L1 a1 cap1 _ _ _ hq.1 (by simp) (src_kp hq.2 (fun j hj => hj) HS1.out (fun hp ad e => src_block HS1.out ad hp e)) (fun hp ad e => src_block HS1.out ad hp e) HZ1.out HB1.out HL1.out).mono ?_; rintro e w3 ⟨x, rfl, hx, q1, q2⟩; rw [re2 _ _ hl0' hl1'] at hx q1; subst hx; have K3 := hid (And.intro q1 (hq.2.trans q2)); clear hq q1 q2)
            | (go_at_call 13; have hq := K1.out; refine (append_any _ [97] L0 a0 cap0 _ _ _ hq.1 (by simp) (src_kp hq.2 (fun j hj => hj) HS0.out (fun hp ad e => src_block HS0.out ad hp e)) (fun hp ad e => src_block HS0.out ad hp e) HZ0.out HB0.out HL0.out).mono ?_; rintro e w2 ⟨x, rfl, hx, q1, q2⟩; rw [re1 _ hl0'] at hx q1; subst hx; have K2 := hid (And.intro q1 (hq.2.trans q2)); clear hq q1 q2)
            | (go_at_call 9; refine (new_any 100000 (by omega) _).mono ?_; rintro e w1 ⟨d, rfl, hb1, q1⟩; have K1 : Hid (DK w1 d rn0 (fun j => j < w.heap.size) ∧ KP w w1 (fun j => j < w.heap.size)) := hid (And.intro (q1.less (fun j hj => Nat.lt_of_lt_of_le hj HB00.out.size)) ((KP.below HB00.out).trans (KP.below hb1))); clear hb1 q1)
            | (go_at_call 8; refine (awake_any _).mono ?_; rintro e w0 ⟨rfl, hb0⟩; have HB00 := hid hb0; clear hb0))
        go_ret
        exact ⟨by simp, kp_below K9.out.2⟩
  · cases sure with
    | true =>
      go_enter Try.func6, Try.ntmps6
      go_wp2_with (first
          | (go_at_call 18; have hq := K8.out; refine (read_any _ [97] _ _ _ hq.1 (by simp)).mono ?_; rintro e w9 ⟨ra9, rc9, x, rfl, hx, hr, hb⟩; rw [rd5a] at hx hr ⊢; subst hx; have HR9 := hid hr; have HBR9 := hid hb; have K9 := hid (And.intro (hq.1.below hb) (hq.2.trans (KP.below hb))); have cx := conv_src ((own_src_at HR8.out rfl).below hb) rc8; have hbw := kp_below (K9.out.2); have ca := conv_src (HS0.out.below hbw) cap0; have cb := conv_src (HS1.out.below hbw) cap1; clear hbw; clear hq hb hr)
          | (go_at_call 18; have hq := K7.out; refine (read_any _ [98] _ _ _ hq.1 (by simp)).mono ?_; rintro e w8 ⟨ra8, rc8, x, rfl, hx, hr, hb⟩; rw [rd5b] at hx hr ⊢; subst hx; have HR8 := hid hr; have HBR8 := hid hb; have K8 := hid (And.intro (hq.1.below hb) (hq.2.trans (KP.below hb))); clear hq hb hr)
          | (go_at_call 17; have hq := K6.out; refine (on_any _ _ _ _ hq.1).mono ?_; rintro e w7 ⟨rfl, q1, q2⟩; have K7 : Hid (DK w7 _ (rn5 (L0.length) L0) (fun j => j < w.heap.size) ∧ KP w w7 (fun j => j < w.heap.size)) := hid (And.intro q1 (hq.2.trans q2)); clear hq q1 q2)
          | (go_at_call 19; have hq := K5.out; refine (rename_any _ [97] [98] _ _ _ hq.1 (by simp) (by simp)).mono ?_; rintro e w6 ⟨x, rfl, hx, q1, q2⟩; rw [re5] at hx q1; subst hx; have K6 := hid (And.intro q1 (hq.2.trans q2)); clear hq q1 q2)
          | (go_at_call 14; have hq := K4.out; refine (sync_any _ [97] _ _ _ hq.1 (by simp)).mono ?_; rintro e w5 ⟨x, rfl, hx, q1, q2⟩; rw [re4] at hx q1; subst hx; have K5 := hid (And.intro q1 (hq.2.trans q2)); clear hq q1 q2)
          | (go_at_call 14; have hq := K3.out; refine (sync_any _ [98] _ _ _ hq.1 (by simp)).mono ?_; rintro e w4 ⟨x, rfl, hx, q1, q2⟩; rw [re3] at hx q1; subst hx; have K4 := hid (And.intro q1 (hq.2.trans q2)); clear hq q1 q2)
          | (go_at_call 13; have hq := K2.out; refine (append_any _ [98] L1 a1 cap1 _ _ _ hq.1 (by simp) (src_kp hq.2 (fun j hj => hj) HS1.out (fun hp ad e => src_block HS1.out ad hp e)) (fun hp ad e => src_block HS1.out ad hp e) HZ1.out HB1.out HL1.out).mono ?_; rintro e w3 ⟨x, rfl, hx, q1, q2⟩; rw [re2 _ _ hl0' hl1'] at hx q1; subst hx; have K3 := hid (And.intro q1 (hq.2.trans q2)); clear hq q1 q2)
          | (go_at_call 13; have hq := K1.out; refine (append_any _ [97] L0 a0 cap0 _ _ _ hq.1 (by simp) (src_kp hq.2 (fun j hj => hj) HS0.out (fun hp ad e => src_block HS0.out ad hp e)) (fun hp ad e => src_block HS0.out ad hp e) HZ0.out HB0.out HL0.out).mono ?_; rintro e w2 ⟨x, rfl, hx, q1, q2⟩; rw [re1 _ hl0'] at hx q1; subst hx; have K2 := hid (And.intro q1 (hq.2.trans q2)); clear hq q1 q2)
          | (go_at_call 9; refine (new_any 100000 (by omega) _).mono ?_; rintro e w1 ⟨d, rfl, hb1, q1⟩; have K1 : Hid (DK w1 d rn0 (fun j => j < w.heap.size) ∧ KP w w1 (fun j => j < w.heap.size)) := hid (And.intro (q1.less (fun j hj => Nat.lt_of_lt_of_le hj HB00.out.size)) ((KP.below HB00.out).trans (KP.below hb1))); clear hb1 q1)
          | (go_at_call 8; refine (awake_any _).mono ?_; rintro e w0 ⟨rfl, hb0⟩; have HB00 := hid hb0; clear hb0))
      go_ret
      exact ⟨by simp, kp_below K9.out.2⟩
    | false =>
      go_enter Try.func6, Try.ntmps6
      go_wp2_with (first
          | (go_at_call 18; have hq := K7.out; refine (read_any _ [97] _ _ _ hq.1 (by simp)).mono ?_; rintro e w8 ⟨ra8, rc8, x, rfl, hx, hr, hb⟩; rw [rd5a] at hx hr ⊢; subst hx; have HR8 := hid hr; have HBR8 := hid hb; have K8 := hid (And.intro (hq.1.below hb) (hq.2.trans (KP.below hb))); have cx := conv_src ((own_src_at HR7.out rfl).below hb) rc7; have hbw := kp_below (K8.out.2); have ca := conv_src (HS0.out.below hbw) cap0; have cb := conv_src (HS1.out.below hbw) cap1; clear hbw; clear hq hb hr)
          | (go_at_call 18; have hq := K6.out; refine (read_any _ [98] _ _ _ hq.1 (by simp)).mono ?_; rintro e w7 ⟨ra7, rc7, x, rfl, hx, hr, hb⟩; rw [rd5b] at hx hr ⊢; subst hx; have HR7 := hid hr; have HBR7 := hid hb; have K7 := hid (And.intro (hq.1.below hb) (hq.2.trans (KP.below hb))); clear hq hb hr)
          | (go_at_call 17; have hq := K5.out; refine (on_any _ _ _ _ hq.1).mono ?_; rintro e w6 ⟨rfl, q1, q2⟩; have K6 : Hid (DK w6 _ (rn5 (0) L0) (fun j => j < w.heap.size) ∧ KP w w6 (fun j => j < w.heap.size)) := hid (And.intro q1 (hq.2.trans q2)); clear hq q1 q2)
          | (go_at_call 19; have hq := K4.out; refine (rename_any _ [97] [98] _ _ _ hq.1 (by simp) (by simp)).mono ?_; rintro e w5 ⟨x, rfl, hx, q1, q2⟩; rw [re5] at hx q1; subst hx; have K5 := hid (And.intro q1 (hq.2.trans q2)); clear hq q1 q2)
          | (go_at_call 14; have hq := K3.out; refine (sync_any _ [98] _ _ _ hq.1 (by simp)).mono ?_; rintro e w4 ⟨x, rfl, hx, q1, q2⟩; rw [re3] at hx q1; subst hx; have K4 := hid (And.intro q1 (hq.2.trans q2)); clear hq q1 q2)
          | (go_at_call 13; have hq := K2.out; refine (append_any _ [98] L1 a1 cap1 _ _ _ hq.1 (by simp) (src_kp hq.2 (fun j hj => hj) HS1.out (fun hp ad e => src_block HS1.out ad hp e)) (fun hp ad e => src_block HS1.out ad hp e) HZ1.out HB1.out HL1.out).mono ?_; rintro e w3 ⟨x, rfl, hx, q1, q2⟩; rw [re2 _ _ hl0' hl1'] at hx q1; subst hx; have K3 := hid (And.intro q1 (hq.2.trans q2)); clear hq q1 q2)
          | (go_at_call 13; have hq := K1.out; refine (append_any _ [97] L0 a0 cap0 _ _ _ hq.1 (by simp) (src_kp hq.2 (fun j hj => hj) HS0.out (fun hp ad e => src_block HS0.out ad hp e)) (fun hp ad e => src_block HS0.out ad hp e) HZ0.out HB0.out HL0.out).mono ?_; rintro e w2 ⟨x, rfl, hx, q1, q2⟩; rw [re1 _ hl0'] at hx q1; subst hx; have K2 := hid (And.intro q1 (hq.2.trans q2)); clear hq q1 q2)
          | (go_at_call 9; refine (new_any 100000 (by omega) _).mono ?_; rintro e w1 ⟨d, rfl, hb1, q1⟩; have K1 : Hid (DK w1 d rn0 (fun j => j < w.heap.size) ∧ KP w w1 (fun j => j < w.heap.size)) := hid (And.intro (q1.less (fun j hj => Nat.lt_of_lt_of_le hj HB00.out.size)) ((KP.below HB00.out).trans (KP.below hb1))); clear hb1 q1)
          | (go_at_call 8; refine (awake_any _).mono ?_; rintro e w0 ⟨rfl, hb0⟩; have HB00 := hid hb0; clear hb0))
      go_ret
      exact ⟨by simp, kp_below K8.out.2⟩

theorem rename_walk {w : World} (a0 : Option Addr) (len0 cap0 : Nat) (z0 : List Int) (h0 : IsRow .u8 w a0 len0 cap0 z0) (a1 : Option Addr) (len1 cap1 : Nat) (z1 : List Int) (h1 : IsRow .u8 w a1 len1 cap1 z1) (sure : Bool) (cut : Int) (hc : (Lit.int .i64 cut).wf = true) (part : Int) (hp : (Lit.int .i64 part).wf = true) :
    Calls Try.prog 6 #[.slice a0 len0 cap0, .slice a1 len1 cap1, .bool sure, .int .i64 cut, .int .i64 part] w fun e w' => e = .returned (.bool true) ∧ Below w.heap.size w w' := by
  obtain ⟨s0, b0, c0, d0⟩ := h0.src
  obtain ⟨s1, b1, c1, d1⟩ := h1.src
  have n0 := row_none h0
  have n1 := row_none h1
  obtain ⟨L0, hL0⟩ : ∃ L, L = z0.take len0 := ⟨_, rfl⟩
  obtain ⟨L1, hL1⟩ : ∃ L, L = z1.take len1 := ⟨_, rfl⟩
  rw [← hL0] at s0 b0
  rw [← hL1] at s1 b1
  clear hL0 hL1 h0 h1
  obtain rfl : len0 = L0.length := s0.1.symm
  obtain rfl : len1 = L1.length := s1.1.symm
  exact rename_walk0 a0 a1 cap0 cap1 L0 L1 sure cut part w s0 s1 b0 b1 ⟨c0, by unfold maxLen; omega⟩ ⟨c1, by unfold maxLen; omega⟩ n0 n1 (by have := bounds_i64 hp; omega)
end

section
set_option linter.unusedVariables false
open Go.RowKit
open Go.ChangeShapes Go.WideShapes Go.ChangeAt

theorem open_byt {H : Type} {enc : TypeId × Value → H} {W : World} {a : Option Addr} {len cap : Nat} {d : DataW H} {p : List MemPlace} (h : DataW.Trod enc Try.prog W 0 (fun _ => true) true 31 (.slice a len cap) d p) : ∃ zs, IsRow .u8 W a len cap zs := by
  obtain ⟨fuel, hf⟩ := h
  rcases open_ints Try.underlying31 Try.underlying5 (by kernel_rfl) hf with ⟨hcs, _⟩ | ⟨x, l, c, zs, hcs, _, hl, hm, hz, _, hcell, hwz⟩
  · simp [Value.cells] at hcs
    obtain ⟨rfl, rfl, rfl⟩ := hcs
    exact ⟨[], .inl ⟨rfl, rfl, rfl, rfl⟩⟩
  · simp [Value.cells] at hcs
    obtain ⟨rfl, rfl, rfl⟩ := hcs
    exact ⟨zs, .inr ⟨_, rfl, hl, hm, by simpa using hz, hcell, hwz⟩⟩
end
end Go.Proofs.Ytocglenkdjiknaa
