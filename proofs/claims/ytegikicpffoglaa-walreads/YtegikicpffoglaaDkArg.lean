/- Arguments that come in. -/
import Derived.Test.YtegikicpffoglaaWlSame
import Derived.Test.YtegikicpffoglaaDkMay
import Derived.WalkKit
import Derived.ProofKit
import Derived.OpenShut
import Derived.ShutString
import Derived.ChangeOld
import Derived.Below
import Derived.ChangeMaps5
import Derived.Deep.Matrix
namespace Go.Proofs.Ytegikicpffoglaa
section
set_option linter.unusedVariables false
set_option linter.unusedSimpArgs false
open Go.RowKit Go.Sort Go.Maps Go.Shelf

theorem str_enc' (s : ByteArray) : (Value.string s) = encStr s.data.toList := by
  cases s
  simp [encStr]
/-- A file among others holds b; no cut is to come. -/
structure LN (D : Dk) (n : Nm) (b : List Int) : Prop where
  off : D.off = false
  due : D.due = none
  file : ∃ s, lk D.F n = some ⟨b, s⟩
theorem LN.read {D : Dk} {n : Nm} {b : List Int} (h : LN D n b) (hm : mayB n = true) : wreadD D n = (b, 0) := by
  obtain ⟨s, e⟩ := h.file
  unfold wreadD
  rw [if_neg (by rw [hm]; simp), if_neg (by rw [h.off]; simp), e]
  rfl
theorem LN.told {D : Dk} {n : Nm} {b : List Int} (h : LN D n b) : readD D n = (b, 0) := by
  obtain ⟨s, e⟩ := h.file
  unfold readD
  rw [if_neg (by rw [h.off]; simp), e]
theorem LN.sho {D : Dk} {n : Nm} {b : List Int} (h : LN D n b) (k : Nat) (hk : k < b.length) : (operD (eSho n (k : Nat)) D).2 = 0 ∧ LN (operD (eSho n (k : Nat)) D).1 n (b.take k) ∧ ∀ m, m ≠ n → lk (operD (eSho n (k : Nat)) D).1.F m = lk D.F m := by
  obtain ⟨s, e⟩ := h.file
  rw [operD_calm h.off h.due]
  have hn : ¬ ((k : Nat) : Int) < 0 := by omega
  have h2 : ¬ b.length ≤ k := by omega
  have e1 : eSho n (k : Nat) none D.F = (put D.F n (Fl.cutTo k ⟨b, s⟩), 0) := by
    unfold eSho
    rw [e]
    simp [hn]
  rw [e1]
  refine ⟨rfl, ⟨rfl, rfl, min s k, ?_⟩, fun m hm => ?_⟩
  · show lk (put D.F n _) n = _
    rw [lk_put, if_pos rfl]
    simp [Fl.cutTo, h2]
  · show lk (put D.F n _) m = _
    rw [lk_put, if_neg hm]
theorem open_ln (d : Nat) (D : Dk) (P : Nat → Prop) (w : World) (n : Nm) (b : List Int) (h : DK w d D P) (hl : LN D n b) (hm : mayB n = true) (hn : n.length ≤ 1000) (hb : b.length ≤ 1048576) : Calls Try.prog 11 #[.pointer (some ⟨d, 0, none⟩), encStr n] w fun e w' => ∃ D', LN D' n (frs (spl b).1) ∧ (∀ m, m ≠ n → lk D'.F m = lk D.F m) ∧ OpenOk d n D' (spl b).1 P w e w' := by
  have hr := hl.read hm
  have hbt := wread_bts h.good n
  rw [hr] at hbt
  have hle := spl_le _ b (Nat.le_refl _) hbt
  have htk := spl_take _ b (Nat.le_refl _) hbt
  have hbo : bodD D n = (spl b).1 := by unfold bodD; rw [hr]
  rcases Nat.lt_or_ge (spl b).2 b.length with hlt | hge
  · obtain ⟨h1, h2, h3⟩ := hl.sho (spl b).2 hlt
    have hc := wopen_cut d n D P w h hn (by rw [hr]) (by rw [hr]; exact hb) (by rw [hr]; exact hlt) (by rw [hr]; exact h1)
    rw [hr, hbo] at hc
    rw [htk] at h2
    exact hc.mono fun e w' he => ⟨_, h2, h3, he⟩
  · have hc := wopen_whole d n D P w h hn (by rw [hr]) (by rw [hr]; exact hb) (by rw [hr]; exact Nat.le_antisymm hle hge)
    rw [hbo] at hc
    rw [List.take_of_length_le hge] at htk
    refine hc.mono fun e w' he => ⟨D, ?_, fun _ _ => rfl, he⟩
    rw [← htk]
    exact hl
def oth : Nm := [111, 116, 104, 101, 114]
def rd0 : Dk := ⟨100000, false, none, []⟩
theorem rd_bad {n : Nm} (L0 : List Int) (hm : mayB n = false) : operD (eApp 100000 n L0) rd0 = (rd0, 61) := by simp [rd0, operD, eApp, hm]
theorem rd_one {n : Nm} {L0 : List Int} (hm : mayB n = true) (hl : L0.length ≤ 3000) : operD (eApp 100000 n L0) rd0 = (⟨100000, false, none, [(n, ⟨L0, 0⟩)]⟩, 0) := by
  have : ¬ 100000 < L0.length := by omega
  simp [rd0, operD, eApp, hm, lk, sm, put, fz, this]
theorem rd_two {F : List (Nm × Fl)} (hs : sm Fl.n F ≤ 3000) (hl : F.length < 100) : operD (eApp 100000 oth [120]) ⟨100000, false, none, F⟩ = (⟨100000, false, none, put F oth ⟨(fz (lk F oth)).b ++ [120], (fz (lk F oth)).s⟩⟩, 0) := by
  have hm : mayB oth = true := by kernel_rfl
  have h1 : ¬ (100000 - sm Fl.n F < [120].length ∨ (lk F oth = none ∧ 100 ≤ F.length)) := by
    simp only [List.length_cons, List.length_nil]
    omega
  unfold operD
  rw [if_neg (by simp)]
  simp only []
  unfold eApp
  rw [if_neg (by rw [hm]; simp), if_neg (by exact h1)]
  simp
/-- What lies on the disk then. -/
theorem rd_facts {n : Nm} {L0 : List Int} (hm : mayB n = true) (hl : L0.length ≤ 3000) : ∃ D1 D2, operD (eApp 100000 n L0) rd0 = (D1, 0) ∧ D1.room = 100000 ∧ operD (eApp 100000 oth [120]) D1 = (D2, 0) ∧ LN D2 n (if n = oth then L0 ++ [120] else L0) ∧ (n ≠ oth → LN D2 oth [120]) := by
  have h2 := rd_two (F := [(n, ⟨L0, 0⟩)]) (by simp [sm, Fl.n]; omega) (by simp)
  refine ⟨_, _, rd_one hm hl, rfl, h2, ?_, fun hne => ⟨rfl, rfl, 0, ?_⟩⟩
  · by_cases e : n = oth
    · rw [if_pos e]
      refine ⟨rfl, rfl, 0, ?_⟩
      show lk (put _ oth _) n = _
      rw [lk_put, if_pos e]
      simp [lk, fz, e]
    · rw [if_neg e]
      refine ⟨rfl, rfl, 0, ?_⟩
      show lk (put _ oth _) n = _
      rw [lk_put, if_neg e]
      simp [lk]
  · show lk (put _ oth _) oth = _
    rw [lk_put, if_pos rfl]
    simp [lk, fz, hne]
theorem rd_three (L0 : List Int) : ∃ D2, operD (eApp 100000 oth [120]) rd0 = (D2, 0) ∧ D2.off = false := ⟨_, rd_two (F := []) (by simp [sm]) (by simp), rfl⟩

/-- The disk of the run. -/
structure WN (w wr : World) (d : Nat) (D : Dk) (P : Nat → Prop) : Prop where
  dk : DK wr d D P
  kp : KP w wr (fun j => j < w.heap.size)
  old : ∀ j, j < w.heap.size → P j
theorem WN.below {w wr w2 : World} {d : Nat} {D : Dk} {P : Nat → Prop} (h : WN w wr d D P) (hb : Below wr.heap.size wr w2) : WN w w2 d D P := ⟨h.dk.below hb, h.kp.trans (KP.below hb), h.old⟩
theorem WN.src {w wr : World} {d : Nat} {D : Dk} {P : Nat → Prop} (h : WN w wr d D P) {a : Option Addr} {L : List Int} (hs : Src w a L.length L) : Src wr a L.length L := src_kp2 h.kp (fun hp ad e => src_block hs ad hp e) hs
theorem WN.kpP {w wr : World} {d : Nat} {D : Dk} {P : Nat → Prop} {w2 : World} (h : WN w wr d D P) (k : KP wr w2 P) : KP w w2 (fun j => j < w.heap.size) :=
  ⟨Nat.le_trans h.kp.size k.size, fun j hj hP => (k.keep j (Nat.lt_of_lt_of_le hj h.kp.size) (h.old j hj)).trans (h.kp.keep j hj hP), h.kp.sm.trans k.sm⟩
theorem rn_append {w wr : World} {d : Nat} {D D' : Dk} {P : Nat → Prop} {n : Nm} {X : List Int} {a : Option Addr} {cap x : Nat} (h : WN w wr d D P) (hn : n.length ≤ maxLen) (hs : Src w a X.length X) (hX : Bts X) (hc : X.length ≤ cap ∧ cap ≤ maxLen) (hnil : a = none → cap = 0) (ho : operD (eApp D.room n X) D = (D', x)) :
    Calls Try.prog 10 #[.pointer (some ⟨d, 0, none⟩), encStr n, .slice a X.length cap] wr fun e w' => e = .returned (.int .i64 (x : Int)) ∧ WN w w' d D' P := by
  refine (append_any d n X a cap D P wr h.dk hn (h.src hs) (fun hp ad e => h.old _ (src_block hs ad hp e)) hnil hc hX).mono ?_
  rintro e w' ⟨y, rfl, hy, q1, q2⟩
  rw [ho] at hy q1
  subst hy
  exact ⟨rfl, q1, h.kpP q2, h.old⟩
theorem rn_append_new {w wr : World} {d : Nat} {D D' : Dk} {P : Nat → Prop} {n : Nm} (h : WN w wr d D P) (hn : n.length ≤ maxLen) (X : List Int) (C : Array Value) (fz : Nat × Nat) (hC : C = (X.map (Value.int .u8)).toArray) (hX : Bts X) (hl : X.length ≤ 1000) {x : Nat} (ho : operD (eApp D.room n X) D = (D', x)) :
    Calls Try.prog 10 #[.pointer (some ⟨d, 0, none⟩), encStr n, .slice (some ⟨wr.heap.size, 0, none⟩) X.length X.length] (wr.alloc (.cells C 5 fz)) fun e w' => e = .returned (.int .i64 (x : Int)) ∧ WN w w' d D' P := by
  have hb := new_below wr (.cells C 5 fz)
  refine (append_any d n X (some ⟨wr.heap.size, 0, none⟩) X.length D _ _ (h.dk.more hb) hn (src_new wr C fz X hC) (fun _ ad e => ?_) (fun e => by cases e) ⟨Nat.le_refl _, by unfold maxLen; omega⟩ hX).mono ?_
  · obtain rfl := Option.some.inj e
    exact Or.inr ⟨Nat.le_refl _, by simp⟩
  · rintro e w' ⟨y, rfl, hy, q1, q2⟩
    rw [ho] at hy q1
    subst hy
    exact ⟨rfl, q1.less (fun j hj => Or.inl hj), h.kpP ((KP.below hb).trans (q2.less (fun j hj => Or.inl hj))), h.old⟩
/-- Opening a file of it. -/
theorem rn_open {w wr : World} {d : Nat} {D : Dk} {P : Nat → Prop} {n : Nm} {b : List Int} (h : WN w wr d D P) (hl : LN D n b) (hm : mayB n = true) (hn : n.length ≤ 1000) (hb : b.length ≤ 1048576) : Calls Try.prog 11 #[.pointer (some ⟨d, 0, none⟩), encStr n] wr fun e w' => ∃ (D' : Dk) (l : Nat) (a : Option Addr) (c : Nat) (P' : Nat → Prop), e = .returned (.tuple #[.pointer (some ⟨l, 0, none⟩), .slice a (spl b).1.length c, .int .i64 0]) ∧ WN w w' d D' P' ∧ LN D' n (frs (spl b).1) ∧ (∀ m, m ≠ n → lk D'.F m = lk D.F m) ∧ Lw w' l ⟨0, d, n, (spl b).1.length, 0⟩ ∧ P' l ∧ BRow w' P' a (spl b).1 ∧ KP wr w' P ∧ (∀ j, P j → P' j) := by
  refine (open_ln d D P wr n b h.dk hl hm hn hb).mono ?_
  rintro e w' ⟨D', h1, h2, l, a, c, P', rfl, q1, q2, q3, q4, q5, q6, q7⟩
  exact ⟨D', l, a, c, P', rfl, ⟨q1, h.kpP q2, fun j hj => q3 j (h.old j hj)⟩, h1, h2, q6, q4, q7.mono (fun j hj => hj.1), q2, q3⟩
/-- Opening a file that is whole: nothing else turns. -/
theorem rn_again {w wr : World} {d : Nat} {D : Dk} {P : Nat → Prop} {n : Nm} {b : List Int} (h : WN w wr d D P) (hl : LN D n b) (hm : mayB n = true) (hn : n.length ≤ 1000) (hb : b.length ≤ 1048576) (hs : (spl b).2 = b.length) : Calls Try.prog 11 #[.pointer (some ⟨d, 0, none⟩), encStr n] wr fun e w' => ∃ (l : Nat) (a : Option Addr) (c : Nat), e = .returned (.tuple #[.pointer (some ⟨l, 0, none⟩), .slice a (spl b).1.length c, .int .i64 0]) ∧ Lw w' l ⟨0, d, n, (spl b).1.length, 0⟩ ∧ BS w' a (spl b).1 ∧ Below wr.heap.size wr w' := by
  have hr := hl.read hm
  have hc := wopen_whole_b d n D P wr h.dk hn (by rw [hr]) (by rw [hr]; exact hb) (by rw [hr]; exact hs)
  have hbo : bodD D n = (spl b).1 := by unfold bodD; rw [hr]
  rw [hbo] at hc
  refine hc.mono ?_
  rintro e w' ⟨⟨l, a, c, P', rfl, _, _, _, _, _, q6, q7⟩, hb⟩
  exact ⟨l, a, c, rfl, q6, q7.bs, hb⟩
theorem rn_new {w w0 : World} (h0 : Below w.heap.size w w0) : Calls Try.prog 9 #[.int .i64 100000] w0 fun e w' => ∃ d, e = .returned (.pointer (some ⟨d, 0, none⟩)) ∧ WN w w' d rd0 (fun j => j < w0.heap.size) := by
  refine (new_any 100000 (by omega) w0).mono ?_
  rintro e w' ⟨d, rfl, hb, hk⟩
  exact ⟨d, rfl, hk, (KP.below h0).trans (KP.below hb), fun j hj => Nat.lt_of_lt_of_le hj h0.size⟩
theorem src_tk {w : World} {a : Option Addr} {L : List Int} (h : Src w a L.length L) (p : Nat) (hp : p ≤ L.length) : Src w a p (L.take p) := by
  refine ⟨by rw [List.length_take]; omega, fun hp2 => ?_⟩
  obtain ⟨ad, e, hc⟩ := h.2 (by omega)
  refine ⟨ad, e, fun j v hj => hc j v ?_⟩
  rw [List.getElem?_take] at hj
  split at hj
  · exact hj
  · cases hj
theorem lk_oth {D D' : Dk} {n : Nm} (hne : n ≠ oth) (h : LN D oth [120]) (ho : D'.off = false) (hd : D'.due = none) (hk : ∀ m, m ≠ n → lk D'.F m = lk D.F m) : LN D' oth [120] := ⟨ho, hd, by
  obtain ⟨s, e⟩ := h.file
  exact ⟨s, (hk oth (fun e => hne e.symm)).trans e⟩⟩

set_option maxRecDepth 100000 in
set_option maxHeartbeats 8000000 in
theorem reads_walk0 (a0 : Option Addr) (cap0 : Nat) (L0 : List Int) (x : ByteArray) (w : World) (s0 : Src w a0 L0.length L0) (b0 : Bts L0) (c0 : L0.length ≤ cap0 ∧ cap0 ≤ maxLen) (n0 : a0 = none → cap0 = 0) (hx : x.size ≤ maxLen) :
    Calls Try.prog 3 #[.slice a0 L0.length cap0, .string x] w fun e w' => e = .returned (.bool true) ∧ Below w.heap.size w w' := by
  have HS0 := hid s0
  have HB0 := hid b0
  have HC0 := hid c0
  have HN0 := hid n0
  unfold maxLen at hx
  clear s0 b0 n0
  by_cases hc : 3000 < L0.length
  · have e1 : decide ((3000 : Int) < (L0.length : Int)) = true := decide_eq_true (by omega)
    go_enter Try.func3, Try.ntmps3
    go_wp2_with (go_at_call 8; refine (awake_any _).mono ?_; rintro e w1 ⟨rfl, hb1⟩; have HBa := hid hb1; clear hb1)
    go_ret
    exact ⟨rfl, HBa.out⟩
  have f0 : decide ((3000 : Int) < (L0.length : Int)) = false := decide_eq_false (by omega)
  have g0 : ¬ 3000 < L0.length := hc
  clear hc
  by_cases hc : 100 < x.size
  · have e1 : decide ((100 : Int) < (x.size : Int)) = true := decide_eq_true (by omega)
    go_enter Try.func3, Try.ntmps3
    go_wp2_with (go_at_call 8; refine (awake_any _).mono ?_; rintro e w1 ⟨rfl, hb1⟩; have HBa := hid hb1; clear hb1)
    go_ret
    exact ⟨rfl, HBa.out⟩
  have f1 : decide ((100 : Int) < (x.size : Int)) = false := decide_eq_false (by omega)
  have g1 : ¬ 100 < x.size := hc
  clear hc
  obtain ⟨n, hn⟩ : ∃ n, n = x.data.toList := ⟨_, rfl⟩
  have hsz : x.data.toList.length = x.size := tl_length x
  have hnl : n.length ≤ 100 := by
    rw [hn]
    omega
  have hxe : Value.string x = encStr n := by subst hn; exact str_enc' x
  have hxt : x.toList = n := by rw [Lib.toList_data, hn]
  have HXE := hid hxe
  have HNL := hid hnl
  have hl3 : L0.length ≤ 3000 := by omega
  have hmxo : Try.prog.follows .mixedOrders = true := by kernel_rfl
  have kc := fun (w : World) (C : Array Value) (n c : Nat) => Lib.run_convert_bytes_const (P := Try.prog) w 22 5 C n c Try.underlying22 Try.underlying5
  cases hm : mayB n with
  | false =>
    obtain ⟨D2, t1, t2⟩ := rd_three L0
    have HT1 := hid t1
    have HD1 := hid (rd_bad L0 hm)
    have HW := hid (show (wreadD D2 n).2 = 61 by unfold wreadD; rw [if_pos hm])
    clear hn hsz hxe t1 hm hxt hnl
    go_enter Try.func3, Try.ntmps3
    go_wp2_with (first
      | (go_at_call 11; have hq := K4.out; have hc := wopen_err _ n _ _ _ hq.dk (nl (by have := HNL.out; omega)) (by rw [HW.out]; simp); rw [← HXE.out] at hc; refine hc.mono ?_; clear hc; rintro e w5 ⟨rfl, q1, q2⟩; rw [HW.out]; have K5 := hid (hq.kpP q2); clear hq q1 q2)
      | (go_at_call 10; have hq := K3.out; refine (rn_append_new (n := oth) hq (by simp [oth, maxLen]) [120] _ _ rfl (bts1 _ (by decide)) (by simp) HT1.out).mono ?_; rintro e w4 ⟨rfl, k4⟩; have K4 := hid k4; clear hq k4)
      | (go_at_call 10; (fail_if_success have := K3); have hq := K2.out; have hc := rn_append hq (nl (by have := HNL.out; omega)) HS0.out HB0.out HC0.out HN0.out HD1.out; rw [← HXE.out] at hc; refine hc.mono ?_; clear hc; rintro e w3 ⟨rfl, k3⟩; have K3 := hid k3; clear hq k3)
      | (go_at_call 9; refine (rn_new (w := w) HBa.out).mono ?_; rintro e w2 ⟨d, rfl, k2⟩; have K2 := hid k2; clear k2)
      | (go_at_call 8; refine (awake_any _).mono ?_; rintro e w1 ⟨rfl, hb1⟩; have HBa := hid hb1; clear hb1))
    go_ret
    exact ⟨rfl, kp_below K5.out⟩
  | true =>
  obtain ⟨D1, D2, t1, t2, t3, t4, t5⟩ := rd_facts hm hl3
  have HD1 := hid t1
  have HD2 := hid (show operD (eApp D1.room oth [120]) D1 = (D2, 0) by rw [t2]; exact t3)
  have HM := hid hm
  have HT5 := hid t5
  by_cases ho : n = oth
  · rw [if_pos ho] at t4
    have HT4 := hid t4
    have hb : (x.toList == [111, 116, 104, 101, 114]) = true := by rw [hxt, ho]; rfl
    clear hn hsz hxe t1 t2 t3 t4 t5 hm hxt hnl ho
    go_enter Try.func3, Try.ntmps3
    go_wp2_with (first
      | (go_at_call 11; have hq := K4.out; have hc := rn_open hq HT4.out HM.out (by have := HNL.out; omega) (by simp; omega); rw [← HXE.out] at hc; refine hc.mono ?_; clear hc; rintro e w5 ⟨D5, l5, a5, c5, P5, rfl, k5, _⟩; have K5 := hid k5; clear hq k5)
      | (go_at_call 10; have hq := K3.out; refine (rn_append_new (n := oth) hq (by simp [oth, maxLen]) [120] _ _ rfl (bts1 _ (by decide)) (by simp) HD2.out).mono ?_; rintro e w4 ⟨rfl, k4⟩; have K4 := hid k4; clear hq k4)
      | (go_at_call 10; (fail_if_success have := K3); have hq := K2.out; have hc := rn_append hq (nl (by have := HNL.out; omega)) HS0.out HB0.out HC0.out HN0.out HD1.out; rw [← HXE.out] at hc; refine hc.mono ?_; clear hc; rintro e w3 ⟨rfl, k3⟩; have K3 := hid k3; clear hq k3)
      | (go_at_call 9; refine (rn_new (w := w) HBa.out).mono ?_; rintro e w2 ⟨d, rfl, k2⟩; have K2 := hid k2; clear k2)
      | (go_at_call 8; refine (awake_any _).mono ?_; rintro e w1 ⟨rfl, hb1⟩; have HBa := hid hb1; clear hb1))
    go_ret
    exact ⟨rfl, kp_below K5.out.kp⟩
  rw [if_neg ho] at t4
  have HT4 := hid t4
  have HO := hid ho
  have hb : (x.toList == [111, 116, 104, 101, 114]) = false := by
    rw [hxt]
    have : ¬ n = [111, 116, 104, 101, 114] := ho
    simpa using this
  clear hn hsz hxe t1 t2 t3 t4 t5 hm hxt hnl ho
  obtain ⟨R, hR⟩ : ∃ R, R = (spl L0).1 := ⟨_, rfl⟩
  obtain ⟨z, hz⟩ : ∃ z, z = (spl L0).2 := ⟨_, rfl⟩
  have hle := spl_le _ L0 (Nat.le_refl _) HB0.out
  have htk := spl_take _ L0 (Nat.le_refl _) HB0.out
  have hall := spl_all (spl L0).1 (spl_bodies _ L0 (Nat.le_refl _) HB0.out)
  have hcnt := frs_cnt (spl L0).1
  have hsl := spl_len HB0.out
  rw [← hR] at htk hall hcnt hsl
  rw [← hz] at htk hle hsl
  have hRl : R.length ≤ 3000 := by omega
  have hfl : (frs R).length ≤ 3000 := by omega
  obtain ⟨F3, hF3⟩ : ∃ F3, F3 = frs R := ⟨_, rfl⟩
  rw [← hF3] at htk hall hfl hsl
  have HALL := hid hall
  have HF3 := hid hF3
  have HFL := hid hfl
  have HTK := hid htk
  have HRR := hid hR
  have HZZ := hid hz
  have HFZ := hid hsl
  have hzc : z ≤ cap0 := by have := c0.1; omega
  clear hR hz htk hall hcnt hF3 hfl hsl
  have hst : strOfNums [120] = ⟨#[120]⟩ := by kernel_rfl
  go_enter Try.func3, Try.ntmps3
  go_wp2_with (first
    | (go_at_call 13; have hq := K7.out; refine (read_any _ oth _ _ _ hq.1.dk (by simp [oth, maxLen])).mono ?_; rintro e w8 ⟨ra8, rc8, y8, rfl, hy8, hr8, hb8⟩; have tl := (lk_oth HO.out (HT5.out HO.out) K5.out.2.1.off K5.out.2.1.due K5.out.2.2.1).told; rw [tl] at hy8 hr8 ⊢; subst hy8; have K8 := hid (And.intro (hq.1.below hb8) (And.intro hr8 hb8)); clear hq hr8 hb8 tl)
    | (go_at_call 13; (fail_if_success have := K7); have hq := K6.out; have hc := read_any _ n _ _ _ hq.1.dk (nl (by have := HNL.out; omega)); rw [← HXE.out] at hc; refine hc.mono ?_; clear hc; rintro e w7 ⟨ra7, rc7, y7, rfl, hy7, hr7, hb7⟩; have tl := K5.out.2.1.told; rw [tl] at hy7 hr7 ⊢; subst hy7; have K7 := hid (And.intro (hq.1.below hb7) (And.intro hr7 (And.intro hb7 hq.2))); clear hq hr7 hb7 tl)
    | (go_at_call 12; have hq := K5.out; refine (rsplit_any a0 _ cap0 L0 w5 (hq.1.src HS0.out) HB0.out HC0.out.1 (by omega)).mono ?_; rintro e w6 ⟨ar, cr, rfl, hbs, hb6⟩; rw [← HRR.out] at hbs; rw [← HRR.out, ← HZZ.out]; have K6 := hid (And.intro (hq.1.below hb6) (And.intro hbs hb6)); clear hq hbs hb6)
    | (go_at_call 11; (fail_if_success have := K5); have hq := K4.out; have hc := rn_open hq HT4.out HM.out (by have := HNL.out; omega) (by omega); rw [← HXE.out] at hc; refine hc.mono ?_; clear hc; rintro e w5 ⟨D5, l5, a5, c5, P5, rfl, k5, m5, o5, g5, p5, r5, _⟩; rw [← HRR.out] at m5 g5 r5; rw [← HRR.out]; rw [← HF3.out] at m5; have K5 := hid (And.intro k5 (And.intro m5 (And.intro o5 (And.intro g5 (And.intro p5 r5))))); clear hq k5 m5 o5 g5 p5 r5)
    | (go_at_call 10; have hq := K3.out; refine (rn_append_new (n := oth) hq (by simp [oth, maxLen]) [120] _ _ rfl (bts1 _ (by decide)) (by simp) HD2.out).mono ?_; rintro e w4 ⟨rfl, k4⟩; have K4 := hid k4; clear hq k4)
    | (go_at_call 10; (fail_if_success have := K3); have hq := K2.out; have hc := rn_append hq (nl (by have := HNL.out; omega)) HS0.out HB0.out HC0.out HN0.out HD1.out; rw [← HXE.out] at hc; refine hc.mono ?_; clear hc; rintro e w3 ⟨rfl, k3⟩; have K3 := hid k3; clear hq k3)
    | (go_at_call 9; refine (rn_new (w := w) HBa.out).mono ?_; rintro e w2 ⟨d, rfl, k2⟩; have K2 := hid k2; clear k2)
    | (go_at_call 8; refine (awake_any _).mono ?_; rintro e w1 ⟨rfl, hb1⟩; have HBa := hid hb1; clear hb1))
  have b56 := K6.out.2.2
  have b57 := b56.trans (K7.out.2.2.1.mono b56.size)
  have b58 := b57.trans (K8.out.2.2.mono b57.size)
  have hbs1 : BS w8 a5 R := (K5.out.2.2.2.2.2.bs).below b58
  have hbs2 : BS w8 ar R := ((K6.out.2.1.bs).below K7.out.2.2.1).below K8.out.2.2
  have hs7 := ((own_src_at K7.out.2.1 rfl).1).below K8.out.2.2
  have hs8 := (own_src_at K8.out.2.1 rfl).1
  have hs0 := src_tk (K8.out.1.src HS0.out) z hle
  have B58 := hid b58
  have BS1 := hid hbs1
  have BS2 := hid hbs2
  have S8 : (fun u : World => (convert 22 9 (.slice ra7 F3.length rc7)).run Try.prog u = .ok (.string (strOfNums F3)) u ∧ (convert 22 9 (.slice a0 z cap0)).run Try.prog u = .ok (.string (strOfNums F3)) u ∧ (convert 22 9 (.slice ra8 1 rc8)).run Try.prog u = .ok (.string ⟨#[120]⟩) u) w8.drew := ⟨conv_src (w := w8.drew) hs7 rc7, (conv_src (w := w8.drew) hs0 cap0).trans (by rw [HTK.out]), (conv_src (w := w8.drew) hs8 rc8).trans (by rw [hst])⟩
  clear b56 b57 b58 hbs1 hbs2 hs0
  refine wp_region_held_drew (S := fun u => (convert 22 9 (.slice ra7 F3.length rc7)).run Try.prog u = .ok (.string (strOfNums F3)) u ∧ (convert 22 9 (.slice a0 z cap0)).run Try.prog u = .ok (.string (strOfNums F3)) u ∧ (convert 22 9 (.slice ra8 1 rc8)).run Try.prog u = .ok (.string ⟨#[120]⟩) u) hmxo S8 ?_
  intro _
  refine wpAnyH_take (i := 0) (v := .int .i64 0) rfl (by kernel_rfl) (by kernel_rfl) (by kernel_rfl) (fun _ _ _ h => h) (Or.inl ⟨by kernel_rfl, fun u hSu => ?_⟩) S8 ?_
  · obtain ⟨z0, z1, z2⟩ := hSu; go_simp
  simp only [Act.put, List.getElem_toArray, List.getElem_cons_succ, List.getElem_cons_zero, List.setIfInBounds_toArray, List.set_cons_zero, List.set_cons_succ]
  refine wpAnyH_take (i := 1) (v := .bool false) rfl (by kernel_rfl) (by kernel_rfl) (by kernel_rfl) (fun _ _ _ h => h) (Or.inl ⟨by kernel_rfl, fun u hSu => ?_⟩) S8 ?_
  · obtain ⟨z0, z1, z2⟩ := hSu; go_simp
  simp only [Act.put, List.getElem_toArray, List.getElem_cons_succ, List.getElem_cons_zero, List.setIfInBounds_toArray, List.set_cons_zero, List.set_cons_succ]
  refine wpAnyH_take (i := 2) (v := .bool false) rfl (by kernel_rfl) (by kernel_rfl) (by kernel_rfl) (fun _ _ _ h => h) (Or.inl ⟨by kernel_rfl, fun u hSu => ?_⟩) S8 ?_
  · obtain ⟨z0, z1, z2⟩ := hSu; go_simp
  simp only [Act.put, List.getElem_toArray, List.getElem_cons_succ, List.getElem_cons_zero, List.setIfInBounds_toArray, List.set_cons_zero, List.set_cons_succ]
  refine wpAnyH_take (i := 3) (v := .pointer (some ⟨l5, 0, none⟩)) rfl (by kernel_rfl) (by kernel_rfl) (by kernel_rfl) (fun _ _ _ h => h) (Or.inl ⟨by kernel_rfl, fun u hSu => ?_⟩) S8 ?_
  · obtain ⟨z0, z1, z2⟩ := hSu; go_simp
  simp only [Act.put, List.getElem_toArray, List.getElem_cons_succ, List.getElem_cons_zero, List.setIfInBounds_toArray, List.set_cons_zero, List.set_cons_succ]
  refine wpAnyH_take (i := 4) (v := .bool false) rfl (by kernel_rfl) (by kernel_rfl) (by kernel_rfl) (fun _ _ _ h => h) (Or.inl ⟨by kernel_rfl, fun u hSu => ?_⟩) S8 ?_
  · obtain ⟨z0, z1, z2⟩ := hSu; go_simp
  simp only [Act.put, List.getElem_toArray, List.getElem_cons_succ, List.getElem_cons_zero, List.setIfInBounds_toArray, List.set_cons_zero, List.set_cons_succ]
  refine wpAnyH_take (i := 5) (v := .bool false) rfl (by kernel_rfl) (by kernel_rfl) (by kernel_rfl) (fun _ _ _ h => h) (Or.inl ⟨by kernel_rfl, fun u hSu => ?_⟩) S8 ?_
  · obtain ⟨z0, z1, z2⟩ := hSu; go_simp
  simp only [Act.put, List.getElem_toArray, List.getElem_cons_succ, List.getElem_cons_zero, List.setIfInBounds_toArray, List.set_cons_zero, List.set_cons_succ]
  refine wpAnyH_take (i := 6) (v := .bool false) rfl (by kernel_rfl) (by kernel_rfl) (by kernel_rfl) (fun _ _ _ h => h) (Or.inl ⟨by kernel_rfl, fun u hSu => ?_⟩) S8 ?_
  · obtain ⟨z0, z1, z2⟩ := hSu; go_simp
  simp only [Act.put, List.getElem_toArray, List.getElem_cons_succ, List.getElem_cons_zero, List.setIfInBounds_toArray, List.set_cons_zero, List.set_cons_succ]
  refine wpAnyH_take (i := 7) (v := .slice a5 R.length c5) rfl (by kernel_rfl) (by kernel_rfl) (by kernel_rfl) (fun _ _ _ h => h) (Or.inl ⟨by kernel_rfl, fun u hSu => ?_⟩) S8 ?_
  · obtain ⟨z0, z1, z2⟩ := hSu; go_simp
  simp only [Act.put, List.getElem_toArray, List.getElem_cons_succ, List.getElem_cons_zero, List.setIfInBounds_toArray, List.set_cons_zero, List.set_cons_succ]
  refine wpAnyH_take (i := 8) (v := .slice ar R.length cr) rfl (by kernel_rfl) (by kernel_rfl) (by kernel_rfl) (fun _ _ _ h => h) (Or.inl ⟨by kernel_rfl, fun u hSu => ?_⟩) S8 ?_
  · obtain ⟨z0, z1, z2⟩ := hSu; go_simp
  simp only [Act.put, List.getElem_toArray, List.getElem_cons_succ, List.getElem_cons_zero, List.setIfInBounds_toArray, List.set_cons_zero, List.set_cons_succ]
  refine wpAnyH_ready (rs := [9]) (by kernel_rfl) (by simp) ?_
  refine AllReadyH.cons rfl (fun K hK => ?_) AllReadyH.nil
  go_simp
  refine (rsame_any a5 ar c5 cr R w8.drew (BS1.out.below (bdrew (Below.refl _ _))) (BS2.out.below (bdrew (Below.refl _ _))) (by omega)).mono ?_
  rintro e w9 ⟨rfl, hb9⟩
  have hb89 := (bdrew (Below.refl w8.heap.size w8)).trans hb9
  have S9 : (fun u : World => (convert 22 9 (.slice ra7 F3.length rc7)).run Try.prog u = .ok (.string (strOfNums F3)) u ∧ (convert 22 9 (.slice a0 z cap0)).run Try.prog u = .ok (.string (strOfNums F3)) u ∧ (convert 22 9 (.slice ra8 1 rc8)).run Try.prog u = .ok (.string ⟨#[120]⟩) u) w9 := ⟨conv_src (hs7.below hb89) rc7, (conv_src (src_tk ((K8.out.1.below hb89).src HS0.out) z hle) cap0).trans (by rw [HTK.out]), (conv_src (hs8.below hb89) rc8).trans (by rw [hst])⟩
  have HB89 := hid hb89
  clear hb9 hb89
  refine hK.out _ _ S9 (fun _ => ?_)
  clear hK K
  try simp only [Act.put, List.getElem_toArray, List.getElem_cons_succ, List.getElem_cons_zero, List.setIfInBounds_toArray, List.set_cons_zero, List.set_cons_succ]
  refine wpAnyH_take (i := 10) (v := .bool false) rfl (by kernel_rfl) (by kernel_rfl) (by kernel_rfl) (fun _ _ _ h => h) (Or.inl ⟨by kernel_rfl, fun u hSu => ?_⟩) S9 ?_
  · obtain ⟨z0, z1, z2⟩ := hSu; go_simp
  simp only [Act.put, List.getElem_toArray, List.getElem_cons_succ, List.getElem_cons_zero, List.setIfInBounds_toArray, List.set_cons_zero, List.set_cons_succ]
  refine wpAnyH_take (i := 11) (v := .bool false) rfl (by kernel_rfl) (by kernel_rfl) (by kernel_rfl) (fun _ _ _ h => h) (Or.inl ⟨by kernel_rfl, fun u hSu => ?_⟩) S9 ?_
  · obtain ⟨z0, z1, z2⟩ := hSu; go_simp
  simp only [Act.put, List.getElem_toArray, List.getElem_cons_succ, List.getElem_cons_zero, List.setIfInBounds_toArray, List.set_cons_zero, List.set_cons_succ]
  refine wpAnyH_take (i := 12) (v := .bool false) rfl (by kernel_rfl) (by kernel_rfl) (by kernel_rfl) (fun _ _ _ h => h) (Or.inl ⟨by kernel_rfl, fun u hSu => ?_⟩) S9 ?_
  · obtain ⟨z0, z1, z2⟩ := hSu; go_simp
  simp only [Act.put, List.getElem_toArray, List.getElem_cons_succ, List.getElem_cons_zero, List.setIfInBounds_toArray, List.set_cons_zero, List.set_cons_succ]
  refine wpAnyH_take (i := 13) (v := .int .i64 0) rfl (by kernel_rfl) (by kernel_rfl) (by kernel_rfl) (fun _ _ _ h => h) (Or.inl ⟨by kernel_rfl, fun u hSu => ?_⟩) S9 ?_
  · obtain ⟨z0, z1, z2⟩ := hSu; go_simp
  simp only [Act.put, List.getElem_toArray, List.getElem_cons_succ, List.getElem_cons_zero, List.setIfInBounds_toArray, List.set_cons_zero, List.set_cons_succ]
  refine wpAnyH_take (i := 14) (v := .bool false) rfl (by kernel_rfl) (by kernel_rfl) (by kernel_rfl) (fun _ _ _ h => h) (Or.inl ⟨by kernel_rfl, fun u hSu => ?_⟩) S9 ?_
  · obtain ⟨z0, z1, z2⟩ := hSu; go_simp
  simp only [Act.put, List.getElem_toArray, List.getElem_cons_succ, List.getElem_cons_zero, List.setIfInBounds_toArray, List.set_cons_zero, List.set_cons_succ]
  refine wpAnyH_take (i := 15) (v := .bool false) rfl (by kernel_rfl) (by kernel_rfl) (by kernel_rfl) (fun _ _ _ h => h) (Or.inl ⟨by kernel_rfl, fun u hSu => ?_⟩) S9 ?_
  · obtain ⟨z0, z1, z2⟩ := hSu; go_simp
  simp only [Act.put, List.getElem_toArray, List.getElem_cons_succ, List.getElem_cons_zero, List.setIfInBounds_toArray, List.set_cons_zero, List.set_cons_succ]
  refine wpAnyH_take (i := 16) (v := .bool false) rfl (by kernel_rfl) (by kernel_rfl) (by kernel_rfl) (fun _ _ _ h => h) (Or.inl ⟨by kernel_rfl, fun u hSu => ?_⟩) S9 ?_
  · obtain ⟨z0, z1, z2⟩ := hSu; go_simp
  simp only [Act.put, List.getElem_toArray, List.getElem_cons_succ, List.getElem_cons_zero, List.setIfInBounds_toArray, List.set_cons_zero, List.set_cons_succ]
  refine wpAnyH_take (i := 17) (v := .slice ra7 F3.length rc7) rfl (by kernel_rfl) (by kernel_rfl) (by kernel_rfl) (fun _ _ _ h => h) (Or.inl ⟨by kernel_rfl, fun u hSu => ?_⟩) S9 ?_
  · obtain ⟨z0, z1, z2⟩ := hSu; go_simp
  simp only [Act.put, List.getElem_toArray, List.getElem_cons_succ, List.getElem_cons_zero, List.setIfInBounds_toArray, List.set_cons_zero, List.set_cons_succ]
  refine wpAnyH_take (i := 18) (v := .string (strOfNums F3)) rfl (by kernel_rfl) (by kernel_rfl) (by kernel_rfl) (fun _ _ _ h => h) (Or.inl ⟨by kernel_rfl, fun u hSu => ?_⟩) S9 ?_
  · obtain ⟨z0, z1, z2⟩ := hSu; go_simp
  simp only [Act.put, List.getElem_toArray, List.getElem_cons_succ, List.getElem_cons_zero, List.setIfInBounds_toArray, List.set_cons_zero, List.set_cons_succ]
  refine wpAnyH_take (i := 19) (v := .slice a0 L0.length cap0) rfl (by kernel_rfl) (by kernel_rfl) (by kernel_rfl) (fun _ _ _ h => h) (Or.inl ⟨by kernel_rfl, fun u hSu => ?_⟩) S9 ?_
  · obtain ⟨z0, z1, z2⟩ := hSu; go_simp
  simp only [Act.put, List.getElem_toArray, List.getElem_cons_succ, List.getElem_cons_zero, List.setIfInBounds_toArray, List.set_cons_zero, List.set_cons_succ]
  refine wpAnyH_take (i := 20) (v := .int .i64 (z : Int)) rfl (by kernel_rfl) (by kernel_rfl) (by kernel_rfl) (fun _ _ _ h => h) (Or.inl ⟨by kernel_rfl, fun u hSu => ?_⟩) S9 ?_
  · obtain ⟨z0, z1, z2⟩ := hSu; go_simp
  simp only [Act.put, List.getElem_toArray, List.getElem_cons_succ, List.getElem_cons_zero, List.setIfInBounds_toArray, List.set_cons_zero, List.set_cons_succ]
  refine wpAnyH_take (i := 21) (v := .slice a0 z cap0) rfl (by kernel_rfl) (by kernel_rfl) (by kernel_rfl) (fun _ _ _ h => h) (Or.inl ⟨by kernel_rfl, fun u hSu => ?_⟩) S9 ?_
  · obtain ⟨z0, z1, z2⟩ := hSu; go_simp
  simp only [Act.put, List.getElem_toArray, List.getElem_cons_succ, List.getElem_cons_zero, List.setIfInBounds_toArray, List.set_cons_zero, List.set_cons_succ]
  refine wpAnyH_take (i := 22) (v := .string (strOfNums F3)) rfl (by kernel_rfl) (by kernel_rfl) (by kernel_rfl) (fun _ _ _ h => h) (Or.inl ⟨by kernel_rfl, fun u hSu => ?_⟩) S9 ?_
  · obtain ⟨z0, z1, z2⟩ := hSu; go_simp
  simp only [Act.put, List.getElem_toArray, List.getElem_cons_succ, List.getElem_cons_zero, List.setIfInBounds_toArray, List.set_cons_zero, List.set_cons_succ]
  refine wpAnyH_take (i := 23) (v := .bool false) rfl (by kernel_rfl) (by kernel_rfl) (by kernel_rfl) (fun _ _ _ h => h) (Or.inl ⟨by kernel_rfl, fun u hSu => ?_⟩) S9 ?_
  · obtain ⟨z0, z1, z2⟩ := hSu; go_simp
  simp only [Act.put, List.getElem_toArray, List.getElem_cons_succ, List.getElem_cons_zero, List.setIfInBounds_toArray, List.set_cons_zero, List.set_cons_succ]
  refine wpAnyH_take (i := 24) (v := .bool false) rfl (by kernel_rfl) (by kernel_rfl) (by kernel_rfl) (fun _ _ _ h => h) (Or.inl ⟨by kernel_rfl, fun u hSu => ?_⟩) S9 ?_
  · obtain ⟨z0, z1, z2⟩ := hSu; go_simp
  simp only [Act.put, List.getElem_toArray, List.getElem_cons_succ, List.getElem_cons_zero, List.setIfInBounds_toArray, List.set_cons_zero, List.set_cons_succ]
  refine wpAnyH_take (i := 25) (v := .bool false) rfl (by kernel_rfl) (by kernel_rfl) (by kernel_rfl) (fun _ _ _ h => h) (Or.inl ⟨by kernel_rfl, fun u hSu => ?_⟩) S9 ?_
  · obtain ⟨z0, z1, z2⟩ := hSu; go_simp
  simp only [Act.put, List.getElem_toArray, List.getElem_cons_succ, List.getElem_cons_zero, List.setIfInBounds_toArray, List.set_cons_zero, List.set_cons_succ]
  refine wpAnyH_take (i := 26) (v := .int .i64 0) rfl (by kernel_rfl) (by kernel_rfl) (by kernel_rfl) (fun _ _ _ h => h) (Or.inl ⟨by kernel_rfl, fun u hSu => ?_⟩) S9 ?_
  · obtain ⟨z0, z1, z2⟩ := hSu; go_simp
  simp only [Act.put, List.getElem_toArray, List.getElem_cons_succ, List.getElem_cons_zero, List.setIfInBounds_toArray, List.set_cons_zero, List.set_cons_succ]
  refine wpAnyH_take (i := 27) (v := .bool false) rfl (by kernel_rfl) (by kernel_rfl) (by kernel_rfl) (fun _ _ _ h => h) (Or.inl ⟨by kernel_rfl, fun u hSu => ?_⟩) S9 ?_
  · obtain ⟨z0, z1, z2⟩ := hSu; go_simp
  simp only [Act.put, List.getElem_toArray, List.getElem_cons_succ, List.getElem_cons_zero, List.setIfInBounds_toArray, List.set_cons_zero, List.set_cons_succ]
  refine wpAnyH_take (i := 28) (v := .bool false) rfl (by kernel_rfl) (by kernel_rfl) (by kernel_rfl) (fun _ _ _ h => h) (Or.inl ⟨by kernel_rfl, fun u hSu => ?_⟩) S9 ?_
  · obtain ⟨z0, z1, z2⟩ := hSu; go_simp
  simp only [Act.put, List.getElem_toArray, List.getElem_cons_succ, List.getElem_cons_zero, List.setIfInBounds_toArray, List.set_cons_zero, List.set_cons_succ]
  refine wpAnyH_take (i := 29) (v := .bool false) rfl (by kernel_rfl) (by kernel_rfl) (by kernel_rfl) (fun _ _ _ h => h) (Or.inl ⟨by kernel_rfl, fun u hSu => ?_⟩) S9 ?_
  · obtain ⟨z0, z1, z2⟩ := hSu; go_simp
  simp only [Act.put, List.getElem_toArray, List.getElem_cons_succ, List.getElem_cons_zero, List.setIfInBounds_toArray, List.set_cons_zero, List.set_cons_succ]
  refine wpAnyH_take (i := 30) (v := .slice ra8 1 rc8) rfl (by kernel_rfl) (by kernel_rfl) (by kernel_rfl) (fun _ _ _ h => h) (Or.inl ⟨by kernel_rfl, fun u hSu => ?_⟩) S9 ?_
  · obtain ⟨z0, z1, z2⟩ := hSu; go_simp
  simp only [Act.put, List.getElem_toArray, List.getElem_cons_succ, List.getElem_cons_zero, List.setIfInBounds_toArray, List.set_cons_zero, List.set_cons_succ]
  refine wpAnyH_take (i := 31) (v := .string ⟨#[120]⟩) rfl (by kernel_rfl) (by kernel_rfl) (by kernel_rfl) (fun _ _ _ h => h) (Or.inl ⟨by kernel_rfl, fun u hSu => ?_⟩) S9 ?_
  · obtain ⟨z0, z1, z2⟩ := hSu; go_simp
  simp only [Act.put, List.getElem_toArray, List.getElem_cons_succ, List.getElem_cons_zero, List.setIfInBounds_toArray, List.set_cons_zero, List.set_cons_succ]
  refine wpAnyH_take (i := 32) (v := .bool false) rfl (by kernel_rfl) (by kernel_rfl) (by kernel_rfl) (fun _ _ _ h => h) (Or.inl ⟨by kernel_rfl, fun u hSu => ?_⟩) S9 ?_
  · obtain ⟨z0, z1, z2⟩ := hSu; go_simp
  simp only [Act.put, List.getElem_toArray, List.getElem_cons_succ, List.getElem_cons_zero, List.setIfInBounds_toArray, List.set_cons_zero, List.set_cons_succ]
  refine wpAnyH_take (i := 33) (v := .bool false) rfl (by kernel_rfl) (by kernel_rfl) (by kernel_rfl) (fun _ _ _ h => h) (Or.inl ⟨by kernel_rfl, fun u hSu => ?_⟩) S9 ?_
  · obtain ⟨z0, z1, z2⟩ := hSu; go_simp
  simp only [Act.put, List.getElem_toArray, List.getElem_cons_succ, List.getElem_cons_zero, List.setIfInBounds_toArray, List.set_cons_zero, List.set_cons_succ]
  refine wpAnyH_done (by kernel_rfl) ?_ _
  have K9 := hid (K8.out.1.below HB89.out)
  have L9 := hid (((K5.out.2.2.2.1.below B58.out)).below HB89.out)
  have BS3 := hid (BS2.out.below HB89.out)
  clear hs7 hs8
  go_wp2_with (first
    | (go_at_call 16; refine (sure_any l5 _ _ G11.out).mono ?_; rintro e w12 ⟨rfl, rfl⟩)
    | (go_at_call 15; have hq := G11.out; refine (count_any l5 _ _ hq).mono ?_; rintro e w12 ⟨rfl, rfl⟩; clear hq)
    | (go_at_call 14; have hq := K10.out; refine (rsame_any a10 ar c10 cr R _ hq.2.2.1 hq.2.2.2.1 (by omega)).mono ?_; rintro e w11 ⟨rfl, hb11⟩; have G11 := hid (hq.2.2.2.2.below hb11); have K11 := hid (kp_below (hq.1.kp.trans (KP.below hb11))); clear hq hb11)
    | (go_at_call 15; (fail_if_success have := G11); have hq := K10.out; refine (count_any l10 _ _ hq.2.1).mono ?_; rintro e w12 ⟨rfl, rfl⟩; clear hq)
    | (go_at_call 11; have hq := K9.out; have hc := rn_again hq K5.out.2.1 HM.out (by have := HNL.out; omega) (by have := HFL.out; omega) (by rw [HALL.out]); rw [← HXE.out] at hc; refine hc.mono ?_; clear hc; rintro e w10 ⟨l10, a10, c10, rfl, g10, r10, hb10⟩; rw [HALL.out] at g10 r10 ⊢; have K10 := hid (And.intro (hq.below hb10) (And.intro g10 (And.intro r10 (And.intro (BS3.out.below hb10) (L9.out.below hb10))))); clear hq g10 r10 hb10))
  go_ret
  exact ⟨rfl, K11.out⟩

theorem reads_walk {w : World} (a0 : Option Addr) (len0 cap0 : Nat) (z0 : List Int) (h0 : IsRow .u8 w a0 len0 cap0 z0) (x : ByteArray) (hx : x.size ≤ maxLen) :
    Calls Try.prog 3 #[.slice a0 len0 cap0, .string x] w fun e w' => e = .returned (.bool true) ∧ Below w.heap.size w w' := by
  obtain ⟨s0, b0, c0, d0⟩ := h0.src
  have n0 := row_none h0
  obtain ⟨L0, hL0⟩ : ∃ L, L = z0.take len0 := ⟨_, rfl⟩
  rw [← hL0] at s0 b0
  clear hL0 h0
  obtain rfl : len0 = L0.length := s0.1.symm
  exact reads_walk0 a0 cap0 L0 x w s0 b0 ⟨c0, by unfold maxLen; omega⟩ n0 hx
end

section
set_option linter.unusedVariables false
open Go.RowKit
open Go.ChangeShapes Go.WideShapes Go.ChangeAt

theorem open_byt {H : Type} {enc : TypeId × Value → H} {W : World} {a : Option Addr} {len cap : Nat} {d : DataW H} {p : List MemPlace} (h : DataW.Trod enc Try.prog W 0 (fun _ => true) true 22 (.slice a len cap) d p) : ∃ zs, IsRow .u8 W a len cap zs := by
  obtain ⟨fuel, hf⟩ := h
  rcases open_ints Try.underlying22 Try.underlying5 (by kernel_rfl) hf with ⟨hcs, _⟩ | ⟨x, l, c, zs, hcs, _, hl, hm, hz, _, hcell, hwz⟩
  · simp [Value.cells] at hcs
    obtain ⟨rfl, rfl, rfl⟩ := hcs
    exact ⟨[], .inl ⟨rfl, rfl, rfl, rfl⟩⟩
  · simp [Value.cells] at hcs
    obtain ⟨rfl, rfl, rfl⟩ := hcs
    exact ⟨zs, .inr ⟨_, rfl, hl, hm, by simpa using hz, hcell, hwz⟩⟩
end
end Go.Proofs.Ytegikicpffoglaa
