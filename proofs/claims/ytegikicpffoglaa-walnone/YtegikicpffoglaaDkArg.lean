/- Arguments that come in. -/
import Derived.Test.YtegikicpffoglaaWlRun
import Derived.Lib.SlBytesConst
import Derived.Test.YtegikicpffoglaaDkMay
import Derived.WalkKit
import Derived.ProofKit
import Derived.OpenShut
import Derived.ShutString
import Derived.ChangeOld
import Derived.Below
import Derived.ChangeMaps5
import Derived.Deep.Matrix
namespace Go.Proofs.Ytegikicpffoglaa
section
set_option linter.unusedVariables false
set_option linter.unusedSimpArgs false
open Go.RowKit Go.Sort Go.Maps Go.Shelf

theorem bts1 (a : Int) (h : 0 ≤ a ∧ a < 256) : Bts [a] := fun x hx => by
  simp at hx
  rw [hx]
  exact h
theorem bts2 (a b : Int) (h : (0 ≤ a ∧ a < 256) ∧ 0 ≤ b ∧ b < 256) : Bts [a, b] := fun x hx => by
  simp at hx
  rcases hx with rfl | rfl
  · exact h.1
  · exact h.2
theorem aw_rows : spl (([] ++ fr [97]) ++ fr [98, 99]) = ([[97], [98, 99]], (([] ++ fr [97]) ++ fr [98, 99]).length) := by
  have e : ([] ++ fr [97]) ++ fr [98, 99] = frs [[97], [98, 99]] := by simp [frs]
  rw [e]
  refine spl_all _ (fun B hB => ?_)
  simp at hB
  rcases hB with rfl | rfl
  · exact ⟨bts1 _ (by decide), by simp⟩
  · exact ⟨bts2 _ _ (by decide), by simp⟩

set_option maxRecDepth 100000 in
set_option maxHeartbeats 4000000 in
theorem awake_any (w : World) : Calls Try.prog 8 #[] w fun e w' => e = .returned (.bool true) ∧ Below w.heap.size w w' := by
  have hst : strOfNums [98, 99] = ⟨#[98, 99]⟩ := by kernel_rfl
  have kc := fun (w : World) (C : Array Value) (n c : Nat) => Lib.run_convert_bytes_const (P := Try.prog) w 22 5 C n c Try.underlying22 Try.underlying5
  go_enter Try.func8, Try.ntmps8
  go_wp2_with (first
    | (go_at_call 15; refine (count_any l6 _ _ G6.out.log).mono ?_; rintro e w8 ⟨rfl, rfl⟩)
    | (go_at_call 15; refine (count_any l2 _ _ G5'.out.log).mono ?_; rintro e w8 ⟨rfl, rfl⟩)
    | (go_at_call 16; refine (sure_any l2 _ _ G5'.out.log).mono ?_; rintro e w8 ⟨rfl, rfl⟩)
    | (go_at_call 11; have hq := K5.out; refine (run_open hq (by simp [fr_length])).mono ?_; rintro e w6 ⟨D6, l6, a6, c6, P6, rfl, k6, g6, r6, kp6, hp6, hl6⟩; rw [aw_rows] at g6 r6 ⊢; have K6 := hid k6; have G6 := hid g6; have G5' := hid (G5.out.kp kp6 G5.out.own hp6); obtain ⟨gr, rfl, hgr, hrr⟩ := r6 (by simp); obtain ⟨b1, cb1, hc1, hs1, _⟩ := hrr 1 [98, 99] rfl; have hcv : (convert 22 9 (.slice b1 2 cb1)).run Try.prog w6 = .ok (.string ⟨#[98, 99]⟩) w6 := (conv_src hs1 cb1).trans (by rw [hst]); have hc2 : w6.cell? ⟨gr, 1, none⟩ = some (.slice b1 2 cb1) := hc1; clear hq k6 g6 r6 kp6 hp6 hl6 hgr hrr hc1 hs1)
    | (go_at_call 19; have hq := K4.out; refine (run_append_new hq G4.out (by simp) [98, 99] _ _ rfl (bts2 _ _ (by decide)) (by simp) (by simp [fr_length])).mono ?_; rintro e w5 ⟨D5, rfl, k5, g5, _⟩; have K5 := hid k5; have G5 := hid g5; clear hq k5 g5)
    | (go_at_call 17; have hq := K3.out; refine (run_sync hq G3.out (by simp) (fr_ne _ _)).mono ?_; rintro e w4 ⟨D4, rfl, k4, g4, _⟩; have K4 := hid k4; have G4 := hid g4; clear hq k4 g4)
    | (go_at_call 19; have hq := K2.out; refine (run_append_new hq G2.out (by simp) [97] _ _ rfl (bts1 _ (by decide)) (by simp) (by simp [fr_length])).mono ?_; rintro e w3 ⟨D3, rfl, k3, g3, _⟩; have K3 := hid k3; have G3 := hid g3; clear hq k3 g3)
    | (go_at_call 11; have hq := K1.out; refine (run_open hq (by simp)).mono ?_; rintro e w2 ⟨D2, l2, a2, c2, P2, rfl, k2, g2, r2, _⟩; rw [spl_nil] at k2 g2 r2 ⊢; have K2 := hid (k2.eq (b2 := []) rfl); have G2 := hid g2; clear hq k2 g2 r2)
    | (go_at_call 9; refine (run_new (w := w) 1000 1000 rfl (by omega) (Below.refl _ _)).mono ?_; rintro e w1 ⟨d, D1, rfl, k1⟩; have K1 := hid k1; clear k1))
  go_ret
  exact ⟨rfl, kp_below K6.out.kp⟩
end

section
set_option linter.unusedVariables false
set_option linter.unusedSimpArgs false
open Go.RowKit Go.Sort Go.Maps Go.Shelf

theorem cut_calm {D : Dk} {b : List Int} (h : LF D b) : cutD D 0 0 0 = (⟨D.room, false, some (0, 0, 0), D.F⟩, 0) := by
  unfold cutD
  rw [if_neg (by omega), if_neg (by rw [h.off]; simp)]
  rfl
theorem app_cut (room : Nat) (F : List (Nm × Fl)) (ef : Ef) : operD ef ⟨room, false, some (0, 0, 0), F⟩ = (⟨room, true, none, mp (Fl.torn 0) (ef (some 0) F).1⟩, 71) := rfl
theorem app_cut9 (room : Nat) (F : List (Nm × Fl)) (d : Nat) (B : List Int) : appL ⟨room, false, some (0, 0, 0), F⟩ ⟨0, d, lg, 0, 0⟩ B = (⟨room, true, none, mp (Fl.torn 0) (eApp room lg (fr B) (some 0) F).1⟩, ⟨71, d, lg, 0, 0⟩, 71) := by
  unfold appL
  simp only [app_cut]
  simp [Lg.heed]
theorem read_off {D : Dk} (h : D.off = true) : (wreadD D lg).2 = 71 := by
  unfold wreadD
  rw [if_neg (by rw [lg_may]; simp), if_pos h]

set_option maxRecDepth 100000 in
set_option maxHeartbeats 8000000 in
theorem none_walk {w : World} (a0 : Option Addr) (len0 cap0 : Nat) (zs : List Int) (h0 : IsRow .u8 w a0 len0 cap0 zs) :
    Calls Try.prog 6 #[.slice a0 len0 cap0] w fun e w' => e = .returned (.bool true) ∧ Below w.heap.size w w' := by
  clear h0
  obtain ⟨i0, hi, hz0, hz1, hz2⟩ := info_parts Try.info5
  obtain ⟨n, hn⟩ : ∃ n : Nat, n = 4194305 := ⟨_, rfl⟩
  have hmk : (4194305 : Int) = (n : Int) := by omega
  have HN := hid hn
  clear hn
  have kc := fun (w : World) (C : Array Value) (n c : Nat) => Lib.run_convert_bytes_const (P := Try.prog) w 22 5 C n c Try.underlying22 Try.underlying5
  go_enter Try.func6, Try.ntmps6
  go_wp2_with (first
    | (at_make; refine wpList_make_full _ rfl _ _ 22 rfl w3.heap.size 5 i0 (.int .u8 0) 1 Try.underlying22 hi hz0 hz1 .i64 .i64 _ _ n rfl rfl hmk hmk (by rw [hz2]; have := HN.out; omega) (by have := HN.out; unfold maxLen; omega) (Nat.le_refl _) ?_; intro w4 hown hgrow; have HB4 := hid ((Below.refl w3.heap.size w3).grown hgrow (Nat.le_refl _) (by simp)); clear hown hgrow)
    | (go_at_call 15; have hq := K15.out; refine (count_any l3 _ _ hq.2.2).mono ?_; rintro e w11 ⟨rfl, rfl⟩; clear hq)
    | (go_at_call 16; have hq := K14.out; have K15 := K14; refine (sure_null _).mono ?_; rintro e w11 ⟨rfl, rfl⟩; clear hq)
    | (go_at_call 15; have hq := K13.out; have K14 := K13; refine (count_null _).mono ?_; rintro e w11 ⟨rfl, rfl⟩; clear hq)
    | (go_at_call 17; have hq := K12.out; have K13 := K12; refine (sync_null _).mono ?_; rintro e w11 ⟨rfl, rfl⟩; clear hq)
    | (go_at_call 19; have hq := K11.out; have K12 := K11; refine (append_null _ _ _ _).mono ?_; rintro e w11 ⟨rfl, rfl⟩; clear hq)
    | (go_at_call 17; have hq := K10.out; have K11 := K10; refine (wsync_first l3 _ _ hq.2.2 (by simp)).mono ?_; rintro e w11 ⟨rfl, rfl⟩; clear hq)
    | (go_at_call 19; have hq := K8.out; refine (wappend_first l3 _ _ _ _ _ (hq.2.2.below (new_below w8 _)) (by simp)).mono ?_; rintro e w10 ⟨rfl, rfl⟩; (fail_if_success have := K10); have K10 := hid (And.intro (hq.1.below (new_below w8 (.cells #[.int .u8 120] 5 (1, 2)))) (And.intro (hq.2.1.trans (KP.below (new_below w8 (.cells #[.int .u8 120] 5 (1, 2))))) (hq.2.2.below (new_below w8 (.cells #[.int .u8 120] 5 (1, 2)))))); clear hq)
    | (go_at_call 21; have hq := K7.out; refine (on_any _ _ _ _ hq.1).mono ?_; rintro e w8 ⟨rfl, q1, q2⟩; have K8 := hid (And.intro q1 (And.intro (hq.2.1.trans (q2.less (fun j hj => hq.2.2.2.1 j hj))) (hq.2.2.1.kp q2 hq.2.2.2.2))); clear hq q1 q2)
    | (go_at_call 11; have hq := K6.out; refine (wopen_err _ lg _ _ _ hq.1 (by simp [lg, maxLen]) (by rw [read_off rfl]; simp)).mono ?_; rintro e w7 ⟨rfl, q1, q2⟩; rw [read_off rfl]; have K7 := hid (And.intro q1 (And.intro (hq.2.1.trans (q2.less (fun j hj => hq.2.2.2.1 j hj))) (And.intro (hq.2.2.1.kp q2 hq.2.2.2.2) (And.intro hq.2.2.2.1 hq.2.2.2.2)))); clear hq q1 q2)
    | (go_at_call 19; have hq := K5.out; have hnb := new_below w5 (.cells #[.int .u8 120] 5 (1, 2)); refine (wappend_any d l3 _ _ _ (some ⟨w5.heap.size, 0, none⟩) 1 [120] _ (hq.1.below hnb) (hq.2.2.1.below hnb) hq.2.2.2.2 rfl rfl (by simp [lg]) (by simp) (src_new w5 _ _ [120] rfl) (bts1 _ (by decide)) (fun e => by cases e) (by simp)).mono ?_; rintro e w6 ⟨rfl, q1, q2, q3⟩; have e9 := app_cut9 D3.room D3.F d [120]; rw [e9] at q1 q2 ⊢; have K6 := hid (And.intro q1 (And.intro ((hq.2.1.trans (KP.below hnb)).trans (q3.less (fun j hj => ⟨hq.2.2.2.1 j hj, by have := G3.out.far; omega⟩))) (And.intro q2 hq.2.2.2))); clear hq q1 q2 q3 hnb)
    | (go_at_call 22; have hq := K3.out; refine (cut_any _ 0 0 0 _ _ _ (hq.dk.below HB4.out) (by omega) (by omega) (by omega)).mono ?_; rintro e w5 ⟨x, rfl, hx, q1, q2⟩; rw [cut_calm hq.lf] at hx q1; subst hx; have K5 := hid (And.intro q1 (And.intro ((hq.kp.trans (KP.below HB4.out)).trans (q2.less (fun j hj => hq.old j hj))) (And.intro ((G3.out.log.below HB4.out).kp q2 G3.out.own) (And.intro hq.old G3.out.own)))); clear hq q1 q2)
    | (go_at_call 19; refine (wappend_great l3 _ _ n n w4 (G3.out.log.below HB4.out) rfl (by have := HN.out; omega) (by have := HN.out; omega)).mono ?_; rintro e w4' ⟨rfl, rfl⟩)
    | (go_at_call 11; have hq := K2.out; refine (run_open hq (by simp)).mono ?_; rintro e w3 ⟨D3, l3, a3, c3, P3, rfl, k3, g3, r3, _⟩; rw [spl_nil] at k3 g3 r3 ⊢; have K3 := hid k3; have G3 : Hid (LG w w3 l3 d 0 0 P3) := hid g3; clear hq k3 g3 r3)
    | (go_at_call 9; refine (run_new (w := w) 16777216 16777216 rfl (by omega) HB1.out).mono ?_; rintro e w2 ⟨d, D2, rfl, k2⟩; have K2 := hid k2; clear k2)
    | (go_at_call 11; refine (wopen_nil lg _).mono ?_; rintro e w1' ⟨rfl, rfl⟩)
    | (go_at_call 8; refine (awake_any _).mono ?_; rintro e w1 ⟨rfl, hb1⟩; have HB1 := hid hb1; clear hb1))
  go_ret
  exact ⟨rfl, kp_below K10.out.2.1⟩
end

section
set_option linter.unusedVariables false
open Go.RowKit
open Go.ChangeShapes Go.WideShapes Go.ChangeAt

theorem open_byt {H : Type} {enc : TypeId × Value → H} {W : World} {a : Option Addr} {len cap : Nat} {d : DataW H} {p : List MemPlace} (h : DataW.Trod enc Try.prog W 0 (fun _ => true) true 22 (.slice a len cap) d p) : ∃ zs, IsRow .u8 W a len cap zs := by
  obtain ⟨fuel, hf⟩ := h
  rcases open_ints Try.underlying22 Try.underlying5 (by kernel_rfl) hf with ⟨hcs, _⟩ | ⟨x, l, c, zs, hcs, _, hl, hm, hz, _, hcell, hwz⟩
  · simp [Value.cells] at hcs
    obtain ⟨rfl, rfl, rfl⟩ := hcs
    exact ⟨[], .inl ⟨rfl, rfl, rfl, rfl⟩⟩
  · simp [Value.cells] at hcs
    obtain ⟨rfl, rfl, rfl⟩ := hcs
    exact ⟨zs, .inr ⟨_, rfl, hl, hm, by simpa using hz, hcell, hwz⟩⟩
end
end Go.Proofs.Ytegikicpffoglaa
