/- A run that keeps its own row of what it appended. -/
import Derived.Test.YtegikicpffoglaaWlRun
import Derived.Lib.SlBytesConst
import Derived.Test.YtegikicpffoglaaWlB
import Derived.Laws.AppendOwnNone
import Derived.Test.YtegikicpffoglaaDkMay
import Derived.WalkKit
import Derived.ProofKit
import Derived.OpenShut
import Derived.ShutString
import Derived.ChangeOld
import Derived.Below
import Derived.ChangeMaps5
import Derived.Deep.Matrix
import Derived.ChangeSame
import Derived.ChangeArms
import Derived.WideShapes
import Derived.Lib.SmallJoins
import Derived.Deep.SlicePairs
import Derived.Deep.AppendLies
namespace Go.Proofs.Ytegikicpffoglaa
section
set_option linter.unusedVariables false
set_option linter.unusedSimpArgs false
open Go.RowKit Go.Sort Go.Maps Go.Shelf

theorem bts1 (a : Int) (h : 0 ≤ a ∧ a < 256) : Bts [a] := fun x hx => by
  simp at hx
  rw [hx]
  exact h
theorem bts2 (a b : Int) (h : (0 ≤ a ∧ a < 256) ∧ 0 ≤ b ∧ b < 256) : Bts [a, b] := fun x hx => by
  simp at hx
  rcases hx with rfl | rfl
  · exact h.1
  · exact h.2
theorem aw_rows : spl (([] ++ fr [97]) ++ fr [98, 99]) = ([[97], [98, 99]], (([] ++ fr [97]) ++ fr [98, 99]).length) := by
  have e : ([] ++ fr [97]) ++ fr [98, 99] = frs [[97], [98, 99]] := by simp [frs]
  rw [e]
  refine spl_all _ (fun B hB => ?_)
  simp at hB
  rcases hB with rfl | rfl
  · exact ⟨bts1 _ (by decide), by simp⟩
  · exact ⟨bts2 _ _ (by decide), by simp⟩

set_option maxRecDepth 100000 in
set_option maxHeartbeats 4000000 in
theorem awake_any (w : World) : Calls Try.prog 8 #[] w fun e w' => e = .returned (.bool true) ∧ Below w.heap.size w w' := by
  have hst : strOfNums [98, 99] = ⟨#[98, 99]⟩ := by kernel_rfl
  have kc := fun (w : World) (C : Array Value) (n c : Nat) => Lib.run_convert_bytes_const (P := Try.prog) w 22 5 C n c Try.underlying22 Try.underlying5
  go_enter Try.func8, Try.ntmps8
  go_wp2_with (first
    | (go_at_call 15; refine (count_any l6 _ _ G6.out.log).mono ?_; rintro e w8 ⟨rfl, rfl⟩)
    | (go_at_call 15; refine (count_any l2 _ _ G5'.out.log).mono ?_; rintro e w8 ⟨rfl, rfl⟩)
    | (go_at_call 16; refine (sure_any l2 _ _ G5'.out.log).mono ?_; rintro e w8 ⟨rfl, rfl⟩)
    | (go_at_call 11; have hq := K5.out; refine (run_open hq (by simp [fr_length])).mono ?_; rintro e w6 ⟨D6, l6, a6, c6, P6, rfl, k6, g6, r6, kp6, hp6, hl6⟩; rw [aw_rows] at g6 r6 ⊢; have K6 := hid k6; have G6 := hid g6; have G5' := hid (G5.out.kp kp6 G5.out.own hp6); obtain ⟨gr, rfl, hgr, hrr⟩ := r6 (by simp); obtain ⟨b1, cb1, hc1, hs1, _⟩ := hrr 1 [98, 99] rfl; have hcv : (convert 22 9 (.slice b1 2 cb1)).run Try.prog w6 = .ok (.string ⟨#[98, 99]⟩) w6 := (conv_src hs1 cb1).trans (by rw [hst]); have hc2 : w6.cell? ⟨gr, 1, none⟩ = some (.slice b1 2 cb1) := hc1; clear hq k6 g6 r6 kp6 hp6 hl6 hgr hrr hc1 hs1)
    | (go_at_call 19; have hq := K4.out; refine (run_append_new hq G4.out (by simp) [98, 99] _ _ rfl (bts2 _ _ (by decide)) (by simp) (by simp [fr_length])).mono ?_; rintro e w5 ⟨D5, rfl, k5, g5, _⟩; have K5 := hid k5; have G5 := hid g5; clear hq k5 g5)
    | (go_at_call 17; have hq := K3.out; refine (run_sync hq G3.out (by simp) (fr_ne _ _)).mono ?_; rintro e w4 ⟨D4, rfl, k4, g4, _⟩; have K4 := hid k4; have G4 := hid g4; clear hq k4 g4)
    | (go_at_call 19; have hq := K2.out; refine (run_append_new hq G2.out (by simp) [97] _ _ rfl (bts1 _ (by decide)) (by simp) (by simp [fr_length])).mono ?_; rintro e w3 ⟨D3, rfl, k3, g3, _⟩; have K3 := hid k3; have G3 := hid g3; clear hq k3 g3)
    | (go_at_call 11; have hq := K1.out; refine (run_open hq (by simp)).mono ?_; rintro e w2 ⟨D2, l2, a2, c2, P2, rfl, k2, g2, r2, _⟩; rw [spl_nil] at k2 g2 r2 ⊢; have K2 := hid (k2.eq (b2 := []) rfl); have G2 := hid g2; clear hq k2 g2 r2)
    | (go_at_call 9; refine (run_new (w := w) 1000 1000 rfl (by omega) (Below.refl _ _)).mono ?_; rintro e w1 ⟨d, D1, rfl, k1⟩; have K1 := hid k1; clear k1))
  go_ret
  exact ⟨rfl, kp_below K6.out.kp⟩
end

section
open Go.RowKit

/-- Slices that each lead to the bytes of a body. -/
def Pcs (w : World) (R : List (List Int)) (Vs : List Value) : Prop :=
  Vs.length = R.length ∧ ∀ i, i < R.length → ∃ ai ci, Vs[i]? = some (.slice ai (R[i]?.getD []).length ci) ∧ Src w ai (R[i]?.getD []).length (R[i]?.getD []) ∧ (R[i]?.getD []).length ≤ ci ∧ (ai = none → (R[i]?.getD []).length = 0 ∧ ci = 0)
theorem pcs_snoc {w : World} {R : List (List Int)} {Vs : List Value} (h : Pcs w R Vs) (a : Option Addr) (c : Nat) (L : List Int) (hs : Src w a L.length L) (hc : L.length ≤ c) (hn : a = none → L.length = 0 ∧ c = 0) : Pcs w (R ++ [L]) (Vs ++ [.slice a L.length c]) := by
  refine ⟨by rw [List.length_append, List.length_append, h.1]; rfl, fun i hi => ?_⟩
  rw [List.length_append, List.length_singleton] at hi
  by_cases h1 : i < R.length
  · rw [List.getElem?_append_left h1, List.getElem?_append_left (by rw [h.1]; exact h1)]
    exact h.2 i h1
  · obtain rfl : i = R.length := by omega
    rw [List.getElem?_append_right (Nat.le_refl _), List.getElem?_append_right (by rw [h.1]; exact Nat.le_refl _), h.1, Nat.sub_self]
    exact ⟨a, c, rfl, hs, hc, hn⟩
end

section
set_option linter.unusedVariables false
set_option linter.unusedSimpArgs false
open Go.RowKit Go.Sort Go.Maps Go.Shelf

theorem frs_cons (B : List Int) (R : List (List Int)) : frs (B :: R) = fr B ++ frs R := rfl
theorem frs_cnt (R : List (List Int)) : R.length ≤ (frs R).length := by
  induction R with
  | nil => simp
  | cons B R ih =>
    rw [frs_cons, List.length_append, fr_length, List.length_cons]
    omega
/-- Bytes that came in, later on. -/
theorem WD.src {w wr : World} {d : Nat} {D : Dk} {b : List Int} {room : Nat} {P : Nat → Prop} (h : WD w wr d D b room P) {a : Option Addr} {L : List Int} (hs : Src w a L.length L) : Src wr a L.length L := src_kp2 h.kp (fun hp ad e => src_block hs ad hp e) hs
end

section
set_option linter.unusedVariables false
set_option linter.unusedSimpArgs false
open Go.RowKit

/-- A row of bodies, as it is read. -/
def BS (w : World) (a : Option Addr) (R : List (List Int)) : Prop := 0 < R.length → ∃ g off, a = some ⟨g, off, none⟩ ∧ ∀ i r, R[i]? = some r → ∃ ai ci, w.cell? ⟨g, off + i, none⟩ = some (.slice ai r.length ci) ∧ Src w ai r.length r
theorem BRow.bs {w : World} {Q : Nat → Prop} {a : Option Addr} {R : List (List Int)} (h : BRow w Q a R) : BS w a R := fun hp => by
  obtain ⟨g, e, _, hr⟩ := h hp
  refine ⟨g, 0, e, fun i r hi => ?_⟩
  obtain ⟨ai, ci, h1, h2, _⟩ := hr i r hi
  exact ⟨ai, ci, by rw [Nat.zero_add]; exact h1, h2⟩
theorem BS.below {w w' : World} {a : Option Addr} {R : List (List Int)} (h : BS w a R) (hb : Below w.heap.size w w') : BS w' a R := fun hp => by
  obtain ⟨g, off, e, hr⟩ := h hp
  refine ⟨g, off, e, fun i r hi => ?_⟩
  obtain ⟨ai, ci, h1, h2⟩ := hr i r hi
  exact ⟨ai, ci, (hb.cell (cell_block h1)).trans h1, h2.below hb⟩

set_option maxRecDepth 100000 in
set_option maxHeartbeats 4000000 in
theorem begins_any (a b : Option Addr) (ca cb : Nat) (R S : List (List Int)) (k : Nat) (w : World) (ha : BS w a R) (hb : BS w b S) (hl : R.length ≤ S.length) (hk : k ≤ R.length) (hp : ∀ (i : Nat) (r : List Int), R[i]? = some r → S[i]? = some r) (hm : S.length ≤ 1000000000000) :
    Calls Try.prog 23 #[.slice a R.length ca, .slice b S.length cb, .int .i64 (k : Int)] w fun e w' => e = .returned (.bool true) ∧ Below w.heap.size w w' := by
  have HA := hid ha
  have HB := hid hb
  have HP := hid hp
  have e1 : decide ((S.length : Int) < (R.length : Int)) = false := decide_eq_false (by omega)
  have e1' : ¬ S.length < R.length := by omega
  have e2 : decide ((R.length : Int) < (k : Int)) = false := decide_eq_false (by omega)
  have e2' : ¬ R.length < k := by omega
  have hmxo : Try.prog.follows .mixedOrders = true := by kernel_rfl
  clear ha hb hp
  go_enter Try.func23, Try.ntmps23
  go_wp2
  go_loopw [7] (fun vi wr => ∃ j : Nat, vi = .int .i64 (j : Int) ∧ j ≤ R.length ∧ Hid (Below w.heap.size w wr)) (fun vi _ => R.length - (intOf vi).toNat)
  case atStart => exact ⟨0, rfl, Nat.zero_le _, hid (Below.refl _ _)⟩
  case round =>
    obtain ⟨j, rfl, hj, HW⟩ := hrel
    by_cases hlt : j < R.length
    · have e5 : decide ((j : Int) < (R.length : Int)) = true := decide_eq_true (by omega)
      have hlt2 : j < S.length := by omega
      obtain ⟨r, hr⟩ : ∃ r, R[j]? = some r := ⟨R[j], List.getElem?_eq_getElem hlt⟩
      obtain ⟨ga, oa, rfl, hra⟩ := (HA.out.below HW.out) (by omega)
      obtain ⟨gb, ob, rfl, hrb⟩ := (HB.out.below HW.out) (by omega)
      obtain ⟨p0, q0, x0, y0⟩ := hra j r hr
      obtain ⟨p1, q1, x1, y1⟩ := hrb j r (HP.out j r hr)
      clear hra hrb hr
      have S0 : (fun u : World => u.cell? ⟨ga, oa + j, none⟩ = some (.slice p0 r.length q0) ∧ u.cell? ⟨gb, ob + j, none⟩ = some (.slice p1 r.length q1) ∧ (convert 22 9 (.slice p0 r.length q0)).run Try.prog u = .ok (.string (strOfNums r)) u ∧ (convert 22 9 (.slice p1 r.length q1)).run Try.prog u = .ok (.string (strOfNums r)) u) wr.drew := ⟨x0, x1, conv_src (w := wr.drew) y0 q0, conv_src (w := wr.drew) y1 q1⟩
      clear x0 x1 y0 y1
      go_wp2
      refine wp_region_held_drew (S := fun u => u.cell? ⟨ga, oa + j, none⟩ = some (.slice p0 r.length q0) ∧ u.cell? ⟨gb, ob + j, none⟩ = some (.slice p1 r.length q1) ∧ (convert 22 9 (.slice p0 r.length q0)).run Try.prog u = .ok (.string (strOfNums r)) u ∧ (convert 22 9 (.slice p1 r.length q1)).run Try.prog u = .ok (.string (strOfNums r)) u) hmxo S0 ?_
      intro _
      refine wpAnyH_take (i := 0) (v := .slice (some ⟨ga, oa, none⟩) R.length ca) rfl (by kernel_rfl) (by kernel_rfl) (by kernel_rfl) (fun _ _ _ h => h) (Or.inl ⟨by kernel_rfl, fun u hSu => ?_⟩) S0 ?_
      · obtain ⟨z0, z1, z2, z3⟩ := hSu; go_simp
      simp only [Act.put, List.getElem_toArray, List.getElem_cons_succ, List.getElem_cons_zero, List.setIfInBounds_toArray, List.set_cons_zero, List.set_cons_succ]
      refine wpAnyH_take (i := 1) (v := .int .i64 (j : Int)) rfl (by kernel_rfl) (by kernel_rfl) (by kernel_rfl) (fun _ _ _ h => h) (Or.inl ⟨by kernel_rfl, fun u hSu => ?_⟩) S0 ?_
      · obtain ⟨z0, z1, z2, z3⟩ := hSu; go_simp
      simp only [Act.put, List.getElem_toArray, List.getElem_cons_succ, List.getElem_cons_zero, List.setIfInBounds_toArray, List.set_cons_zero, List.set_cons_succ]
      refine wpAnyH_take (i := 2) (v := .pointer (some ⟨ga, oa + j, none⟩)) rfl (by kernel_rfl) (by kernel_rfl) (by kernel_rfl) (fun _ _ _ h => h) (Or.inl ⟨by kernel_rfl, fun u hSu => ?_⟩) S0 ?_
      · obtain ⟨z0, z1, z2, z3⟩ := hSu; go_simp
      simp only [Act.put, List.getElem_toArray, List.getElem_cons_succ, List.getElem_cons_zero, List.setIfInBounds_toArray, List.set_cons_zero, List.set_cons_succ]
      refine wpAnyH_take (i := 3) (v := .slice p0 r.length q0) rfl (by kernel_rfl) (by kernel_rfl) (by kernel_rfl) (fun _ _ _ h => h) (Or.inl ⟨by kernel_rfl, fun u hSu => ?_⟩) S0 ?_
      · obtain ⟨z0, z1, z2, z3⟩ := hSu; go_simp
      simp only [Act.put, List.getElem_toArray, List.getElem_cons_succ, List.getElem_cons_zero, List.setIfInBounds_toArray, List.set_cons_zero, List.set_cons_succ]
      refine wpAnyH_take (i := 4) (v := .string (strOfNums r)) rfl (by kernel_rfl) (by kernel_rfl) (by kernel_rfl) (fun _ _ _ h => h) (Or.inl ⟨by kernel_rfl, fun u hSu => ?_⟩) S0 ?_
      · obtain ⟨z0, z1, z2, z3⟩ := hSu; go_simp
      simp only [Act.put, List.getElem_toArray, List.getElem_cons_succ, List.getElem_cons_zero, List.setIfInBounds_toArray, List.set_cons_zero, List.set_cons_succ]
      refine wpAnyH_take (i := 5) (v := .slice (some ⟨gb, ob, none⟩) S.length cb) rfl (by kernel_rfl) (by kernel_rfl) (by kernel_rfl) (fun _ _ _ h => h) (Or.inl ⟨by kernel_rfl, fun u hSu => ?_⟩) S0 ?_
      · obtain ⟨z0, z1, z2, z3⟩ := hSu; go_simp
      simp only [Act.put, List.getElem_toArray, List.getElem_cons_succ, List.getElem_cons_zero, List.setIfInBounds_toArray, List.set_cons_zero, List.set_cons_succ]
      refine wpAnyH_take (i := 6) (v := .int .i64 (j : Int)) rfl (by kernel_rfl) (by kernel_rfl) (by kernel_rfl) (fun _ _ _ h => h) (Or.inl ⟨by kernel_rfl, fun u hSu => ?_⟩) S0 ?_
      · obtain ⟨z0, z1, z2, z3⟩ := hSu; go_simp
      simp only [Act.put, List.getElem_toArray, List.getElem_cons_succ, List.getElem_cons_zero, List.setIfInBounds_toArray, List.set_cons_zero, List.set_cons_succ]
      refine wpAnyH_take (i := 7) (v := .pointer (some ⟨gb, ob + j, none⟩)) rfl (by kernel_rfl) (by kernel_rfl) (by kernel_rfl) (fun _ _ _ h => h) (Or.inl ⟨by kernel_rfl, fun u hSu => ?_⟩) S0 ?_
      · obtain ⟨z0, z1, z2, z3⟩ := hSu; go_simp
      simp only [Act.put, List.getElem_toArray, List.getElem_cons_succ, List.getElem_cons_zero, List.setIfInBounds_toArray, List.set_cons_zero, List.set_cons_succ]
      refine wpAnyH_take (i := 8) (v := .slice p1 r.length q1) rfl (by kernel_rfl) (by kernel_rfl) (by kernel_rfl) (fun _ _ _ h => h) (Or.inl ⟨by kernel_rfl, fun u hSu => ?_⟩) S0 ?_
      · obtain ⟨z0, z1, z2, z3⟩ := hSu; go_simp
      simp only [Act.put, List.getElem_toArray, List.getElem_cons_succ, List.getElem_cons_zero, List.setIfInBounds_toArray, List.set_cons_zero, List.set_cons_succ]
      refine wpAnyH_take (i := 9) (v := .string (strOfNums r)) rfl (by kernel_rfl) (by kernel_rfl) (by kernel_rfl) (fun _ _ _ h => h) (Or.inl ⟨by kernel_rfl, fun u hSu => ?_⟩) S0 ?_
      · obtain ⟨z0, z1, z2, z3⟩ := hSu; go_simp
      simp only [Act.put, List.getElem_toArray, List.getElem_cons_succ, List.getElem_cons_zero, List.setIfInBounds_toArray, List.set_cons_zero, List.set_cons_succ]
      refine wpAnyH_take (i := 10) (v := .bool false) rfl (by kernel_rfl) (by kernel_rfl) (by kernel_rfl) (fun _ _ _ h => h) (Or.inl ⟨by kernel_rfl, fun u hSu => ?_⟩) S0 ?_
      · obtain ⟨z0, z1, z2, z3⟩ := hSu; go_simp
      simp only [Act.put, List.getElem_toArray, List.getElem_cons_succ, List.getElem_cons_zero, List.setIfInBounds_toArray, List.set_cons_zero, List.set_cons_succ]
      refine wpAnyH_done (by kernel_rfl) ?_ _
      go_wp2
      go_roundw
      case rel => exact ⟨j + 1, by go_num, by omega, hid (bdrew HW.out)⟩
      case measure => simp [intOf]; omega
    · obtain rfl : j = R.length := by omega
      have e5 : decide ((R.length : Int) < (R.length : Int)) = false := by simp
      go_wp2
      go_ret
      exact ⟨rfl, HW.out⟩

/-- The same bodies. -/
theorem rsame_any (a b : Option Addr) (ca cb : Nat) (R : List (List Int)) (w : World) (ha : BS w a R) (hb : BS w b R) (hm : R.length ≤ 1000000000000) :
    Calls Try.prog 14 #[.slice a R.length ca, .slice b R.length cb] w fun e w' => e = .returned (.bool true) ∧ Below w.heap.size w w' := by
  have HA := hid ha
  have HB := hid hb
  clear ha hb
  go_enter Try.func14, Try.ntmps14
  go_wp2_with (go_at_call 23; refine (begins_any a b ca cb R R 0 w HA.out HB.out (Nat.le_refl _) (Nat.zero_le _) (fun _ _ h => h) hm).mono ?_; rintro e w1 ⟨rfl, hb1⟩; have HB1 := hid hb1; clear hb1)
  go_ret
  exact ⟨rfl, HB1.out⟩
end

section
set_option linter.unusedVariables false
open Go.RowKit
open Go.ChangeShapes Go.WideShapes Go.ChangeAt

theorem open_byt {H : Type} {enc : TypeId × Value → H} {W : World} {a : Option Addr} {len cap : Nat} {d : DataW H} {p : List MemPlace} (h : DataW.Trod enc Try.prog W 0 (fun _ => true) true 22 (.slice a len cap) d p) : ∃ zs, IsRow .u8 W a len cap zs := by
  obtain ⟨fuel, hf⟩ := h
  rcases open_ints Try.underlying22 Try.underlying5 (by kernel_rfl) hf with ⟨hcs, _⟩ | ⟨x, l, c, zs, hcs, _, hl, hm, hz, _, hcell, hwz⟩
  · simp [Value.cells] at hcs
    obtain ⟨rfl, rfl, rfl⟩ := hcs
    exact ⟨[], .inl ⟨rfl, rfl, rfl, rfl⟩⟩
  · simp [Value.cells] at hcs
    obtain ⟨rfl, rfl, rfl⟩ := hcs
    exact ⟨zs, .inr ⟨_, rfl, hl, hm, by simpa using hz, hcell, hwz⟩⟩
end

section
set_option linter.unusedVariables false
open Go.RowKit
open Go.ChangeShapes Go.WideShapes

/-- Something that is done: its kind, its bytes (and where they lie). -/
structure AW where
  kind : Int
  a : Option Addr
  c : Nat
  B : List Int
/-- Its cells. -/
def AW.cells (x : AW) : List Value := [.int .i64 x.kind, .slice x.a x.B.length x.c]
/-- What holds of it. -/
structure AW.Ok (x : AW) (w : World) : Prop where
  kind : (Lit.int .i64 x.kind).wf = true
  src : Src w x.a x.B.length x.B
  bts : Bts x.B
  cap : x.B.length ≤ x.c ∧ x.c ≤ maxLen
  nil : x.a = none → x.c = 0
theorem AW.Ok.below {x : AW} {w w' : World} (h : x.Ok w) (hb : Below w.heap.size w w') : x.Ok w' := ⟨h.kind, h.src.below hb, h.bts, h.cap, h.nil⟩

/-- A row of them that came in. -/
def ASrc (w : World) (a : Option Addr) (len : Nat) (X : List AW) : Prop :=
  X.length = len ∧ (∀ x ∈ X, x.Ok w) ∧ (0 < len → ∃ g off, a = some ⟨g, off, none⟩ ∧ ∀ (i : Nat) (x : AW), X[i]? = some x → ∀ (j : Nat) (u : Value), x.cells[j]? = some u → w.cell? ⟨g, off + i * 2 + j, none⟩ = some u)

section
variable {H : Type} {enc : TypeId × Value → H} {P : Program} {w : World} {base : Nat} {spare : Nat → Bool} {held : Bool}

/-- Which types the fields have, and where they lie. -/
abbrev actShape (tInt tSl : TypeId) : List (TypeId × Nat) := [(tInt, 0), (tSl, 1)]

theorem part_one {α : Type} {l : List α} {o : Nat} {x : α} (h : (l.drop o).take 1 = [x]) : l[o]? = some x := by
  have := congrArg (fun k => k[0]?) h
  simpa using this
theorem field_at {fs : Array Field} {l : List (TypeId × Nat)} (h : fs.toList.map (fun f => (f.type, f.offset)) = l) {i : Nat} {t : TypeId} {o : Nat} (hi : l[i]? = some (t, o)) : ∃ f, fs[i]? = some f ∧ f.type = t ∧ f.offset = o := by
  subst h
  simp only [List.getElem?_map, Option.map_eq_some_iff] at hi
  obtain ⟨f, h1, h2⟩ := hi
  simp only [Prod.mk.injEq] at h2
  exact ⟨f, by simpa using h1, h2.1, h2.2⟩
theorem fld {fs : Array Field} {l : List (TypeId × Nat)} {xs : List (DataW H × List MemPlace)} {n : Nat} {L : List Value} (hF : fs.toList.map (fun f => (f.type, f.offset)) = l) (hlen : xs.length = fs.size)
    (hq : ∀ (i : Nat) (f : Field), fs[i]? = some f → DataW.trod enc P w base spare held n f.type ((L.drop f.offset).take (P.cellsOf f.type)) = xs[i]?) (i : Nat) {t : TypeId} {o : Nat} (hi : l[i]? = some (t, o)) :
    ∃ y, DataW.trod enc P w base spare held n t ((L.drop o).take (P.cellsOf t)) = some y ∧ y ∈ xs := by
  obtain ⟨f, h1, rfl, rfl⟩ := field_at hF hi
  have hlt : i < xs.length := by rw [hlen]; exact (Array.getElem?_eq_some_iff.1 h1).1
  refine ⟨xs[i], ?_, List.getElem_mem _⟩
  rw [hq i f h1, List.getElem?_eq_getElem hlt]

theorem open_actl {tA tInt tSl te : TypeId} {fs : Array Field} {L : List Value} {fuel : Nat} {x : DataW H × List MemPlace}
    (hO : P.underlying tA = some (.struct fs)) (hF : fs.toList.map (fun f => (f.type, f.offset)) = actShape tInt tSl) (hI : P.underlying tInt = some (.int .i64)) (hV : P.underlying tSl = some (.slice te))
    (cO : P.cellsOf tA = 2) (cI : P.cellsOf tInt = 1) (cV : P.cellsOf tSl = 1) (hf : DataW.trod enc P w base spare held fuel tA L = some x) :
    ∃ (k : Int) (a : Option Addr) (len cap : Nat) (du : DataW H) (pu : List MemPlace), L = [.int .i64 k, .slice a len cap] ∧ (Lit.int .i64 k).wf = true ∧ DataW.Trod enc P w base spare held tSl (.slice a len cap) du pu := by
  obtain ⟨xs, n, _, hx, hl, hlen, hq⟩ := DataW.trod_struct hO hf
  have F := fun i t o hi => fld (enc := enc) (w := w) (base := base) (spare := spare) (held := held) hF hlen hq i (t := t) (o := o) hi
  obtain ⟨y0, f0, _⟩ := F 0 _ _ rfl
  obtain ⟨y1, f1, _⟩ := F 1 _ _ rfl
  rw [cI] at f0
  rw [cV] at f1
  obtain ⟨z0, e0, _, u0⟩ := DataW.trod_int hI f0
  obtain ⟨a, len, cap, e1⟩ := Go.Joins.slice_form hV f1
  refine ⟨z0, a, len, cap, y1.1, y1.2, ?_, u0, ⟨n, by rw [e1] at f1; exact f1⟩⟩
  have p0 := part_one e0
  have p1 := part_one e1
  rw [cO] at hl
  apply List.ext_getElem?
  intro i
  match i with
  | 0 => exact p0
  | 1 => exact p1
  | i + 2 => rw [List.getElem?_eq_none (by omega)]; rfl
end

theorem cellsAct : Try.prog.cellsOf 41 = 2 := by kernel_rfl
theorem cells3 : Try.prog.cellsOf 3 = 1 := by kernel_rfl
theorem cells22 : Try.prog.cellsOf 22 = 1 := by kernel_rfl

set_option maxRecDepth 100000 in
theorem open_acts {H : Type} {enc : TypeId × Value → H} {W : World} {a : Option Addr} {len cap : Nat} {d : DataW H} {p : List MemPlace} (h : DataW.Trod enc Try.prog W 0 (fun _ => true) true 39 (.slice a len cap) d p) :
    ∃ X, ASrc W a len X ∧ len ≤ maxLen := by
  obtain ⟨fuel, hf⟩ := h
  rcases Go.Deep.open_slice Try.underlying39 hf with ⟨hcs, _⟩ | ⟨x, l, c, m, n, D, Pl, hcs, _, hl, hm, hmm, _, hx⟩
  · simp [Value.cells] at hcs
    obtain ⟨rfl, rfl, rfl⟩ := hcs
    exact ⟨[], ⟨rfl, fun x hx => by simp at hx, fun h => absurd h (by omega)⟩, by unfold maxLen; omega⟩
  · simp [Value.cells] at hcs
    obtain ⟨rfl, rfl, rfl⟩ := hcs
    have hlm : len ≤ m := by rw [hmm]; split <;> omega
    have each : ∀ i, i < m → ∃ y : AW, (∀ j u, y.cells[j]? = some u → W.cell? ((x.add (i * 2)).add j) = some u) ∧ y.Ok W := by
      intro i hi
      obtain ⟨cs, h1, h2⟩ := hx i hi
      rw [cellsAct] at h1
      obtain ⟨_, hlen, hcell⟩ := World.cells?_some h1
      obtain ⟨k, a1, len1, cap1, du, pu, rfl, u1, ht⟩ := open_actl Try.underlying41 rfl Try.underlying3 Try.underlying22 cellsAct cells3 cells22 h2
      obtain ⟨zs, hz⟩ := open_byt ht
      obtain ⟨s0, b0, c0, d0⟩ := hz.src
      have n0 : a1 = none → cap1 = 0 := by
        rcases hz with ⟨_, _, h, _⟩ | ⟨y, h, _⟩
        · exact fun _ => h
        · exact fun e => by rw [h] at e; cases e
      have hlen1 : (zs.take len1).length = len1 := s0.1
      refine ⟨⟨k, a1, cap1, zs.take len1⟩, fun j u hj => ?_, ⟨u1, by rw [hlen1]; exact s0, b0, ⟨by rw [hlen1]; exact c0, by unfold maxLen; omega⟩, n0⟩⟩
      have hj7 : j < 2 := by
        rcases Nat.lt_or_ge j 2 with h' | h'
        · exact h'
        · rw [List.getElem?_eq_none (by simpa [AW.cells] using h')] at hj; cases hj
      have := hcell j hj7
      rw [this]
      simp only [AW.cells, hlen1] at hj
      exact hj
    haveI : Inhabited AW := ⟨⟨0, none, 0, []⟩⟩
    obtain ⟨q, hq⟩ := Go.Deep.choose_lt each
    refine ⟨(List.range len).map q, ⟨by simp, fun y hy => ?_, fun hp => ?_⟩, by omega⟩
    · obtain ⟨i, hi, rfl⟩ := List.mem_map.1 hy
      exact (hq i (by have := List.mem_range.1 hi; omega)).2
    · have h0 := (hq 0 (by omega)).1 0 _ rfl
      have hsp : x.spot = none := by
        rcases hxs : x.spot with _ | s
        · rfl
        · exfalso
          have e : (x.add (0 * 2)).add 0 = x := by simp [Addr.add]
          rw [e] at h0
          unfold World.cell? at h0
          split at h0
          · rw [hxs] at h0
            simp at h0
          · cases h0
      obtain ⟨g, off, sp⟩ := x
      simp only at hsp
      subst hsp
      refine ⟨g, off, rfl, fun i y hy j u hj => ?_⟩
      have hi : i < len := by
        rcases Nat.lt_or_ge i len with h' | h'
        · exact h'
        · rw [List.getElem?_eq_none (by simpa using h')] at hy; cases hy
      rw [List.getElem?_map, List.getElem?_range hi] at hy
      obtain rfl := Option.some.inj hy
      have := (hq i (by omega)).1 j u hj
      rw [Addr.add_lit, Addr.add_lit] at this
      exact this
end

section
set_option linter.unusedVariables false
set_option linter.unusedSimpArgs false
open Go.RowKit

theorem DK.grow {w w' : World} {d : Nat} {D : Dk} {P : Nat → Prop} (h : DK w d D P) (hz : w.heap.size ≤ w'.heap.size) (hs : ∀ j, j < w.heap.size → ¬ P j → w'.heap[j]? = w.heap[j]?) : DK w' d D (fun j => P j ∨ (w.heap.size ≤ j ∧ j < w'.heap.size)) := by
  obtain ⟨m, cv, S, A, hD, hc, hF, hP⟩ := h
  refine ⟨m, cv, S, A, hD.same (fun j hj => hs j (hD.lt j hj) (fun e => (hP j e).2 hj)) hz, ?_, hF, fun j hj => ?_⟩
  · rcases hc with h | ⟨o, p, q, c, h1, h2, h3, h4, h5, h6⟩
    · exact Or.inl h
    · have hl := (Array.getElem?_eq_some_iff.1 h3).1
      refine Or.inr ⟨o, p, q, c, h1, h2, (hs c hl h5).trans h3, h4, fun e => ?_, h6⟩
      rcases e with e | e
      · exact h5 e
      · omega
  · rcases hj with hj | hj
    · exact ⟨Nat.lt_of_lt_of_le (hP j hj).1 hz, (hP j hj).2⟩
    · exact ⟨hj.2, fun e => by have := hD.lt j e; omega⟩
theorem own_keep {wr w2 : World} {B : Nat} {e : TypeId} {v : Value} {n : Nat} {Vs : List Value} (h : wr.ownsRow B e 1 v n Vs) (hk : ∀ g m c, v = .slice (some ⟨g, 0, none⟩) m c → w2.heap[g]? = wr.heap[g]?) : w2.ownsRow B e 1 v n Vs := by
  refine ⟨h.1, ?_⟩
  rcases h.2 with h | ⟨g, cap, cur, e, hb, hg, r⟩
  · exact Or.inl h
  · exact Or.inr ⟨g, cap, cur, e, hb, (hk g _ _ e).trans hg, r⟩

/-- The row of what was appended: its slices lead to what came in. -/
structure RW (w wr : World) (va : Value) (R : List (List Int)) (P : Nat → Prop) (l : Nat) : Prop where
  row : ∃ Vs, wr.ownsRow 0 22 1 va R.length Vs ∧ Pcs w R Vs
  loc : ∀ g m c, va = .slice (some ⟨g, 0, none⟩) m c → P g ∧ g ≠ l ∧ w.heap.size ≤ g
theorem RW.nil (w wr : World) (P : Nat → Prop) (l : Nat) : RW w wr (.slice none 0 0) [] P l := ⟨⟨[], World.ownsRow_nil _ _ _ _, rfl, fun i hi => absurd hi (by simp)⟩, fun g m c e => by simp at e⟩
theorem RW.kp {w wr w2 : World} {va : Value} {R : List (List Int)} {P P2 Q : Nat → Prop} {l l2 : Nat} (h : RW w wr va R P l) (k : KP wr w2 Q) (hq : ∀ j, P j → j ≠ l → Q j) (hp : ∀ j, P j → P2 j) (hl : ∀ g m c, va = .slice (some ⟨g, 0, none⟩) m c → g < wr.heap.size → g ≠ l2) : RW w w2 va R P2 l2 := by
  obtain ⟨⟨Vs, h1, h2⟩, h3⟩ := h
  have hlt : ∀ g m c, va = .slice (some ⟨g, 0, none⟩) m c → g < wr.heap.size := fun g m c e => by
    rcases h1.2 with ⟨e', _⟩ | ⟨g', cap, cur, e', _, hg, _⟩
    · rw [e'] at e; simp at e
    · rw [e'] at e
      simp only [Value.slice.injEq, Option.some.injEq, Addr.mk.injEq] at e
      obtain ⟨⟨rfl, _⟩, _⟩ := e
      exact (Array.getElem?_eq_some_iff.1 hg).1
  exact ⟨⟨Vs, own_keep h1 (fun g m c e => k.keep g (hlt g m c e) (hq g (h3 g m c e).1 (h3 g m c e).2.1)), h2⟩, fun g m c e => ⟨hp g (h3 g m c e).1, hl g m c e (hlt g m c e), (h3 g m c e).2.2⟩⟩
theorem RW.bs {w wr : World} {a : Option Addr} {c : Nat} {R : List (List Int)} {P : Nat → Prop} {l : Nat} (h : RW w wr (.slice a R.length c) R P l) (k : KP w wr (fun j => j < w.heap.size)) : BS wr a R := by
  intro hp
  obtain ⟨⟨Vs, h1, h2⟩, _⟩ := h
  rcases h1.2 with ⟨_, h0⟩ | ⟨g, cap, cur, e, _⟩
  · omega
  · simp only [Value.slice.injEq] at e
    obtain ⟨rfl, _, rfl⟩ := e
    refine ⟨g, 0, rfl, fun i r hi => ?_⟩
    have hil := (List.getElem?_eq_some_iff.1 hi).1
    obtain ⟨ai, ci, q1, q2, _⟩ := h2.2 i hil
    rw [hi] at q1 q2
    have hc := h1.cellAt i (by have := h2.1; omega)
    rw [q1] at hc
    refine ⟨ai, ci, by rw [Nat.zero_add]; exact hc, ?_⟩
    exact src_kp2 k (fun hp ad e => src_block q2 ad hp e) q2

/-- The run of WalPlays. -/
structure PI (w wr : World) (d l : Nat) (va : Value) (R : List (List Int)) (s room : Nat) (D : Dk) (P : Nat → Prop) : Prop where
  wd : WD w wr d D (frs R) room P
  lg : LG w wr l d R.length s P
  rw' : RW w wr va R P l
  sl : s ≤ R.length
  ok : ∀ B ∈ R, Bts B ∧ B.length ≤ 1000
theorem PI.all {w wr : World} {d l : Nat} {va : Value} {R : List (List Int)} {s room : Nat} {D : Dk} {P : Nat → Prop} (h : PI w wr d l va R s room D P) : spl (frs R) = (R, (frs R).length) := spl_all R (fun B hB => ⟨(h.ok B hB).1, by have := (h.ok B hB).2; omega⟩)
theorem PI.fits {w wr : World} {d l : Nat} {va : Value} {R : List (List Int)} {s room : Nat} {D : Dk} {P : Nat → Prop} (h : PI w wr d l va R s room D P) : (frs R).length ≤ room := by
  have h1 := h.wd.dk.good.fits
  rw [h.wd.lf.size, h.wd.room] at h1
  exact h1
theorem PI.more {w wr w2 : World} {d l : Nat} {va : Value} {R : List (List Int)} {s room : Nat} {D : Dk} {P : Nat → Prop} (h : PI w wr d l va R s room D P) (hb : Below wr.heap.size wr w2) : PI w w2 d l va R s room D (fun j => P j ∨ (wr.heap.size ≤ j ∧ j < w2.heap.size)) :=
  ⟨h.wd.more hb, h.lg.kp (KP.below (P := P) hb) h.lg.own (fun j hj => Or.inl hj), h.rw'.kp (KP.below (P := fun _ => True) hb) (fun _ _ _ => trivial) (fun j hj => Or.inl hj) (fun g m c e _ => (h.rw'.loc g m c e).2.1), h.sl, h.ok⟩
theorem PI.below {w wr w2 : World} {d l : Nat} {va : Value} {R : List (List Int)} {s room : Nat} {D : Dk} {P : Nat → Prop} (h : PI w wr d l va R s room D P) (hb : Below wr.heap.size wr w2) : PI w w2 d l va R s room D P :=
  ⟨h.wd.below hb, h.lg.below hb, h.rw'.kp (KP.below (P := fun _ => True) hb) (fun _ _ _ => trivial) (fun j hj => hj) (fun g m c e _ => (h.rw'.loc g m c e).2.1), h.sl, h.ok⟩
/-- How much room is left. -/
theorem pi_room {w wr : World} {d l : Nat} {va : Value} {R : List (List Int)} {s room : Nat} {D : Dk} {P : Nat → Prop} (h : PI w wr d l va R s room D P) : Calls Try.prog 18 #[.pointer (some ⟨d, 0, none⟩)] wr fun e w' => e = .returned (.int .i64 ((room - (frs R).length : Nat) : Int)) ∧ Below wr.heap.size wr w' := by
  have := room_dk d D P wr h.wd.dk
  rw [h.wd.room, h.wd.lf.size] at this
  exact this
theorem pi_sync {w wr : World} {d l : Nat} {va : Value} {R : List (List Int)} {s room : Nat} {D : Dk} {P : Nat → Prop} (h : PI w wr d l va R s room D P) : Calls Try.prog 17 #[.pointer (some ⟨l, 0, none⟩)] wr fun e w' => ∃ D', e = .returned (.int .i64 0) ∧ PI w w' d l va R R.length room D' P := by
  by_cases hR : R = []
  · subst hR
    refine (wsync_none l _ wr h.lg.log rfl rfl).mono ?_
    rintro e w' ⟨rfl, rfl⟩
    have hs : s = 0 := by have := h.sl; simpa using this
    subst hs
    exact ⟨D, rfl, h⟩
  · have hl : R.length ≠ 0 := by
      intro e
      exact hR (List.eq_nil_of_length_eq_zero e)
    have hb : frs R ≠ [] := by
      cases R with
      | nil => exact absurd rfl hR
      | cons B R =>
        intro e
        have := congrArg List.length e
        rw [frs_cons, List.length_append, fr_length] at this
        simp at this
    refine (run_sync h.wd h.lg hl hb).mono ?_
    rintro e w' ⟨D', rfl, h1, h2, h3⟩
    exact ⟨D', rfl, h1, h2, h.rw'.kp h3 (fun j hj hn => ⟨hj, hn⟩) (fun j hj => hj) (fun g m c e _ => (h.rw'.loc g m c e).2.1), Nat.le_refl _, h.ok⟩
theorem pi_open {w wr : World} {d l : Nat} {va : Value} {R : List (List Int)} {s room : Nat} {D : Dk} {P : Nat → Prop} (h : PI w wr d l va R s room D P) (hr : room ≤ 1000000) : Calls Try.prog 11 #[.pointer (some ⟨d, 0, none⟩), encStr lg] wr fun e w' => ∃ (D' : Dk) (l' : Nat) (a : Option Addr) (c : Nat) (P' : Nat → Prop), e = .returned (.tuple #[.pointer (some ⟨l', 0, none⟩), .slice a R.length c, .int .i64 0]) ∧ PI w w' d l' va R 0 room D' P' ∧ BS w' a R := by
  have hf := h.fits
  refine (run_open h.wd (by omega)).mono ?_
  rintro e w' ⟨D', l', a, c, P', rfl, h1, h2, h3, h4, h5, h6⟩
  rw [h.all] at h1 h2 h3 ⊢
  exact ⟨D', l', a, c, P', rfl, ⟨h1, h2, h.rw'.kp h4 (fun j hj _ => hj) h5 (fun g m c e hlt => by omega), Nat.zero_le _, h.ok⟩, h3.bs⟩
/-- No room: nothing turns. -/
theorem pi_full {w wr : World} {d l : Nat} {va : Value} {R : List (List Int)} {s room : Nat} {D : Dk} {P : Nat → Prop} {B : List Int} {a : Option Addr} {cap : Nat} (h : PI w wr d l va R s room D P) (hr : room ≤ 1000000) (hs : Src wr a B.length B) (hB : Bts B) (hnil : a = none → B.length = 0 ∧ cap = 0) (hm : B.length ≤ 1000) (hf : room < (frs R).length + B.length + 8) :
    Calls Try.prog 19 #[.pointer (some ⟨l, 0, none⟩), .slice a B.length cap] wr fun e w' => e = .returned (.int .i64 72) ∧ PI w w' d l va R s room D P ∧ KP wr w' (fun j => P j ∧ j ≠ l) := by
  have h0 := frs_cnt R
  have h1 := h.fits
  refine (run_full h.wd h.lg (by omega) hs hB hnil (by omega) hf).mono ?_
  rintro e w' ⟨rfl, q1, q2, q3⟩
  exact ⟨rfl, ⟨q1, q2, h.rw'.kp q3 (fun j hj hn => ⟨hj, hn⟩) (fun j hj => hj) (fun g m c e _ => (h.rw'.loc g m c e).2.1), h.sl, h.ok⟩, q3⟩
/-- A record more: the row is still to be made longer. -/
structure PJ (w wr : World) (d l : Nat) (va : Value) (R : List (List Int)) (B : List Int) (s room : Nat) (D : Dk) (P : Nat → Prop) : Prop where
  wd : WD w wr d D (frs (R ++ [B])) room P
  lg : LG w wr l d (R.length + 1) s P
  rw' : RW w wr va R P l
  sl : s ≤ R.length
  ok : ∀ C ∈ R ++ [B], Bts C ∧ C.length ≤ 1000
theorem PJ.below {w wr w2 : World} {d l : Nat} {va : Value} {R : List (List Int)} {B : List Int} {s room : Nat} {D : Dk} {P : Nat → Prop} (h : PJ w wr d l va R B s room D P) (hb : Below wr.heap.size wr w2) : PJ w w2 d l va R B s room D P :=
  ⟨h.wd.below hb, h.lg.below hb, h.rw'.kp (KP.below (P := fun _ => True) hb) (fun _ _ _ => trivial) (fun j hj => hj) (fun g m c e _ => (h.rw'.loc g m c e).2.1), h.sl, h.ok⟩
theorem pi_app {w wr : World} {d l : Nat} {va : Value} {R : List (List Int)} {s room : Nat} {D : Dk} {P : Nat → Prop} {B : List Int} {a : Option Addr} {cap : Nat} (h : PI w wr d l va R s room D P) (hr : room ≤ 1000000) (hs : Src wr a B.length B) (hB : Bts B) (hnil : a = none → B.length = 0 ∧ cap = 0) (hm : B.length ≤ 1000) (hf : (frs R).length + B.length + 8 ≤ room) :
    Calls Try.prog 19 #[.pointer (some ⟨l, 0, none⟩), .slice a B.length cap] wr fun e w' => ∃ D', e = .returned (.int .i64 0) ∧ PJ w w' d l va R B s room D' P ∧ KP wr w' (fun j => P j ∧ j ≠ l) := by
  have h0 := frs_cnt R
  have h1 := h.fits
  refine (run_append h.wd h.lg (by omega) hs hB hnil (by omega) hf).mono ?_
  rintro e w' ⟨D', rfl, q1, q2, q3⟩
  refine ⟨D', rfl, ⟨q1.eq (frs_snoc R B).symm, q2, h.rw'.kp q3 (fun j hj hn => ⟨hj, hn⟩) (fun j hj => hj) (fun g m c e _ => (h.rw'.loc g m c e).2.1), h.sl, fun C hC => ?_⟩, q3⟩
  rcases List.mem_append.1 hC with hC | hC
  · exact h.ok C hC
  · rw [List.mem_singleton.1 hC]; exact ⟨hB, hm⟩
theorem pj_room {w wr : World} {d l : Nat} {va : Value} {R : List (List Int)} {B : List Int} {s room : Nat} {D : Dk} {P : Nat → Prop} (h : PJ w wr d l va R B s room D P) : Calls Try.prog 18 #[.pointer (some ⟨d, 0, none⟩)] wr fun e w' => e = .returned (.int .i64 ((room - ((frs R).length + B.length + 8) : Nat) : Int)) ∧ Below wr.heap.size wr w' := by
  have := room_dk d D P wr h.wd.dk
  rw [h.wd.room, h.wd.lf.size, frs_snoc, List.length_append, fr_length, ← Nat.add_assoc] at this
  exact this
/-- The row is longer. -/
theorem pj_done {w wr w' : World} {d l : Nat} {va : Value} {R : List (List Int)} {B : List Int} {s room : Nat} {D : Dk} {P : Nat → Prop} {a : Option Addr} {c g cap : Nat} (h : PJ w wr d l va R B s room D P) (hs : Src w a B.length B) (hc : B.length ≤ c) (hn : a = none → B.length = 0 ∧ c = 0) (hg : wr.grownBy w' va.ownBlock) (hl : va.ownBlock = some g ∨ g = wr.heap.size) (hlt : g < w'.heap.size)
    {Vs : List Value} (r2 : Pcs w R Vs) (ho : w'.ownsRow 0 22 1 (.slice (some ⟨g, 0, none⟩) (R.length + 1) cap) (R.length + 1) (Vs ++ [.slice a B.length c])) :
    ∃ P', PI w w' d l (.slice (some ⟨g, 0, none⟩) (R ++ [B]).length cap) (R ++ [B]) s room D P' := by
  obtain ⟨⟨Vs2, r1, _⟩, r3⟩ := h.rw'
  have hown : ∀ k, va.ownBlock = some k → P k ∧ k ≠ l ∧ w.heap.size ≤ k := fun k e => by
    rcases r1.2 with ⟨e', _⟩ | ⟨g', cap', cur, e', _⟩
    · rw [e'] at e; simp [Value.ownBlock] at e
    · rw [e'] at e
      have e2 : g' = k := by simpa [Value.ownBlock] using e
      subst e2
      exact r3 g' _ _ e'
  have hkp : KP wr w' (fun j => some j ≠ va.ownBlock) := ⟨hg.size, fun j hj hn => hg.block j hj hn, ⟨hg.os, hg.tape, hg.output⟩⟩
  have hdk := h.wd.dk.grow hg.size (fun j hj hn => hg.block j hj (fun e => hn (hown j e.symm).1))
  refine ⟨_, ⟨⟨hdk, h.wd.lf, h.wd.room, h.wd.kp.trans ⟨hg.size, fun j hj hn => hg.block j hj (fun e => by have := (hown j e.symm).2.2; omega), ⟨hg.os, hg.tape, hg.output⟩⟩, fun j hj => Or.inl (h.wd.old j hj)⟩, ?_, ⟨⟨_, ?_, pcs_snoc r2 a c B hs hc hn⟩, fun g' m c' e => ?_⟩, by rw [List.length_append]; have := h.sl; omega, h.ok⟩⟩
  · have := h.lg.kp (P2 := fun j => P j ∨ (wr.heap.size ≤ j ∧ j < w'.heap.size)) hkp (fun e => (hown l e.symm).2.1 rfl) (fun j hj => Or.inl hj)
    rw [List.length_append]
    exact this
  · rw [List.length_append]
    exact ho
  · simp only [Value.slice.injEq, Option.some.injEq, Addr.mk.injEq] at e
    obtain ⟨⟨rfl, _⟩, _⟩ := e
    rcases hl with hl | hl
    · obtain ⟨q1, q2, q3⟩ := hown g hl
      exact ⟨Or.inl q1, q2, q3⟩
    · have h1 := h.lg.log.lt
      have h2 := h.wd.kp.size
      exact ⟨Or.inr ⟨by omega, hlt⟩, by omega, by omega⟩
end
end Go.Proofs.Ytegikicpffoglaa
