/- For any dots VectorLaws answers true: Join is the least vector above both, Meet the greatest below both, both can be turned, and nothing that was handed in changes. No condition. -/
import Derived.Test.YtliahpjlmgplkaaVCalls
import Derived.WalkKit
import Derived.WalkSpells
import Derived.WalkLawsBesides
import Derived.ProofKit
import Derived.OpenShut
import Derived.ShutString
import Derived.ChangeOld
import Derived.Below
import Derived.Lib.SmallJoins
import Derived.Deep.CutRange
namespace Go.Proofs.Ytliahpjlmgplkaa
open Go.RowKit
open Go.Sort (grow)

section
variable {A B C : List Dt}
theorem join_gt (hA : VM A) (hB : VM B) (y : Int) : gt (vjoin A B) y = max (gt A y) (gt B y) := vj_gt pick_max hA hB y
theorem meet_gt (hA : VM A) (hB : VM B) (y : Int) : gt (vmeet A B) y = min (gt A y) (gt B y) := vj_gt pick_min hA hB y
theorem join_vm (hA : VM A) (hB : VM B) : VM (vjoin A B) := vj_vm pick_max hA hB
theorem meet_vm (hA : VM A) (hB : VM B) : VM (vmeet A B) := vj_vm pick_min hA hB
theorem le_join_l (hA : VM A) (hB : VM B) (y : Int) : gt A y ≤ gt (vjoin A B) y := by rw [join_gt hA hB]; omega
theorem le_join_r (hA : VM A) (hB : VM B) (y : Int) : gt B y ≤ gt (vjoin A B) y := by rw [join_gt hA hB]; omega
theorem meet_le_l (hA : VM A) (hB : VM B) (y : Int) : gt (vmeet A B) y ≤ gt A y := by rw [meet_gt hA hB]; omega
theorem meet_le_r (hA : VM A) (hB : VM B) (y : Int) : gt (vmeet A B) y ≤ gt B y := by rw [meet_gt hA hB]; omega
theorem join_turned (hA : VM A) (hB : VM B) : vjoin A B = vjoin B A := vm_ext (join_vm hA hB) (join_vm hB hA) fun y => by rw [join_gt hA hB, join_gt hB hA]; omega
theorem meet_turned (hA : VM A) (hB : VM B) : vmeet A B = vmeet B A := vm_ext (meet_vm hA hB) (meet_vm hB hA) fun y => by rw [meet_gt hA hB, meet_gt hB hA]; omega
theorem join_three (hA : VM A) (hB : VM B) (hC : VM C) : vjoin (vjoin A B) C = vjoin A (vjoin B C) := vm_ext (join_vm (join_vm hA hB) hC) (join_vm hA (join_vm hB hC)) fun y => by
  rw [join_gt (join_vm hA hB) hC, join_gt hA hB, join_gt hA (join_vm hB hC), join_gt hB hC]; omega
theorem join_self (hA : VM A) : vjoin A A = A := vm_ext (join_vm hA hA) hA fun y => by rw [join_gt hA hA]; omega
theorem join_meet (hA : VM A) (hB : VM B) : vjoin A (vmeet A B) = A := vm_ext (join_vm hA (meet_vm hA hB)) hA fun y => by rw [join_gt hA (meet_vm hA hB), meet_gt hA hB]; omega
theorem join_least (hA : VM A) (hB : VM B) (hC : VM C) (h1 : belv A C = true) (h2 : belv B C = true) : belv (vjoin A B) C = true := by
  rw [belv_iff (join_vm hA hB) hC]
  intro y
  have := (belv_iff hA hC).1 h1 y
  have := (belv_iff hB hC).1 h2 y
  rw [join_gt hA hB]
  omega
theorem meet_greatest (hA : VM A) (hB : VM B) (hC : VM C) (h1 : belv C A = true) (h2 : belv C B = true) : belv C (vmeet A B) = true := by
  rw [belv_iff hC (meet_vm hA hB)]
  intro y
  have := (belv_iff hC hA).1 h1 y
  have := (belv_iff hC hB).1 h2 y
  rw [meet_gt hA hB]
  omega
end

theorem tell_below {a a' : Option Addr} {n c n' c' : Nat} {A B : List Dt} {w : World} {r : Bool} (h : belv A B = r) (hs : PS w a n c A) (hn : n ≤ 1000000) (hA : VM A) (hs' : PS w a' n' c' B) (hn' : n' ≤ 1000000) (hB : VM B) :
    Calls Try.prog 25 #[.slice a n c, .slice a' n' c'] w fun e w' => e = .returned (.bool r) ∧ RowKit.Below w.heap.size w w' := by
  have := (below_any hs hn hs' hn' hA hB).b
  rw [h] at this
  exact this

/-- Block g is a row of cells for c dots, which may be written. -/
def Blk (w : World) (g c : Nat) : Prop := ∃ cur, w.heap[g]? = some (.cells cur 24 (0, 0)) ∧ cur.size = c * 2

theorem own_blk {w : World} {b n c : Nat} {a : Option Addr} {xs : List Value} (h : w.ownsRow b 24 2 (.slice a n c) n xs) (hp : 0 < n) : ∃ g, a = some ⟨g, 0, none⟩ ∧ Blk w g c ∧ b ≤ g ∧ g < w.heap.size ∧ n ≤ c := by
  rcases h.2 with ⟨h0, h1⟩ | ⟨g', cap', cur, hv, hg, hb, hn, hcap, hsz, ht⟩
  · omega
  · cases hv
    exact ⟨g', rfl, ⟨cur, hb, hsz⟩, hg, (Array.getElem?_eq_some_iff.1 hb).1, hn⟩

theorem Blk.below {w w' : World} {g c B : Nat} (h : Blk w g c) (hb : RowKit.Below B w w') (hg : g < B) : Blk w' g c := by
  obtain ⟨cur, h1, h2⟩ := h
  exact ⟨cur, by rw [hb.block g hg]; exact h1, h2⟩

theorem Blk.cell {w : World} {g c : Nat} (h : Blk w g c) {i : Nat} (hi : i < c * 2) : ∃ v, w.cell? ⟨g, i, none⟩ = some v := by
  obtain ⟨cur, h1, h2⟩ := h
  exact ⟨cur[i]'(by omega), by simp [World.cell?, h1, h2, hi]⟩

theorem Blk.frozen {w : World} {g c : Nat} (h : Blk w g c) (i : Nat) : w.frozen? ⟨g, i, none⟩ = false := by
  obtain ⟨cur, h1, h2⟩ := h
  simp [World.frozen?, h1]

theorem Blk.set {w : World} {g c : Nat} (h : Blk w g c) (i : Nat) (v : Value) : Blk (w.setCell ⟨g, i, none⟩ v) g c := by
  obtain ⟨cur, h1, h2⟩ := h
  exact ⟨_, heap_setCell_same w g i _ 24 v h1, by simpa using h2⟩

set_option maxRecDepth 100000 in
set_option maxHeartbeats 16000000 in
theorem vlaws_walk (a : Option Addr) (n c : Nat) (L : List Dt) (a' : Option Addr) (n' c' : Nat) (K : List Dt) (a'' : Option Addr) (n'' c'' : Nat) (G : List Dt) (w : World) (hs0 : PS w a n c L) (hs1 : PS w a' n' c' K) (hs2 : PS w a'' n'' c'' G) :
    Calls Try.prog 5 #[.slice a n c, .slice a' n' c', .slice a'' n'' c''] w fun e w' => e = .returned (.bool true) ∧ RowKit.Below w.heap.size w w' := by
  have mV := made_vm L
  have mU := made_vm K
  have mX := made_vm G
  have mJ := join_vm mV mU
  have mM := meet_vm mV mU
  have lv := made_length L
  have lu := made_length K
  have lx := made_length G
  have lj : (vj (fun x y => max x y) (made L) (made K)).length ≤ 1000000 := Nat.le_trans (vj_length _ _ _) (by omega)
  have lm : (vj (fun x y => min x y) (made L) (made K)).length ≤ 1000000 := Nat.le_trans (vj_length _ _ _) (by omega)
  have lj2 : (vj (fun x y => max x y) (made K) (made L)).length ≤ 1000000 := Nat.le_trans (vj_length _ _ _) (by omega)
  have lm2 : (vj (fun x y => min x y) (made K) (made L)).length ≤ 1000000 := Nat.le_trans (vj_length _ _ _) (by omega)
  have l18 : (vjoin (vjoin (made L) (made K)) (made G)).length ≤ 1000000 := Nat.le_trans (vj_length _ _ _) (by have h : (vjoin (made L) (made K)).length ≤ _ := vj_length _ _ _; omega)
  have l19 : (vjoin (made K) (made G)).length ≤ 1000000 := Nat.le_trans (vj_length _ _ _) (by omega)
  have l20 : (vjoin (made L) (vjoin (made K) (made G))).length ≤ 1000000 := Nat.le_trans (vj_length _ _ _) (by have h : (vjoin (made K) (made G)).length ≤ _ := vj_length _ _ _; omega)
  have l22 : (vjoin (made L) (made L)).length ≤ 1000000 := Nat.le_trans (vj_length _ _ _) (by omega)
  have l24 : (vjoin (made L) (vmeet (made L) (made K))).length ≤ 1000000 := Nat.le_trans (vj_length _ _ _) (by have h : (vmeet (made L) (made K)).length ≤ _ := vj_length _ _ _; omega)
  have h3' := fun h1 h2 => join_least (A := made L) (B := made K) (C := made G) mV mU mX h1 h2
  have k3' := fun h1 h2 => meet_greatest (A := made L) (B := made K) (C := made G) mV mU mX h1 h2
  go_enter Try.func5, Try.ntmps5
  go_upto_region 12 with (first
    | (go_at_call 27; have hq17 := b16; refine (c_same (p7.below (below2 (below2 (below2 (below2 (below2 (below2 (below2 (below2 b8 b9) b10) b11) b12) b13) b14) b15) b16)) lm p16 lm2 (meet_turned mV mU)).mono ?_; rintro e w17 ⟨rfl, b17⟩)
    | (go_at_call 22; have hq16 := b15; refine (c_meet (p3.below (below2 (below2 (below2 (below2 (below2 (below2 (below2 (below2 (below2 (below2 (below2 b4 b5) b6) b7) b8) b9) b10) b11) b12) b13) b14) b15)) (by omega) mU (p2.below (below2 (below2 (below2 (below2 (below2 (below2 (below2 (below2 (below2 (below2 (below2 (below2 b3 b4) b5) b6) b7) b8) b9) b10) b11) b12) b13) b14) b15)) (by omega) mV).mono ?_; rintro e w16 ⟨a16, c16, rfl, p16, b16⟩)
    | (go_at_call 27; have hq15 := b14; refine (c_same (p6.below (below2 (below2 (below2 (below2 (below2 (below2 (below2 b7 b8) b9) b10) b11) b12) b13) b14)) lj p14 lj2 (join_turned mV mU)).mono ?_; rintro e w15 ⟨rfl, b15⟩)
    | (go_at_call 20; have hq14 := b13; refine (c_join (p3.below (below2 (below2 (below2 (below2 (below2 (below2 (below2 (below2 (below2 b4 b5) b6) b7) b8) b9) b10) b11) b12) b13)) (by omega) mU (p2.below (below2 (below2 (below2 (below2 (below2 (below2 (below2 (below2 (below2 (below2 b3 b4) b5) b6) b7) b8) b9) b10) b11) b12) b13)) (by omega) mV).mono ?_; rintro e w14 ⟨a14, c14, rfl, p14, b14⟩)
    | (go_at_call 11; have hq13 := b12; refine (c_may (p7.below (below2 (below2 (below2 (below2 b8 b9) b10) b11) b12)) lm mM).mono ?_; rintro e w13 ⟨rfl, b13⟩)
    | (go_at_call 11; have hq12 := b11; refine (c_may (p6.below (below2 (below2 (below2 (below2 b7 b8) b9) b10) b11)) lj mJ).mono ?_; rintro e w12 ⟨rfl, b12⟩)
    | (go_at_call 25; have hq11 := b10; refine (c_below (p7.below (below2 (below2 b8 b9) b10)) lm mM (p3.below (below2 (below2 (below2 (below2 (below2 (below2 b4 b5) b6) b7) b8) b9) b10)) (by omega) mU (meet_le_r mV mU)).mono ?_; rintro e w11 ⟨rfl, b11⟩)
    | (go_at_call 25; have hq10 := b9; refine (c_below (p7.below (below2 b8 b9)) lm mM (p2.below (below2 (below2 (below2 (below2 (below2 (below2 b3 b4) b5) b6) b7) b8) b9)) (by omega) mV (meet_le_l mV mU)).mono ?_; rintro e w10 ⟨rfl, b10⟩)
    | (go_at_call 25; have hq9 := b8; refine (c_below (p3.below (below2 (below2 (below2 (below2 b4 b5) b6) b7) b8)) (by omega) mU (p6.below (below2 b7 b8)) lj mJ (le_join_r mV mU)).mono ?_; rintro e w9 ⟨rfl, b9⟩)
    | (go_at_call 25; have hq8 := b7; refine (c_below (p2.below (below2 (below2 (below2 (below2 b3 b4) b5) b6) b7)) (by omega) mV (p6.below b7) lj mJ (le_join_l mV mU)).mono ?_; rintro e w8 ⟨rfl, b8⟩)
    | (go_at_call 22; have hq7 := b6; refine (c_meet (p2.below (below2 (below2 (below2 b3 b4) b5) b6)) (by omega) mV (p3.below (below2 (below2 b4 b5) b6)) (by omega) mU).mono ?_; rintro e w7 ⟨a7, c7, rfl, p7, b7⟩)
    | (go_at_call 20; have hq6 := b5; refine (join_any (p2.below (below2 (below2 b3 b4) b5)) (by omega) (p3.below (below2 b4 b5)) (by omega) mV mU).mono ?_; rintro e w6 ⟨v6, rfl, o6, b6⟩; obtain ⟨a6, c6, rfl, p6⟩ := owned_ps o6 rfl)
    | (go_at_call 10; have hq5 := b4; refine (made_any (hs0.below (below2 (below2 (below2 b1 b2) b3) b4))).mono ?_; rintro e w5 ⟨a5, c5, rfl, p5, b5⟩)
    | (go_at_call 10; have hq4 := b3; refine (made_any (hs2.below (below2 (below2 b1 b2) b3))).mono ?_; rintro e w4 ⟨a4, c4, rfl, p4, b4⟩)
    | (go_at_call 10; have hq3 := b2; refine (made_any (hs1.below (below2 b1 b2))).mono ?_; rintro e w3 ⟨a3, c3, rfl, p3, b3⟩)
    | (go_at_call 10; have hq2 := b1; refine (made_any (hs0.below b1)).mono ?_; rintro e w2 ⟨a2, c2, rfl, p2, b2⟩)
    | (go_at_call 9; refine (awake_any w).mono ?_; rintro e w1 ⟨rfl, b1⟩))
  have P2 := hid (p2.below (below2 (below2 (below2 (below2 (below2 (below2 (below2 (below2 (below2 (below2 (below2 (below2 (below2 (below2 b3 b4) b5) b6) b7) b8) b9) b10) b11) b12) b13) b14) b15) b16) b17))
  have P3 := hid (p3.below (below2 (below2 (below2 (below2 (below2 (below2 (below2 (below2 (below2 (below2 (below2 (below2 (below2 b4 b5) b6) b7) b8) b9) b10) b11) b12) b13) b14) b15) b16) b17))
  have P4 := hid (p4.below (below2 (below2 (below2 (below2 (below2 (below2 (below2 (below2 (below2 (below2 (below2 (below2 b5 b6) b7) b8) b9) b10) b11) b12) b13) b14) b15) b16) b17))
  have P5 := hid (p5.below (below2 (below2 (below2 (below2 (below2 (below2 (below2 (below2 (below2 (below2 (below2 b6 b7) b8) b9) b10) b11) b12) b13) b14) b15) b16) b17))
  have P6 := hid (p6.below (below2 (below2 (below2 (below2 (below2 (below2 (below2 (below2 (below2 (below2 b7 b8) b9) b10) b11) b12) b13) b14) b15) b16) b17))
  have P7 := hid (p7.below (below2 (below2 (below2 (below2 (below2 (below2 (below2 (below2 (below2 b8 b9) b10) b11) b12) b13) b14) b15) b16) b17))
  have B5 := hid (below2 (below2 (below2 (below2 (below2 (below2 (below2 (below2 (below2 (below2 (below2 b6 b7) b8) b9) b10) b11) b12) b13) b14) b15) b16) b17)
  have B6 := hid (below2 (below2 (below2 (below2 (below2 (below2 (below2 (below2 (below2 (below2 b7 b8) b9) b10) b11) b12) b13) b14) b15) b16) b17)
  have B0 := hid (below2 (below2 (below2 (below2 b1 b2) b3) b4) b5)
  have Q2 := hid (p2.below (below2 (below2 b3 b4) b5))
  have Q5 := hid p5
  have O6 := hid o6
  clear p2 p3 p4 p5 p6 p7 p14 p16 o6 hs0 hs1 hs2 b1 b2 b3 b4 b5 b6 b7 b8 b9 b10 b11 b12 b13 b14 b15 b16 b17 hq2 hq3 hq4 hq5 hq6 hq7 hq8 hq9 hq10 hq11 hq12 hq13 hq14 hq15 hq16 hq17
  go_cut [16] from 74 to 105 (fun v wc => v = .bool true ∧ RowKit.Below w17.heap.size w17 wc)
  case first =>
    have D0 : RowKit.Below w17.heap.size w17 w17 := Below.refl _ _
    rcases Bool.eq_false_or_eq_true (belv (made L) (made G)) with h1 | h1
    · rcases Bool.eq_false_or_eq_true (belv (made K) (made G)) with h2 | h2
      · have h3 := h3' h1 h2
        rcases Bool.eq_false_or_eq_true (belv (made G) (made L)) with k1 | k1
        · rcases Bool.eq_false_or_eq_true (belv (made G) (made K)) with k2 | k2
          · have k3 := k3' k1 k2
            go_wp2_with (first
              | (go_at_call 25; have hq := D5; refine (tell_below k3 (P4.out.below D5) (by omega) mX (P7.out.below D5) lm mM).mono ?_; rintro e x6 ⟨rfl, y6⟩; have D6 := below2 D5 y6)
              | (go_at_call 25; have hq := D4; refine (tell_below k2 (P4.out.below D4) (by omega) mX (P3.out.below D4) (by omega) mU).mono ?_; rintro e x5 ⟨rfl, y5⟩; have D5 := below2 D4 y5)
              | (go_at_call 25; have hq := D3; refine (tell_below k1 (P4.out.below D3) (by omega) mX (P2.out.below D3) (by omega) mV).mono ?_; rintro e x4 ⟨rfl, y4⟩; have D4 := below2 D3 y4)
              | (go_at_call 25; have hq := D2; refine (tell_below h3 (P6.out.below D2) lj mJ (P4.out.below D2) (by omega) mX).mono ?_; rintro e x3 ⟨rfl, y3⟩; have D3 := below2 D2 y3)
              | (go_at_call 25; have hq := D1; refine (tell_below h2 (P3.out.below D1) (by omega) mU (P4.out.below D1) (by omega) mX).mono ?_; rintro e x2 ⟨rfl, y2⟩; have D2 := below2 D1 y2)
              | (go_at_call 25; have hq := D0; refine (tell_below h1 (P2.out.below D0) (by omega) mV (P4.out.below D0) (by omega) mX).mono ?_; rintro e x1 ⟨rfl, y1⟩; have D1 := below2 D0 y1))
            go_meet
            exact ⟨rfl, D6⟩
          · go_wp2_with (first
              | (go_at_call 25; have hq := D4; refine (tell_below k2 (P4.out.below D4) (by omega) mX (P3.out.below D4) (by omega) mU).mono ?_; rintro e x5 ⟨rfl, y5⟩; have D5 := below2 D4 y5)
              | (go_at_call 25; have hq := D3; refine (tell_below k1 (P4.out.below D3) (by omega) mX (P2.out.below D3) (by omega) mV).mono ?_; rintro e x4 ⟨rfl, y4⟩; have D4 := below2 D3 y4)
              | (go_at_call 25; have hq := D2; refine (tell_below h3 (P6.out.below D2) lj mJ (P4.out.below D2) (by omega) mX).mono ?_; rintro e x3 ⟨rfl, y3⟩; have D3 := below2 D2 y3)
              | (go_at_call 25; have hq := D1; refine (tell_below h2 (P3.out.below D1) (by omega) mU (P4.out.below D1) (by omega) mX).mono ?_; rintro e x2 ⟨rfl, y2⟩; have D2 := below2 D1 y2)
              | (go_at_call 25; have hq := D0; refine (tell_below h1 (P2.out.below D0) (by omega) mV (P4.out.below D0) (by omega) mX).mono ?_; rintro e x1 ⟨rfl, y1⟩; have D1 := below2 D0 y1))
            go_meet
            exact ⟨rfl, D5⟩
        · go_wp2_with (first
            | (go_at_call 25; have hq := D3; refine (tell_below k1 (P4.out.below D3) (by omega) mX (P2.out.below D3) (by omega) mV).mono ?_; rintro e x4 ⟨rfl, y4⟩; have D4 := below2 D3 y4)
            | (go_at_call 25; have hq := D2; refine (tell_below h3 (P6.out.below D2) lj mJ (P4.out.below D2) (by omega) mX).mono ?_; rintro e x3 ⟨rfl, y3⟩; have D3 := below2 D2 y3)
            | (go_at_call 25; have hq := D1; refine (tell_below h2 (P3.out.below D1) (by omega) mU (P4.out.below D1) (by omega) mX).mono ?_; rintro e x2 ⟨rfl, y2⟩; have D2 := below2 D1 y2)
            | (go_at_call 25; have hq := D0; refine (tell_below h1 (P2.out.below D0) (by omega) mV (P4.out.below D0) (by omega) mX).mono ?_; rintro e x1 ⟨rfl, y1⟩; have D1 := below2 D0 y1))
          go_meet
          exact ⟨rfl, D4⟩
      · skip
        rcases Bool.eq_false_or_eq_true (belv (made G) (made L)) with k1 | k1
        · rcases Bool.eq_false_or_eq_true (belv (made G) (made K)) with k2 | k2
          · have k3 := k3' k1 k2
            go_wp2_with (first
              | (go_at_call 25; have hq := D4; refine (tell_below k3 (P4.out.below D4) (by omega) mX (P7.out.below D4) lm mM).mono ?_; rintro e x5 ⟨rfl, y5⟩; have D5 := below2 D4 y5)
              | (go_at_call 25; have hq := D3; refine (tell_below k2 (P4.out.below D3) (by omega) mX (P3.out.below D3) (by omega) mU).mono ?_; rintro e x4 ⟨rfl, y4⟩; have D4 := below2 D3 y4)
              | (go_at_call 25; have hq := D2; refine (tell_below k1 (P4.out.below D2) (by omega) mX (P2.out.below D2) (by omega) mV).mono ?_; rintro e x3 ⟨rfl, y3⟩; have D3 := below2 D2 y3)
              | (go_at_call 25; have hq := D1; refine (tell_below h2 (P3.out.below D1) (by omega) mU (P4.out.below D1) (by omega) mX).mono ?_; rintro e x2 ⟨rfl, y2⟩; have D2 := below2 D1 y2)
              | (go_at_call 25; have hq := D0; refine (tell_below h1 (P2.out.below D0) (by omega) mV (P4.out.below D0) (by omega) mX).mono ?_; rintro e x1 ⟨rfl, y1⟩; have D1 := below2 D0 y1))
            go_meet
            exact ⟨rfl, D5⟩
          · go_wp2_with (first
              | (go_at_call 25; have hq := D3; refine (tell_below k2 (P4.out.below D3) (by omega) mX (P3.out.below D3) (by omega) mU).mono ?_; rintro e x4 ⟨rfl, y4⟩; have D4 := below2 D3 y4)
              | (go_at_call 25; have hq := D2; refine (tell_below k1 (P4.out.below D2) (by omega) mX (P2.out.below D2) (by omega) mV).mono ?_; rintro e x3 ⟨rfl, y3⟩; have D3 := below2 D2 y3)
              | (go_at_call 25; have hq := D1; refine (tell_below h2 (P3.out.below D1) (by omega) mU (P4.out.below D1) (by omega) mX).mono ?_; rintro e x2 ⟨rfl, y2⟩; have D2 := below2 D1 y2)
              | (go_at_call 25; have hq := D0; refine (tell_below h1 (P2.out.below D0) (by omega) mV (P4.out.below D0) (by omega) mX).mono ?_; rintro e x1 ⟨rfl, y1⟩; have D1 := below2 D0 y1))
            go_meet
            exact ⟨rfl, D4⟩
        · go_wp2_with (first
            | (go_at_call 25; have hq := D2; refine (tell_below k1 (P4.out.below D2) (by omega) mX (P2.out.below D2) (by omega) mV).mono ?_; rintro e x3 ⟨rfl, y3⟩; have D3 := below2 D2 y3)
            | (go_at_call 25; have hq := D1; refine (tell_below h2 (P3.out.below D1) (by omega) mU (P4.out.below D1) (by omega) mX).mono ?_; rintro e x2 ⟨rfl, y2⟩; have D2 := below2 D1 y2)
            | (go_at_call 25; have hq := D0; refine (tell_below h1 (P2.out.below D0) (by omega) mV (P4.out.below D0) (by omega) mX).mono ?_; rintro e x1 ⟨rfl, y1⟩; have D1 := below2 D0 y1))
          go_meet
          exact ⟨rfl, D3⟩
    · skip
      rcases Bool.eq_false_or_eq_true (belv (made G) (made L)) with k1 | k1
      · rcases Bool.eq_false_or_eq_true (belv (made G) (made K)) with k2 | k2
        · have k3 := k3' k1 k2
          go_wp2_with (first
            | (go_at_call 25; have hq := D3; refine (tell_below k3 (P4.out.below D3) (by omega) mX (P7.out.below D3) lm mM).mono ?_; rintro e x4 ⟨rfl, y4⟩; have D4 := below2 D3 y4)
            | (go_at_call 25; have hq := D2; refine (tell_below k2 (P4.out.below D2) (by omega) mX (P3.out.below D2) (by omega) mU).mono ?_; rintro e x3 ⟨rfl, y3⟩; have D3 := below2 D2 y3)
            | (go_at_call 25; have hq := D1; refine (tell_below k1 (P4.out.below D1) (by omega) mX (P2.out.below D1) (by omega) mV).mono ?_; rintro e x2 ⟨rfl, y2⟩; have D2 := below2 D1 y2)
            | (go_at_call 25; have hq := D0; refine (tell_below h1 (P2.out.below D0) (by omega) mV (P4.out.below D0) (by omega) mX).mono ?_; rintro e x1 ⟨rfl, y1⟩; have D1 := below2 D0 y1))
          go_meet
          exact ⟨rfl, D4⟩
        · go_wp2_with (first
            | (go_at_call 25; have hq := D2; refine (tell_below k2 (P4.out.below D2) (by omega) mX (P3.out.below D2) (by omega) mU).mono ?_; rintro e x3 ⟨rfl, y3⟩; have D3 := below2 D2 y3)
            | (go_at_call 25; have hq := D1; refine (tell_below k1 (P4.out.below D1) (by omega) mX (P2.out.below D1) (by omega) mV).mono ?_; rintro e x2 ⟨rfl, y2⟩; have D2 := below2 D1 y2)
            | (go_at_call 25; have hq := D0; refine (tell_below h1 (P2.out.below D0) (by omega) mV (P4.out.below D0) (by omega) mX).mono ?_; rintro e x1 ⟨rfl, y1⟩; have D1 := below2 D0 y1))
          go_meet
          exact ⟨rfl, D3⟩
      · go_wp2_with (first
          | (go_at_call 25; have hq := D1; refine (tell_below k1 (P4.out.below D1) (by omega) mX (P2.out.below D1) (by omega) mV).mono ?_; rintro e x2 ⟨rfl, y2⟩; have D2 := below2 D1 y2)
          | (go_at_call 25; have hq := D0; refine (tell_below h1 (P2.out.below D0) (by omega) mV (P4.out.below D0) (by omega) mX).mono ?_; rintro e x1 ⟨rfl, y1⟩; have D1 := below2 D0 y1))
        go_meet
        exact ⟨rfl, D2⟩
  case rest =>
    obtain ⟨rfl, hbc⟩ := hcut
    have q2 := P2.out.below hbc
    have q3 := P3.out.below hbc
    have q4 := P4.out.below hbc
    have q6 := P6.out.below hbc
    have q7 := P7.out.below hbc
    have C5 := hid (below2 B5.out hbc)
    have C6 := hid (below2 B6.out hbc)
    clear P2 P3 P4 P5 P6 P7 B5 B6 hbc h3' k3'
    go_wp2_with (first
      | (go_at_call 27; have hq25 := b24; refine (c_same p24 l24 (q2.below (below2 (below2 (below2 (below2 (below2 (below2 b18 b19) b20) b21) b22) b23) b24)) (by omega) (join_meet mV mU)).mono ?_; rintro e w25 ⟨rfl, b25⟩)
      | (go_at_call 20; have hq24 := b23; refine (c_join (q2.below (below2 (below2 (below2 (below2 (below2 b18 b19) b20) b21) b22) b23)) (by omega) mV (q7.below (below2 (below2 (below2 (below2 (below2 b18 b19) b20) b21) b22) b23)) lm mM).mono ?_; rintro e w24 ⟨a24, c24, rfl, p24, b24⟩)
      | (go_at_call 27; have hq23 := b22; refine (c_same p22 l22 (q2.below (below2 (below2 (below2 (below2 b18 b19) b20) b21) b22)) (by omega) (join_self mV)).mono ?_; rintro e w23 ⟨rfl, b23⟩)
      | (go_at_call 20; have hq22 := b21; refine (c_join (q2.below (below2 (below2 (below2 b18 b19) b20) b21)) (by omega) mV (q2.below (below2 (below2 (below2 b18 b19) b20) b21)) (by omega) mV).mono ?_; rintro e w22 ⟨a22, c22, rfl, p22, b22⟩)
      | (go_at_call 27; have hq21 := b20; refine (c_same (p18.below (below2 b19 b20)) l18 p20 l20 (join_three mV mU mX)).mono ?_; rintro e w21 ⟨rfl, b21⟩)
      | (go_at_call 20; have hq20 := b19; refine (c_join (q2.below (below2 b18 b19)) (by omega) mV p19 l19 (join_vm mU mX)).mono ?_; rintro e w20 ⟨a20, c20, rfl, p20, b20⟩)
      | (go_at_call 20; have hq19 := b18; refine (c_join (q3.below b18) (by omega) mU (q4.below b18) (by omega) mX).mono ?_; rintro e w19 ⟨a19, c19, rfl, p19, b19⟩)
      | (go_at_call 20; refine (c_join q6 lj mJ q4 (by omega) mX).mono ?_; rintro e w18 ⟨a18, c18, rfl, p18, b18⟩))
    have HB : RowKit.Below wc.heap.size wc w25 := (below2 (below2 (below2 (below2 (below2 (below2 (below2 b18 b19) b20) b21) b22) b23) b24) b25)
    have E5 := hid (below2 C5.out HB)
    have E6 := hid (below2 C6.out HB)
    clear q2 q3 q4 q6 q7 p18 p19 p20 p22 p24 HB C5 C6 b18 b19 b20 b21 b22 b23 b24 b25 hq19 hq20 hq21 hq22 hq23 hq24 hq25
    generalize hjl : (vj (fun x y => max x y) (made L) (made K)).length = nj at O6 lj ⊢
    have Hjl := hid hjl
    clear hjl
    go_loopw [18] (fun i wr => ∃ k : Nat, k ≤ nj ∧ i = .int .i64 k ∧ Hid (RowKit.Below w5.heap.size w5 wr) ∧ Hid (0 < nj → ∃ g, a6 = some ⟨g, 0, none⟩ ∧ Blk wr g c6 ∧ w5.heap.size ≤ g ∧ nj ≤ c6)) (fun i _ => nj - (intOf i).toNat)
    case atStart =>
      refine ⟨0, by omega, rfl, E5, hid (fun hp => ?_)⟩
      obtain ⟨g, hg, hB, h1, h2, h3⟩ := own_blk O6.out hp
      exact ⟨g, hg, hB.below E6.out h2, h1, h3⟩
    case round =>
      obtain ⟨k, hk, rfl, hbl, hBk⟩ := hrel
      by_cases hlt : k < nj
      · obtain ⟨g, rfl, hB, hg5, hnc⟩ := hBk.out (by omega)
        obtain ⟨v, hcell⟩ := hB.cell (i := k * 2 + 1) (by omega)
        have hf := hB.frozen (k * 2 + 1)
        have hB2 := hid hB
        clear hB hBk O6
        go_wp2
        go_roundw
        case rel => exact ⟨k + 1, by omega, by go_num, hid (hbl.out.setCell (p := ⟨g, k * 2 + 1, none⟩) hg5 _), hid (fun _ => ⟨g, rfl, hB2.out.set _ _, hg5, hnc⟩)⟩
        case measure => simp [intOf]; omega
      · obtain rfl : k = nj := by omega
        have hsa := c_rsame (Q2.out.below hbl.out) (by omega) (Q5.out.below hbl.out) (by omega) rfl
        clear hBk O6
        go_wp2_with (first | (go_at_call 19; refine hsa.mono ?_; rintro e z1 ⟨rfl, bZ⟩))
        go_ret
        exact ⟨rfl, below2 B0.out (below2 hbl.out bZ)⟩

namespace vectorLaws
open Go.ChangeShapes Go.WideShapes Go.ChangeAt Go.RowKit
open Go.ChangeMaps (open_string shut_string)
set_option linter.unusedVariables false

theorem own : ownKnob Try.prog.godebug = none := by kernel_rfl
theorem laidOut : laidOutB Try.prog = true := by kernel_rfl

set_option maxRecDepth 100000 in
theorem lifted (os : Os) (started : os.Started) (H : Type) (enc : TypeId × Value → H) :
    ReturnsInHanded {} Try.checked os 5 .any (Rows.vectorLawsSpec.pre6 enc Try.prog Try.f5 Rows.vectorLawsRow.domain false) (Rows.vectorLawsSpec.post enc Try.prog Try.f5 false true false false) := by
  refine returnsInHanded_of_change (C := Try.checked) own started (by kernel_rfl) Try.func5
    (ChangeSpec.witness6 (enc := enc) (C := Try.checked) false ⟨#[], #[.slice none 0 0, .slice none 0 0, .slice none 0 0], []⟩ 8 (by kernel_rfl) (by kernel_rfl) (by kernel_rfl) (by kernel_rfl)) ?_
  intro W base args ds gs before hval0 hW hcnd _
  have hval : ∀ (j : Nat) t v, Try.f5.params[j]? = some t → args[j]? = some v → Value.okWide Try.prog W .any base t v := hval0
  have hW' := hW
  obtain ⟨p, q, hA0, hV, rfl, hfz, hnd⟩ := hW
  have hA : DataW.TrodAll enc Try.prog W 0 (fun _ => true) true Try.f5.params.toList args.toList ds p := hA0
  rw [Try.params5] at hA hval
  obtain ⟨v0, vs0, d0, ds0, p0, q0, hargs, rfl, rfl, h0, r0⟩ := trodAll_cons hA
  obtain ⟨v1, vs1, d1, ds1, p1, q1, rfl, rfl, rfl, h1, r1⟩ := trodAll_cons r0
  obtain ⟨v2, vs2, d2, ds2, p2, q2, rfl, rfl, rfl, h2, r2⟩ := trodAll_cons r1
  obtain ⟨rfl, rfl, rfl⟩ := trodAll_nil r2
  obtain rfl : args = #[v0, v1, v2] := by cases args; simp_all
  obtain ⟨rfl, rfl⟩ := trodVars_none hV
  obtain ⟨a0, len0, cap0, rfl⟩ := okWide_slice Try.underlying22 (hval 0 22 v0 rfl rfl)
  obtain ⟨a1, len1, cap1, rfl⟩ := okWide_slice Try.underlying22 (hval 1 22 v1 rfl rfl)
  obtain ⟨a2, len2, cap2, rfl⟩ := okWide_slice Try.underlying22 (hval 2 22 v2 rfl rfl)
  have k0 := h0
  have k1 := h1
  have k2 := h2
  have lt0 : ∀ x ∈ p0, x.block < W.heap.size := by obtain ⟨m, hm⟩ := k0; exact DataW.trod_lt m _ _ _ hm
  have lt1 : ∀ x ∈ p1, x.block < W.heap.size := by obtain ⟨m, hm⟩ := k1; exact DataW.trod_lt m _ _ _ hm
  have lt2 : ∀ x ∈ p2, x.block < W.heap.size := by obtain ⟨m, hm⟩ := k2; exact DataW.trod_lt m _ _ _ hm
  obtain ⟨z0, w0, u0⟩ := open_dots h0
  obtain ⟨z1, w1, u1⟩ := open_dots h1
  obtain ⟨z2, w2, u2⟩ := open_dots h2
  clear hA0 hval0
  refine (vlaws_walk a0 len0 cap0 z0 a1 len1 cap1 z1 a2 len2 cap2 z2 W w0 w1 w2).mono fun e W' ⟨he, bel⟩ => ?_
  subst he
  exact ⟨_, rfl, _, _, _, [], _, [], hW', trodAll_mk1 (shut_bool Try.underlying4 _),
    (trodAll_cons_mk (Below.trod laidOut (by kernel_rfl) (of_decide_eq_true (by kernel_rfl)) k0 bel lt0) (trodAll_cons_mk (Below.trod laidOut (by kernel_rfl) (of_decide_eq_true (by kernel_rfl)) k1 bel lt1) (trodAll_cons_mk (Below.trod laidOut (by kernel_rfl) (of_decide_eq_true (by kernel_rfl)) k2 bel lt2) trodAll_mk0))), rfl, bel.frame _, fun h => by cases h⟩

theorem over : Rows.vectorLawsRow.holds Try.pinned (OpenSpec.ofChange Rows.vectorLawsSpec) :=
  OpenClaim.holds_of_wide 5 Try.f5 rfl rfl rfl rfl rfl rfl rfl ⟨rfl, rfl, rfl, rfl, rfl⟩ rfl rfl rfl rfl rfl (by kernel_rfl) Try.func5 (by kernel_rfl)
    (of_decide_eq_true (by kernel_rfl)) (by unfold Func.isWrapper; first | (rw [if_pos (by decide +kernel)]; kernel_rfl) | (rw [if_neg (by decide +kernel)]; exact ⟨rfl, rfl⟩))
    (fun os started H enc _ => lifted os started H enc)

end vectorLaws

/-- The statement. -/
theorem vectorLaws_holds : Rows.VectorLawsSaid := vectorLaws.over
#print axioms vectorLaws_holds
end Go.Proofs.Ytliahpjlmgplkaa
