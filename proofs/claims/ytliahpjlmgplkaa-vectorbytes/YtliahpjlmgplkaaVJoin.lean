/- Join, Meet, With: what they answer, in new memory. -/
import Derived.Test.YtliahpjlmgplkaaVMerge
namespace Go.Proofs.Ytliahpjlmgplkaa
open Go.RowKit
open Go.Sort (grow)

/-- How long a slice is. -/
def sln : Value → Nat
  | .slice _ n _ => n
  | _ => 0

theorem far_grown {w w' : World} (h : Far w w') : w.grownBy w' none := by
  have hb := h.below
  exact ⟨hb.os, hb.tape, hb.output, hb.size, fun k hk _ => hb.block k hk⟩

theorem own_far {w w' : World} {b : Nat} {v : Value} {n : Nat} {xs : List Value} (h : w.ownsRow b 24 2 v n xs) (hf : Far w w') : w'.ownsRow b 24 2 v n xs :=
  h.kept (far_grown hf) (by
    by_cases he : v.ownBlock = none
    · exact .inl he
    · exact .inr he)

theorem tlv_le (L : List Dt) (y : Int) : (tlv L y).length ≤ L.length := by
  cases L with
  | nil => simp [tlv]
  | cons d r =>
    simp only [tlv]
    split
    · simp
    · exact Nat.le_refl _

set_option maxRecDepth 100000 in
set_option maxHeartbeats 4000000 in
theorem merge_max (a : Option Addr) (n c : Nat) (A : List Dt) (a' : Option Addr) (n' c' : Nat) (B : List Dt) (w : World) (hs : PS w a n c A) (hn : n ≤ 1000000) (hs' : PS w a' n' c' B) (hn' : n' ≤ 1000000) (hA : VM A) (hB : VM B) :
    Calls Try.prog 45 #[.slice a n c, .slice a' n' c', .func (.func 46) #[] #[]] w (Gives w (vj (fun x y => max x y) A B)) := by
  have HAB := hid (And.intro hA hB)
  have hst := MI.start (pk := (fun x y => max x y)) hA hB
  have HL := hid (And.intro hs.len hs'.len)
  have hS := hid (And.intro hs hs')
  clear hA hB hs hs'
  go_enter Try.func45, Try.ntmps45
  go_wp2
  go_loopw [0, 1, 7] (fun s0 s1 s7 wr => ∃ (a1 : Option Addr) (n1 c1 : Nat) (A1 : List Dt) (b1 : Option Addr) (m1 d1 : Nat) (B1 R : List Dt), s0 = .slice a1 n1 c1 ∧ s1 = .slice b1 m1 d1 ∧ Hid (PS w a1 n1 c1 A1 ∧ PS w b1 m1 d1 B1) ∧ Hid (MI (fun x y => max x y) A B R A1 B1) ∧ Hid (wr.ownsRow w.heap.size 24 2 s7 R.length (flat R)) ∧ Hid (RowKit.Below w.heap.size w wr) ∧ n1 ≤ 1000000 ∧ m1 ≤ 1000000) (fun s0 s1 _ _ => sln s0 + sln s1)
  case atStart => exact ⟨a, n, c, A, a', n', c', B, [], rfl, rfl, hS, hid hst, hid (World.ownsRow_nil _ _ _ _), hid (Below.refl _ _), hn, hn'⟩
  case round =>
    obtain ⟨a1, n1, c1, A1, b1, m1, d1, B1, R, rfl, rfl, hP, hMI, hO, hbl, hn1, hm1⟩ := hrel
    have l1 := hP.out.1.len
    have l2 := hP.out.2.len
    by_cases hne : 0 < n1 + m1
    · have hst2 := hid (hMI.out.step pick_max (by omega))
      have hfi := first_any a1 n1 c1 A1 b1 m1 d1 B1 wr (hP.out.1.below hbl.out) (hP.out.2.below hbl.out) hn1 hm1 (by omega)
      have hRl : R.length ≤ 2000000 := by
        have := hMI.out.len
        have := HL.out.1
        have := HL.out.2
        omega
      generalize fa A1 B1 = y at hst2 hfi
      have hh1 := fun W (hW : RowKit.Below w.heap.size w W) => head_any w a1 n1 c1 A1 y W hP.out.1 hW hn1
      have hh2 := fun W (hW : RowKit.Below w.heap.size w W) => head_any w b1 m1 d1 B1 y W hP.out.2 hW hm1
      generalize hdv A1 y = u at hst2 hh1
      generalize hdv B1 y = v at hst2 hh2
      have hpk := fun W => max_any u v W
      have l1' := hid l1
      have l2' := hid l2
      clear l1 l2
      generalize hz : max u v = z at hst2 hpk
      have HZ := hid hz
      clear hz
      by_cases hzp : 0 < z
      · have hM2 := hid (hst2.out.1 hzp)
        have hlt := hst2.out.2.2
        go_wp2_with (first
          | (at_builtin; have hq := hB4; refine wpList_append_dots rfl _ _ 26 Try.underlying26 rfl w.heap.size _ R.length (flat R) rfl (hO4.out.alloc _) (some ⟨w4.heap.size, 0, none⟩) 1 1 [(y, z)] rfl (ps_one w4 (y, z)) (by omega) (by have := hB4.out.size; simp; omega) ?_; intro v5 w5 ho5 hg5)
          | (go_at_call 46; have hq := hB3; refine (hpk _).mono ?_; rintro e w4 ⟨rfl, rfl⟩; have hB4 := hB3; have hO4 := hO3)
          | (go_at_call 63; have hq := hB2; refine (hh2 _ hB2.out).mono ?_; rintro e w3 ⟨b2, m2, d2, rfl, hP2, hF3⟩; have hB3 := hid (hB2.out.trans (hF3.below.mono hB2.out.size)); have hO3 := hid (own_far hO2.out hF3); have lm2 := hP2.len; have HP2 := hid hP2; clear hP2)
          | (go_at_call 63; have hq := hB1; refine (hh1 _ hB1.out).mono ?_; rintro e w2 ⟨a2, n2, c2, rfl, hP1, hF2⟩; have hB2 := hid (hB1.out.trans (hF2.below.mono hB1.out.size)); have hO2 := hid (own_far hO1.out hF2); have ln2 := hP1.len; have HP1 := hid hP1; clear hP1)
          | (go_at_call 62; refine hfi.mono ?_; rintro e w1 ⟨rfl, hF1⟩; have hB1 := hid (hbl.out.trans (hF1.below.mono hbl.out.size)); have hO1 := hid (own_far hO.out hF1)))
        go_roundw
        case rel =>
          refine ⟨a2, n2, c2, tlv A1 y, b2, m2, d2, tlv B1 y, R ++ [(y, z)], rfl, rfl, hid ⟨HP1.out, HP2.out⟩, hM2, hid ?_, hid ?_, ?_, ?_⟩
          · rw [List.length_append, List.length_singleton, flat_append]; exact ho5
          · exact (hB4.out.alloc hB4.out.size _).grown hg5 (by have := hB4.out.size; simp; omega) (fun j hj => (hO4.out.lt j hj).1)
          · have := l1'.out; have := tlv_le A1 y; omega
          · have := l2'.out; have := tlv_le B1 y; omega
        case measure => have := l1'.out; have := l2'.out; simp [sln]; omega
      · have hM2 := hid (hst2.out.2.1 hzp)
        have hlt := hst2.out.2.2
        go_wp2_with (first
          | (go_at_call 46; have hq := hB3; refine (hpk _).mono ?_; rintro e w4 ⟨rfl, rfl⟩; have hB4 := hB3; have hO4 := hO3)
          | (go_at_call 63; have hq := hB2; refine (hh2 _ hB2.out).mono ?_; rintro e w3 ⟨b2, m2, d2, rfl, hP2, hF3⟩; have hB3 := hid (hB2.out.trans (hF3.below.mono hB2.out.size)); have hO3 := hid (own_far hO2.out hF3); have lm2 := hP2.len; have HP2 := hid hP2; clear hP2)
          | (go_at_call 63; have hq := hB1; refine (hh1 _ hB1.out).mono ?_; rintro e w2 ⟨a2, n2, c2, rfl, hP1, hF2⟩; have hB2 := hid (hB1.out.trans (hF2.below.mono hB1.out.size)); have hO2 := hid (own_far hO1.out hF2); have ln2 := hP1.len; have HP1 := hid hP1; clear hP1)
          | (go_at_call 62; refine hfi.mono ?_; rintro e w1 ⟨rfl, hF1⟩; have hB1 := hid (hbl.out.trans (hF1.below.mono hbl.out.size)); have hO1 := hid (own_far hO.out hF1)))
        go_roundw
        case rel =>
          refine ⟨a2, n2, c2, tlv A1 y, b2, m2, d2, tlv B1 y, R, rfl, rfl, hid ⟨HP1.out, HP2.out⟩, hM2, hO4, hB4, ?_, ?_⟩
          · have := l1'.out; have := tlv_le A1 y; omega
          · have := l2'.out; have := tlv_le B1 y; omega
        case measure => have := l1'.out; have := l2'.out; simp [sln]; omega
    · obtain rfl : n1 = 0 := by omega
      obtain rfl : m1 = 0 := by omega
      obtain rfl : A1 = [] := List.eq_nil_of_length_eq_zero l1
      obtain rfl : B1 = [] := List.eq_nil_of_length_eq_zero l2
      have hd := hid (hMI.out.done pick_max HAB.out.1 HAB.out.2)
      clear l1 l2
      go_wp2_with fail
      go_ret
      refine ⟨_, rfl, ?_, hbl.out⟩
      rw [← hd.out]
      exact hO.out

theorem join_any {a : Option Addr} {n c : Nat} {A : List Dt} {a' : Option Addr} {n' c' : Nat} {B : List Dt} {w : World} (hs : PS w a n c A) (hn : n ≤ 1000000) (hs' : PS w a' n' c' B) (hn' : n' ≤ 1000000) (hA : VM A) (hB : VM B) :
    Calls Try.prog 20 #[.slice a n c, .slice a' n' c'] w (Gives w (vj (fun x y => max x y) A B)) := by
  have hm := merge_max a n c A a' n' c' B w hs hn hs' hn' hA hB
  clear hs hs' hA hB
  go_enter Try.func20, Try.ntmps20
  go_wp2_with (first | (go_at_call 45; refine hm.mono ?_; rintro e w1 ⟨v, rfl, ho, hb⟩))
  go_ret
  exact ⟨v, rfl, ho, hb⟩

set_option maxRecDepth 100000 in
set_option maxHeartbeats 4000000 in
theorem merge_min (a : Option Addr) (n c : Nat) (A : List Dt) (a' : Option Addr) (n' c' : Nat) (B : List Dt) (w : World) (hs : PS w a n c A) (hn : n ≤ 1000000) (hs' : PS w a' n' c' B) (hn' : n' ≤ 1000000) (hA : VM A) (hB : VM B) :
    Calls Try.prog 45 #[.slice a n c, .slice a' n' c', .func (.func 48) #[] #[]] w (Gives w (vj (fun x y => min x y) A B)) := by
  have HAB := hid (And.intro hA hB)
  have hst := MI.start (pk := (fun x y => min x y)) hA hB
  have HL := hid (And.intro hs.len hs'.len)
  have hS := hid (And.intro hs hs')
  clear hA hB hs hs'
  go_enter Try.func45, Try.ntmps45
  go_wp2
  go_loopw [0, 1, 7] (fun s0 s1 s7 wr => ∃ (a1 : Option Addr) (n1 c1 : Nat) (A1 : List Dt) (b1 : Option Addr) (m1 d1 : Nat) (B1 R : List Dt), s0 = .slice a1 n1 c1 ∧ s1 = .slice b1 m1 d1 ∧ Hid (PS w a1 n1 c1 A1 ∧ PS w b1 m1 d1 B1) ∧ Hid (MI (fun x y => min x y) A B R A1 B1) ∧ Hid (wr.ownsRow w.heap.size 24 2 s7 R.length (flat R)) ∧ Hid (RowKit.Below w.heap.size w wr) ∧ n1 ≤ 1000000 ∧ m1 ≤ 1000000) (fun s0 s1 _ _ => sln s0 + sln s1)
  case atStart => exact ⟨a, n, c, A, a', n', c', B, [], rfl, rfl, hS, hid hst, hid (World.ownsRow_nil _ _ _ _), hid (Below.refl _ _), hn, hn'⟩
  case round =>
    obtain ⟨a1, n1, c1, A1, b1, m1, d1, B1, R, rfl, rfl, hP, hMI, hO, hbl, hn1, hm1⟩ := hrel
    have l1 := hP.out.1.len
    have l2 := hP.out.2.len
    by_cases hne : 0 < n1 + m1
    · have hst2 := hid (hMI.out.step pick_min (by omega))
      have hfi := first_any a1 n1 c1 A1 b1 m1 d1 B1 wr (hP.out.1.below hbl.out) (hP.out.2.below hbl.out) hn1 hm1 (by omega)
      have hRl : R.length ≤ 2000000 := by
        have := hMI.out.len
        have := HL.out.1
        have := HL.out.2
        omega
      generalize fa A1 B1 = y at hst2 hfi
      have hh1 := fun W (hW : RowKit.Below w.heap.size w W) => head_any w a1 n1 c1 A1 y W hP.out.1 hW hn1
      have hh2 := fun W (hW : RowKit.Below w.heap.size w W) => head_any w b1 m1 d1 B1 y W hP.out.2 hW hm1
      generalize hdv A1 y = u at hst2 hh1
      generalize hdv B1 y = v at hst2 hh2
      have hpk := fun W => min_any u v W
      have l1' := hid l1
      have l2' := hid l2
      clear l1 l2
      generalize hz : min u v = z at hst2 hpk
      have HZ := hid hz
      clear hz
      by_cases hzp : 0 < z
      · have hM2 := hid (hst2.out.1 hzp)
        have hlt := hst2.out.2.2
        go_wp2_with (first
          | (at_builtin; have hq := hB4; refine wpList_append_dots rfl _ _ 26 Try.underlying26 rfl w.heap.size _ R.length (flat R) rfl (hO4.out.alloc _) (some ⟨w4.heap.size, 0, none⟩) 1 1 [(y, z)] rfl (ps_one w4 (y, z)) (by omega) (by have := hB4.out.size; simp; omega) ?_; intro v5 w5 ho5 hg5)
          | (go_at_call 48; have hq := hB3; refine (hpk _).mono ?_; rintro e w4 ⟨rfl, rfl⟩; have hB4 := hB3; have hO4 := hO3)
          | (go_at_call 63; have hq := hB2; refine (hh2 _ hB2.out).mono ?_; rintro e w3 ⟨b2, m2, d2, rfl, hP2, hF3⟩; have hB3 := hid (hB2.out.trans (hF3.below.mono hB2.out.size)); have hO3 := hid (own_far hO2.out hF3); have lm2 := hP2.len; have HP2 := hid hP2; clear hP2)
          | (go_at_call 63; have hq := hB1; refine (hh1 _ hB1.out).mono ?_; rintro e w2 ⟨a2, n2, c2, rfl, hP1, hF2⟩; have hB2 := hid (hB1.out.trans (hF2.below.mono hB1.out.size)); have hO2 := hid (own_far hO1.out hF2); have ln2 := hP1.len; have HP1 := hid hP1; clear hP1)
          | (go_at_call 62; refine hfi.mono ?_; rintro e w1 ⟨rfl, hF1⟩; have hB1 := hid (hbl.out.trans (hF1.below.mono hbl.out.size)); have hO1 := hid (own_far hO.out hF1)))
        go_roundw
        case rel =>
          refine ⟨a2, n2, c2, tlv A1 y, b2, m2, d2, tlv B1 y, R ++ [(y, z)], rfl, rfl, hid ⟨HP1.out, HP2.out⟩, hM2, hid ?_, hid ?_, ?_, ?_⟩
          · rw [List.length_append, List.length_singleton, flat_append]; exact ho5
          · exact (hB4.out.alloc hB4.out.size _).grown hg5 (by have := hB4.out.size; simp; omega) (fun j hj => (hO4.out.lt j hj).1)
          · have := l1'.out; have := tlv_le A1 y; omega
          · have := l2'.out; have := tlv_le B1 y; omega
        case measure => have := l1'.out; have := l2'.out; simp [sln]; omega
      · have hM2 := hid (hst2.out.2.1 hzp)
        have hlt := hst2.out.2.2
        go_wp2_with (first
          | (go_at_call 48; have hq := hB3; refine (hpk _).mono ?_; rintro e w4 ⟨rfl, rfl⟩; have hB4 := hB3; have hO4 := hO3)
          | (go_at_call 63; have hq := hB2; refine (hh2 _ hB2.out).mono ?_; rintro e w3 ⟨b2, m2, d2, rfl, hP2, hF3⟩; have hB3 := hid (hB2.out.trans (hF3.below.mono hB2.out.size)); have hO3 := hid (own_far hO2.out hF3); have lm2 := hP2.len; have HP2 := hid hP2; clear hP2)
          | (go_at_call 63; have hq := hB1; refine (hh1 _ hB1.out).mono ?_; rintro e w2 ⟨a2, n2, c2, rfl, hP1, hF2⟩; have hB2 := hid (hB1.out.trans (hF2.below.mono hB1.out.size)); have hO2 := hid (own_far hO1.out hF2); have ln2 := hP1.len; have HP1 := hid hP1; clear hP1)
          | (go_at_call 62; refine hfi.mono ?_; rintro e w1 ⟨rfl, hF1⟩; have hB1 := hid (hbl.out.trans (hF1.below.mono hbl.out.size)); have hO1 := hid (own_far hO.out hF1)))
        go_roundw
        case rel =>
          refine ⟨a2, n2, c2, tlv A1 y, b2, m2, d2, tlv B1 y, R, rfl, rfl, hid ⟨HP1.out, HP2.out⟩, hM2, hO4, hB4, ?_, ?_⟩
          · have := l1'.out; have := tlv_le A1 y; omega
          · have := l2'.out; have := tlv_le B1 y; omega
        case measure => have := l1'.out; have := l2'.out; simp [sln]; omega
    · obtain rfl : n1 = 0 := by omega
      obtain rfl : m1 = 0 := by omega
      obtain rfl : A1 = [] := List.eq_nil_of_length_eq_zero l1
      obtain rfl : B1 = [] := List.eq_nil_of_length_eq_zero l2
      have hd := hid (hMI.out.done pick_min HAB.out.1 HAB.out.2)
      clear l1 l2
      go_wp2_with fail
      go_ret
      refine ⟨_, rfl, ?_, hbl.out⟩
      rw [← hd.out]
      exact hO.out

theorem meet_any {a : Option Addr} {n c : Nat} {A : List Dt} {a' : Option Addr} {n' c' : Nat} {B : List Dt} {w : World} (hs : PS w a n c A) (hn : n ≤ 1000000) (hs' : PS w a' n' c' B) (hn' : n' ≤ 1000000) (hA : VM A) (hB : VM B) :
    Calls Try.prog 22 #[.slice a n c, .slice a' n' c'] w (Gives w (vj (fun x y => min x y) A B)) := by
  have hm := merge_min a n c A a' n' c' B w hs hn hs' hn' hA hB
  clear hs hs' hA hB
  go_enter Try.func22, Try.ntmps22
  go_wp2_with (first | (go_at_call 45; refine hm.mono ?_; rintro e w1 ⟨v, rfl, ho, hb⟩))
  go_ret
  exact ⟨v, rfl, ho, hb⟩

end Go.Proofs.Ytliahpjlmgplkaa
