/- The reference's Join, With, Made, and With: what they answer. -/
import Derived.Test.YtlncokkpdkddlaaGreatVActs
namespace Go.Proofs.YtlncokkpdkddlaaGreat
open Go.RowKit
open Go.Sort (grow)

theorem sbase {w : World} {b b' : Nat} {v : Value} {n : Nat} {xs : List Value} (h : w.ownsRow b 32 2 v n xs) (hb : b' ≤ b) : w.ownsRow b' 32 2 v n xs := by
  obtain ⟨h1, h2⟩ := h
  refine ⟨h1, ?_⟩
  rcases h2 with h2 | ⟨g', cap', cur, hv, hg, r⟩
  · exact .inl h2
  · exact .inr ⟨g', cap', cur, hv, Nat.le_trans hb hg, r⟩

/-- A row of numbers of the call's own, by its cells. -/
theorem ints_cells {w : World} {b : Nat} {v : Value} {l : List Int} (h : w.ownsRow b 3 1 v l.length (ints l)) :
    ∃ a c, v = .slice a l.length c ∧ (0 < l.length → ∃ g, a = some ⟨g, 0, none⟩ ∧ g < w.heap.size ∧ ∀ i (hi : i < l.length), w.cell? ⟨g, i, none⟩ = some (.int .i64 l[i])) := by
  rcases h.2 with ⟨rfl, hn⟩ | ⟨g, cap, cur, rfl, hg, hb, hn, hcap, hsz, ht⟩
  · exact ⟨none, 0, by rw [hn], fun hp => by omega⟩
  · refine ⟨_, cap, rfl, fun _ => ⟨g, rfl, (Array.getElem?_eq_some_iff.1 hb).1, fun i hi => ?_⟩⟩
    have := h.cells (g := g) rfl i (.int .i64 l[i]) (by simp [ints, hi])
    rw [Addr.add_lit] at this
    simpa using this

theorem pks_length (pk : Int → Int → Int) (A B : List Dt) (l : List Int) : (pks pk A B l).length ≤ l.length := List.length_filterMap_le _ _

theorem rget_eq {a : Option Addr} {n c : Nat} {L : List Dt} {y : Int} {w : World} (hs : PS w a n c L) (hn : n ≤ 1000000) : Calls Tryz.prog 52 #[.slice a n c, .int .i64 y] w fun e w' => e = .returned (.int .i64 (gt L y)) ∧ w = w' :=
  (rget_any a n c L y w hs (Nat.le_trans hn (by decide))).mono fun _ _ ⟨he, hw⟩ => ⟨he, hw.symm⟩

set_option maxRecDepth 100000 in
set_option maxHeartbeats 4000000 in
theorem rjoin_any {a : Option Addr} {n c : Nat} {A : List Dt} {a' : Option Addr} {n' c' : Nat} {B : List Dt} {w : World} (hs : PS w a n c A) (hn : n ≤ 1000000) (hs' : PS w a' n' c' B) (hn' : n' ≤ 1000000) (hA : VM A) (hB : VM B) :
    Calls Tryz.prog 50 #[.slice a n c, .slice a' n' c', .bool false] w (Gives w (vj (fun x y => max x y) A B)) := by
  have hac := acts_any a n c A a' n' c' B w hs hn hs' hn' hA hB
  have hS := hid (And.intro hs hs')
  have hul : (ua A B).length ≤ 2000000 := by
    have := ua_length A B
    have := hs.len
    have := hs'.len
    omega
  have hvj : Hid (vj (fun x y => max x y) A B = pks (fun x y => max x y) A B (ua A B)) := hid rfl
  clear hA hB hs hs'
  generalize ua A B = l at hac hul hvj
  go_enter Tryz.func50, Tryz.ntmps50
  go_wp2_with (first | (go_at_call 68; refine hac.mono ?_; rintro e w1 ⟨v1, rfl, hO1, hB1⟩; obtain ⟨ad, cd, rfl, hci⟩ := ints_cells hO1))
  have HB1 := hid hB1
  have HC := hid hci
  have hvl : Hid _ := hid hO1
  clear hB1 hci hO1 hac
  go_loopw [9, 7] (fun s9 s7 wr => ∃ (i : Nat) (R : List Dt), i ≤ l.length ∧ s9 = .int .i64 i ∧ Hid (R = pks (fun x y => max x y) A B (l.take i)) ∧ Hid (wr.ownsRow w1.heap.size 32 2 s7 R.length (flat R)) ∧ Hid (RowKit.Below w1.heap.size w1 wr)) (fun s9 _ _ => l.length - (intOf s9).toNat)
  case atStart => exact ⟨0, [], by omega, rfl, hid (by simp [pks]), hid (World.ownsRow_nil _ _ _ _), hid (Below.refl _ _)⟩
  case round =>
    obtain ⟨i, R, hi, rfl, hR, hO, hbl⟩ := hrel
    by_cases hlt : i < l.length
    · obtain ⟨g, rfl, hg, hcell⟩ := HC.out (by omega)
      have hci := (hbl.out.cell (p := ⟨g, i, none⟩) hg).trans (hcell i hlt)
      have hsn : Hid (pks (fun x y => max x y) A B (l.take (i + 1)) = pks (fun x y => max x y) A B (l.take i) ++ pks (fun x y => max x y) A B [l[i]]) := hid (by rw [List.take_succ_eq_append_getElem hlt, pks_append])
      have hRl : R.length ≤ 2000000 := by
        rw [hR.out]
        have := pks_length (fun x y => max x y) A B (l.take i)
        rw [List.length_take] at this
        omega
      generalize l[i] = y at hci hsn
      clear hcell
      have hone : Hid (pks (fun x y => max x y) A B [y] = if 0 < max (gt A y) (gt B y) then [(y, max (gt A y) (gt B y))] else []) := hid (by
        simp only [pks, List.filterMap_cons, List.filterMap_nil]
        split <;> simp_all)
      have bw : RowKit.Below w.heap.size w wr := HB1.out.trans (hbl.out.mono HB1.out.size)
      have c1 := rget_eq (y := y) (hS.out.1.below bw) hn
      have c2 := rget_eq (y := y) (hS.out.2.below bw) hn'
      have hbs := hbl.out.size
      clear bw
      generalize gt A y = u at c1 hone
      generalize gt B y = v at c2 hone
      by_cases huv : u < v
      · generalize hz : max u v = z at hone
        have huvb : decide (u < v) = true := by simp; omega
        have hzz : Hid (z = v) := hid (by rw [← hz]; omega)
        clear hz
        by_cases hzp : 0 < z
        · have hp2 : 0 < v := by rw [← hzz.out]; exact hzp
          go_wp2_with (first
            | (at_builtin; have hq := hs2; refine wpList_append_dots rfl _ _ 34 Tryz.underlying34 rfl w1.heap.size _ R.length (flat R) rfl (hO.out.alloc _) (some ⟨wr.heap.size, 0, none⟩) 1 1 [(y, v)] rfl (ps_one wr (y, v)) (by omega) (by simp; omega) ?_; intro v5 w5 ho5 hg5)
            | (go_at_call 52; have hq := hs1; refine c2.mono ?_; rintro e w3 ⟨rfl, rfl⟩; have hs2 := hs1)
            | (go_at_call 52; refine c1.mono ?_; rintro e w2 ⟨rfl, rfl⟩; have hs1 := hid True.intro))
          go_roundw
          case rel =>
            refine ⟨i + 1, R ++ [(y, z)], by omega, by go_num, hid ?_, hid ?_, hid ?_⟩
            · rw [hsn.out, hone.out, if_pos hzp, ← hR.out]
            · rw [List.length_append, List.length_singleton, flat_append, hzz.out]; exact ho5
            · exact (hbl.out.alloc hbl.out.size _).grown hg5 (by simp; omega) (fun j hj => (hO.out.lt j hj).1)
          case measure => simp [intOf]; omega
        · have hp2 : ¬ 0 < v := by rw [← hzz.out]; exact hzp
          go_wp2_with (first
            | (go_at_call 52; have hq := hs1; refine c2.mono ?_; rintro e w3 ⟨rfl, rfl⟩; have hs2 := hs1)
            | (go_at_call 52; refine c1.mono ?_; rintro e w2 ⟨rfl, rfl⟩; have hs1 := hid True.intro))
          go_roundw
          case rel =>
            refine ⟨i + 1, R, by omega, by go_num, hid ?_, hO, hbl⟩
            rw [hsn.out, hone.out, if_neg (by omega), ← hR.out, List.append_nil]
          case measure => simp [intOf]; omega
      · generalize hz : max u v = z at hone
        have huvb : decide (u < v) = false := by simp; omega
        have hzz : Hid (z = u) := hid (by rw [← hz]; omega)
        clear hz
        by_cases hzp : 0 < z
        · have hp2 : 0 < u := by rw [← hzz.out]; exact hzp
          go_wp2_with (first
            | (at_builtin; have hq := hs2; refine wpList_append_dots rfl _ _ 34 Tryz.underlying34 rfl w1.heap.size _ R.length (flat R) rfl (hO.out.alloc _) (some ⟨wr.heap.size, 0, none⟩) 1 1 [(y, u)] rfl (ps_one wr (y, u)) (by omega) (by simp; omega) ?_; intro v5 w5 ho5 hg5)
            | (go_at_call 52; have hq := hs1; refine c2.mono ?_; rintro e w3 ⟨rfl, rfl⟩; have hs2 := hs1)
            | (go_at_call 52; refine c1.mono ?_; rintro e w2 ⟨rfl, rfl⟩; have hs1 := hid True.intro))
          go_roundw
          case rel =>
            refine ⟨i + 1, R ++ [(y, z)], by omega, by go_num, hid ?_, hid ?_, hid ?_⟩
            · rw [hsn.out, hone.out, if_pos hzp, ← hR.out]
            · rw [List.length_append, List.length_singleton, flat_append, hzz.out]; exact ho5
            · exact (hbl.out.alloc hbl.out.size _).grown hg5 (by simp; omega) (fun j hj => (hO.out.lt j hj).1)
          case measure => simp [intOf]; omega
        · have hp2 : ¬ 0 < u := by rw [← hzz.out]; exact hzp
          go_wp2_with (first
            | (go_at_call 52; have hq := hs1; refine c2.mono ?_; rintro e w3 ⟨rfl, rfl⟩; have hs2 := hs1)
            | (go_at_call 52; refine c1.mono ?_; rintro e w2 ⟨rfl, rfl⟩; have hs1 := hid True.intro))
          go_roundw
          case rel =>
            refine ⟨i + 1, R, by omega, by go_num, hid ?_, hO, hbl⟩
            rw [hsn.out, hone.out, if_neg (by omega), ← hR.out, List.append_nil]
          case measure => simp [intOf]; omega
    · obtain rfl : i = l.length := by omega
      go_wp2_with fail
      go_ret
      have hRR : R = vj (fun x y => max x y) A B := by rw [hvj.out, hR.out, List.take_length]
      rw [← hRR]
      exact ⟨_, rfl, sbase hO.out HB1.out.size, HB1.out.trans (hbl.out.mono HB1.out.size)⟩

set_option maxRecDepth 100000 in
set_option maxHeartbeats 4000000 in
theorem rmeet_any {a : Option Addr} {n c : Nat} {A : List Dt} {a' : Option Addr} {n' c' : Nat} {B : List Dt} {w : World} (hs : PS w a n c A) (hn : n ≤ 1000000) (hs' : PS w a' n' c' B) (hn' : n' ≤ 1000000) (hA : VM A) (hB : VM B) :
    Calls Tryz.prog 50 #[.slice a n c, .slice a' n' c', .bool true] w (Gives w (vj (fun x y => min x y) A B)) := by
  have hac := acts_any a n c A a' n' c' B w hs hn hs' hn' hA hB
  have hS := hid (And.intro hs hs')
  have hul : (ua A B).length ≤ 2000000 := by
    have := ua_length A B
    have := hs.len
    have := hs'.len
    omega
  have hvj : Hid (vj (fun x y => min x y) A B = pks (fun x y => min x y) A B (ua A B)) := hid rfl
  clear hA hB hs hs'
  generalize ua A B = l at hac hul hvj
  go_enter Tryz.func50, Tryz.ntmps50
  go_wp2_with (first | (go_at_call 68; refine hac.mono ?_; rintro e w1 ⟨v1, rfl, hO1, hB1⟩; obtain ⟨ad, cd, rfl, hci⟩ := ints_cells hO1))
  have HB1 := hid hB1
  have HC := hid hci
  have hvl : Hid _ := hid hO1
  clear hB1 hci hO1 hac
  go_loopw [9, 7] (fun s9 s7 wr => ∃ (i : Nat) (R : List Dt), i ≤ l.length ∧ s9 = .int .i64 i ∧ Hid (R = pks (fun x y => min x y) A B (l.take i)) ∧ Hid (wr.ownsRow w1.heap.size 32 2 s7 R.length (flat R)) ∧ Hid (RowKit.Below w1.heap.size w1 wr)) (fun s9 _ _ => l.length - (intOf s9).toNat)
  case atStart => exact ⟨0, [], by omega, rfl, hid (by simp [pks]), hid (World.ownsRow_nil _ _ _ _), hid (Below.refl _ _)⟩
  case round =>
    obtain ⟨i, R, hi, rfl, hR, hO, hbl⟩ := hrel
    by_cases hlt : i < l.length
    · obtain ⟨g, rfl, hg, hcell⟩ := HC.out (by omega)
      have hci := (hbl.out.cell (p := ⟨g, i, none⟩) hg).trans (hcell i hlt)
      have hsn : Hid (pks (fun x y => min x y) A B (l.take (i + 1)) = pks (fun x y => min x y) A B (l.take i) ++ pks (fun x y => min x y) A B [l[i]]) := hid (by rw [List.take_succ_eq_append_getElem hlt, pks_append])
      have hRl : R.length ≤ 2000000 := by
        rw [hR.out]
        have := pks_length (fun x y => min x y) A B (l.take i)
        rw [List.length_take] at this
        omega
      generalize l[i] = y at hci hsn
      clear hcell
      have hone : Hid (pks (fun x y => min x y) A B [y] = if 0 < min (gt A y) (gt B y) then [(y, min (gt A y) (gt B y))] else []) := hid (by
        simp only [pks, List.filterMap_cons, List.filterMap_nil]
        split <;> simp_all)
      have bw : RowKit.Below w.heap.size w wr := HB1.out.trans (hbl.out.mono HB1.out.size)
      have c1 := rget_eq (y := y) (hS.out.1.below bw) hn
      have c2 := rget_eq (y := y) (hS.out.2.below bw) hn'
      have hbs := hbl.out.size
      clear bw
      generalize gt A y = u at c1 hone
      generalize gt B y = v at c2 hone
      by_cases huv : u < v
      · generalize hz : min u v = z at hone
        have huvb : decide (u < v) = true := by simp; omega
        have hzz : Hid (z = u) := hid (by rw [← hz]; omega)
        clear hz
        by_cases hzp : 0 < z
        · have hp2 : 0 < u := by rw [← hzz.out]; exact hzp
          go_wp2_with (first
            | (at_builtin; have hq := hs2; refine wpList_append_dots rfl _ _ 34 Tryz.underlying34 rfl w1.heap.size _ R.length (flat R) rfl (hO.out.alloc _) (some ⟨wr.heap.size, 0, none⟩) 1 1 [(y, u)] rfl (ps_one wr (y, u)) (by omega) (by simp; omega) ?_; intro v5 w5 ho5 hg5)
            | (go_at_call 52; have hq := hs1; refine c2.mono ?_; rintro e w3 ⟨rfl, rfl⟩; have hs2 := hs1)
            | (go_at_call 52; refine c1.mono ?_; rintro e w2 ⟨rfl, rfl⟩; have hs1 := hid True.intro))
          go_roundw
          case rel =>
            refine ⟨i + 1, R ++ [(y, z)], by omega, by go_num, hid ?_, hid ?_, hid ?_⟩
            · rw [hsn.out, hone.out, if_pos hzp, ← hR.out]
            · rw [List.length_append, List.length_singleton, flat_append, hzz.out]; exact ho5
            · exact (hbl.out.alloc hbl.out.size _).grown hg5 (by simp; omega) (fun j hj => (hO.out.lt j hj).1)
          case measure => simp [intOf]; omega
        · have hp2 : ¬ 0 < u := by rw [← hzz.out]; exact hzp
          go_wp2_with (first
            | (go_at_call 52; have hq := hs1; refine c2.mono ?_; rintro e w3 ⟨rfl, rfl⟩; have hs2 := hs1)
            | (go_at_call 52; refine c1.mono ?_; rintro e w2 ⟨rfl, rfl⟩; have hs1 := hid True.intro))
          go_roundw
          case rel =>
            refine ⟨i + 1, R, by omega, by go_num, hid ?_, hO, hbl⟩
            rw [hsn.out, hone.out, if_neg (by omega), ← hR.out, List.append_nil]
          case measure => simp [intOf]; omega
      · generalize hz : min u v = z at hone
        have huvb : decide (u < v) = false := by simp; omega
        have hzz : Hid (z = v) := hid (by rw [← hz]; omega)
        clear hz
        by_cases hzp : 0 < z
        · have hp2 : 0 < v := by rw [← hzz.out]; exact hzp
          go_wp2_with (first
            | (at_builtin; have hq := hs2; refine wpList_append_dots rfl _ _ 34 Tryz.underlying34 rfl w1.heap.size _ R.length (flat R) rfl (hO.out.alloc _) (some ⟨wr.heap.size, 0, none⟩) 1 1 [(y, v)] rfl (ps_one wr (y, v)) (by omega) (by simp; omega) ?_; intro v5 w5 ho5 hg5)
            | (go_at_call 52; have hq := hs1; refine c2.mono ?_; rintro e w3 ⟨rfl, rfl⟩; have hs2 := hs1)
            | (go_at_call 52; refine c1.mono ?_; rintro e w2 ⟨rfl, rfl⟩; have hs1 := hid True.intro))
          go_roundw
          case rel =>
            refine ⟨i + 1, R ++ [(y, z)], by omega, by go_num, hid ?_, hid ?_, hid ?_⟩
            · rw [hsn.out, hone.out, if_pos hzp, ← hR.out]
            · rw [List.length_append, List.length_singleton, flat_append, hzz.out]; exact ho5
            · exact (hbl.out.alloc hbl.out.size _).grown hg5 (by simp; omega) (fun j hj => (hO.out.lt j hj).1)
          case measure => simp [intOf]; omega
        · have hp2 : ¬ 0 < v := by rw [← hzz.out]; exact hzp
          go_wp2_with (first
            | (go_at_call 52; have hq := hs1; refine c2.mono ?_; rintro e w3 ⟨rfl, rfl⟩; have hs2 := hs1)
            | (go_at_call 52; refine c1.mono ?_; rintro e w2 ⟨rfl, rfl⟩; have hs1 := hid True.intro))
          go_roundw
          case rel =>
            refine ⟨i + 1, R, by omega, by go_num, hid ?_, hO, hbl⟩
            rw [hsn.out, hone.out, if_neg (by omega), ← hR.out, List.append_nil]
          case measure => simp [intOf]; omega
    · obtain rfl : i = l.length := by omega
      go_wp2_with fail
      go_ret
      have hRR : R = vj (fun x y => min x y) A B := by rw [hvj.out, hR.out, List.take_length]
      rw [← hRR]
      exact ⟨_, rfl, sbase hO.out HB1.out.size, HB1.out.trans (hbl.out.mono HB1.out.size)⟩

end Go.Proofs.YtlncokkpdkddlaaGreat
