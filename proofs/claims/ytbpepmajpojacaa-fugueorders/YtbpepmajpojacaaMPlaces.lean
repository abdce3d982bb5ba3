/- Places: a new map that tells of each dot of the row where it stands first. -/
import Derived.Test.YtbpepmajpojacaaVActs
import Derived.Test.YtbpepmajpojacaaVMerge
import Derived.Deep.AppendLies
import Derived.Deep.RegionLaw
import Derived.Deep.RegionWith
import Derived.Maps.OwnRows
import Derived.Test.YtbpepmajpojacaaMCmp
import Derived.Deep.CutBlock
import Derived.Deep.CutRange
import Derived.WalkKit
import Derived.Below
import Derived.Maps.OwnSet
import Derived.Maps.RangeWalk
import Derived.Sort.KeysCollected
import Derived.WalkSpells
import Derived.WalkLawsBesides
namespace Go.Proofs.Ytbpepmajpojacaa
section
open Go.RowKit
open Go.Sort (grow)

theorem sbase {w : World} {b b' : Nat} {v : Value} {n : Nat} {xs : List Value} (h : w.ownsRow b 24 2 v n xs) (hb : b' ≤ b) : w.ownsRow b' 24 2 v n xs := by
  obtain ⟨h1, h2⟩ := h
  refine ⟨h1, ?_⟩
  rcases h2 with h2 | ⟨g', cap', cur, hv, hg, r⟩
  · exact .inl h2
  · exact .inr ⟨g', cap', cur, hv, Nat.le_trans hb hg, r⟩

/-- A row of numbers of the call's own, by its cells. -/
theorem ints_cells {w : World} {b : Nat} {v : Value} {l : List Int} (h : w.ownsRow b 3 1 v l.length (ints l)) :
    ∃ a c, v = .slice a l.length c ∧ (0 < l.length → ∃ g, a = some ⟨g, 0, none⟩ ∧ g < w.heap.size ∧ ∀ i (hi : i < l.length), w.cell? ⟨g, i, none⟩ = some (.int .i64 l[i])) := by
  rcases h.2 with ⟨rfl, hn⟩ | ⟨g, cap, cur, rfl, hg, hb, hn, hcap, hsz, ht⟩
  · exact ⟨none, 0, by rw [hn], fun hp => by omega⟩
  · refine ⟨_, cap, rfl, fun _ => ⟨g, rfl, (Array.getElem?_eq_some_iff.1 hb).1, fun i hi => ?_⟩⟩
    have := h.cells (g := g) rfl i (.int .i64 l[i]) (by simp [ints, hi])
    rw [Addr.add_lit] at this
    simpa using this

theorem pks_length (pk : Int → Int → Int) (A B : List Dt) (l : List Int) : (pks pk A B l).length ≤ l.length := List.length_filterMap_le _ _

theorem rget_eq {a : Option Addr} {n c : Nat} {L : List Dt} {y : Int} {w : World} (hs : PS w a n c L) (hn : n ≤ 1000000) : Calls Try.prog 59 #[.slice a n c, .int .i64 y] w fun e w' => e = .returned (.int .i64 (gt L y)) ∧ w = w' :=
  (rget_any a n c L y w hs (Nat.le_trans hn (by decide))).mono fun _ _ ⟨he, hw⟩ => ⟨he, hw.symm⟩

set_option maxRecDepth 100000 in
set_option maxHeartbeats 4000000 in
theorem rjoin_any {a : Option Addr} {n c : Nat} {A : List Dt} {a' : Option Addr} {n' c' : Nat} {B : List Dt} {w : World} (hs : PS w a n c A) (hn : n ≤ 1000000) (hs' : PS w a' n' c' B) (hn' : n' ≤ 1000000) (hA : VM A) (hB : VM B) :
    Calls Try.prog 61 #[.slice a n c, .slice a' n' c', .bool false] w (Gives w (vj (fun x y => max x y) A B)) := by
  have hac := acts_any a n c A a' n' c' B w hs hn hs' hn' hA hB
  have hS := hid (And.intro hs hs')
  have hul : (ua A B).length ≤ 2000000 := by
    have := ua_length A B
    have := hs.len
    have := hs'.len
    omega
  have hvj : Hid (vj (fun x y => max x y) A B = pks (fun x y => max x y) A B (ua A B)) := hid rfl
  clear hA hB hs hs'
  generalize ua A B = l at hac hul hvj
  go_enter Try.func61, Try.ntmps61
  go_wp2_with (first | (go_at_call 73; refine hac.mono ?_; rintro e w1 ⟨v1, rfl, hO1, hB1⟩; obtain ⟨ad, cd, rfl, hci⟩ := ints_cells hO1))
  have HB1 := hid hB1
  have HC := hid hci
  have hvl : Hid _ := hid hO1
  clear hB1 hci hO1 hac
  go_loopw [9, 7] (fun s9 s7 wr => ∃ (i : Nat) (R : List Dt), i ≤ l.length ∧ s9 = .int .i64 i ∧ Hid (R = pks (fun x y => max x y) A B (l.take i)) ∧ Hid (wr.ownsRow w1.heap.size 24 2 s7 R.length (flat R)) ∧ Hid (RowKit.Below w1.heap.size w1 wr)) (fun s9 _ _ => l.length - (intOf s9).toNat)
  case atStart => exact ⟨0, [], by omega, rfl, hid (by simp [pks]), hid (World.ownsRow_nil _ _ _ _), hid (Below.refl _ _)⟩
  case round =>
    obtain ⟨i, R, hi, rfl, hR, hO, hbl⟩ := hrel
    by_cases hlt : i < l.length
    · obtain ⟨g, rfl, hg, hcell⟩ := HC.out (by omega)
      have hci := (hbl.out.cell (p := ⟨g, i, none⟩) hg).trans (hcell i hlt)
      have hsn : Hid (pks (fun x y => max x y) A B (l.take (i + 1)) = pks (fun x y => max x y) A B (l.take i) ++ pks (fun x y => max x y) A B [l[i]]) := hid (by rw [List.take_succ_eq_append_getElem hlt, pks_append])
      have hRl : R.length ≤ 2000000 := by
        rw [hR.out]
        have := pks_length (fun x y => max x y) A B (l.take i)
        rw [List.length_take] at this
        omega
      generalize l[i] = y at hci hsn
      clear hcell
      have hone : Hid (pks (fun x y => max x y) A B [y] = if 0 < max (gt A y) (gt B y) then [(y, max (gt A y) (gt B y))] else []) := hid (by
        simp only [pks, List.filterMap_cons, List.filterMap_nil]
        split <;> simp_all)
      have bw : RowKit.Below w.heap.size w wr := HB1.out.trans (hbl.out.mono HB1.out.size)
      have c1 := rget_eq (y := y) (hS.out.1.below bw) hn
      have c2 := rget_eq (y := y) (hS.out.2.below bw) hn'
      have hbs := hbl.out.size
      clear bw
      generalize gt A y = u at c1 hone
      generalize gt B y = v at c2 hone
      by_cases huv : u < v
      · generalize hz : max u v = z at hone
        have huvb : decide (u < v) = true := by simp; omega
        have hzz : Hid (z = v) := hid (by rw [← hz]; omega)
        clear hz
        by_cases hzp : 0 < z
        · have hp2 : 0 < v := by rw [← hzz.out]; exact hzp
          go_wp2_with (first
            | (at_builtin; have hq := hs2; refine wpList_append_dots rfl _ _ 50 Try.underlying50 rfl w1.heap.size _ R.length (flat R) rfl (hO.out.alloc _) (some ⟨wr.heap.size, 0, none⟩) 1 1 [(y, v)] rfl (ps_one wr (y, v)) (by omega) (by simp; omega) ?_; intro v5 w5 ho5 hg5)
            | (go_at_call 59; have hq := hs1; refine c2.mono ?_; rintro e w3 ⟨rfl, rfl⟩; have hs2 := hs1)
            | (go_at_call 59; refine c1.mono ?_; rintro e w2 ⟨rfl, rfl⟩; have hs1 := hid True.intro))
          go_roundw
          case rel =>
            refine ⟨i + 1, R ++ [(y, z)], by omega, by go_num, hid ?_, hid ?_, hid ?_⟩
            · rw [hsn.out, hone.out, if_pos hzp, ← hR.out]
            · rw [List.length_append, List.length_singleton, flat_append, hzz.out]; exact ho5
            · exact (hbl.out.alloc hbl.out.size _).grown hg5 (by simp; omega) (fun j hj => (hO.out.lt j hj).1)
          case measure => simp [intOf]; omega
        · have hp2 : ¬ 0 < v := by rw [← hzz.out]; exact hzp
          go_wp2_with (first
            | (go_at_call 59; have hq := hs1; refine c2.mono ?_; rintro e w3 ⟨rfl, rfl⟩; have hs2 := hs1)
            | (go_at_call 59; refine c1.mono ?_; rintro e w2 ⟨rfl, rfl⟩; have hs1 := hid True.intro))
          go_roundw
          case rel =>
            refine ⟨i + 1, R, by omega, by go_num, hid ?_, hO, hbl⟩
            rw [hsn.out, hone.out, if_neg (by omega), ← hR.out, List.append_nil]
          case measure => simp [intOf]; omega
      · generalize hz : max u v = z at hone
        have huvb : decide (u < v) = false := by simp; omega
        have hzz : Hid (z = u) := hid (by rw [← hz]; omega)
        clear hz
        by_cases hzp : 0 < z
        · have hp2 : 0 < u := by rw [← hzz.out]; exact hzp
          go_wp2_with (first
            | (at_builtin; have hq := hs2; refine wpList_append_dots rfl _ _ 50 Try.underlying50 rfl w1.heap.size _ R.length (flat R) rfl (hO.out.alloc _) (some ⟨wr.heap.size, 0, none⟩) 1 1 [(y, u)] rfl (ps_one wr (y, u)) (by omega) (by simp; omega) ?_; intro v5 w5 ho5 hg5)
            | (go_at_call 59; have hq := hs1; refine c2.mono ?_; rintro e w3 ⟨rfl, rfl⟩; have hs2 := hs1)
            | (go_at_call 59; refine c1.mono ?_; rintro e w2 ⟨rfl, rfl⟩; have hs1 := hid True.intro))
          go_roundw
          case rel =>
            refine ⟨i + 1, R ++ [(y, z)], by omega, by go_num, hid ?_, hid ?_, hid ?_⟩
            · rw [hsn.out, hone.out, if_pos hzp, ← hR.out]
            · rw [List.length_append, List.length_singleton, flat_append, hzz.out]; exact ho5
            · exact (hbl.out.alloc hbl.out.size _).grown hg5 (by simp; omega) (fun j hj => (hO.out.lt j hj).1)
          case measure => simp [intOf]; omega
        · have hp2 : ¬ 0 < u := by rw [← hzz.out]; exact hzp
          go_wp2_with (first
            | (go_at_call 59; have hq := hs1; refine c2.mono ?_; rintro e w3 ⟨rfl, rfl⟩; have hs2 := hs1)
            | (go_at_call 59; refine c1.mono ?_; rintro e w2 ⟨rfl, rfl⟩; have hs1 := hid True.intro))
          go_roundw
          case rel =>
            refine ⟨i + 1, R, by omega, by go_num, hid ?_, hO, hbl⟩
            rw [hsn.out, hone.out, if_neg (by omega), ← hR.out, List.append_nil]
          case measure => simp [intOf]; omega
    · obtain rfl : i = l.length := by omega
      go_wp2_with fail
      go_ret
      have hRR : R = vj (fun x y => max x y) A B := by rw [hvj.out, hR.out, List.take_length]
      rw [← hRR]
      exact ⟨_, rfl, sbase hO.out HB1.out.size, HB1.out.trans (hbl.out.mono HB1.out.size)⟩

set_option maxRecDepth 100000 in
set_option maxHeartbeats 4000000 in
theorem rmeet_any {a : Option Addr} {n c : Nat} {A : List Dt} {a' : Option Addr} {n' c' : Nat} {B : List Dt} {w : World} (hs : PS w a n c A) (hn : n ≤ 1000000) (hs' : PS w a' n' c' B) (hn' : n' ≤ 1000000) (hA : VM A) (hB : VM B) :
    Calls Try.prog 61 #[.slice a n c, .slice a' n' c', .bool true] w (Gives w (vj (fun x y => min x y) A B)) := by
  have hac := acts_any a n c A a' n' c' B w hs hn hs' hn' hA hB
  have hS := hid (And.intro hs hs')
  have hul : (ua A B).length ≤ 2000000 := by
    have := ua_length A B
    have := hs.len
    have := hs'.len
    omega
  have hvj : Hid (vj (fun x y => min x y) A B = pks (fun x y => min x y) A B (ua A B)) := hid rfl
  clear hA hB hs hs'
  generalize ua A B = l at hac hul hvj
  go_enter Try.func61, Try.ntmps61
  go_wp2_with (first | (go_at_call 73; refine hac.mono ?_; rintro e w1 ⟨v1, rfl, hO1, hB1⟩; obtain ⟨ad, cd, rfl, hci⟩ := ints_cells hO1))
  have HB1 := hid hB1
  have HC := hid hci
  have hvl : Hid _ := hid hO1
  clear hB1 hci hO1 hac
  go_loopw [9, 7] (fun s9 s7 wr => ∃ (i : Nat) (R : List Dt), i ≤ l.length ∧ s9 = .int .i64 i ∧ Hid (R = pks (fun x y => min x y) A B (l.take i)) ∧ Hid (wr.ownsRow w1.heap.size 24 2 s7 R.length (flat R)) ∧ Hid (RowKit.Below w1.heap.size w1 wr)) (fun s9 _ _ => l.length - (intOf s9).toNat)
  case atStart => exact ⟨0, [], by omega, rfl, hid (by simp [pks]), hid (World.ownsRow_nil _ _ _ _), hid (Below.refl _ _)⟩
  case round =>
    obtain ⟨i, R, hi, rfl, hR, hO, hbl⟩ := hrel
    by_cases hlt : i < l.length
    · obtain ⟨g, rfl, hg, hcell⟩ := HC.out (by omega)
      have hci := (hbl.out.cell (p := ⟨g, i, none⟩) hg).trans (hcell i hlt)
      have hsn : Hid (pks (fun x y => min x y) A B (l.take (i + 1)) = pks (fun x y => min x y) A B (l.take i) ++ pks (fun x y => min x y) A B [l[i]]) := hid (by rw [List.take_succ_eq_append_getElem hlt, pks_append])
      have hRl : R.length ≤ 2000000 := by
        rw [hR.out]
        have := pks_length (fun x y => min x y) A B (l.take i)
        rw [List.length_take] at this
        omega
      generalize l[i] = y at hci hsn
      clear hcell
      have hone : Hid (pks (fun x y => min x y) A B [y] = if 0 < min (gt A y) (gt B y) then [(y, min (gt A y) (gt B y))] else []) := hid (by
        simp only [pks, List.filterMap_cons, List.filterMap_nil]
        split <;> simp_all)
      have bw : RowKit.Below w.heap.size w wr := HB1.out.trans (hbl.out.mono HB1.out.size)
      have c1 := rget_eq (y := y) (hS.out.1.below bw) hn
      have c2 := rget_eq (y := y) (hS.out.2.below bw) hn'
      have hbs := hbl.out.size
      clear bw
      generalize gt A y = u at c1 hone
      generalize gt B y = v at c2 hone
      by_cases huv : u < v
      · generalize hz : min u v = z at hone
        have huvb : decide (u < v) = true := by simp; omega
        have hzz : Hid (z = u) := hid (by rw [← hz]; omega)
        clear hz
        by_cases hzp : 0 < z
        · have hp2 : 0 < u := by rw [← hzz.out]; exact hzp
          go_wp2_with (first
            | (at_builtin; have hq := hs2; refine wpList_append_dots rfl _ _ 50 Try.underlying50 rfl w1.heap.size _ R.length (flat R) rfl (hO.out.alloc _) (some ⟨wr.heap.size, 0, none⟩) 1 1 [(y, u)] rfl (ps_one wr (y, u)) (by omega) (by simp; omega) ?_; intro v5 w5 ho5 hg5)
            | (go_at_call 59; have hq := hs1; refine c2.mono ?_; rintro e w3 ⟨rfl, rfl⟩; have hs2 := hs1)
            | (go_at_call 59; refine c1.mono ?_; rintro e w2 ⟨rfl, rfl⟩; have hs1 := hid True.intro))
          go_roundw
          case rel =>
            refine ⟨i + 1, R ++ [(y, z)], by omega, by go_num, hid ?_, hid ?_, hid ?_⟩
            · rw [hsn.out, hone.out, if_pos hzp, ← hR.out]
            · rw [List.length_append, List.length_singleton, flat_append, hzz.out]; exact ho5
            · exact (hbl.out.alloc hbl.out.size _).grown hg5 (by simp; omega) (fun j hj => (hO.out.lt j hj).1)
          case measure => simp [intOf]; omega
        · have hp2 : ¬ 0 < u := by rw [← hzz.out]; exact hzp
          go_wp2_with (first
            | (go_at_call 59; have hq := hs1; refine c2.mono ?_; rintro e w3 ⟨rfl, rfl⟩; have hs2 := hs1)
            | (go_at_call 59; refine c1.mono ?_; rintro e w2 ⟨rfl, rfl⟩; have hs1 := hid True.intro))
          go_roundw
          case rel =>
            refine ⟨i + 1, R, by omega, by go_num, hid ?_, hO, hbl⟩
            rw [hsn.out, hone.out, if_neg (by omega), ← hR.out, List.append_nil]
          case measure => simp [intOf]; omega
      · generalize hz : min u v = z at hone
        have huvb : decide (u < v) = false := by simp; omega
        have hzz : Hid (z = v) := hid (by rw [← hz]; omega)
        clear hz
        by_cases hzp : 0 < z
        · have hp2 : 0 < v := by rw [← hzz.out]; exact hzp
          go_wp2_with (first
            | (at_builtin; have hq := hs2; refine wpList_append_dots rfl _ _ 50 Try.underlying50 rfl w1.heap.size _ R.length (flat R) rfl (hO.out.alloc _) (some ⟨wr.heap.size, 0, none⟩) 1 1 [(y, v)] rfl (ps_one wr (y, v)) (by omega) (by simp; omega) ?_; intro v5 w5 ho5 hg5)
            | (go_at_call 59; have hq := hs1; refine c2.mono ?_; rintro e w3 ⟨rfl, rfl⟩; have hs2 := hs1)
            | (go_at_call 59; refine c1.mono ?_; rintro e w2 ⟨rfl, rfl⟩; have hs1 := hid True.intro))
          go_roundw
          case rel =>
            refine ⟨i + 1, R ++ [(y, z)], by omega, by go_num, hid ?_, hid ?_, hid ?_⟩
            · rw [hsn.out, hone.out, if_pos hzp, ← hR.out]
            · rw [List.length_append, List.length_singleton, flat_append, hzz.out]; exact ho5
            · exact (hbl.out.alloc hbl.out.size _).grown hg5 (by simp; omega) (fun j hj => (hO.out.lt j hj).1)
          case measure => simp [intOf]; omega
        · have hp2 : ¬ 0 < v := by rw [← hzz.out]; exact hzp
          go_wp2_with (first
            | (go_at_call 59; have hq := hs1; refine c2.mono ?_; rintro e w3 ⟨rfl, rfl⟩; have hs2 := hs1)
            | (go_at_call 59; refine c1.mono ?_; rintro e w2 ⟨rfl, rfl⟩; have hs1 := hid True.intro))
          go_roundw
          case rel =>
            refine ⟨i + 1, R, by omega, by go_num, hid ?_, hO, hbl⟩
            rw [hsn.out, hone.out, if_neg (by omega), ← hR.out, List.append_nil]
          case measure => simp [intOf]; omega
    · obtain rfl : i = l.length := by omega
      go_wp2_with fail
      go_ret
      have hRR : R = vj (fun x y => min x y) A B := by rw [hvj.out, hR.out, List.take_length]
      rw [← hRR]
      exact ⟨_, rfl, sbase hO.out HB1.out.size, HB1.out.trans (hbl.out.mono HB1.out.size)⟩

end

section
open Go.RowKit

theorem grownBy_drewN (w : World) (n : Nat) (r : Option Nat) : w.grownBy (w.drewN n) r := ⟨rfl, rfl, rfl, Nat.le_refl _, fun _ _ _ => rfl⟩

theorem grownBy_setCell (w : World) (b o : Nat) (v : Value) : w.grownBy (w.setCell ⟨b, o, none⟩ v) (some b) := by
  refine ⟨rfl, rfl, rfl, by simp [World.setCell], fun k _ hne => ?_⟩
  have : b ≠ k := fun e => hne (by rw [e])
  simp [World.setCell, Array.getElem?_modify, this]

end

section
open Go.RowKit
open Go.Sort (grow)

/-- Numbers of the call's own, as a slice. -/
abbrev OI (w : World) (base : Nat) (v : Value) (zs : List Int) : Prop := w.ownsInts base 3 .i64 v zs

theorem OI.at {w : World} {base : Nat} {v : Value} {zs : List Int} (h : OI w base v zs) (hp : 0 < zs.length) :
    ∃ g c, v = .slice (some ⟨g, 0, none⟩) zs.length c ∧ zs.length ≤ c ∧ c ≤ maxLen ∧ base ≤ g ∧ g < w.heap.size ∧ (∀ k, k < zs.length → w.cell? ⟨g, k, none⟩ = some (.int .i64 (nb zs k))) ∧ ∀ k, w.frozen? ⟨g, k, none⟩ = false := by
  rcases h.1.2 with ⟨rfl, hn⟩ | ⟨g, cap, cur, rfl, hg, hb, hn, hcap, hsz, ht⟩
  · omega
  · refine ⟨g, cap, rfl, hn, hcap, hg, (Array.getElem?_eq_some_iff.1 hb).1, fun k hk => ?_, fun k => by simp [World.frozen?, hb]⟩
    have := h.1.cells (g := g) rfl k (.int .i64 zs[k]) (by simp [hk])
    rw [Addr.add_lit] at this
    rw [nb_get hk]
    simpa using this

theorem OI.stored {w : World} {base g c : Nat} {zs : List Int} (h : OI w base (.slice (some ⟨g, 0, none⟩) zs.length c) zs) (j : Nat) {x : Int} (hx : (Lit.int .i64 x).wf = true) :
    OI (w.setCell ⟨g, j, none⟩ (.int .i64 x)) base (.slice (some ⟨g, 0, none⟩) zs.length c) (zs.set j x) ∧ w.grownBy (w.setCell ⟨g, j, none⟩ (.int .i64 x)) (some g) := by
  obtain ⟨h1, h2⟩ := h.1.stored j (.int .i64 x)
  refine ⟨⟨by simpa [List.map_set] using h1, fun z hz => ?_⟩, h2⟩
  rcases List.mem_or_eq_of_mem_set hz with hz | rfl
  · exact h.2 z hz
  · exact hx

theorem OI.wf {w : World} {base : Nat} {v : Value} {zs : List Int} (h : OI w base v zs) {k : Nat} (hk : k < zs.length) : (Lit.int .i64 (nb zs k)).wf = true := by
  rw [nb_get hk]; exact h.2 _ (List.getElem_mem _)

theorem OI.drewN {w : World} {base : Nat} {v : Value} {zs : List Int} (h : OI w base v zs) (n : Nat) : OI (w.drewN n) base v zs := h

theorem find_info {t : TypeId} {name : String} {f : FuncId} {r : Bool} (h : ((Try.prog.info? t).bind (fun i => i.methods.find? (fun x => x.name == name))).map (fun m => (m.path, m.func)) = some (#[], some (f, r))) :
    ∃ i m, Try.prog.info? t = some i ∧ i.methods.find? (fun x => x.name == name) = some m ∧ m.path = #[] ∧ m.func = some (f, r) := by
  cases hi : Try.prog.info? t with
  | none => rw [hi] at h; cases h
  | some i =>
    rw [hi] at h
    simp only [Option.bind_some] at h
    cases hm : i.methods.find? (fun x => x.name == name) with
    | none => rw [hm] at h; cases h
    | some m =>
      rw [hm] at h
      simp at h
      exact ⟨i, m, rfl, hm, h.1, h.2⟩

end

section
open Go.RowKit
open Go.Sort (grow)

theorem tdiv_half {k : Nat} (h : 0 < k) : ((k : Int) - 1).tdiv 2 = (((k - 1) / 2 : Nat) : Int) := by
  rw [Int.tdiv_eq_ediv_of_nonneg (by omega)]
  omega
theorem tdiv_zero : ((0 : Nat) : Int) - 1 = -1 := by omega

end

section
open Go.RowKit
open Go.Sort (grow)

end

section
open Go.RowKit
open Go.Sort (grow)

/-- Of the blocks that were there only b (where cell o now holds v') and g may have turned. -/
structure Two (w w' : World) (b o : Nat) (v' : Value) (g : Option Nat) : Prop where
  os : w'.os = w.os
  tape : w'.tape = w.tape
  output : w'.output = w.output
  size : w.heap.size ≤ w'.heap.size
  block : ∀ k, k < w.heap.size → k ≠ b → some k ≠ g → w'.heap[k]? = w.heap[k]?
  here : w'.heap[b]? = (w.setCell ⟨b, o, none⟩ v').heap[b]?

theorem setCell_block (w w' : World) (b o : Nat) (v : Value) (h : w'.heap[b]? = w.heap[b]?) : (w'.setCell ⟨b, o, none⟩ v).heap[b]? = (w.setCell ⟨b, o, none⟩ v).heap[b]? := by
  simp [World.setCell, Array.getElem?_modify, h]

theorem cell_one_new (w : World) (x : Value) (T : TypeId) : ∀ j u, ([x] : List Value)[j]? = some u → (w.alloc (.cells #[x] T)).cell? ((⟨w.heap.size, 0, none⟩ : Addr).add j) = some u := by
  intro j u hj
  match j, hj with
  | 0, hj => simp at hj; subst hj; simp [Addr.add]

theorem assert_int (x : Int) (w : World) : (Instr.typeAssert (.iface 3 (.int .i64 x)) 20 3 false).run Try.prog w = .ok (.int .i64 x) w := by kernel_rfl

theorem OI.kept {w w' : World} {base : Nat} {v : Value} {zs : List Int} {r : Option Nat} (h : OI w base v zs) (hg : w.grownBy w' r) (hne : v.ownBlock = none ∨ v.ownBlock ≠ r) : OI w' base v zs := World.ownsInts.kept h hg hne

end

section
open Go.RowKit
open Go.Sort (grow)

end

section
open Go.RowKit
open Go.Sort (grow)

/-- What a kind has, as a value. -/
abbrev pv (k : Int) : Value := .agg #[.bool (pat k), .bool (pch k), .bool (ppl k)]

end

section
open Go.RowKit
open Go.Sort (grow)

end

section
open Go.RowKit
open Go.Sort (grow)

theorem partb_ins {o : OpIn} (V : List Dt) (h : o.kind = 1) : partb o V = (hasv V o.blk && besb o V && charb o.char) := by simp [partb, h]
theorem partb_del {o : OpIn} (V : List Dt) (h : o.kind = 2) : partb o V = (hasv V o.blk && hasv V o.at) := by simp [partb, h]
theorem partb_mov {o : OpIn} (V : List Dt) (h : o.kind = 3) : partb o V = ((((o.bl0 == o.id0) && (o.bl1 == o.id1)) || hasv V o.blk) && parb o V && kyb o.key.toList) := by simp [partb, h]
theorem partb_no {o : OpIn} (V : List Dt) (h1 : o.kind ≠ 1) (h2 : o.kind ≠ 2) (h3 : o.kind ≠ 3) : partb o V = false := by simp [partb, h1, h2, h3]

end

section
open Go.RowKit
open Go.Sort (grow)

theorem run_eql_nil (w : World) (a : Option Addr) (l c : Nat) : (binOp BinOp.eql 50 (Value.slice a l c) (Value.slice none 0 0)).run Try.prog w = .ok (.bool a.isNone) w := by
  simp [binOp, go_sem, run_equal_slice_nil w 50 24 a l c Try.underlying50]

set_option maxHeartbeats 1000000 in
theorem rwith_any {a : Option Addr} {n c : Nat} {A : List Dt} {w : World} (d : Dt) (hs : PS w a n c A) (hn : n ≤ 1000000) (hA : VM A) : Calls Try.prog 42 #[.slice a n c, dv d] w (Ans w (vwith A d)) := by
  obtain ⟨d1, d2⟩ := d
  have b0 : RowKit.Below w.heap.size w (w.alloc (.cells #[.int .i64 d1, .int .i64 d2] 24)) := (Below.refl _ w).alloc (Nat.le_refl _) _
  have hM := rmay_any (d1, d2) (w.alloc (.cells #[.int .i64 d1, .int .i64 d2] 24))
  have k0 : (w.alloc (.cells #[.int .i64 d1, .int .i64 d2] 24)).cell? ⟨w.heap.size, 0, none⟩ = some (.int .i64 d1) := by go_simp
  have k1 : (w.alloc (.cells #[.int .i64 d1, .int .i64 d2] 24)).cell? ⟨w.heap.size, 1, none⟩ = some (.int .i64 d2) := by go_simp
  have hk : w.heap.size < (w.alloc (.cells #[.int .i64 d1, .int .i64 d2] 24)).heap.size := by simp
  by_cases hd : mayd (d1, d2) = true
  · have hv : Hid (vwith A (d1, d2) = vjoin A [(d1, d2)]) := hid (by unfold vwith; rw [if_pos hd])
    have hone := hid (vm_one hd)
    rw [hd] at hM
    go_enter Try.func42, Try.ntmps42
    go_wp2_with (first
      | (go_at_call 61; have hq := f0; refine (rjoin_any (A := A) (B := [(d1, d2)]) (hsW.below ((Below.refl _ w1).alloc (Nat.le_refl _) _)) hn (ps_one w1 (d1, d2)) (by omega) hA hone.out).mono ?_; rintro e w2 h2; obtain ⟨a2, c2, rfl, hp2, hb2⟩ := h2.ans)
      | (go_at_call 60; refine hM.mono ?_; rintro e w1 ⟨rfl, hF1⟩; have f0 := (hF1.below.cell (p := ⟨w.heap.size, 0, none⟩) hk).trans k0; have f1 := (hF1.below.cell (p := ⟨w.heap.size, 1, none⟩) hk).trans k1; have hbw := below2 b0 hF1.below; have hsW := hs.below hbw))
    go_ret
    rw [hv.out]
    have hbb : RowKit.Below w.heap.size w w2 := below2 hbw (below2 ((Below.refl _ w1).alloc (Nat.le_refl _) _) hb2)
    exact ⟨a2, c2, rfl, hp2, hbb⟩
  · have hv : Hid (vwith A (d1, d2) = A) := hid (by unfold vwith; rw [if_neg hd])
    have hd' : mayd (d1, d2) = false := by simpa using hd
    rw [hd'] at hM
    have HS := hid hs
    clear hs
    go_enter Try.func42, Try.ntmps42
    go_wp2_with (first
      | (go_at_call 60; refine hM.mono ?_; rintro e w1 ⟨rfl, hF1⟩; have hbw := below2 b0 hF1.below))
    go_ret
    rw [hv.out]
    exact ⟨a, c, by rw [HS.out.len]; rfl, by rw [HS.out.len]; exact HS.out.below hbw, hbw⟩

theorem made_snoc {l : List Dt} {k : Nat} (h : k < l.length) (hk : k < 50) : made (l.take (k + 1)) = vwith (made (l.take k)) l[k] := by
  unfold made
  rw [List.take_take, List.take_take, Nat.min_eq_right (by omega), Nat.min_eq_right (by omega), take_snoc h, List.foldl_append]
  rfl

theorem made_end {l : List Dt} {k : Nat} (h : k = l.length ∨ k = 50) : made (l.take k) = made l := by
  unfold made
  rw [List.take_take]
  rcases h with rfl | rfl
  · rw [show l.take (min 50 l.length) = l.take 50 by rw [List.take_eq_take_iff]; omega]
  · simp

end

section
open Go.RowKit
open Go.Sort (grow)

/-- An operation as it lies in memory: where its Deps lie, and what they are. -/
structure Mo where
  o : OpIn
  a : Option Addr
  n : Nat
  c : Nat
  V : List Dt

/-- An operation, whatever memory it lies in. -/
abbrev Mop := OpIn × List Dt
abbrev Mo.m (x : Mo) : Mop := (x.o, x.V)
abbrev Mo.dep (x : Mo) : Value := .slice x.a x.n x.c
def Mo.cells (x : Mo) : List Value := [.int .i64 x.o.id0, .int .i64 x.o.id1, .int .i64 x.o.time, x.dep, .int .i64 x.o.kind, .int .i64 x.o.bl0, .int .i64 x.o.bl1, .int .i64 x.o.at0, .int .i64 x.o.at1, .int .i64 x.o.side, .int .i64 x.o.char, .int .i64 x.o.pa0, .int .i64 x.o.pa1, .string x.o.key]

def flo : List Mo → List Value
  | [] => []
  | x :: r => x.cells ++ flo r

theorem flo_append (l l' : List Mo) : flo (l ++ l') = flo l ++ flo l' := by
  induction l with
  | nil => rfl
  | cons x r ih => simp [flo, ih]

theorem flo_length (l : List Mo) : (flo l).length = l.length * 14 := by
  induction l with
  | nil => rfl
  | cons x r ih => simp [flo, ih, Mo.cells]; omega

theorem flo_get (l : List Mo) (i : Nat) (hi : i < l.length) (j : Nat) (hj : j < 14) : (flo l)[i * 14 + j]? = (l[i]).cells[j]? := by
  induction l generalizing i with
  | nil => simp at hi
  | cons x r ih =>
    cases i with
    | zero => simp [flo]; rw [List.getElem?_append_left (by simp [Mo.cells]; omega)]
    | succ i =>
      simp only [flo]
      rw [List.getElem?_append_right (by simp [Mo.cells]; omega)]
      have e : (i + 1) * 14 + j - x.cells.length = i * 14 + j := by simp [Mo.cells]; omega
      rw [e, ih i (by simpa using hi)]
      rfl

theorem flo_one (L : List Mo) : ∀ u ∈ flo L, u.oneCell' = true := by
  induction L with
  | nil => intro u hu; simp [flo] at hu
  | cons d r ih =>
    intro u hu
    simp only [flo, List.mem_append] at hu
    rcases hu with hu | hu
    · simp only [Mo.cells, List.mem_cons, List.not_mem_nil, or_false] at hu
      rcases hu with rfl | rfl | rfl | rfl | rfl | rfl | rfl | rfl | rfl | rfl | rfl | rfl | rfl | rfl <;> rfl
    · exact ih u hu

/-- The slice (a, n, c) holds these operations. -/
structure OS (w : World) (a : Option Addr) (n c : Nat) (L : List Mo) : Prop where
  len : L.length = n
  cap : n ≤ c
  max : c ≤ maxLen
  nil : a = none → n = 0 ∧ c = 0
  cells : ∀ ad, a = some ad → ∀ j u, (flo L)[j]? = some u → w.cell? (ad.add j) = some u
  deps : ∀ x ∈ L, PS w x.a x.n x.c x.V

theorem OS.below {w w' : World} {a : Option Addr} {n c : Nat} {L : List Mo} (h : OS w a n c L) (hb : RowKit.Below w.heap.size w w') : OS w' a n c L :=
  ⟨h.len, h.cap, h.max, h.nil, fun ad ha j u hj => by
    have := h.cells ad ha j u hj
    rw [hb.cell (cell_in this)]
    exact this, fun x hx => (h.deps x hx).below hb⟩

theorem OS.far {w w' : World} {a : Option Addr} {n c : Nat} {L : List Mo} (h : OS w a n c L) (hb : Far w w') : OS w' a n c L := h.below hb.below

theorem OS.none (w : World) : OS w none 0 0 [] := ⟨rfl, Nat.le_refl _, Nat.zero_le _, fun _ => ⟨rfl, rfl⟩, (fun _ h => by cases h), (fun x hx => by simp at hx)⟩

/-- The fourteen cells of an operation, from a place on. -/
structure OpAtO (w : World) (q s : Nat) (x : Mo) : Prop where
  c0 : w.cell? ⟨q, s, none⟩ = some (.int .i64 x.o.id0)
  c1 : w.cell? ⟨q, s + 1, none⟩ = some (.int .i64 x.o.id1)
  c2 : w.cell? ⟨q, s + 2, none⟩ = some (.int .i64 x.o.time)
  c3 : w.cell? ⟨q, s + 3, none⟩ = some (.slice x.a x.n x.c)
  c4 : w.cell? ⟨q, s + 4, none⟩ = some (.int .i64 x.o.kind)
  c5 : w.cell? ⟨q, s + 5, none⟩ = some (.int .i64 x.o.bl0)
  c6 : w.cell? ⟨q, s + 6, none⟩ = some (.int .i64 x.o.bl1)
  c7 : w.cell? ⟨q, s + 7, none⟩ = some (.int .i64 x.o.at0)
  c8 : w.cell? ⟨q, s + 8, none⟩ = some (.int .i64 x.o.at1)
  c9 : w.cell? ⟨q, s + 9, none⟩ = some (.int .i64 x.o.side)
  c10 : w.cell? ⟨q, s + 10, none⟩ = some (.int .i64 x.o.char)
  c11 : w.cell? ⟨q, s + 11, none⟩ = some (.int .i64 x.o.pa0)
  c12 : w.cell? ⟨q, s + 12, none⟩ = some (.int .i64 x.o.pa1)
  c13 : w.cell? ⟨q, s + 13, none⟩ = some (.string x.o.key)

theorem add_none (g o j : Nat) : (⟨g, o, Option.none⟩ : Addr).add j = ⟨g, o + j, Option.none⟩ := by
  by_cases hj : j = 0
  · subst hj; simp [Addr.add]
  · simp [Addr.add, hj]

/-- Where operations are, they lie at a plain address. -/
theorem OS.at {w : World} {a : Option Addr} {n c : Nat} {L : List Mo} (h : OS w a n c L) (hp : 0 < n) :
    ∃ g o, a = some ⟨g, o, Option.none⟩ ∧ g < w.heap.size ∧ ∀ i (hi : i < L.length), OpAtO w g (o + i * 14) L[i] := by
  cases a with
  | none => have := (h.nil rfl).1; omega
  | some ad =>
    have hc := h.cells ad rfl
    obtain ⟨g, o, sp⟩ := ad
    have hl : 0 < L.length := by rw [h.len]; exact hp
    have h0 := hc 0 (.int .i64 (L[0]).o.id0) (by have := flo_get L 0 hl 0 (by omega); simpa [Mo.cells] using this)
    have hspot : sp = Option.none := by simpa [Addr.add] using World.cell?_spot h0
    subst hspot
    have each : ∀ i (hi : i < L.length) j (_ : j < 14) u, (L[i]).cells[j]? = some u → w.cell? ⟨g, o + i * 14 + j, Option.none⟩ = some u := fun i hi j hj u hu => by
      have := hc (i * 14 + j) u (by rw [flo_get L i hi j hj]; exact hu)
      rw [add_none, ← Nat.add_assoc] at this
      exact this
    refine ⟨g, o, rfl, by have := cell_in h0; simpa [Addr.add] using this, fun i hi => ?_⟩
    exact ⟨each i hi 0 (by omega) _ rfl, each i hi 1 (by omega) _ rfl, each i hi 2 (by omega) _ rfl, each i hi 3 (by omega) _ rfl, each i hi 4 (by omega) _ rfl, each i hi 5 (by omega) _ rfl, each i hi 6 (by omega) _ rfl,
      each i hi 7 (by omega) _ rfl, each i hi 8 (by omega) _ rfl, each i hi 9 (by omega) _ rfl, each i hi 10 (by omega) _ rfl, each i hi 11 (by omega) _ rfl, each i hi 12 (by omega) _ rfl, each i hi 13 (by omega) _ rfl⟩

theorem Try.infoOp : (Try.prog.info? 52).map (fun i => (i.zero, i.size, i.bytes)) = some (some (.agg #[.int .i64 0, .int .i64 0, .int .i64 0, .slice none 0 0, .int .i64 0, .int .i64 0, .int .i64 0, .int .i64 0, .int .i64 0, .int .i64 0, .int .i64 0, .int .i64 0, .int .i64 0, .string ByteArray.empty]), 14, 136) := by kernel_rfl

/-- The slice v of operations is of the call's own, or none, and holds L. -/
abbrev OwnO (w : World) (base : Nat) (v : Value) (L : List Mo) : Prop := w.ownsRow base 52 14 v L.length (flo L)

theorem owned_os {w : World} {base : Nat} {v : Value} {L : List Mo} (h : OwnO w base v L) (hd : ∀ x ∈ L, PS w x.a x.n x.c x.V) : ∃ a c, v = .slice a L.length c ∧ OS w a L.length c L := by
  rcases h.2 with ⟨rfl, hl⟩ | ⟨g, cap, cur, rfl, hg, hb, hn, hcap, hsz, ht⟩
  · have : L = [] := List.eq_nil_of_length_eq_zero hl
    subst this
    exact ⟨none, 0, rfl, OS.none w⟩
  · exact ⟨_, _, rfl, rfl, hn, hcap, fun h => (by cases h), fun ad ha j u hj => (by cases ha; exact h.cells (g := g) rfl j u hj), hd⟩

theorem ps_one1 (w : World) (b : Obj) (d : Dt) : PS ((w.alloc b).alloc (.cells #[.int .i64 d.1, .int .i64 d.2] 24)) (some ⟨w.heap.size + 1, 0, none⟩) 1 1 [d] := by
  have := ps_one (w.alloc b) d
  rw [World.size_alloc] at this
  exact this

/-- append of one operation, that lies in a block, to a slice of the call's own. -/
theorem wpList_append_op {w : World} {ops : Array Oper} {rest : List Oper} {o : Oper} {a : Act} {Q : Exit → Act → World → Prop} (hgd : o.guard = none) (s x : Operand)
    (ho : o.op = .call { callee := .builtin .append, args := #[s, x], argTypes := #[46, 46] }) (base : Nat) (v : Value) (n : Nat) (L : List Mo) (hs : a.eval s = v) (hn : L.length = n) (hown : OwnO w base v L)
    (B : Nat) (y : Mo) (hx : a.eval x = .slice (some ⟨B, 0, none⟩) 1 1) (hB : ∀ j u, y.cells[j]? = some u → w.cell? ((⟨B, 0, none⟩ : Addr).add j) = some u) (hb : n + 1 ≤ 1000000) (hbase : base ≤ w.heap.size)
    (h : ∀ g cap w', OwnO w' base (.slice (some ⟨g, 0, none⟩) (n + 1) cap) (L ++ [y]) → w.grownBy w' v.ownBlock → (v.ownBlock = some g ∨ g = w.heap.size) → g < w'.heap.size → wpList Try.prog ops Q rest (a.put o.dst (.slice (some ⟨g, 0, none⟩) (n + 1) cap)) w') : wpList Try.prog ops Q (o :: rest) a w := by
  subst hn
  obtain ⟨i0, hi, hz0, hz1, hz2⟩ := info_parts Try.infoOp
  refine wpList_append_lies w hgd s x 46 ho base 52 i0 _ 14 136 Try.underlying46 hi hz0 hz1 hz2 rfl (by decide) v L.length (flo L) hs hown ⟨B, 0, none⟩ 1 1 y.cells hx (by simp [Mo.cells]) hB ?_ (by decide) (by unfold maxLen; omega) (by omega) hbase _ rfl ?_
  · have := flo_one [y]
    simpa [flo] using this
  · intro g cap w' h1 h2 h3 h4
    refine h g cap w' ?_ h2 h3 h4
    show World.ownsRow _ _ _ _ _ (List.length _) _
    rw [List.length_append, flo_append]
    simpa [flo] using h1

/-- The block of an operation that was just made. -/
theorem mo_cells (w : World) (B : Nat) (x : Mo) (h : OpAt w B x.o x.dep) : ∀ j u, x.cells[j]? = some u → w.cell? ((⟨B, 0, none⟩ : Addr).add j) = some u := by
  intro j u hj
  rw [add_none, Nat.zero_add]
  match j, hj with
  | 0, hj => simp [Mo.cells] at hj; subst hj; exact h.c0
  | 1, hj => simp [Mo.cells] at hj; subst hj; exact h.c1
  | 2, hj => simp [Mo.cells] at hj; subst hj; exact h.c2
  | 3, hj => simp [Mo.cells] at hj; subst hj; exact h.c3
  | 4, hj => simp [Mo.cells] at hj; subst hj; exact h.c4
  | 5, hj => simp [Mo.cells] at hj; subst hj; exact h.c5
  | 6, hj => simp [Mo.cells] at hj; subst hj; exact h.c6
  | 7, hj => simp [Mo.cells] at hj; subst hj; exact h.c7
  | 8, hj => simp [Mo.cells] at hj; subst hj; exact h.c8
  | 9, hj => simp [Mo.cells] at hj; subst hj; exact h.c9
  | 10, hj => simp [Mo.cells] at hj; subst hj; exact h.c10
  | 11, hj => simp [Mo.cells] at hj; subst hj; exact h.c11
  | 12, hj => simp [Mo.cells] at hj; subst hj; exact h.c12
  | 13, hj => simp [Mo.cells] at hj; subst hj; exact h.c13
  | j + 14, hj => simp [Mo.cells] at hj

/-- Rows of things of unlike makes lie in unlike blocks. -/
theorem rows_apart {w : World} {b b' e e' z z' : Nat} {v v' : Value} {n n' : Nat} {xs xs' : List Value} (h : w.ownsRow b e z v n xs) (h' : w.ownsRow b' e' z' v' n' xs') (he : e ≠ e') : v.ownBlock = none ∨ v.ownBlock ≠ v'.ownBlock := by
  rcases h.2 with ⟨rfl, _⟩ | ⟨g, cap, cur, rfl, _, hb, _⟩
  · exact .inl rfl
  · refine .inr fun e1 => ?_
    rcases h'.2 with ⟨rfl, _⟩ | ⟨g', cap', cur', rfl, _, hb', _⟩
    · cases e1
    · simp [Value.ownBlock] at e1
      subst e1
      rw [hb] at hb'
      simp at hb'
      exact he hb'.2

end

section
open Go.RowKit Go.Sort Go.Maps

/-- What a map that reads as D holds at the dots. -/
def MTells (D : DataW Unit) (g : Dt → Option Int) : Prop :=
  ∀ d, Dw d → Maps.has D (kl d) = (g d).isSome ∧ ∀ c, g d = some c → ∀ z, D.atKey (kl d) z = .lit (.int .i64 c)

theorem tells_empty : MTells (.map []) (fun _ => Option.none) := fun d _ => ⟨rfl, fun c h => by cases h⟩

theorem MTells.put {D : DataW Unit} {g : Dt → Option Int} (h : MTells D g) (hm : IsMap D) {d : Dt} (hd : Dw d) (c : Int) :
    MTells (D.put (kl d) (.lit (.int .i64 c))) (fun e => if e = d then some c else g e) := by
  intro e he
  by_cases hed : e = d
  · subst hed
    simp only [if_true]
    refine ⟨by rw [has_put_same hm (kl_isKey _)]; rfl, fun c' hc z => ?_⟩
    cases hc
    exact atKey_put_same hm (kl_isKey _) _ _
  · have hne : kl e ≠ kl d := fun h' => hed (kl_inj he hd h')
    simp only [hed, if_false]
    refine ⟨by rw [has_put_other hne]; exact (h e he).1, fun c' hc z => ?_⟩
    rw [atKey_put_other hne]
    exact (h e he).2 c' hc z

theorem MTells.del {D : DataW Unit} {g : Dt → Option Int} (h : MTells D g) {d : Dt} (hd : Dw d) :
    MTells (D.del (kl d)) (fun e => if e = d then Option.none else g e) := by
  intro e he
  by_cases hed : e = d
  · subst hed
    simp only [if_true]
    refine ⟨by rw [has_del_same]; rfl, fun c' hc z => by cases hc⟩
  · have hne : kl e ≠ kl d := fun h' => hed (kl_inj he hd h')
    simp only [hed, if_false]
    refine ⟨by rw [has_del_other hne]; exact (h e he).1, fun c' hc z => ?_⟩
    rw [atKey_del_other hne]
    exact (h e he).2 c' hc z

theorem MTells.congr {D : DataW Unit} {g g' : Dt → Option Int} (h : MTells D g) (e : ∀ d, g d = g' d) : MTells D g' := fun d hd => by rw [← e d]; exact h d hd

theorem nodup_kl : ∀ {S : List Dt}, S.Nodup → Dws S → (S.map kl).Nodup
  | [], _, _ => List.nodup_nil
  | x :: r, h, hw => by
    obtain ⟨h1, h2⟩ := List.nodup_cons.1 h
    refine List.nodup_cons.2 ⟨fun hm => ?_, nodup_kl h2 (fun d hd => hw d (List.mem_cons_of_mem _ hd))⟩
    obtain ⟨d, hd, e⟩ := List.mem_map.1 hm
    exact h1 (kl_inj (hw d (List.mem_cons_of_mem _ hd)) (hw x (List.mem_cons_self ..)) e ▸ hd)

/-- How many entries: as many as there are dots. -/
theorem MTells.size {w : World} {b n : Nat} {D : DataW Unit} {g : Dt → Option Int} (h : MTells D g) (hown : w.ownsMap Try.prog 24 (plainElem (H := Unit) Try.prog 3) b n D) {S : List Dt} (hS : S.Nodup) (hw : Dws S) (hm : ∀ d, Dw d → ((g d).isSome = true ↔ d ∈ S)) :
    Maps.size D = S.length := by
  obtain ⟨es, hD, hpw, _⟩ := hown.entries law
  obtain ⟨es', hD', hko⟩ := hown.keysOf
  obtain rfl : es = es' := by rw [hD] at hD'; simpa using hD'
  subst hD
  have hp : (es.map Prod.fst).Perm (S.map kl) := by
    refine (List.perm_ext_iff_of_nodup ?_ ?_).2 fun x => ?_
    · exact List.pairwise_map.2 hpw
    · exact nodup_kl hS hw
    · constructor
      · intro hx
        obtain ⟨p, hp, rfl⟩ := List.mem_map.1 hx
        obtain ⟨v, hv⟩ := hko p hp
        obtain ⟨d, _, hdw, hk⟩ := keyOf_dot_inv hv
        have hh : Maps.has (.map es) (kl d) = true := List.any_eq_true.2 ⟨p, hp, by rw [hk]; exact WideAt.sameKey_self (kl_isKey d)⟩
        rw [(h d hdw).1] at hh
        exact List.mem_map.2 ⟨d, (hm d hdw).1 hh, hk.symm⟩
      · intro hx
        obtain ⟨d, hd, rfl⟩ := List.mem_map.1 hx
        have hh := (hm d (hw d hd)).2 hd
        rw [← (h d (hw d hd)).1] at hh
        obtain ⟨p, hp, hs⟩ := List.any_eq_true.1 hh
        exact List.mem_map.2 ⟨p, hp, WideAt.sameKey_eq hs⟩
  have := hp.length_eq
  simpa [Maps.size] using this

/-- Where each dot stands first. -/
def pl (L : List Dt) (d : Dt) : Option Int := if d ∈ L then some (L.idxOf d : Int) else Option.none

theorem pl_some (L : List Dt) (d : Dt) : (pl L d).isSome = true ↔ d ∈ L := by unfold pl; split <;> simp_all

theorem pl_snoc (L : List Dt) (d e : Dt) : pl (L ++ [d]) e = if (pl L d).isSome = true then pl L e else if e = d then some (L.length : Int) else pl L e := by
  unfold pl
  by_cases hd : d ∈ L
  · by_cases he : e ∈ L
    · simp [hd, he, List.idxOf_append]
    · have : e ≠ d := fun h => he (h ▸ hd)
      simp [hd, he, this]
  · by_cases hed : e = d
    · subst hed
      simp [hd, List.idxOf_append]
    · by_cases he : e ∈ L
      · simp [hd, he, hed, List.idxOf_append]
      · simp [hd, he, hed]

end

section
open Go.RowKit Go.Sort Go.Maps

/-- Block b is a map of at most n dots that tells g. -/
def DM (w : World) (b n : Nat) (g : Dt → Option Int) : Prop := ∃ D : DataW Unit, w.ownsMap Try.prog 24 (plainElem (H := Unit) Try.prog 3) b n D ∧ MTells D g

theorem DM.below {w w' : World} {b n : Nat} {g : Dt → Option Int} (h : DM w b n g) {B : Nat} (hb : Below B w w') (hB : b < B) : DM w' b n g := by
  obtain ⟨D, ⟨es, clock, h1, h2⟩, hT⟩ := h
  exact ⟨D, ⟨es, clock, by rw [hb.block b hB]; exact h1, h2⟩, hT⟩

theorem DM.lt {w : World} {b n : Nat} {g : Dt → Option Int} (h : DM w b n g) : b < w.heap.size := by
  obtain ⟨D, hown, _⟩ := h
  exact hown.lt

end
end Go.Proofs.Ytbpepmajpojacaa
