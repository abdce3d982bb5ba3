/- Where a character belongs among others, and among: one more at its place. -/
import Derived.Test.YtbpepmajpojacaaFgIns
import Derived.Test.YtbpepmajpojacaaFgMath
import Derived.Shelf.SlSortCmp.QuietGrown
import Derived.BigQuiet
import Derived.Deep.CutRange
namespace Go.Proofs.Ytbpepmajpojacaa
open Go.RowKit
open Go.Sort (grow)

set_option maxHeartbeats 1000000 in
theorem fgless_any (a b : Dt) (w : World) : Tells 69 #[dv a, dv b] w (.bool (dl a b)) := by
  obtain ⟨a1, a2⟩ := a
  obtain ⟨b1, b2⟩ := b
  by_cases h : a1 = b1
  · subst h
    go_enter Try.func69, Try.ntmps69
    go_wp2
    go_ret
    exact ⟨by simp [dl], ((Far.refl w).alloc _).alloc _⟩
  · go_enter Try.func69, Try.ntmps69
    go_wp2
    go_ret
    exact ⟨by simp [dl, h], ((Far.refl w).alloc _).alloc _⟩

/-- A pointer to a block. -/
abbrev pvF (g : Nat) : Value := .pointer (some ⟨g, 0, none⟩)
def prow (gs : List Nat) : List Value := gs.map pvF

/-- What a character's block says first: its identity. -/
structure IdAt (w : World) (g : Nat) (d : Dt) : Prop where
  c0 : w.cell? ⟨g, 0, none⟩ = some (.int .i64 d.1)
  c1 : w.cell? ⟨g, 1, none⟩ = some (.int .i64 d.2)

theorem IdAt.lt {w : World} {g : Nat} {d : Dt} (h : IdAt w g d) : g < w.heap.size := cell_in h.c0
theorem IdAt.below {w w' : World} {g : Nat} {d : Dt} (h : IdAt w g d) (hb : RowKit.Below w.heap.size w w') : IdAt w' g d := ⟨(hb.cell h.lt).trans h.c0, (hb.cell h.lt).trans h.c1⟩

set_option maxRecDepth 100000 in
set_option maxHeartbeats 1000000 in
theorem fgorder_any (g1 g2 : Nat) (d1 d2 : Dt) (w : World) (h1 : IdAt w g1 d1) (h2 : IdAt w g2 d2) :
    Calls Try.prog 54 #[pvF g1, pvF g2] w fun e w' => e = .returned (.int .i64 (if dl d1 d2 = true then -1 else 1)) ∧ RowKit.Below w.heap.size w w' := by
  have mixed := mixed
  haveI : Nonempty (Wb w) := ⟨⟨w, Below.refl _ _⟩⟩
  have a0 := fun p : Wb w => (h1.below p.h).c0
  have a1 := fun p : Wb w => (h1.below p.h).c1
  have b0 := fun p : Wb w => (h2.below p.h).c0
  have b1 := fun p : Wb w => (h2.below p.h).c1
  have hL : ∀ p : Wb w, Calls Try.prog 69 #[.agg #[.int .i64 d1.1, .int .i64 d1.2], .agg #[.int .i64 d2.1, .int .i64 d2.2]] p.u fun e w' => e = .returned (.bool (dl d1 d2)) ∧ ∃ p' : Wb w, w' = p'.u := fun p => far_q (fgless_any d1 d2 p.u)
  cases hb : dl d1 d2
  · rw [hb] at hL
    go_enter Try.func54, Try.ntmps54
    go_upto_region 1 with fail
    refine wp_region_below mixed (by kernel_rfl) ?_
    repeat (go_big_quiet_step (first | (go_at_call 69; exact hL _)))
    refine wpQuiet_nil ?_
    intro _ hw'
    obtain ⟨p, hw''⟩ := hw'
    subst hw''
    go_wp2
    go_ret
    exact ⟨by first | rfl | simp, p.h⟩
  · rw [hb] at hL
    go_enter Try.func54, Try.ntmps54
    go_upto_region 1 with fail
    refine wp_region_below mixed (by kernel_rfl) ?_
    repeat (go_big_quiet_step (first | (go_at_call 69; exact hL _)))
    refine wpQuiet_nil ?_
    intro _ hw'
    obtain ⟨p, hw''⟩ := hw'
    subst hw''
    go_wp2
    go_ret
    exact ⟨by first | rfl | simp, p.h⟩

/-- How many come ahead. -/
def aheadOf (ds : List Dt) (y : Dt) : Nat := (ds.takeWhile (fun d => dl d y)).length

theorem aheadOf_le (ds : List Dt) (y : Dt) : aheadOf ds y ≤ ds.length := (List.takeWhile_prefix _).length_le

theorem ins_at (y : Dt) : ∀ ds : List Dt, y ∉ ds → ins ds y = ds.take (aheadOf ds y) ++ [y] ++ ds.drop (aheadOf ds y)
  | [], _ => rfl
  | d :: r, h => by
    have hne : d ≠ y := fun e => h (by rw [e]; simp)
    have hr : y ∉ r := fun hm => h (List.mem_cons_of_mem _ hm)
    have ih := ins_at y r hr
    unfold ins
    cases hd : dl d y
    · have ha : aheadOf (d :: r) y = 0 := by simp [aheadOf, List.takeWhile, hd]
      rw [ha]
      simp [hne]
    · have ha : aheadOf (d :: r) y = aheadOf r y + 1 := by simp [aheadOf, List.takeWhile, hd]
      rw [ha, if_pos rfl, ih]
      simp

theorem up_get {ds : List Dt} (h : Up ds) {i j : Nat} {a b : Dt} (hij : i < j) (ha : ds[i]? = some a) (hb : ds[j]? = some b) : dl a b = true := by
  obtain ⟨hi, rfl⟩ := List.getElem?_eq_some_iff.1 ha
  obtain ⟨hj, rfl⟩ := List.getElem?_eq_some_iff.1 hb
  exact (List.pairwise_iff_getElem.1 h) i j hi hj hij

theorem aheadOf_unique {ds : List Dt} {y : Dt} {lo : Nat} (hl : lo ≤ ds.length) (h1 : ∀ t d, t < lo → ds[t]? = some d → dl d y = true) (h2 : ∀ d, ds[lo]? = some d → dl d y = false) : lo = aheadOf ds y := by
  induction ds generalizing lo with
  | nil => simp at hl; simp [hl, aheadOf]
  | cons d r ih =>
    cases lo with
    | zero =>
      have := h2 d rfl
      simp [aheadOf, List.takeWhile, this]
    | succ lo =>
      have hd := h1 0 d (by omega) rfl
      have := ih (lo := lo) (by simpa using hl) (fun t e ht he => h1 (t + 1) e (by omega) (by simpa using he)) (fun e he => h2 e (by simpa using he))
      simp [aheadOf, List.takeWhile, hd] at this ⊢
      exact this

/-- A row of characters: their blocks, their identities. -/
structure CR (w : World) (gs : List Nat) (ds : List Dt) : Prop where
  len : gs.length = ds.length
  at_ : ∀ (i : Nat) (g : Nat) (d : Dt), gs[i]? = some g → ds[i]? = some d → IdAt w g d

theorem CR.below {w w' : World} {gs : List Nat} {ds : List Dt} (h : CR w gs ds) (hb : RowKit.Below w.heap.size w w') : CR w' gs ds := ⟨h.len, fun i g d h1 h2 => (h.at_ i g d h1 h2).below hb⟩

/-- A slice that holds pointers. -/
structure PP (w : World) (a : Option Addr) (n c : Nat) (gs : List Nat) : Prop where
  len : gs.length = n
  cap : n ≤ c
  max : c ≤ maxLen
  at_ : 0 < n → ∃ g o, a = some ⟨g, o, none⟩ ∧ g < w.heap.size ∧ ∀ i (hi : i < gs.length), w.cell? ⟨g, o + i, none⟩ = some (pvF gs[i])

theorem PP.below {w w' : World} {a : Option Addr} {n c : Nat} {gs : List Nat} (h : PP w a n c gs) (hb : RowKit.Below w.heap.size w w') : PP w' a n c gs :=
  ⟨h.len, h.cap, h.max, fun hp => by
    obtain ⟨g, o, e, hg, hx⟩ := h.at_ hp
    exact ⟨g, o, e, Nat.lt_of_lt_of_le hg hb.size, fun i hi => (hb.cell hg).trans (hx i hi)⟩⟩

theorem own_pp {w : World} {base n : Nat} {v : Value} {gs : List Nat} (h : w.ownsRow base 72 1 v n (prow gs)) : ∃ a c, v = .slice a n c ∧ PP w a n c gs := by
  have hl : gs.length = n := by have := h.1; simpa [prow] using this
  rcases h.2 with ⟨rfl, rfl⟩ | ⟨g, cap, cur, rfl, hb, hg, hn, hc, hs, ht⟩
  · exact ⟨none, 0, rfl, hl, Nat.le_refl _, Nat.zero_le _, fun hp => absurd hp (by omega)⟩
  · refine ⟨_, _, rfl, hl, hn, hc, fun _ => ⟨g, 0, rfl, (Array.getElem?_eq_some_iff.1 hg).1, fun i hi => ?_⟩⟩
    rw [Nat.zero_add, World.ownsRow.cellAt h i (by omega)]
    simp [prow, List.getElem?_eq_getElem hi]

set_option maxRecDepth 100000 in
set_option maxHeartbeats 2000000 in
theorem fgsearch_any (a : Option Addr) (n c : Nat) (gs : List Nat) (ds : List Dt) (gc : Nat) (y : Dt) (w : World) (hs : PP w a n c gs) (hr : CR w gs ds) (hy : IdAt w gc y) (hn : n ≤ 1000000) (ha : Up ds) :
    Calls Try.prog 53 #[.slice a n c, pvF gc, .func (.func 54) #[] #[]] w fun e w' => e = .returned (.tuple #[.int .i64 (aheadOf ds y : Nat), .bool false]) ∧ RowKit.Below w.heap.size w w' := by
  have HL := hid hs.len
  have HR := hid hr.len
  have HA := hid ha
  clear ha
  go_enter Try.func53, Try.ntmps53
  go_wp2
  go_loopw [9, 10] (fun i j wr => ∃ lo hi : Nat, i = .int .i64 lo ∧ j = .int .i64 hi ∧ lo ≤ hi ∧ hi ≤ n ∧ Hid (∀ t d, t < lo → ds[t]? = some d → dl d y = true) ∧ Hid (∀ t d, hi ≤ t → ds[t]? = some d → dl d y = false) ∧ Hid (RowKit.Below w.heap.size w wr)) (fun i j _ => (intOf j).toNat - (intOf i).toNat)
  case atStart => exact ⟨0, n, rfl, rfl, by omega, by omega, hid (fun t d ht => by omega), hid (fun t d ht hd => by
      have := (List.getElem?_eq_some_iff.1 hd).1
      have := HL.out
      have := HR.out
      omega), hid (Below.refl _ _)⟩
  case round =>
    obtain ⟨lo, hi, rfl, rfl, hlh, hin, hlow, hhigh, hW⟩ := hrel
    have hyr := hy.below hW.out
    by_cases hlt : lo < hi
    · have hmn : (lo + hi) / 2 < gs.length := by have := HL.out; omega
      obtain ⟨g, o, rfl, hg, hcell⟩ := (hs.below hW.out).at_ (by omega)
      have hc0 := hcell ((lo + hi) / 2) hmn
      have hmd : (lo + hi) / 2 < ds.length := by have := HR.out; omega
      have hLk : Hid _ := hid (List.getElem?_eq_getElem (l := ds) (i := (lo + hi) / 2) hmd)
      have hid0 := (hr.below hW.out).at_ _ _ _ (List.getElem?_eq_getElem hmn) (List.getElem?_eq_getElem hmd)
      generalize ds[(lo + hi) / 2] = d at hLk hid0
      generalize gs[(lo + hi) / 2] = gm at hc0 hid0
      have hG := fgorder_any gm gc d y wr hid0 hyr
      clear hs hr hcell hid0 hyr
      have hl := HL.out
      cases hd : dl d y
      · rw [hd] at hG
        simp only [Bool.false_eq_true, if_false] at hG
        go_wp2_with (first | (go_at_call 54; refine hG.mono ?_; rintro e w1 ⟨rfl, hF1⟩))
        go_roundw
        case rel => exact ⟨lo, (lo + hi) / 2, rfl, by rw [show ((lo : Int) + (hi : Int)) / 2 = (((lo + hi) / 2 : Nat) : Int) by omega], by omega, by omega, hlow, hid (fun t e ht he => by
          by_cases ht0 : t = (lo + hi) / 2
          · rw [ht0, hLk.out] at he; cases he; exact hd
          · cases hc : dl e y with
            | false => rfl
            | true =>
              have h1 : dl d e = true := up_get HA.out (by omega) hLk.out he
              rw [dl_trans h1 hc] at hd
              cases hd), hid (below2 hW.out hF1)⟩
        case measure => simp [intOf]; omega
      · rw [hd] at hG
        simp only [if_true] at hG
        go_wp2_with (first | (go_at_call 54; refine hG.mono ?_; rintro e w1 ⟨rfl, hF1⟩))
        go_roundw
        case rel => exact ⟨(lo + hi) / 2 + 1, hi, by rw [show ((lo : Int) + (hi : Int)) / 2 + 1 = (((lo + hi) / 2 + 1 : Nat) : Int) by omega], rfl, by omega, hin, hid (fun t e ht he => by
          by_cases ht0 : t = (lo + hi) / 2
          · rw [ht0, hLk.out] at he; cases he; exact hd
          · exact dl_trans (up_get HA.out (by omega) he hLk.out) hd), hhigh, hid (below2 hW.out hF1)⟩
        case measure => simp [intOf]; omega
    · obtain rfl : hi = lo := by omega
      have hres : Hid (hi = aheadOf ds y) := hid (aheadOf_unique (by have := HL.out; have := HR.out; omega) hlow.out (fun d hd => hhigh.out hi d (Nat.le_refl _) hd))
      by_cases hln : hi < n
      · have hmn : hi < gs.length := by have := HL.out; omega
        obtain ⟨g, o, rfl, hg, hcell⟩ := (hs.below hW.out).at_ (by omega)
        have hc0 := hcell hi hmn
        have hmd : hi < ds.length := by have := HR.out; omega
        have hid0 := (hr.below hW.out).at_ _ _ _ (List.getElem?_eq_getElem hmn) (List.getElem?_eq_getElem hmd)
        have hdf := hhigh.out hi _ (Nat.le_refl _) (List.getElem?_eq_getElem hmd)
        generalize ds[hi] = d at hid0 hdf
        generalize gs[hi] = gm at hc0 hid0
        have hG := fgorder_any gm gc d y wr hid0 hyr
        rw [hdf] at hG
        simp only [Bool.false_eq_true, if_false] at hG
        clear hs hr hcell hid0 hyr
        go_wp2_with (first | (go_at_call 54; refine hG.mono ?_; rintro e w1 ⟨rfl, hF1⟩))
        go_ret2
        exact ⟨by rw [← hres.out]; rfl, below2 hW.out hF1⟩
      · obtain rfl : hi = n := by omega
        clear hs
        go_wp2_with fail
        go_ret2
        exact ⟨by rw [← hres.out]; rfl, hW.out⟩

end Go.Proofs.Ytbpepmajpojacaa
