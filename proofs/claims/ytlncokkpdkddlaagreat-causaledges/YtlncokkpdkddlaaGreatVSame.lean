/- Same, of three makes, and Count: what they tell. -/
import Derived.Test.YtlncokkpdkddlaaGreatWBel
namespace Go.Proofs.YtlncokkpdkddlaaGreat
section
open Go.RowKit
open Go.Sort (grow)

theorem take_prev {L : List Dt} {k : Nat} (hk : k < L.length) (hp : 0 < k) : L.take k = L.take (k - 1) ++ [L[k - 1]] := by
  have := take_snoc (L := L) (k := k - 1) (by omega)
  rw [show k - 1 + 1 = k by omega] at this
  exact this

/-- One step of May. -/
theorem may_step {L : List Dt} {k : Nat} (hk : k < L.length) (h : vmb (L.take k) = true) : vmb (L.take (k + 1)) = (mayd L[k] && (decide (k = 0) || decide ((L[k - 1]'(by omega)).1 < L[k].1))) := by
  rw [take_snoc hk, vmb_snoc h]
  by_cases h0 : k = 0
  · subst h0
    simp
  · have e := take_prev hk (by omega)
    rw [e] at h ⊢
    rw [all_last h]
    simp [h0]

set_option maxRecDepth 100000 in
set_option maxHeartbeats 2000000 in
theorem vmay_any (a : Option Addr) (n c : Nat) (L : List Dt) (w : World) (hs : PS w a n c L) (hn : n ≤ 9223372036854775807) : Tells 74 #[.slice a n c] w (.bool (vmb L)) := by
  have mixed := mixed
  have HL := hid hs.len
  go_enter Tryz.func74, Tryz.ntmps74
  go_wp2
  go_loopw [7] (fun i wr => ∃ k : Nat, k ≤ n ∧ i = .int .i64 k ∧ vmb (L.take k) = true ∧ Far w wr) (fun i _ => n - (intOf i).toNat)
  case atStart => exact ⟨0, by omega, rfl, by rw [List.take_zero]; rfl, Far.refl _⟩
  case round =>
    obtain ⟨k, hk, rfl, htk0, hW⟩ := hrel
    have htk := hid htk0
    clear htk0
    by_cases hlt : k < n
    · have hl := HL.out
      obtain ⟨g, o, rfl, hg, hcell⟩ := (hs.far hW).at (by omega)
      obtain ⟨hc0, hc1⟩ := hcell k (by omega)
      have hst : Hid _ := hid (may_step (L := L) (k := k) (by omega) htk.out)
      have hp0 : 0 < k → wr.cell? ⟨g, o + (k - 1) * 2, none⟩ = some (.int .i64 (L[k - 1]'(by omega)).1) := fun _ => (hcell (k - 1) (by omega)).1
      generalize (L[k]'(by omega)) = d at hc0 hc1 hst
      generalize (L[k - 1]'(by omega)) = p at hp0 hst
      obtain ⟨d1, d2⟩ := d
      obtain ⟨p1, p2⟩ := p
      have HW := hW.alloc (.cells #[.int .i64 d1, .int .i64 d2] 32)
      have hb0 : (wr.alloc (.cells #[.int .i64 d1, .int .i64 d2] 32)).cell? ⟨wr.heap.size, 0, none⟩ = some (.int .i64 d1) := by go_simp
      have hb1 : (wr.alloc (.cells #[.int .i64 d1, .int .i64 d2] 32)).cell? ⟨wr.heap.size, 1, none⟩ = some (.int .i64 d2) := by go_simp
      have hq0 : 0 < k → (wr.alloc (.cells #[.int .i64 d1, .int .i64 d2] 32)).cell? ⟨g, o + (k - 1) * 2, none⟩ = some (.int .i64 p1) := fun h => by rw [World.cell?_alloc_lt _ _ _ hg]; exact hp0 h
      clear hs hcell hl hp0
      go_wp2_with fail
      clear hc0 hc1 hW
      generalize wr.heap.size = q at hb0 hb1 ⊢
      generalize wr.alloc (.cells #[.int .i64 d1, .int .i64 d2] 32) = W1 at HW hb0 hb1 hq0 ⊢
      have E0 := fun m os => cell_grown (cell_in hb0) hb0 m os
      have E1 := fun m os => cell_grown (cell_in hb1) hb1 m os
      have hM := fun m os => tells_q (may_any (d1, d2) (grow (W1.drewN m) os))
      generalize hr : mayd (d1, d2) = r at hM hst
      clear hr hb0 hb1
      cases r
      · refine wp_region_quiet_grown mixed (by kernel_rfl) ?_
        repeat (go_big_quiet_step ((first | (go_at_call 37; exact hM _ _))))
        refine wpQuiet_nil ?_
        intro _ hw'
        obtain ⟨⟨nq, osq⟩, hw''⟩ := hw'
        subst hw''
        simp only []
        go_wp2
        go_ret
        exact ⟨by rw [vmb_take (k + 1) (by rw [hst.out]; rfl)]; rfl, HW.more nq osq⟩
      · by_cases h0 : k = 0
        · subst h0
          refine wp_region_quiet_grown mixed (by kernel_rfl) ?_
          repeat (go_big_quiet_step ((first | (go_at_call 37; exact hM _ _))))
          refine wpQuiet_nil ?_
          intro _ hw'
          obtain ⟨⟨nq, osq⟩, hw''⟩ := hw'
          subst hw''
          simp only []
          go_wp2
          go_roundw
          case rel => exact ⟨1, by omega, by go_num, by have := hst.out; simpa using this, HW.more nq osq⟩
          case measure => simp [intOf]; omega
        · have hq := hq0 (by omega)
          have P0 := fun m os => cell_grown (cell_in hq) hq m os
          have hk1 : (k : Int) - 1 = ((k - 1 : Nat) : Int) := by omega
          have hkp : (0 : Int) < (k : Int) := by omega
          obtain ⟨j, rfl⟩ : ∃ j, k = j + 1 := ⟨k - 1, by omega⟩
          simp only [Nat.add_sub_cancel] at P0 hk1 hst
          have hjn : (j : Int) < (n : Int) := by omega
          have hj0 : (0 : Int) ≤ (j : Int) := by omega
          clear hq hq0
          by_cases hpd : p1 < d1
          · have hge : ¬ (d1 ≤ p1) := by omega
            refine wp_region_quiet_grown mixed (by kernel_rfl) ?_
            repeat (go_big_quiet_step ((first | (go_at_call 37; exact hM _ _))))
            refine wpQuiet_nil ?_
            intro _ hw'
            obtain ⟨⟨nq, osq⟩, hw''⟩ := hw'
            subst hw''
            simp only []
            go_wp2
            go_roundw
            case rel => exact ⟨j + 1 + 1, by omega, by go_num, by have := hst.out; simpa [hpd] using this, HW.more nq osq⟩
            case measure => simp [intOf]; omega
          · have hge : d1 ≤ p1 := by omega
            refine wp_region_quiet_grown mixed (by kernel_rfl) ?_
            repeat (go_big_quiet_step ((first | (go_at_call 37; exact hM _ _))))
            refine wpQuiet_nil ?_
            intro _ hw'
            obtain ⟨⟨nq, osq⟩, hw''⟩ := hw'
            subst hw''
            simp only []
            go_wp2
            go_ret
            exact ⟨by rw [vmb_take (j + 1 + 1) (by rw [hst.out]; simp; omega)]; rfl, HW.more nq osq⟩
    · obtain rfl : k = n := by omega
      go_wp2
      go_ret
      have h := htk.out
      rw [List.take_of_length_le (by rw [HL.out]; exact Nat.le_refl _)] at h
      exact ⟨by rw [h]; rfl, hW⟩

set_option maxRecDepth 100000 in
set_option maxHeartbeats 2000000 in
theorem rvmay_any (a : Option Addr) (n c : Nat) (L : List Dt) (w : World) (hs : PS w a n c L) (hn : n ≤ 9223372036854775807) : Tells 55 #[.slice a n c] w (.bool (vmb L)) := by
  have mixed := mixed
  have HL := hid hs.len
  go_enter Tryz.func55, Tryz.ntmps55
  go_wp2
  go_loopw [3] (fun i wr => ∃ k : Nat, k ≤ n ∧ i = .int .i64 k ∧ vmb (L.take k) = true ∧ Far w wr) (fun i _ => n - (intOf i).toNat)
  case atStart => exact ⟨0, by omega, rfl, by rw [List.take_zero]; rfl, Far.refl _⟩
  case round =>
    obtain ⟨k, hk, rfl, htk0, hW⟩ := hrel
    have htk := hid htk0
    clear htk0
    by_cases hlt : k < n
    · have hl := HL.out
      obtain ⟨g, o, rfl, hg, hcell⟩ := (hs.far hW).at (by omega)
      obtain ⟨hc0, hc1⟩ := hcell k (by omega)
      have hst : Hid _ := hid (may_step (L := L) (k := k) (by omega) htk.out)
      have hp0 : 0 < k → wr.cell? ⟨g, o + (k - 1) * 2, none⟩ = some (.int .i64 (L[k - 1]'(by omega)).1) := fun _ => (hcell (k - 1) (by omega)).1
      generalize (L[k]'(by omega)) = d at hc0 hc1 hst
      generalize (L[k - 1]'(by omega)) = p at hp0 hst
      obtain ⟨d1, d2⟩ := d
      obtain ⟨p1, p2⟩ := p
      have hM := rmay_any (d1, d2) wr
      generalize hr : mayd (d1, d2) = r at hM hst
      clear hs hcell hl hr
      go_wp2_with (first | (go_at_call 49; refine hM.mono ?_; rintro e w1 ⟨rfl, hF1⟩))
      have HW := hW.trans hF1
      have e0 := (hF1.below.cell (p := ⟨g, o + k * 2, none⟩) hg).trans hc0
      have p0 : 0 < k → w1.cell? ⟨g, o + (k - 1) * 2, none⟩ = some (.int .i64 p1) := fun h => (hF1.below.cell (p := ⟨g, o + (k - 1) * 2, none⟩) hg).trans (hp0 h)
      have E0 := fun m os => cell_grown (cell_in e0) e0 m os
      have hk1' : (k : Int) < (n : Int) := by omega
      have hk0' : (0 : Int) ≤ (k : Int) := by omega
      clear hc0 hc1 hM hp0 hW hF1 hg e0
      cases r
      · refine wp_region_quiet_grown mixed (by kernel_rfl) ?_
        repeat (go_big_quiet_step (fail))
        refine wpQuiet_nil ?_
        intro _ hw'
        obtain ⟨⟨nq, osq⟩, hw''⟩ := hw'
        subst hw''
        simp only []
        go_wp2
        go_ret
        exact ⟨by rw [vmb_take (k + 1) (by rw [hst.out]; rfl)]; rfl, HW.more nq osq⟩
      · by_cases h0 : k = 0
        · subst h0
          refine wp_region_quiet_grown mixed (by kernel_rfl) ?_
          repeat (go_big_quiet_step (fail))
          refine wpQuiet_nil ?_
          intro _ hw'
          obtain ⟨⟨nq, osq⟩, hw''⟩ := hw'
          subst hw''
          simp only []
          go_wp2
          go_roundw
          case rel => exact ⟨1, by omega, by go_num, by have := hst.out; simpa using this, HW.more nq osq⟩
          case measure => simp [intOf]; omega
        · have hq := p0 (by omega)
          have P0 := fun m os => cell_grown (cell_in hq) hq m os
          have hk1 : (k : Int) - 1 = ((k - 1 : Nat) : Int) := by omega
          have hkp : (0 : Int) < (k : Int) := by omega
          obtain ⟨j, rfl⟩ : ∃ j, k = j + 1 := ⟨k - 1, by omega⟩
          simp only [Nat.add_sub_cancel] at P0 hk1 hst
          have hjn : (j : Int) < (n : Int) := by omega
          have hj0 : (0 : Int) ≤ (j : Int) := by omega
          clear hq p0
          by_cases hpd : p1 < d1
          · have hge : ¬ (d1 ≤ p1) := by omega
            refine wp_region_quiet_grown mixed (by kernel_rfl) ?_
            repeat (go_big_quiet_step (fail))
            refine wpQuiet_nil ?_
            intro _ hw'
            obtain ⟨⟨nq, osq⟩, hw''⟩ := hw'
            subst hw''
            simp only []
            go_wp2
            go_roundw
            case rel => exact ⟨j + 1 + 1, by omega, by go_num, by have := hst.out; simpa [hpd] using this, HW.more nq osq⟩
            case measure => simp [intOf]; omega
          · have hge : d1 ≤ p1 := by omega
            refine wp_region_quiet_grown mixed (by kernel_rfl) ?_
            repeat (go_big_quiet_step (fail))
            refine wpQuiet_nil ?_
            intro _ hw'
            obtain ⟨⟨nq, osq⟩, hw''⟩ := hw'
            subst hw''
            simp only []
            go_wp2
            go_ret
            exact ⟨by rw [vmb_take (j + 1 + 1) (by rw [hst.out]; simp; omega)]; rfl, HW.more nq osq⟩
    · obtain rfl : k = n := by omega
      go_wp2
      go_ret
      have h := htk.out
      rw [List.take_of_length_le (by rw [HL.out]; exact Nat.le_refl _)] at h
      exact ⟨by rw [h]; rfl, hW⟩

end

section
open Go.RowKit
open Go.Sort (grow)

/-- Below 0, 0 or above 0. -/
def cmpi (x y : Int) : Int := if x < y then -1 else if y < x then 1 else 0

theorem cmp_any (x y : Int) (w : World) : Calls Tryz.prog 73 #[.int .i64 x, .int .i64 y] w fun e w' => e = .returned (.int .i64 (cmpi x y)) ∧ w' = w := by
  by_cases h : x < y
  · go_enter Tryz.func73, Tryz.ntmps73
    go_wp2
    go_ret
    exact ⟨by simp [cmpi, h], rfl⟩
  · by_cases h2 : y < x
    · go_enter Tryz.func73, Tryz.ntmps73
      go_wp2
      go_ret
      exact ⟨by simp [cmpi, h, h2], rfl⟩
    · go_enter Tryz.func73, Tryz.ntmps73
      go_wp2
      go_ret
      exact ⟨by unfold cmpi; rw [if_neg (by omega), if_neg (by omega)]; rfl, rfl⟩

theorem getc_any (d : Dt) (y : Int) (w : World) : Tells 72 #[dv d, .int .i64 y] w (.int .i64 (cmpi d.1 y)) := by
  obtain ⟨d1, d2⟩ := d
  go_enter Tryz.func72, Tryz.ntmps72
  go_wp2_with (first | (go_at_call 73; refine (cmp_any _ _ _).mono ?_; rintro e w1 ⟨rfl, rfl⟩))
  go_ret
  exact ⟨rfl, (Far.refl w).alloc _⟩

theorem cmpi_neg (x y : Int) : (cmpi x y < 0) ↔ x < y := by unfold cmpi; split <;> (try split) <;> omega
theorem cmpi_zero (x y : Int) : (cmpi x y = 0) ↔ x = y := by unfold cmpi; split <;> (try split) <;> omega

/-- Where an actor stands, or would. -/
structure Spot (L : List Dt) (y : Int) (lo : Nat) (f : Bool) : Prop where
  le : lo ≤ L.length
  low : ∀ t d, t < lo → L[t]? = some d → d.1 < y
  high : ∀ t d, lo ≤ t → L[t]? = some d → y ≤ d.1
  there : f = true ↔ ∃ d, L[lo]? = some d ∧ d.1 = y

theorem ac_get {L : List Dt} (h : Ac L) {i j : Nat} {d e : Dt} (hij : i < j) (hi : L[i]? = some d) (hj : L[j]? = some e) : d.1 < e.1 := by
  obtain ⟨h1, rfl⟩ := List.getElem?_eq_some_iff.1 hi
  obtain ⟨h2, rfl⟩ := List.getElem?_eq_some_iff.1 hj
  exact List.pairwise_iff_getElem.1 h i j h1 h2 hij

theorem low_more {L : List Dt} (h : Ac L) {y : Int} {m : Nat} {d : Dt} (hm : L[m]? = some d) (hd : d.1 < y) : ∀ t e, t < m + 1 → L[t]? = some e → e.1 < y := fun t e ht he => by
  rcases Nat.lt_or_ge t m with h1 | h1
  · have := ac_get h h1 he hm
    omega
  · obtain rfl : t = m := by omega
    rw [hm] at he
    cases he
    exact hd

theorem high_more {L : List Dt} (h : Ac L) {y : Int} {m : Nat} {d : Dt} (hm : L[m]? = some d) (hd : y ≤ d.1) : ∀ t e, m ≤ t → L[t]? = some e → y ≤ e.1 := fun t e ht he => by
  rcases Nat.lt_or_ge m t with h1 | h1
  · have := ac_get h h1 hm he
    omega
  · obtain rfl : t = m := by omega
    rw [hm] at he
    cases he
    exact hd

set_option maxRecDepth 100000 in
set_option maxHeartbeats 2000000 in
theorem search_any (a : Option Addr) (n c : Nat) (L : List Dt) (y : Int) (w : World) (hs : PS w a n c L) (hn : n ≤ 140737488355328) (ha : Ac L) :
    Calls Tryz.prog 71 #[.slice a n c, .int .i64 y, .func (.func 72) #[] #[]] w fun e w' => ∃ lo f, e = .returned (.tuple #[.int .i64 (lo : Nat), .bool f]) ∧ Spot L y lo f ∧ Far w w' := by
  have HL := hid hs.len
  have HA := hid ha
  clear ha
  go_enter Tryz.func71, Tryz.ntmps71
  go_wp2
  go_loopw [9, 10] (fun i j wr => ∃ lo hi : Nat, i = .int .i64 lo ∧ j = .int .i64 hi ∧ lo ≤ hi ∧ hi ≤ n ∧ Hid (∀ t d, t < lo → L[t]? = some d → d.1 < y) ∧ Hid (∀ t d, hi ≤ t → L[t]? = some d → y ≤ d.1) ∧ Far w wr) (fun i j _ => (intOf j).toNat - (intOf i).toNat)
  case atStart => exact ⟨0, n, rfl, rfl, by omega, by omega, hid (fun t d ht => by omega), hid (fun t d ht hd => by
      have := (List.getElem?_eq_some_iff.1 hd).1
      have := HL.out
      omega), Far.refl _⟩
  case round =>
    obtain ⟨lo, hi, rfl, rfl, hlh, hin, hlow, hhigh, hW⟩ := hrel
    by_cases hlt : lo < hi
    · have hl := HL.out
      have hmn : (lo + hi) / 2 < n := by omega
      obtain ⟨g, o, rfl, hg, hcell⟩ := (hs.far hW).at (by omega)
      obtain ⟨hc0, hc1⟩ := hcell ((lo + hi) / 2) (by omega)
      have hLk : Hid _ := hid (List.getElem?_eq_getElem (l := L) (i := (lo + hi) / 2) (by omega))
      generalize (L[(lo + hi) / 2]'(by omega)) = d at hc0 hc1 hLk
      obtain ⟨d1, d2⟩ := d
      have hG := getc_any (d1, d2) y wr
      by_cases hd : d1 < y
      · have hcm : cmpi d1 y < 0 := (cmpi_neg d1 y).2 hd
        generalize cmpi (d1, d2).1 y = r at hG hcm
        clear hs hcell hl
        go_wp2_with (first | (go_at_call 72; refine hG.mono ?_; rintro e w1 ⟨rfl, hF1⟩))
        go_roundw
        case rel => exact ⟨(lo + hi) / 2 + 1, hi, by rw [show ((lo : Int) + (hi : Int)) / 2 + 1 = (((lo + hi) / 2 + 1 : Nat) : Int) by omega], rfl, by omega, hin, hid (low_more HA.out hLk.out hd), hhigh, hW.trans hF1⟩
        case measure => simp [intOf]; omega
      · have hcm : ¬ cmpi d1 y < 0 := fun h => hd ((cmpi_neg d1 y).1 h)
        generalize cmpi (d1, d2).1 y = r at hG hcm
        clear hs hcell hl
        go_wp2_with (first | (go_at_call 72; refine hG.mono ?_; rintro e w1 ⟨rfl, hF1⟩))
        go_roundw
        case rel => exact ⟨lo, (lo + hi) / 2, rfl, by rw [show ((lo : Int) + (hi : Int)) / 2 = (((lo + hi) / 2 : Nat) : Int) by omega], by omega, by omega, hlow, hid (high_more HA.out hLk.out (by show y ≤ d1; omega)), hW.trans hF1⟩
        case measure => simp [intOf]; omega
    · obtain rfl : hi = lo := by omega
      by_cases hln : hi < n
      · have hl := HL.out
        obtain ⟨g, o, rfl, hg, hcell⟩ := (hs.far hW).at (by omega)
        obtain ⟨hc0, hc1⟩ := hcell hi (by omega)
        have hLk : Hid _ := hid (List.getElem?_eq_getElem (l := L) (i := hi) (by omega))
        generalize (L[hi]'(by omega)) = d at hc0 hc1 hLk
        obtain ⟨d1, d2⟩ := d
        have hG := getc_any (d1, d2) y wr
        have hz : Hid _ := hid (cmpi_zero d1 y)
        generalize cmpi (d1, d2).1 y = r at hG hz
        clear hs hcell hl
        go_wp2_with (first | (go_at_call 72; refine hG.mono ?_; rintro e w1 ⟨rfl, hF1⟩))
        go_ret2
        refine ⟨hi, decide (r = 0), rfl, ⟨by rw [HL.out]; exact hin, hlow.out, hhigh.out, ?_⟩, hW.trans hF1⟩
        rw [decide_eq_true_iff, hLk.out]
        constructor
        · intro h
          exact ⟨_, rfl, hz.out.1 h⟩
        · rintro ⟨d, hd, e⟩
          cases hd
          exact hz.out.2 e
      · obtain rfl : hi = n := by omega
        clear hs
        go_wp2_with fail
        go_ret2
        refine ⟨hi, false, rfl, ⟨by rw [HL.out]; exact hin, hlow.out, hhigh.out, ?_⟩, hW⟩
        rw [List.getElem?_eq_none (by rw [HL.out]; exact Nat.le_refl _)]
        simp

/-- What stands at the spot. -/
theorem Spot.found {L : List Dt} {y : Int} {lo : Nat} (h : Spot L y lo true) (ha : Ac L) : ∃ d, L[lo]? = some d ∧ gt L y = d.2 := by
  obtain ⟨d, hd, rfl⟩ := h.there.1 rfl
  exact ⟨d, hd, gt_some ha (List.mem_of_getElem? hd)⟩

theorem Spot.missing {L : List Dt} {y : Int} {lo : Nat} (h : Spot L y lo false) (ha : Ac L) : gt L y = 0 := by
  refine gt_none fun d hd e => ?_
  obtain ⟨t, ht⟩ := List.mem_iff_getElem?.1 hd
  rcases Nat.lt_trichotomy t lo with h1 | h1 | h1
  · have := h.low t d h1 ht
    omega
  · subst h1
    have := h.there.2 ⟨d, ht, e⟩
    cases this
  · have hlo : lo < L.length := Nat.lt_trans h1 (List.getElem?_eq_some_iff.1 ht).1
    have h2 := List.getElem?_eq_getElem hlo
    have h3 := h.high lo _ (Nat.le_refl _) h2
    have h4 := ac_get ha h1 h2 ht
    omega

theorem spot_cases {a : Option Addr} {n c : Nat} {L : List Dt} {w w1 : World} {y : Int} {lo : Nat} {f : Bool} (hs : PS w a n c L) (hF : Far w w1) (h : Spot L y lo f) (ha : Ac L) :
    (f = false ∧ Hid (gt L y = 0)) ∨ (f = true ∧ ∃ g o z, a = some ⟨g, o, none⟩ ∧ lo < n ∧ w1.cell? ⟨g, o + lo * 2 + 1, none⟩ = some (.int .i64 z) ∧ Hid (gt L y = z)) := by
  cases f with
  | false => exact .inl ⟨rfl, hid (h.missing ha)⟩
  | true =>
    obtain ⟨d, hd, hg⟩ := h.found ha
    obtain ⟨hlt, rfl⟩ := List.getElem?_eq_some_iff.1 hd
    have hl := hs.len
    obtain ⟨g, o, rfl, hgl, hcell⟩ := (hs.far hF).at (by omega)
    exact .inr ⟨rfl, g, o, _, rfl, by omega, (hcell lo hlt).2, hid hg⟩

set_option maxHeartbeats 140737488355328 in
theorem get_any (a : Option Addr) (n c : Nat) (L : List Dt) (y : Int) (w : World) (hs : PS w a n c L) (hn : n ≤ 140737488355328) (ha : Ac L) : Tells 59 #[.slice a n c, .int .i64 y] w (.int .i64 (gt L y)) := by
  have hS := search_any a n c L y w hs hn ha
  have HA := hid ha
  have HS := hid hs
  clear ha hs
  go_enter Tryz.func59, Tryz.ntmps59
  go_wp2_with (first | (go_at_call 71; refine hS.mono ?_; rintro e w1 ⟨lo, f, rfl, hsp, hF1⟩; rcases spot_cases HS.out hF1 hsp HA.out with ⟨rfl, hz⟩ | ⟨rfl, g, o, z, rfl, hlt, hc1, hz⟩))
  · go_ret
    exact ⟨by rw [hz.out]; rfl, hF1⟩
  · go_ret
    exact ⟨by rw [hz.out]; rfl, hF1⟩

set_option maxHeartbeats 140737488355328 in
theorem rget_any (a : Option Addr) (n c : Nat) (L : List Dt) (y : Int) (w : World) (hs : PS w a n c L) (hn : n ≤ 9223372036854775807) : Calls Tryz.prog 52 #[.slice a n c, .int .i64 y] w fun e w' => e = .returned (.int .i64 (gt L y)) ∧ w' = w := by
  have HL := hid hs.len
  go_enter Tryz.func52, Tryz.ntmps52
  go_wp2
  go_loopw [5] (fun i wr => ∃ k : Nat, k ≤ n ∧ i = .int .i64 k ∧ Hid (gt L y = gt (L.drop k) y) ∧ wr = w) (fun i _ => n - (intOf i).toNat)
  case atStart => exact ⟨0, by omega, rfl, hid (by simp), rfl⟩
  case round =>
    obtain ⟨k, hk, rfl, hgt, hw⟩ := hrel
    have hw2 := hw.symm
    subst hw2
    clear hw
    by_cases hlt : k < n
    · have hl := HL.out
      obtain ⟨g, o, rfl, hg, hcell⟩ := hs.at (by omega)
      obtain ⟨hc0, hc1⟩ := hcell k (by omega)
      have hdr : Hid _ := hid (List.drop_eq_getElem_cons (l := L) (i := k) (by omega))
      generalize (L[k]'(by omega)) = d at hc0 hc1 hdr
      obtain ⟨d1, d2⟩ := d
      clear hcell hl hs
      by_cases hd : d1 = y
      · go_wp2
        go_ret
        exact ⟨by rw [hgt.out, hdr.out]; simp [gt, hd], rfl⟩
      · go_wp2
        go_roundw
        case rel => exact ⟨k + 1, by omega, by go_num, hid (by rw [hgt.out, hdr.out]; simp [gt, hd]), by first | exact trivial | rfl⟩
        case measure => simp [intOf]; omega
    · obtain rfl : k = n := by omega
      go_wp2
      go_ret
      exact ⟨by rw [hgt.out, List.drop_of_length_le (by rw [HL.out]; exact Nat.le_refl _)]; rfl, rfl⟩

theorem rget_far {a : Option Addr} {n c : Nat} {L : List Dt} {y : Int} {w : World} (hs : PS w a n c L) (hn : n ≤ 9223372036854775807) : Tells 52 #[.slice a n c, .int .i64 y] w (.int .i64 (gt L y)) :=
  (rget_any a n c L y w hs hn).mono fun _ _ ⟨he, hw⟩ => ⟨he, by rw [hw]; exact Far.refl _⟩

set_option maxRecDepth 100000 in
set_option maxHeartbeats 140737488355328 in
theorem has_any (a : Option Addr) (n c : Nat) (L : List Dt) (d : Dt) (w : World) (hs : PS w a n c L) (hn : n ≤ 140737488355328) (ha : Ac L) : Tells 39 #[.slice a n c, dv d] w (.bool (hasv L d)) := by
  have mixed := mixed
  obtain ⟨d1, d2⟩ := d
  have HW := (Far.refl w).alloc (.cells #[.int .i64 d1, .int .i64 d2] 32)
  have hb0 : (w.alloc (.cells #[.int .i64 d1, .int .i64 d2] 32)).cell? ⟨w.heap.size, 0, none⟩ = some (.int .i64 d1) := by go_simp
  have hb1 : (w.alloc (.cells #[.int .i64 d1, .int .i64 d2] 32)).cell? ⟨w.heap.size, 1, none⟩ = some (.int .i64 d2) := by go_simp
  have hs1 := hs.far HW
  have hh : Hid (hasv L (d1, d2) = (mayd (d1, d2) && decide (d2 ≤ gt L d1))) := hid rfl
  go_enter Tryz.func39, Tryz.ntmps39
  go_wp2_with fail
  generalize w.heap.size = q at hb0 hb1 ⊢
  generalize w.alloc (.cells #[.int .i64 d1, .int .i64 d2] 32) = W1 at HW hb0 hb1 hs1 ⊢
  have E0 := fun m os => cell_grown (cell_in hb0) hb0 m os
  have E1 := fun m os => cell_grown (cell_in hb1) hb1 m os
  have hM := fun m os => tells_q (may_any (d1, d2) (grow (W1.drewN m) os))
  have hG := fun m os => tells_q (get_any a n c L d1 (grow (W1.drewN m) os) (hs1.far ((Far.refl W1).more m os)) hn ha)
  generalize hr : mayd (d1, d2) = r at hM hh
  generalize gt L d1 = z at hG hh
  clear hr hb0 hb1 hs hs1 ha
  cases r
  all_goals
    refine wp_region_quiet_grown mixed (by kernel_rfl) ?_
    repeat (go_big_quiet_step ((first | (go_at_call 37; exact hM _ _) | (go_at_call 59; exact hG _ _))))
    refine wpQuiet_nil ?_
    intro _ hw'
    obtain ⟨⟨nq, osq⟩, hw''⟩ := hw'
    subst hw''
    simp only []
    go_wp2
    go_ret
    exact ⟨by rw [hh.out]; simp, HW.more nq osq⟩

set_option maxRecDepth 100000 in
set_option maxHeartbeats 140737488355328 in
theorem rhas_any (a : Option Addr) (n c : Nat) (L : List Dt) (d : Dt) (w : World) (hs : PS w a n c L) (hn : n ≤ 9223372036854775807) : Tells 29 #[.slice a n c, dv d] w (.bool (hasv L d)) := by
  have mixed := mixed
  obtain ⟨d1, d2⟩ := d
  have HW := (Far.refl w).alloc (.cells #[.int .i64 d1, .int .i64 d2] 32)
  have hb0 : (w.alloc (.cells #[.int .i64 d1, .int .i64 d2] 32)).cell? ⟨w.heap.size, 0, none⟩ = some (.int .i64 d1) := by go_simp
  have hb1 : (w.alloc (.cells #[.int .i64 d1, .int .i64 d2] 32)).cell? ⟨w.heap.size, 1, none⟩ = some (.int .i64 d2) := by go_simp
  have hh : Hid (hasv L (d1, d2) = (mayd (d1, d2) && decide (d2 ≤ gt L d1))) := hid rfl
  have hM := rmay_any (d1, d2) (w.alloc (.cells #[.int .i64 d1, .int .i64 d2] 32))
  generalize hr : mayd (d1, d2) = r at hM hh
  go_enter Tryz.func29, Tryz.ntmps29
  go_wp2_with (first | (go_at_call 49; refine hM.mono ?_; rintro e w1 ⟨rfl, hF1⟩))
  replace HW := HW.trans hF1
  have b0 := (hF1.below.cell (p := ⟨w.heap.size, 0, none⟩) (cell_in hb0)).trans hb0
  have b1 := (hF1.below.cell (p := ⟨w.heap.size, 1, none⟩) (cell_in hb1)).trans hb1
  have hs1 := hs.far HW
  clear hb0 hb1 hM hF1
  generalize w.heap.size = q at b0 b1 ⊢
  have E0 := fun m os => cell_grown (cell_in b0) b0 m os
  have E1 := fun m os => cell_grown (cell_in b1) b1 m os
  have hG := fun m os => tells_q (rget_far (y := d1) (hs1.far ((Far.refl w1).more m os)) hn)
  generalize gt L d1 = z at hG hh
  clear hr b0 b1 hs hs1
  cases r
  all_goals
    refine wp_region_quiet_grown mixed (by kernel_rfl) ?_
    repeat (go_big_quiet_step ((first | (go_at_call 52; exact hG _ _))))
    refine wpQuiet_nil ?_
    intro _ hw'
    obtain ⟨⟨nq, osq⟩, hw''⟩ := hw'
    subst hw''
    simp only []
    go_wp2
    go_ret
    exact ⟨by rw [hh.out]; simp, HW.more nq osq⟩

end

section
open Go.RowKit
open Go.Sort (grow)

theorem PS.drewN {w : World} {a : Option Addr} {n c : Nat} {L : List Dt} (h : PS w a n c L) (q : Nat) : PS (w.drewN q) a n c L :=
  ⟨h.len, h.cap, h.max, h.nil, h.cells⟩

theorem drew_more {w wr : World} (h : ∃ q, wr = w.drewN q) (n : Nat) : ∃ q, wr.drewN n = w.drewN q := by
  obtain ⟨q, rfl⟩ := h
  exact ⟨_, World.drewN_drewN _ _ _⟩

set_option maxHeartbeats 2000000 in
theorem rsame_drew (a : Option Addr) (n c : Nat) (L : List Dt) (a' : Option Addr) (n' c' : Nat) (M : List Dt) (w : World) (hs : PS w a n c L) (hs' : PS w a' n' c' M) (hn : n ≤ 9223372036854775807) (hn' : n' ≤ 9223372036854775807) :
    Calls Tryz.prog 51 #[.slice a n c, .slice a' n' c'] w fun e w' => e = .returned (.bool (decide (L = M))) ∧ ∃ q, w' = w.drewN q := by
  have mixed := mixed
  have hl := hs.len
  have hl' := hs'.len
  by_cases hnn : n = n'
  · subst hnn
    go_enter Tryz.func51, Tryz.ntmps51
    go_wp2
    have HL := hid hl
    have HL' := hid hl'
    clear hl hl'
    go_loopw [5] (fun i wr => ∃ k : Nat, k ≤ n ∧ i = .int .i64 k ∧ L.take k = M.take k ∧ ∃ q, wr = w.drewN q) (fun i _ => n - (intOf i).toNat)
    case atStart => exact ⟨0, by omega, rfl, by simp, 0, rfl⟩
    case round =>
      obtain ⟨k, hk, rfl, htk0, hw0⟩ := hrel
      have hW := hid hw0
      clear hw0
      have htk := hid htk0
      clear htk0
      by_cases hlt : k < n
      · have hl := HL.out
        have hl' := HL'.out
        have hs1 : PS wr a n c L := by obtain ⟨q, hq⟩ := hW.out; rw [hq]; exact hs.drewN q
        have hs1' : PS wr a' n c' M := by obtain ⟨q, hq⟩ := hW.out; rw [hq]; exact hs'.drewN q
        obtain ⟨g, o, rfl, hg, hcell⟩ := hs1.at (by omega)
        obtain ⟨g', o', rfl, hg', hcell'⟩ := hs1'.at (by omega)
        obtain ⟨hc0, hc1⟩ := hcell k (by omega)
        obtain ⟨hd0, hd1⟩ := hcell' k (by omega)
        have hts : Hid _ := hid (take_snoc (L := L) (k := k) (by omega))
        have hts' : Hid _ := hid (take_snoc (L := M) (k := k) (by omega))
        have hLk : Hid _ := hid (List.getElem?_eq_getElem (l := L) (i := k) (by omega))
        have hMk : Hid _ := hid (List.getElem?_eq_getElem (l := M) (i := k) (by omega))
        generalize (L[k]'(by omega)) = d at hc0 hc1 hts hLk
        generalize (M[k]'(by omega)) = e at hd0 hd1 hts' hMk
        clear hs hs' hcell hcell' hl hl' hs1 hs1'
        obtain ⟨d1, d2⟩ := d
        obtain ⟨e1, e2⟩ := e
        have C0 : ∀ m, (wr.drewN m).cell? ⟨g, o + k * 2, none⟩ = some (.int .i64 d1) := fun _ => hc0
        have C1 : ∀ m, (wr.drewN m).cell? ⟨g, o + k * 2 + 1, none⟩ = some (.int .i64 d2) := fun _ => hc1
        have E0 : ∀ m, (wr.drewN m).cell? ⟨g', o' + k * 2, none⟩ = some (.int .i64 e1) := fun _ => hd0
        have E1 : ∀ m, (wr.drewN m).cell? ⟨g', o' + k * 2 + 1, none⟩ = some (.int .i64 e2) := fun _ => hd1
        have hk1 : (k : Int) < (n : Int) := by omega
        have hk0 : (0 : Int) ≤ (k : Int) := by omega
        by_cases h1 : d1 = e1
        · subst h1
          by_cases h2 : d2 = e2
          · subst h2
            go_wp2_with fail
            go_quiet (fail)
            go_wp2
            go_roundw
            case rel => exact ⟨k + 1, by omega, by go_num, by rw [hts.out, hts'.out, htk.out], drew_more hW.out _⟩
            case measure => simp [intOf]; omega
          · go_wp2_with fail
            go_quiet (fail)
            go_wp2
            go_ret
            refine ⟨?_, drew_more hW.out _⟩
            have : L ≠ M := fun e => by
              have h := hLk.out
              rw [e, hMk.out] at h
              simp at h
              exact h2 h.symm
            simp [this]
        · go_wp2_with fail
          go_quiet (fail)
          go_wp2
          go_ret
          refine ⟨?_, drew_more hW.out _⟩
          have : L ≠ M := fun e => by
            have h := hLk.out
            rw [e, hMk.out] at h
            simp at h
            exact h1 h.1.symm
          simp [this]
      · obtain rfl : k = n := by omega
        go_wp2
        go_ret
        have h := htk.out
        rw [List.take_of_length_le (by rw [HL.out]; exact Nat.le_refl _), List.take_of_length_le (by rw [HL'.out]; exact Nat.le_refl _)] at h
        exact ⟨by simp [h], hW.out⟩
  · have hz : L ≠ M := fun e => hnn (by rw [← hl, ← hl', e])
    clear hl hl' hs hs'
    go_enter Tryz.func51, Tryz.ntmps51
    go_wp2
    go_ret
    exact ⟨by simp [hz], 0, rfl⟩

theorem far_of_drew {w w' : World} (h : ∃ q, w' = w.drewN q) : Far w w' := by
  obtain ⟨q, rfl⟩ := h
  exact (Far.refl w).drewN q

section
variable {a a' : Option Addr} {n c n' c' : Nat} {L M : List Dt} {w : World}
theorem rsame_any (hs : PS w a n c L) (hn : n ≤ 9223372036854775807) (hs' : PS w a' n' c' M) (hn' : n' ≤ 9223372036854775807) : Tells 51 #[.slice a n c, .slice a' n' c'] w (.bool (decide (L = M))) :=
  (rsame_drew a n c L a' n' c' M w hs hs' hn hn').mono fun _ _ ⟨he, hw⟩ => ⟨he, far_of_drew hw⟩
end

theorem VM.take {L : List Dt} (h : VM L) (k : Nat) : VM (L.take k) := ⟨h.ac.sublist (List.take_sublist k L), fun d hd => h.may d (List.mem_of_mem_take hd)⟩


end
end Go.Proofs.YtlncokkpdkddlaaGreat
