/- Same, of three makes, and Count: what they tell. -/
import Derived.Test.YtbpepmajpojacaaVBase
namespace Go.Proofs.Ytbpepmajpojacaa
section
open Go.RowKit
open Go.Sort (grow)

theorem take_prev {L : List Dt} {k : Nat} (hk : k < L.length) (hp : 0 < k) : L.take k = L.take (k - 1) ++ [L[k - 1]] := by
  have := take_snoc (L := L) (k := k - 1) (by omega)
  rw [show k - 1 + 1 = k by omega] at this
  exact this

/-- One step of May. -/
theorem may_step {L : List Dt} {k : Nat} (hk : k < L.length) (h : vmb (L.take k) = true) : vmb (L.take (k + 1)) = (mayd L[k] && (decide (k = 0) || decide ((L[k - 1]'(by omega)).1 < L[k].1))) := by
  rw [take_snoc hk, vmb_snoc h]
  by_cases h0 : k = 0
  · subst h0
    simp
  · have e := take_prev hk (by omega)
    rw [e] at h ⊢
    rw [all_last h]
    simp [h0]

set_option maxRecDepth 100000 in
set_option maxHeartbeats 2000000 in
theorem rvmay_any (a : Option Addr) (n c : Nat) (L : List Dt) (w : World) (hs : PS w a n c L) (hn : n ≤ 9223372036854775807) : Tells 65 #[.slice a n c] w (.bool (vmb L)) := by
  have mixed := mixed
  have HL := hid hs.len
  go_enter Try.func65, Try.ntmps65
  go_wp2
  go_loopw [3] (fun i wr => ∃ k : Nat, k ≤ n ∧ i = .int .i64 k ∧ vmb (L.take k) = true ∧ Far w wr) (fun i _ => n - (intOf i).toNat)
  case atStart => exact ⟨0, by omega, rfl, by rw [List.take_zero]; rfl, Far.refl _⟩
  case round =>
    obtain ⟨k, hk, rfl, htk0, hW⟩ := hrel
    have htk := hid htk0
    clear htk0
    by_cases hlt : k < n
    · have hl := HL.out
      obtain ⟨g, o, rfl, hg, hcell⟩ := (hs.far hW).at (by omega)
      obtain ⟨hc0, hc1⟩ := hcell k (by omega)
      have hst : Hid _ := hid (may_step (L := L) (k := k) (by omega) htk.out)
      have hp0 : 0 < k → wr.cell? ⟨g, o + (k - 1) * 2, none⟩ = some (.int .i64 (L[k - 1]'(by omega)).1) := fun _ => (hcell (k - 1) (by omega)).1
      generalize (L[k]'(by omega)) = d at hc0 hc1 hst
      generalize (L[k - 1]'(by omega)) = p at hp0 hst
      obtain ⟨d1, d2⟩ := d
      obtain ⟨p1, p2⟩ := p
      have hM := rmay_any (d1, d2) wr
      generalize hr : mayd (d1, d2) = r at hM hst
      clear hs hcell hl hr
      go_wp2_with (first | (go_at_call 60; refine hM.mono ?_; rintro e w1 ⟨rfl, hF1⟩))
      have HW := hW.trans hF1
      have e0 := (hF1.below.cell (p := ⟨g, o + k * 2, none⟩) hg).trans hc0
      have p0 : 0 < k → w1.cell? ⟨g, o + (k - 1) * 2, none⟩ = some (.int .i64 p1) := fun h => (hF1.below.cell (p := ⟨g, o + (k - 1) * 2, none⟩) hg).trans (hp0 h)
      have E0 := fun m os => cell_grown (cell_in e0) e0 m os
      have hk1' : (k : Int) < (n : Int) := by omega
      have hk0' : (0 : Int) ≤ (k : Int) := by omega
      clear hc0 hc1 hM hp0 hW hF1 hg e0
      cases r
      · refine wp_region_quiet_grown mixed (by kernel_rfl) ?_
        repeat (go_big_quiet_step (fail))
        refine wpQuiet_nil ?_
        intro _ hw'
        obtain ⟨⟨nq, osq⟩, hw''⟩ := hw'
        subst hw''
        simp only []
        go_wp2
        go_ret
        exact ⟨by rw [vmb_take (k + 1) (by rw [hst.out]; rfl)]; rfl, HW.more nq osq⟩
      · by_cases h0 : k = 0
        · subst h0
          refine wp_region_quiet_grown mixed (by kernel_rfl) ?_
          repeat (go_big_quiet_step (fail))
          refine wpQuiet_nil ?_
          intro _ hw'
          obtain ⟨⟨nq, osq⟩, hw''⟩ := hw'
          subst hw''
          simp only []
          go_wp2
          go_roundw
          case rel => exact ⟨1, by omega, by go_num, by have := hst.out; simpa using this, HW.more nq osq⟩
          case measure => simp [intOf]; omega
        · have hq := p0 (by omega)
          have P0 := fun m os => cell_grown (cell_in hq) hq m os
          have hk1 : (k : Int) - 1 = ((k - 1 : Nat) : Int) := by omega
          have hkp : (0 : Int) < (k : Int) := by omega
          obtain ⟨j, rfl⟩ : ∃ j, k = j + 1 := ⟨k - 1, by omega⟩
          simp only [Nat.add_sub_cancel] at P0 hk1 hst
          have hjn : (j : Int) < (n : Int) := by omega
          have hj0 : (0 : Int) ≤ (j : Int) := by omega
          clear hq p0
          by_cases hpd : p1 < d1
          · have hge : ¬ (d1 ≤ p1) := by omega
            refine wp_region_quiet_grown mixed (by kernel_rfl) ?_
            repeat (go_big_quiet_step (fail))
            refine wpQuiet_nil ?_
            intro _ hw'
            obtain ⟨⟨nq, osq⟩, hw''⟩ := hw'
            subst hw''
            simp only []
            go_wp2
            go_roundw
            case rel => exact ⟨j + 1 + 1, by omega, by go_num, by have := hst.out; simpa [hpd] using this, HW.more nq osq⟩
            case measure => simp [intOf]; omega
          · have hge : d1 ≤ p1 := by omega
            refine wp_region_quiet_grown mixed (by kernel_rfl) ?_
            repeat (go_big_quiet_step (fail))
            refine wpQuiet_nil ?_
            intro _ hw'
            obtain ⟨⟨nq, osq⟩, hw''⟩ := hw'
            subst hw''
            simp only []
            go_wp2
            go_ret
            exact ⟨by rw [vmb_take (j + 1 + 1) (by rw [hst.out]; simp; omega)]; rfl, HW.more nq osq⟩
    · obtain rfl : k = n := by omega
      go_wp2
      go_ret
      have h := htk.out
      rw [List.take_of_length_le (by rw [HL.out]; exact Nat.le_refl _)] at h
      exact ⟨by rw [h]; rfl, hW⟩


end

section
open Go.RowKit
open Go.Sort (grow)

/-- Below 0, 0 or above 0. -/
def cmpi (x y : Int) : Int := if x < y then -1 else if y < x then 1 else 0

theorem cmpi_neg (x y : Int) : (cmpi x y < 0) ↔ x < y := by unfold cmpi; split <;> (try split) <;> omega
theorem cmpi_zero (x y : Int) : (cmpi x y = 0) ↔ x = y := by unfold cmpi; split <;> (try split) <;> omega

/-- Where an actor stands, or would. -/
structure Spot (L : List Dt) (y : Int) (lo : Nat) (f : Bool) : Prop where
  le : lo ≤ L.length
  low : ∀ t d, t < lo → L[t]? = some d → d.1 < y
  high : ∀ t d, lo ≤ t → L[t]? = some d → y ≤ d.1
  there : f = true ↔ ∃ d, L[lo]? = some d ∧ d.1 = y

theorem ac_get {L : List Dt} (h : Ac L) {i j : Nat} {d e : Dt} (hij : i < j) (hi : L[i]? = some d) (hj : L[j]? = some e) : d.1 < e.1 := by
  obtain ⟨h1, rfl⟩ := List.getElem?_eq_some_iff.1 hi
  obtain ⟨h2, rfl⟩ := List.getElem?_eq_some_iff.1 hj
  exact List.pairwise_iff_getElem.1 h i j h1 h2 hij

theorem low_more {L : List Dt} (h : Ac L) {y : Int} {m : Nat} {d : Dt} (hm : L[m]? = some d) (hd : d.1 < y) : ∀ t e, t < m + 1 → L[t]? = some e → e.1 < y := fun t e ht he => by
  rcases Nat.lt_or_ge t m with h1 | h1
  · have := ac_get h h1 he hm
    omega
  · obtain rfl : t = m := by omega
    rw [hm] at he
    cases he
    exact hd

theorem high_more {L : List Dt} (h : Ac L) {y : Int} {m : Nat} {d : Dt} (hm : L[m]? = some d) (hd : y ≤ d.1) : ∀ t e, m ≤ t → L[t]? = some e → y ≤ e.1 := fun t e ht he => by
  rcases Nat.lt_or_ge m t with h1 | h1
  · have := ac_get h h1 hm he
    omega
  · obtain rfl : t = m := by omega
    rw [hm] at he
    cases he
    exact hd

/-- What stands at the spot. -/
theorem Spot.found {L : List Dt} {y : Int} {lo : Nat} (h : Spot L y lo true) (ha : Ac L) : ∃ d, L[lo]? = some d ∧ gt L y = d.2 := by
  obtain ⟨d, hd, rfl⟩ := h.there.1 rfl
  exact ⟨d, hd, gt_some ha (List.mem_of_getElem? hd)⟩

theorem Spot.missing {L : List Dt} {y : Int} {lo : Nat} (h : Spot L y lo false) (ha : Ac L) : gt L y = 0 := by
  refine gt_none fun d hd e => ?_
  obtain ⟨t, ht⟩ := List.mem_iff_getElem?.1 hd
  rcases Nat.lt_trichotomy t lo with h1 | h1 | h1
  · have := h.low t d h1 ht
    omega
  · subst h1
    have := h.there.2 ⟨d, ht, e⟩
    cases this
  · have hlo : lo < L.length := Nat.lt_trans h1 (List.getElem?_eq_some_iff.1 ht).1
    have h2 := List.getElem?_eq_getElem hlo
    have h3 := h.high lo _ (Nat.le_refl _) h2
    have h4 := ac_get ha h1 h2 ht
    omega

theorem spot_cases {a : Option Addr} {n c : Nat} {L : List Dt} {w w1 : World} {y : Int} {lo : Nat} {f : Bool} (hs : PS w a n c L) (hF : Far w w1) (h : Spot L y lo f) (ha : Ac L) :
    (f = false ∧ Hid (gt L y = 0)) ∨ (f = true ∧ ∃ g o z, a = some ⟨g, o, none⟩ ∧ lo < n ∧ w1.cell? ⟨g, o + lo * 2 + 1, none⟩ = some (.int .i64 z) ∧ Hid (gt L y = z)) := by
  cases f with
  | false => exact .inl ⟨rfl, hid (h.missing ha)⟩
  | true =>
    obtain ⟨d, hd, hg⟩ := h.found ha
    obtain ⟨hlt, rfl⟩ := List.getElem?_eq_some_iff.1 hd
    have hl := hs.len
    obtain ⟨g, o, rfl, hgl, hcell⟩ := (hs.far hF).at (by omega)
    exact .inr ⟨rfl, g, o, _, rfl, by omega, (hcell lo hlt).2, hid hg⟩

set_option maxHeartbeats 140737488355328 in
theorem rget_any (a : Option Addr) (n c : Nat) (L : List Dt) (y : Int) (w : World) (hs : PS w a n c L) (hn : n ≤ 9223372036854775807) : Calls Try.prog 59 #[.slice a n c, .int .i64 y] w fun e w' => e = .returned (.int .i64 (gt L y)) ∧ w' = w := by
  have HL := hid hs.len
  go_enter Try.func59, Try.ntmps59
  go_wp2
  go_loopw [5] (fun i wr => ∃ k : Nat, k ≤ n ∧ i = .int .i64 k ∧ Hid (gt L y = gt (L.drop k) y) ∧ wr = w) (fun i _ => n - (intOf i).toNat)
  case atStart => exact ⟨0, by omega, rfl, hid (by simp), rfl⟩
  case round =>
    obtain ⟨k, hk, rfl, hgt, hw⟩ := hrel
    have hw2 := hw.symm
    subst hw2
    clear hw
    by_cases hlt : k < n
    · have hl := HL.out
      obtain ⟨g, o, rfl, hg, hcell⟩ := hs.at (by omega)
      obtain ⟨hc0, hc1⟩ := hcell k (by omega)
      have hdr : Hid _ := hid (List.drop_eq_getElem_cons (l := L) (i := k) (by omega))
      generalize (L[k]'(by omega)) = d at hc0 hc1 hdr
      obtain ⟨d1, d2⟩ := d
      clear hcell hl hs
      by_cases hd : d1 = y
      · go_wp2
        go_ret
        exact ⟨by rw [hgt.out, hdr.out]; simp [gt, hd], rfl⟩
      · go_wp2
        go_roundw
        case rel => exact ⟨k + 1, by omega, by go_num, hid (by rw [hgt.out, hdr.out]; simp [gt, hd]), by first | exact trivial | rfl⟩
        case measure => simp [intOf]; omega
    · obtain rfl : k = n := by omega
      go_wp2
      go_ret
      exact ⟨by rw [hgt.out, List.drop_of_length_le (by rw [HL.out]; exact Nat.le_refl _)]; rfl, rfl⟩

theorem rget_far {a : Option Addr} {n c : Nat} {L : List Dt} {y : Int} {w : World} (hs : PS w a n c L) (hn : n ≤ 9223372036854775807) : Tells 59 #[.slice a n c, .int .i64 y] w (.int .i64 (gt L y)) :=
  (rget_any a n c L y w hs hn).mono fun _ _ ⟨he, hw⟩ => ⟨he, by rw [hw]; exact Far.refl _⟩

set_option maxRecDepth 100000 in
set_option maxHeartbeats 140737488355328 in
theorem rhas_any (a : Option Addr) (n c : Nat) (L : List Dt) (d : Dt) (w : World) (hs : PS w a n c L) (hn : n ≤ 9223372036854775807) : Tells 63 #[.slice a n c, dv d] w (.bool (hasv L d)) := by
  have mixed := mixed
  obtain ⟨d1, d2⟩ := d
  have HW := (Far.refl w).alloc (.cells #[.int .i64 d1, .int .i64 d2] 24)
  have hb0 : (w.alloc (.cells #[.int .i64 d1, .int .i64 d2] 24)).cell? ⟨w.heap.size, 0, none⟩ = some (.int .i64 d1) := by go_simp
  have hb1 : (w.alloc (.cells #[.int .i64 d1, .int .i64 d2] 24)).cell? ⟨w.heap.size, 1, none⟩ = some (.int .i64 d2) := by go_simp
  have hh : Hid (hasv L (d1, d2) = (mayd (d1, d2) && decide (d2 ≤ gt L d1))) := hid rfl
  have hM := rmay_any (d1, d2) (w.alloc (.cells #[.int .i64 d1, .int .i64 d2] 24))
  generalize hr : mayd (d1, d2) = r at hM hh
  go_enter Try.func63, Try.ntmps63
  go_wp2_with (first | (go_at_call 60; refine hM.mono ?_; rintro e w1 ⟨rfl, hF1⟩))
  replace HW := HW.trans hF1
  have b0 := (hF1.below.cell (p := ⟨w.heap.size, 0, none⟩) (cell_in hb0)).trans hb0
  have b1 := (hF1.below.cell (p := ⟨w.heap.size, 1, none⟩) (cell_in hb1)).trans hb1
  have hs1 := hs.far HW
  clear hb0 hb1 hM hF1
  generalize w.heap.size = q at b0 b1 ⊢
  have E0 := fun m os => cell_grown (cell_in b0) b0 m os
  have E1 := fun m os => cell_grown (cell_in b1) b1 m os
  have hG := fun m os => tells_q (rget_far (y := d1) (hs1.far ((Far.refl w1).more m os)) hn)
  generalize gt L d1 = z at hG hh
  clear hr b0 b1 hs hs1
  cases r
  all_goals
    refine wp_region_quiet_grown mixed (by kernel_rfl) ?_
    repeat (go_big_quiet_step ((first | (go_at_call 59; exact hG _ _))))
    refine wpQuiet_nil ?_
    intro _ hw'
    obtain ⟨⟨nq, osq⟩, hw''⟩ := hw'
    subst hw''
    simp only []
    go_wp2
    go_ret
    exact ⟨by rw [hh.out]; simp, HW.more nq osq⟩


end

section
open Go.RowKit
open Go.Sort (grow)

theorem PS.drewN {w : World} {a : Option Addr} {n c : Nat} {L : List Dt} (h : PS w a n c L) (q : Nat) : PS (w.drewN q) a n c L :=
  ⟨h.len, h.cap, h.max, h.nil, h.cells⟩

theorem drew_more {w wr : World} (h : ∃ q, wr = w.drewN q) (n : Nat) : ∃ q, wr.drewN n = w.drewN q := by
  obtain ⟨q, rfl⟩ := h
  exact ⟨_, World.drewN_drewN _ _ _⟩

theorem far_of_drew {w w' : World} (h : ∃ q, w' = w.drewN q) : Far w w' := by
  obtain ⟨q, rfl⟩ := h
  exact (Far.refl w).drewN q

section
variable {a a' : Option Addr} {n c n' c' : Nat} {L M : List Dt} {w : World}
end

theorem VM.take {L : List Dt} (h : VM L) (k : Nat) : VM (L.take k) := ⟨h.ac.sublist (List.take_sublist k L), fun d hd => h.may d (List.mem_of_mem_take hd)⟩


end
end Go.Proofs.Ytbpepmajpojacaa
