/- Get and Has, by the library's search, and the reference's: what they tell of a vector. -/
import Derived.Test.YtboaofaileafdaaVMay
namespace Go.Proofs.Ytboaofaileafdaa
open Go.RowKit
open Go.Sort (grow)

/-- Below 0, 0 or above 0. -/
def cmpi (x y : Int) : Int := if x < y then -1 else if y < x then 1 else 0

theorem cmpi_neg (x y : Int) : (cmpi x y < 0) ↔ x < y := by unfold cmpi; split <;> (try split) <;> omega
theorem cmpi_zero (x y : Int) : (cmpi x y = 0) ↔ x = y := by unfold cmpi; split <;> (try split) <;> omega

/-- Where an actor stands, or would. -/
structure Spot (L : List Dt) (y : Int) (lo : Nat) (f : Bool) : Prop where
  le : lo ≤ L.length
  low : ∀ t d, t < lo → L[t]? = some d → d.1 < y
  high : ∀ t d, lo ≤ t → L[t]? = some d → y ≤ d.1
  there : f = true ↔ ∃ d, L[lo]? = some d ∧ d.1 = y

theorem ac_get {L : List Dt} (h : Ac L) {i j : Nat} {d e : Dt} (hij : i < j) (hi : L[i]? = some d) (hj : L[j]? = some e) : d.1 < e.1 := by
  obtain ⟨h1, rfl⟩ := List.getElem?_eq_some_iff.1 hi
  obtain ⟨h2, rfl⟩ := List.getElem?_eq_some_iff.1 hj
  exact List.pairwise_iff_getElem.1 h i j h1 h2 hij

theorem low_more {L : List Dt} (h : Ac L) {y : Int} {m : Nat} {d : Dt} (hm : L[m]? = some d) (hd : d.1 < y) : ∀ t e, t < m + 1 → L[t]? = some e → e.1 < y := fun t e ht he => by
  rcases Nat.lt_or_ge t m with h1 | h1
  · have := ac_get h h1 he hm
    omega
  · obtain rfl : t = m := by omega
    rw [hm] at he
    cases he
    exact hd

theorem high_more {L : List Dt} (h : Ac L) {y : Int} {m : Nat} {d : Dt} (hm : L[m]? = some d) (hd : y ≤ d.1) : ∀ t e, m ≤ t → L[t]? = some e → y ≤ e.1 := fun t e ht he => by
  rcases Nat.lt_or_ge m t with h1 | h1
  · have := ac_get h h1 hm he
    omega
  · obtain rfl : t = m := by omega
    rw [hm] at he
    cases he
    exact hd

/-- What stands at the spot. -/
theorem Spot.found {L : List Dt} {y : Int} {lo : Nat} (h : Spot L y lo true) (ha : Ac L) : ∃ d, L[lo]? = some d ∧ gt L y = d.2 := by
  obtain ⟨d, hd, rfl⟩ := h.there.1 rfl
  exact ⟨d, hd, gt_some ha (List.mem_of_getElem? hd)⟩

theorem Spot.missing {L : List Dt} {y : Int} {lo : Nat} (h : Spot L y lo false) (ha : Ac L) : gt L y = 0 := by
  refine gt_none fun d hd e => ?_
  obtain ⟨t, ht⟩ := List.mem_iff_getElem?.1 hd
  rcases Nat.lt_trichotomy t lo with h1 | h1 | h1
  · have := h.low t d h1 ht
    omega
  · subst h1
    have := h.there.2 ⟨d, ht, e⟩
    cases this
  · have hlo : lo < L.length := Nat.lt_trans h1 (List.getElem?_eq_some_iff.1 ht).1
    have h2 := List.getElem?_eq_getElem hlo
    have h3 := h.high lo _ (Nat.le_refl _) h2
    have h4 := ac_get ha h1 h2 ht
    omega

theorem spot_cases {a : Option Addr} {n c : Nat} {L : List Dt} {w w1 : World} {y : Int} {lo : Nat} {f : Bool} (hs : PS w a n c L) (hF : Far w w1) (h : Spot L y lo f) (ha : Ac L) :
    (f = false ∧ Hid (gt L y = 0)) ∨ (f = true ∧ ∃ g o z, a = some ⟨g, o, none⟩ ∧ lo < n ∧ w1.cell? ⟨g, o + lo * 2 + 1, none⟩ = some (.int .i64 z) ∧ Hid (gt L y = z)) := by
  cases f with
  | false => exact .inl ⟨rfl, hid (h.missing ha)⟩
  | true =>
    obtain ⟨d, hd, hg⟩ := h.found ha
    obtain ⟨hlt, rfl⟩ := List.getElem?_eq_some_iff.1 hd
    have hl := hs.len
    obtain ⟨g, o, rfl, hgl, hcell⟩ := (hs.far hF).at (by omega)
    exact .inr ⟨rfl, g, o, _, rfl, by omega, (hcell lo hlt).2, hid hg⟩

set_option maxHeartbeats 140737488355328 in
theorem rget_any (a : Option Addr) (n c : Nat) (L : List Dt) (y : Int) (w : World) (hs : PS w a n c L) (hn : n ≤ 9223372036854775807) : Calls Try.prog 59 #[.slice a n c, .int .i64 y] w fun e w' => e = .returned (.int .i64 (gt L y)) ∧ w' = w := by
  have HL := hid hs.len
  go_enter Try.func59, Try.ntmps59
  go_wp2
  go_loopw [5] (fun i wr => ∃ k : Nat, k ≤ n ∧ i = .int .i64 k ∧ Hid (gt L y = gt (L.drop k) y) ∧ wr = w) (fun i _ => n - (intOf i).toNat)
  case atStart => exact ⟨0, by omega, rfl, hid (by simp), rfl⟩
  case round =>
    obtain ⟨k, hk, rfl, hgt, hw⟩ := hrel
    have hw2 := hw.symm
    subst hw2
    clear hw
    by_cases hlt : k < n
    · have hl := HL.out
      obtain ⟨g, o, rfl, hg, hcell⟩ := hs.at (by omega)
      obtain ⟨hc0, hc1⟩ := hcell k (by omega)
      have hdr : Hid _ := hid (List.drop_eq_getElem_cons (l := L) (i := k) (by omega))
      generalize (L[k]'(by omega)) = d at hc0 hc1 hdr
      obtain ⟨d1, d2⟩ := d
      clear hcell hl hs
      by_cases hd : d1 = y
      · go_wp2
        go_ret
        exact ⟨by rw [hgt.out, hdr.out]; simp [gt, hd], rfl⟩
      · go_wp2
        go_roundw
        case rel => exact ⟨k + 1, by omega, by go_num, hid (by rw [hgt.out, hdr.out]; simp [gt, hd]), by first | exact trivial | rfl⟩
        case measure => simp [intOf]; omega
    · obtain rfl : k = n := by omega
      go_wp2
      go_ret
      exact ⟨by rw [hgt.out, List.drop_of_length_le (by rw [HL.out]; exact Nat.le_refl _)]; rfl, rfl⟩

theorem rget_far {a : Option Addr} {n c : Nat} {L : List Dt} {y : Int} {w : World} (hs : PS w a n c L) (hn : n ≤ 9223372036854775807) : Tells 59 #[.slice a n c, .int .i64 y] w (.int .i64 (gt L y)) :=
  (rget_any a n c L y w hs hn).mono fun _ _ ⟨he, hw⟩ => ⟨he, by rw [hw]; exact Far.refl _⟩

set_option maxRecDepth 100000 in
set_option maxHeartbeats 140737488355328 in
theorem rhas_any (a : Option Addr) (n c : Nat) (L : List Dt) (d : Dt) (w : World) (hs : PS w a n c L) (hn : n ≤ 9223372036854775807) : Tells 63 #[.slice a n c, dv d] w (.bool (hasv L d)) := by
  have mixed := mixed
  obtain ⟨d1, d2⟩ := d
  have HW := (Far.refl w).alloc (.cells #[.int .i64 d1, .int .i64 d2] 24)
  have hb0 : (w.alloc (.cells #[.int .i64 d1, .int .i64 d2] 24)).cell? ⟨w.heap.size, 0, none⟩ = some (.int .i64 d1) := by go_simp
  have hb1 : (w.alloc (.cells #[.int .i64 d1, .int .i64 d2] 24)).cell? ⟨w.heap.size, 1, none⟩ = some (.int .i64 d2) := by go_simp
  have hh : Hid (hasv L (d1, d2) = (mayd (d1, d2) && decide (d2 ≤ gt L d1))) := hid rfl
  have hM := rmay_any (d1, d2) (w.alloc (.cells #[.int .i64 d1, .int .i64 d2] 24))
  generalize hr : mayd (d1, d2) = r at hM hh
  go_enter Try.func63, Try.ntmps63
  go_wp2_with (first | (go_at_call 60; refine hM.mono ?_; rintro e w1 ⟨rfl, hF1⟩))
  replace HW := HW.trans hF1
  have b0 := (hF1.below.cell (p := ⟨w.heap.size, 0, none⟩) (cell_in hb0)).trans hb0
  have b1 := (hF1.below.cell (p := ⟨w.heap.size, 1, none⟩) (cell_in hb1)).trans hb1
  have hs1 := hs.far HW
  clear hb0 hb1 hM hF1
  generalize w.heap.size = q at b0 b1 ⊢
  have E0 := fun m os => cell_grown (cell_in b0) b0 m os
  have E1 := fun m os => cell_grown (cell_in b1) b1 m os
  have hG := fun m os => tells_q (rget_far (y := d1) (hs1.far ((Far.refl w1).more m os)) hn)
  generalize gt L d1 = z at hG hh
  clear hr b0 b1 hs hs1
  cases r
  all_goals
    refine wp_region_quiet_grown mixed (by kernel_rfl) ?_
    repeat (go_big_quiet_step ((first | (go_at_call 59; exact hG _ _))))
    refine wpQuiet_nil ?_
    intro _ hw'
    obtain ⟨⟨nq, osq⟩, hw''⟩ := hw'
    subst hw''
    simp only []
    go_wp2
    go_ret
    exact ⟨by rw [hh.out]; simp, HW.more nq osq⟩


end Go.Proofs.Ytboaofaileafdaa
