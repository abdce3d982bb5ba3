/- Less and Same, and the reference's: what they tell. -/
import Derived.Test.YtplcohjpchfkkaaRows
import Derived.Test.YtplcohjpchfkkaaVBase
import Derived.WalkKit
import Derived.WalkSpells
import Derived.WalkLawsBesides
import Derived.Sort.AtCall
namespace Go.Proofs.Ytplcohjpchfkkaa
section
open Go.RowKit

abbrev Bs := List UInt8

/-- A key. -/
structure Ky (k : Bs) : Prop where
  ne : k ≠ []
  len : k.length ≤ 200
  rng : ∀ c ∈ k, 97 ≤ c.toNat ∧ c.toNat ≤ 122
  last : ∀ i (h : i < k.length), i + 1 = k.length → k[i].toNat ≠ 97

/-- Whether a row of bytes is a key. -/
def kyb (k : Bs) : Bool := !(k == []) && decide (k.length ≤ 200) && k.all (fun c => decide (97 ≤ c.toNat) && decide (c.toNat ≤ 122)) && !(k.getLast? == some 97)

theorem kyb_iff (k : Bs) : kyb k = true ↔ Ky k := by
  unfold kyb
  simp only [Bool.and_eq_true, Bool.not_eq_true', beq_eq_false_iff_ne, decide_eq_true_eq, List.all_eq_true]
  constructor
  · rintro ⟨⟨⟨h1, h2⟩, h3⟩, h4⟩
    refine ⟨h1, h2, h3, fun i hi he hc => h4 ?_⟩
    rw [List.getLast?_eq_getElem?, show k.length - 1 = i by omega, List.getElem?_eq_getElem hi]
    congr 1
    exact UInt8.toNat_inj.1 hc
  · intro h
    refine ⟨⟨⟨h.ne, h.len⟩, h.rng⟩, fun hc => ?_⟩
    have hp : 0 < k.length := by
      rcases Nat.eq_zero_or_pos k.length with h0 | h0
      · exact absurd (List.eq_nil_of_length_eq_zero h0) h.ne
      · exact h0
    rw [List.getLast?_eq_getElem?, List.getElem?_eq_getElem (by omega : k.length - 1 < k.length)] at hc
    have := h.last (k.length - 1) (by omega) (by omega)
    rw [Option.some.inj hc] at this
    exact this rfl

theorem kyb_false {k : Bs} (h : ¬ Ky k) : kyb k = false := by
  cases hk : kyb k with
  | false => rfl
  | true => exact absurd ((kyb_iff k).1 hk) h

theorem tl_length (s : ByteArray) : s.toList.length = s.size := by rw [ByteArray.toList_eq]; rfl
theorem tl_get (s : ByteArray) (i : Nat) (h : i < s.size) : s.toList[i]'(by rw [tl_length]; exact h) = s[i] := by
  have e := ByteArray.toList_eq s
  simp only [e]
  rfl
theorem tl_mem (s : ByteArray) (i : Nat) (h : i < s.size) : s[i] ∈ s.toList := by
  rw [← tl_get s i h]; exact List.getElem_mem _
theorem tl_nil (s : ByteArray) : s.toList = [] ↔ s.size = 0 := by
  rw [← tl_length, List.length_eq_zero_iff]
theorem ret_bool {a b : Bool} (h : a = b) : Ending.returned (.bool a) = .returned (.bool b) := by rw [h]

theorem ky_short (s : ByteArray) (h : s.size = 0) : kyb s.toList = false := kyb_false fun k => k.ne ((tl_nil s).2 h)
theorem ky_long (s : ByteArray) (h : 200 < s.size) : kyb s.toList = false := kyb_false fun k => by have := k.len; rw [tl_length] at this; omega
theorem ky_out (s : ByteArray) (i : Nat) (h : i < s.size) (ho : s[i].toNat < 97 ∨ 122 < s[i].toNat) : kyb s.toList = false :=
  kyb_false fun k => by have := k.rng _ (tl_mem s i h); omega
theorem ky_last (s : ByteArray) (i : Nat) (h : i < s.size) (hi : i + 1 = s.size) (h97 : s[i].toNat = 97) : kyb s.toList = false :=
  kyb_false fun k => k.last i (by rw [tl_length]; exact h) (by rw [tl_length]; exact hi) (by rw [tl_get s i h]; exact h97)
theorem ky_all (s : ByteArray) (i : Nat) (h : i < s.size) (hi : i + 1 = s.size) (h200 : s.size ≤ 200) (hr : ∀ j (hj : j < s.size), 97 ≤ s[j].toNat ∧ s[j].toNat ≤ 122) (h97 : s[i].toNat ≠ 97) : kyb s.toList = true := by
  rw [kyb_iff]
  refine ⟨fun e => by rw [tl_nil] at e; omega, by rw [tl_length]; exact h200, fun c hc => ?_, fun j hj he => ?_⟩
  · obtain ⟨j, hj, rfl⟩ := List.mem_iff_getElem.1 hc
    have hj' : j < s.size := by rw [tl_length] at hj; exact hj
    rw [tl_get s j hj']; exact hr j hj'
  · have hj' : j < s.size := by rw [tl_length] at hj; exact hj
    obtain rfl : j = i := by rw [tl_length] at he; omega
    rw [tl_get s j hj']; exact h97

set_option maxHeartbeats 400000 in
theorem rkmay_any (s : ByteArray) (w : World) (hs : s.size ≤ maxLen) :
    Calls Try.prog 70 #[.string s] w fun e w' => e = .returned (.bool (kyb s.toList)) ∧ w = w' := by
  unfold maxLen at hs
  by_cases h0 : s.size = 0
  · rw [ky_short s h0]
    have hz : ((s.size : Int) == 0) = true := by rw [h0]; rfl
    clear h0
    go_enter Try.func70, Try.ntmps70
    go_wp2
    go_ret
    exact ⟨rfl, rfl⟩
  by_cases h2 : 200 < s.size
  · rw [ky_long s h2]
    have hz : ((s.size : Int) == 0) = false := beq_eq_false_iff_ne.2 (by omega)
    have hd : decide ((200 : Int) < (s.size : Int)) = true := decide_eq_true (by omega)
    go_enter Try.func70, Try.ntmps70
    go_wp2
    go_ret
    exact ⟨rfl, rfl⟩
  have hp : 0 < s.size := by omega
  have hz : ((s.size : Int) == 0) = false := beq_eq_false_iff_ne.2 (by omega)
  have hd : decide ((200 : Int) < (s.size : Int)) = false := decide_eq_false (by omega)
  clear h0
  obtain ⟨m, hm⟩ : ∃ m, m + 1 = s.size := ⟨s.size - 1, by omega⟩
  have hml : m < s.size := by omega
  have e1 : (s.size : Int) - 1 = m := by omega
  by_cases h97 : s[m].toNat = 97
  · rw [ky_last s m hml hm h97]
    have H97 : ((s[m].toNat : Int) == 97) = true := by rw [h97]; rfl
    clear hm
    go_enter Try.func70, Try.ntmps70
    go_wp2
    go_ret
    exact ⟨rfl, rfl⟩
  have H97 : ((s[m].toNat : Int) == 97) = false := beq_eq_false_iff_ne.2 (by omega)
  have Hm := hid hm
  clear hm
  go_enter Try.func70, Try.ntmps70
  go_wp2
  clear e1
  go_loop [3] (fun i => ∃ k : Nat, k ≤ s.size ∧ i = .int .i64 k ∧ Hid (∀ j (hj : j < s.size), j < k → 97 ≤ s[j].toNat ∧ s[j].toNat ≤ 122)) (fun i => s.size - (intOf i).toNat)
  case atStart => exact ⟨0, Nat.zero_le _, rfl, hid (fun j _ h => by omega)⟩
  case round =>
    obtain ⟨k, hk, rfl, HH⟩ := hrel
    by_cases hlt : k < s.size
    · by_cases h1 : s[k].toNat < 97
      · have e := hid (ky_out s k hlt (.inl h1))
        go_wp2
        go_ret
        rw [e.out]
        exact ⟨rfl, rfl⟩
      by_cases h3 : 122 < s[k].toNat
      · have e := hid (ky_out s k hlt (.inr h3))
        go_wp2
        go_ret
        rw [e.out]
        exact ⟨rfl, rfl⟩
      go_wp2
      go_round
      case rel => exact ⟨k + 1, by omega, by go_num, hid (fun j hj h => by
        by_cases hjk : j = k
        · subst hjk; omega
        · exact HH.out j hj (by omega))⟩
      case measure => simp [intOf]; omega
    · have e := hid (ky_all s m hml Hm.out (by omega) (fun j hj => HH.out j hj (by omega)) h97)
      go_wp2
      go_ret
      rw [e.out]
      exact ⟨rfl, rfl⟩

end

section
open Go.RowKit
open Go.Sort (grow)

theorem take_prev {L : List Dt} {k : Nat} (hk : k < L.length) (hp : 0 < k) : L.take k = L.take (k - 1) ++ [L[k - 1]] := by
  have := take_snoc (L := L) (k := k - 1) (by omega)
  rw [show k - 1 + 1 = k by omega] at this
  exact this

/-- One step of May. -/
theorem may_step {L : List Dt} {k : Nat} (hk : k < L.length) (h : vmb (L.take k) = true) : vmb (L.take (k + 1)) = (mayd L[k] && (decide (k = 0) || decide ((L[k - 1]'(by omega)).1 < L[k].1))) := by
  rw [take_snoc hk, vmb_snoc h]
  by_cases h0 : k = 0
  · subst h0
    simp
  · have e := take_prev hk (by omega)
    rw [e] at h ⊢
    rw [all_last h]
    simp [h0]

set_option maxRecDepth 100000 in
set_option maxHeartbeats 2000000 in
theorem rvmay_any (a : Option Addr) (n c : Nat) (L : List Dt) (w : World) (hs : PS w a n c L) (hn : n ≤ 9223372036854775807) : Tells 69 #[.slice a n c] w (.bool (vmb L)) := by
  have mixed := mixed
  have HL := hid hs.len
  go_enter Try.func69, Try.ntmps69
  go_wp2
  go_loopw [3] (fun i wr => ∃ k : Nat, k ≤ n ∧ i = .int .i64 k ∧ vmb (L.take k) = true ∧ Far w wr) (fun i _ => n - (intOf i).toNat)
  case atStart => exact ⟨0, by omega, rfl, by rw [List.take_zero]; rfl, Far.refl _⟩
  case round =>
    obtain ⟨k, hk, rfl, htk0, hW⟩ := hrel
    have htk := hid htk0
    clear htk0
    by_cases hlt : k < n
    · have hl := HL.out
      obtain ⟨g, o, rfl, hg, hcell⟩ := (hs.far hW).at (by omega)
      obtain ⟨hc0, hc1⟩ := hcell k (by omega)
      have hst : Hid _ := hid (may_step (L := L) (k := k) (by omega) htk.out)
      have hp0 : 0 < k → wr.cell? ⟨g, o + (k - 1) * 2, none⟩ = some (.int .i64 (L[k - 1]'(by omega)).1) := fun _ => (hcell (k - 1) (by omega)).1
      generalize (L[k]'(by omega)) = d at hc0 hc1 hst
      generalize (L[k - 1]'(by omega)) = p at hp0 hst
      obtain ⟨d1, d2⟩ := d
      obtain ⟨p1, p2⟩ := p
      have hM := rmay_any (d1, d2) wr
      generalize hr : mayd (d1, d2) = r at hM hst
      clear hs hcell hl hr
      go_wp2_with (first | (go_at_call 64; refine hM.mono ?_; rintro e w1 ⟨rfl, hF1⟩))
      have HW := hW.trans hF1
      have e0 := (hF1.below.cell (p := ⟨g, o + k * 2, none⟩) hg).trans hc0
      have p0 : 0 < k → w1.cell? ⟨g, o + (k - 1) * 2, none⟩ = some (.int .i64 p1) := fun h => (hF1.below.cell (p := ⟨g, o + (k - 1) * 2, none⟩) hg).trans (hp0 h)
      have E0 := fun m os => cell_grown (cell_in e0) e0 m os
      have hk1' : (k : Int) < (n : Int) := by omega
      have hk0' : (0 : Int) ≤ (k : Int) := by omega
      clear hc0 hc1 hM hp0 hW hF1 hg e0
      cases r
      · refine wp_region_quiet_grown mixed (by kernel_rfl) ?_
        repeat (go_big_quiet_step (fail))
        refine wpQuiet_nil ?_
        intro _ hw'
        obtain ⟨⟨nq, osq⟩, hw''⟩ := hw'
        subst hw''
        simp only []
        go_wp2
        go_ret
        exact ⟨by rw [vmb_take (k + 1) (by rw [hst.out]; rfl)]; rfl, HW.more nq osq⟩
      · by_cases h0 : k = 0
        · subst h0
          refine wp_region_quiet_grown mixed (by kernel_rfl) ?_
          repeat (go_big_quiet_step (fail))
          refine wpQuiet_nil ?_
          intro _ hw'
          obtain ⟨⟨nq, osq⟩, hw''⟩ := hw'
          subst hw''
          simp only []
          go_wp2
          go_roundw
          case rel => exact ⟨1, by omega, by go_num, by have := hst.out; simpa using this, HW.more nq osq⟩
          case measure => simp [intOf]; omega
        · have hq := p0 (by omega)
          have P0 := fun m os => cell_grown (cell_in hq) hq m os
          have hk1 : (k : Int) - 1 = ((k - 1 : Nat) : Int) := by omega
          have hkp : (0 : Int) < (k : Int) := by omega
          obtain ⟨j, rfl⟩ : ∃ j, k = j + 1 := ⟨k - 1, by omega⟩
          simp only [Nat.add_sub_cancel] at P0 hk1 hst
          have hjn : (j : Int) < (n : Int) := by omega
          have hj0 : (0 : Int) ≤ (j : Int) := by omega
          clear hq p0
          by_cases hpd : p1 < d1
          · have hge : ¬ (d1 ≤ p1) := by omega
            refine wp_region_quiet_grown mixed (by kernel_rfl) ?_
            repeat (go_big_quiet_step (fail))
            refine wpQuiet_nil ?_
            intro _ hw'
            obtain ⟨⟨nq, osq⟩, hw''⟩ := hw'
            subst hw''
            simp only []
            go_wp2
            go_roundw
            case rel => exact ⟨j + 1 + 1, by omega, by go_num, by have := hst.out; simpa [hpd] using this, HW.more nq osq⟩
            case measure => simp [intOf]; omega
          · have hge : d1 ≤ p1 := by omega
            refine wp_region_quiet_grown mixed (by kernel_rfl) ?_
            repeat (go_big_quiet_step (fail))
            refine wpQuiet_nil ?_
            intro _ hw'
            obtain ⟨⟨nq, osq⟩, hw''⟩ := hw'
            subst hw''
            simp only []
            go_wp2
            go_ret
            exact ⟨by rw [vmb_take (j + 1 + 1) (by rw [hst.out]; simp; omega)]; rfl, HW.more nq osq⟩
    · obtain rfl : k = n := by omega
      go_wp2
      go_ret
      have h := htk.out
      rw [List.take_of_length_le (by rw [HL.out]; exact Nat.le_refl _)] at h
      exact ⟨by rw [h]; rfl, hW⟩


end

section
open Go.RowKit
open Go.Sort (grow)

/-- Below 0, 0 or above 0. -/
def cmpi (x y : Int) : Int := if x < y then -1 else if y < x then 1 else 0

theorem cmp_any (x y : Int) (w : World) : Calls Try.prog 72 #[.int .i64 x, .int .i64 y] w fun e w' => e = .returned (.int .i64 (cmpi x y)) ∧ w' = w := by
  by_cases h : x < y
  · go_enter Try.func72, Try.ntmps72
    go_wp2
    go_ret
    exact ⟨by simp [cmpi, h], rfl⟩
  · by_cases h2 : y < x
    · go_enter Try.func72, Try.ntmps72
      go_wp2
      go_ret
      exact ⟨by simp [cmpi, h, h2], rfl⟩
    · go_enter Try.func72, Try.ntmps72
      go_wp2
      go_ret
      exact ⟨by unfold cmpi; rw [if_neg (by omega), if_neg (by omega)]; rfl, rfl⟩

theorem cmpi_neg (x y : Int) : (cmpi x y < 0) ↔ x < y := by unfold cmpi; split <;> (try split) <;> omega
theorem cmpi_zero (x y : Int) : (cmpi x y = 0) ↔ x = y := by unfold cmpi; split <;> (try split) <;> omega

/-- Where an actor stands, or would. -/
structure Spot (L : List Dt) (y : Int) (lo : Nat) (f : Bool) : Prop where
  le : lo ≤ L.length
  low : ∀ t d, t < lo → L[t]? = some d → d.1 < y
  high : ∀ t d, lo ≤ t → L[t]? = some d → y ≤ d.1
  there : f = true ↔ ∃ d, L[lo]? = some d ∧ d.1 = y

theorem ac_get {L : List Dt} (h : Ac L) {i j : Nat} {d e : Dt} (hij : i < j) (hi : L[i]? = some d) (hj : L[j]? = some e) : d.1 < e.1 := by
  obtain ⟨h1, rfl⟩ := List.getElem?_eq_some_iff.1 hi
  obtain ⟨h2, rfl⟩ := List.getElem?_eq_some_iff.1 hj
  exact List.pairwise_iff_getElem.1 h i j h1 h2 hij

theorem low_more {L : List Dt} (h : Ac L) {y : Int} {m : Nat} {d : Dt} (hm : L[m]? = some d) (hd : d.1 < y) : ∀ t e, t < m + 1 → L[t]? = some e → e.1 < y := fun t e ht he => by
  rcases Nat.lt_or_ge t m with h1 | h1
  · have := ac_get h h1 he hm
    omega
  · obtain rfl : t = m := by omega
    rw [hm] at he
    cases he
    exact hd

theorem high_more {L : List Dt} (h : Ac L) {y : Int} {m : Nat} {d : Dt} (hm : L[m]? = some d) (hd : y ≤ d.1) : ∀ t e, m ≤ t → L[t]? = some e → y ≤ e.1 := fun t e ht he => by
  rcases Nat.lt_or_ge m t with h1 | h1
  · have := ac_get h h1 hm he
    omega
  · obtain rfl : t = m := by omega
    rw [hm] at he
    cases he
    exact hd

/-- What stands at the spot. -/
theorem Spot.found {L : List Dt} {y : Int} {lo : Nat} (h : Spot L y lo true) (ha : Ac L) : ∃ d, L[lo]? = some d ∧ gt L y = d.2 := by
  obtain ⟨d, hd, rfl⟩ := h.there.1 rfl
  exact ⟨d, hd, gt_some ha (List.mem_of_getElem? hd)⟩

theorem Spot.missing {L : List Dt} {y : Int} {lo : Nat} (h : Spot L y lo false) (ha : Ac L) : gt L y = 0 := by
  refine gt_none fun d hd e => ?_
  obtain ⟨t, ht⟩ := List.mem_iff_getElem?.1 hd
  rcases Nat.lt_trichotomy t lo with h1 | h1 | h1
  · have := h.low t d h1 ht
    omega
  · subst h1
    have := h.there.2 ⟨d, ht, e⟩
    cases this
  · have hlo : lo < L.length := Nat.lt_trans h1 (List.getElem?_eq_some_iff.1 ht).1
    have h2 := List.getElem?_eq_getElem hlo
    have h3 := h.high lo _ (Nat.le_refl _) h2
    have h4 := ac_get ha h1 h2 ht
    omega

theorem spot_cases {a : Option Addr} {n c : Nat} {L : List Dt} {w w1 : World} {y : Int} {lo : Nat} {f : Bool} (hs : PS w a n c L) (hF : Far w w1) (h : Spot L y lo f) (ha : Ac L) :
    (f = false ∧ Hid (gt L y = 0)) ∨ (f = true ∧ ∃ g o z, a = some ⟨g, o, none⟩ ∧ lo < n ∧ w1.cell? ⟨g, o + lo * 2 + 1, none⟩ = some (.int .i64 z) ∧ Hid (gt L y = z)) := by
  cases f with
  | false => exact .inl ⟨rfl, hid (h.missing ha)⟩
  | true =>
    obtain ⟨d, hd, hg⟩ := h.found ha
    obtain ⟨hlt, rfl⟩ := List.getElem?_eq_some_iff.1 hd
    have hl := hs.len
    obtain ⟨g, o, rfl, hgl, hcell⟩ := (hs.far hF).at (by omega)
    exact .inr ⟨rfl, g, o, _, rfl, by omega, (hcell lo hlt).2, hid hg⟩

set_option maxHeartbeats 140737488355328 in
theorem rget_any (a : Option Addr) (n c : Nat) (L : List Dt) (y : Int) (w : World) (hs : PS w a n c L) (hn : n ≤ 9223372036854775807) : Calls Try.prog 63 #[.slice a n c, .int .i64 y] w fun e w' => e = .returned (.int .i64 (gt L y)) ∧ w' = w := by
  have HL := hid hs.len
  go_enter Try.func63, Try.ntmps63
  go_wp2
  go_loopw [5] (fun i wr => ∃ k : Nat, k ≤ n ∧ i = .int .i64 k ∧ Hid (gt L y = gt (L.drop k) y) ∧ wr = w) (fun i _ => n - (intOf i).toNat)
  case atStart => exact ⟨0, by omega, rfl, hid (by simp), rfl⟩
  case round =>
    obtain ⟨k, hk, rfl, hgt, hw⟩ := hrel
    have hw2 := hw.symm
    subst hw2
    clear hw
    by_cases hlt : k < n
    · have hl := HL.out
      obtain ⟨g, o, rfl, hg, hcell⟩ := hs.at (by omega)
      obtain ⟨hc0, hc1⟩ := hcell k (by omega)
      have hdr : Hid _ := hid (List.drop_eq_getElem_cons (l := L) (i := k) (by omega))
      generalize (L[k]'(by omega)) = d at hc0 hc1 hdr
      obtain ⟨d1, d2⟩ := d
      clear hcell hl hs
      by_cases hd : d1 = y
      · go_wp2
        go_ret
        exact ⟨by rw [hgt.out, hdr.out]; simp [gt, hd], rfl⟩
      · go_wp2
        go_roundw
        case rel => exact ⟨k + 1, by omega, by go_num, hid (by rw [hgt.out, hdr.out]; simp [gt, hd]), by first | exact trivial | rfl⟩
        case measure => simp [intOf]; omega
    · obtain rfl : k = n := by omega
      go_wp2
      go_ret
      exact ⟨by rw [hgt.out, List.drop_of_length_le (by rw [HL.out]; exact Nat.le_refl _)]; rfl, rfl⟩

theorem rget_far {a : Option Addr} {n c : Nat} {L : List Dt} {y : Int} {w : World} (hs : PS w a n c L) (hn : n ≤ 9223372036854775807) : Tells 63 #[.slice a n c, .int .i64 y] w (.int .i64 (gt L y)) :=
  (rget_any a n c L y w hs hn).mono fun _ _ ⟨he, hw⟩ => ⟨he, by rw [hw]; exact Far.refl _⟩

set_option maxRecDepth 100000 in
set_option maxHeartbeats 140737488355328 in
theorem rhas_any (a : Option Addr) (n c : Nat) (L : List Dt) (d : Dt) (w : World) (hs : PS w a n c L) (hn : n ≤ 9223372036854775807) : Tells 67 #[.slice a n c, dv d] w (.bool (hasv L d)) := by
  have mixed := mixed
  obtain ⟨d1, d2⟩ := d
  have HW := (Far.refl w).alloc (.cells #[.int .i64 d1, .int .i64 d2] 24)
  have hb0 : (w.alloc (.cells #[.int .i64 d1, .int .i64 d2] 24)).cell? ⟨w.heap.size, 0, none⟩ = some (.int .i64 d1) := by go_simp
  have hb1 : (w.alloc (.cells #[.int .i64 d1, .int .i64 d2] 24)).cell? ⟨w.heap.size, 1, none⟩ = some (.int .i64 d2) := by go_simp
  have hh : Hid (hasv L (d1, d2) = (mayd (d1, d2) && decide (d2 ≤ gt L d1))) := hid rfl
  have hM := rmay_any (d1, d2) (w.alloc (.cells #[.int .i64 d1, .int .i64 d2] 24))
  generalize hr : mayd (d1, d2) = r at hM hh
  go_enter Try.func67, Try.ntmps67
  go_wp2_with (first | (go_at_call 64; refine hM.mono ?_; rintro e w1 ⟨rfl, hF1⟩))
  replace HW := HW.trans hF1
  have b0 := (hF1.below.cell (p := ⟨w.heap.size, 0, none⟩) (cell_in hb0)).trans hb0
  have b1 := (hF1.below.cell (p := ⟨w.heap.size, 1, none⟩) (cell_in hb1)).trans hb1
  have hs1 := hs.far HW
  clear hb0 hb1 hM hF1
  generalize w.heap.size = q at b0 b1 ⊢
  have E0 := fun m os => cell_grown (cell_in b0) b0 m os
  have E1 := fun m os => cell_grown (cell_in b1) b1 m os
  have hG := fun m os => tells_q (rget_far (y := d1) (hs1.far ((Far.refl w1).more m os)) hn)
  generalize gt L d1 = z at hG hh
  clear hr b0 b1 hs hs1
  cases r
  all_goals
    refine wp_region_quiet_grown mixed (by kernel_rfl) ?_
    repeat (go_big_quiet_step ((first | (go_at_call 63; exact hG _ _))))
    refine wpQuiet_nil ?_
    intro _ hw'
    obtain ⟨⟨nq, osq⟩, hw''⟩ := hw'
    subst hw''
    simp only []
    go_wp2
    go_ret
    exact ⟨by rw [hh.out]; simp, HW.more nq osq⟩


end

section
open Go.RowKit
open Go.Sort (grow)

theorem PS.drewN {w : World} {a : Option Addr} {n c : Nat} {L : List Dt} (h : PS w a n c L) (q : Nat) : PS (w.drewN q) a n c L :=
  ⟨h.len, h.cap, h.max, h.nil, h.cells⟩

theorem drew_more {w wr : World} (h : ∃ q, wr = w.drewN q) (n : Nat) : ∃ q, wr.drewN n = w.drewN q := by
  obtain ⟨q, rfl⟩ := h
  exact ⟨_, World.drewN_drewN _ _ _⟩

theorem far_of_drew {w w' : World} (h : ∃ q, w' = w.drewN q) : Far w w' := by
  obtain ⟨q, rfl⟩ := h
  exact (Far.refl w).drewN q

section
variable {a a' : Option Addr} {n c n' c' : Nat} {L M : List Dt} {w : World}
end

theorem VM.take {L : List Dt} (h : VM L) (k : Nat) : VM (L.take k) := ⟨h.ac.sublist (List.take_sublist k L), fun d hd => h.may d (List.mem_of_mem_take hd)⟩


end

section
open Go.RowKit
open Go.Sort (grow)

abbrev OpIn.id (o : OpIn) : Dt := (o.id0, o.id1)
abbrev OpIn.blk (o : OpIn) : Dt := (o.bl0, o.bl1)
abbrev OpIn.at (o : OpIn) : Dt := (o.at0, o.at1)
abbrev OpIn.par (o : OpIn) : Dt := (o.pa0, o.pa1)

/-- The head. -/
def headb (o : OpIn) (V : List Dt) : Bool := mayd o.id && decide (1 ≤ o.time) && decide (o.time ≤ 1099511627776) && vmb V && decide (gt V o.id0 = o.id1 - 1)

/-- What a kind has: At, Side and Char, Parent and Key. -/
def pat (k : Int) : Bool := decide (k = 1) || decide (k = 2)
def pch (k : Int) : Bool := decide (k = 1)
def ppl (k : Int) : Bool := decide (k = 3)

/-- Empty where the kind has no parts. -/
def barb (o : OpIn) : Bool := (pat o.kind || ((o.at0 == 0) && (o.at1 == 0))) && (pch o.kind || ((o.side == 0) && (o.char == 0))) && (ppl o.kind || ((o.pa0 == 0) && (o.pa1 == 0) && o.key.toList.isEmpty))

def besb (o : OpIn) (V : List Dt) : Bool := if o.at0 = 0 ∧ o.at1 = 0 then (o.side == 1) else hasv V o.at && ((o.side == 0) || (o.side == 1))
def charb (c : Int) : Bool := decide (0 ≤ c) && decide (c ≤ 1114111) && (decide (c < 55296) || decide (57343 < c))
def parb (o : OpIn) (V : List Dt) : Bool := (((o.pa0 == 0) && (o.pa1 == -1)) || ((o.pa0 == 0) && (o.pa1 == -2)) || hasv V o.par) && !((o.pa0 == o.bl0) && (o.pa1 == o.bl1))

/-- What a kind has may be. -/
def partb (o : OpIn) (V : List Dt) : Bool :=
  if o.kind = 1 then hasv V o.blk && besb o V && charb o.char
  else if o.kind = 2 then hasv V o.blk && hasv V o.at
  else if o.kind = 3 then (((o.bl0 == o.id0) && (o.bl1 == o.id1)) || hasv V o.blk) && parb o V && kyb o.key.toList
  else false

/-- May it be? -/
def chk (o : OpIn) (V : List Dt) : Bool := headb o V && barb o && partb o V

/-- The cells of an operation lie in block q. -/
structure OpAt (w : World) (q : Nat) (o : OpIn) (v : Value) : Prop where
  c0 : w.cell? ⟨q, 0, none⟩ = some (.int .i64 o.id0)
  c1 : w.cell? ⟨q, 1, none⟩ = some (.int .i64 o.id1)
  c2 : w.cell? ⟨q, 2, none⟩ = some (.int .i64 o.time)
  c3 : w.cell? ⟨q, 3, none⟩ = some v
  c4 : w.cell? ⟨q, 4, none⟩ = some (.int .i64 o.kind)
  c5 : w.cell? ⟨q, 5, none⟩ = some (.int .i64 o.bl0)
  c6 : w.cell? ⟨q, 6, none⟩ = some (.int .i64 o.bl1)
  c7 : w.cell? ⟨q, 7, none⟩ = some (.int .i64 o.at0)
  c8 : w.cell? ⟨q, 8, none⟩ = some (.int .i64 o.at1)
  c9 : w.cell? ⟨q, 9, none⟩ = some (.int .i64 o.side)
  c10 : w.cell? ⟨q, 10, none⟩ = some (.int .i64 o.char)
  c11 : w.cell? ⟨q, 11, none⟩ = some (.int .i64 o.pa0)
  c12 : w.cell? ⟨q, 12, none⟩ = some (.int .i64 o.pa1)
  c13 : w.cell? ⟨q, 13, none⟩ = some (.string o.key)

theorem OpAt.lt {w : World} {q : Nat} {o : OpIn} {v : Value} (h : OpAt w q o v) : q < w.heap.size := cell_in h.c0

theorem OpAt.below {w w' : World} {q : Nat} {o : OpIn} {v : Value} (h : OpAt w q o v) (hb : RowKit.Below w.heap.size w w') : OpAt w' q o v := by
  have hl := h.lt
  exact ⟨(hb.cell hl).trans h.c0, (hb.cell hl).trans h.c1, (hb.cell hl).trans h.c2, (hb.cell hl).trans h.c3, (hb.cell hl).trans h.c4, (hb.cell hl).trans h.c5, (hb.cell hl).trans h.c6,
    (hb.cell hl).trans h.c7, (hb.cell hl).trans h.c8, (hb.cell hl).trans h.c9, (hb.cell hl).trans h.c10, (hb.cell hl).trans h.c11, (hb.cell hl).trans h.c12, (hb.cell hl).trans h.c13⟩

theorem OpAt.far {w w' : World} {q : Nat} {o : OpIn} {v : Value} (h : OpAt w q o v) (hf : Far w w') : OpAt w' q o v := h.below hf.below

theorem OpAt.grow {w : World} {q : Nat} {o : OpIn} {v : Value} (h : OpAt w q o v) (m : Nat) (os : Array Obj) : OpAt (grow (w.drewN m) os) q o v := h.far ⟨m, os, rfl⟩

theorem opAt_alloc (w : World) (o : OpIn) (v : Value) (t : TypeId) : OpAt (w.alloc (.cells (o.cells v) t)) w.heap.size o v := by
  constructor <;> (unfold OpIn.cells; go_simp)

/-- An operation as a value. -/
abbrev ov (o : OpIn) (v : Value) : Value := .agg (o.cells v)

theorem bool_and {a b : Bool} : (a && b) = true ↔ a = true ∧ b = true := by simp
end

section
open Go.RowKit
open Go.Sort (grow)

set_option maxHeartbeats 1000000 in
theorem less_any (a b : Dt) (w : World) : Tells 83 #[dv a, dv b] w (.bool (dl a b)) := by
  obtain ⟨a1, a2⟩ := a
  obtain ⟨b1, b2⟩ := b
  by_cases h : a1 = b1
  · subst h
    go_enter Try.func83, Try.ntmps83
    go_wp2
    go_ret
    exact ⟨by simp [dl], ((Far.refl w).alloc _).alloc _⟩
  · go_enter Try.func83, Try.ntmps83
    go_wp2
    go_ret
    exact ⟨by simp [dl, h], ((Far.refl w).alloc _).alloc _⟩

/-- Which operation comes ahead. -/
def lo (o p : OpIn) : Bool := decide (o.time < p.time) || ((o.time == p.time) && dl o.id p.id)

theorem lo_same {o p : OpIn} (h : o.time = p.time) : lo o p = dl o.id p.id := by simp [lo, h]
theorem lo_other {o p : OpIn} (h : o.time ≠ p.time) : lo o p = decide (o.time < p.time) := by simp [lo, h]

/-- Are two operations the same? -/
def so (o p : OpIn) (V U : List Dt) : Bool := (o.id0 == p.id0) && (o.id1 == p.id1) && (o.time == p.time) && decide (V = U) && (o.kind == p.kind) && (o.bl0 == p.bl0) && (o.bl1 == p.bl1) && (o.at0 == p.at0) && (o.at1 == p.at1) && (o.side == p.side) && (o.char == p.char) && (o.pa0 == p.pa0) && (o.pa1 == p.pa1) && (o.key.toList == p.key.toList)

/-- Two operations in two new blocks. -/
theorem two_ops (w : World) (o p : OpIn) (u v : Value) : OpAt ((w.alloc (.cells (o.cells u) 58)).alloc (.cells (p.cells v) 58)) w.heap.size o u ∧ OpAt ((w.alloc (.cells (o.cells u) 58)).alloc (.cells (p.cells v) 58)) (w.heap.size + 1) p v ∧ Far w ((w.alloc (.cells (o.cells u) 58)).alloc (.cells (p.cells v) 58)) := by
  refine ⟨(opAt_alloc w o u _).far ((Far.refl _).alloc _), ?_, ((Far.refl w).alloc _).alloc _⟩
  have h := opAt_alloc (w.alloc (.cells (o.cells u) 58)) p v 58
  rw [World.size_alloc] at h
  exact h

end
end Go.Proofs.Ytplcohjpchfkkaa
