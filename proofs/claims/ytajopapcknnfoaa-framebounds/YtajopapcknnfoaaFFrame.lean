/- The program's frames: how one is made, and how the first one is read. -/
import Derived.Test.YtajopapcknnfoaaFFirst
namespace Go.Proofs.Ytajopapcknnfoaa
open Go.RowKit

theorem owns_src {w : World} {B g n cap : Nat} {L : List Int} (h : w.ownsRow B 5 1 (.slice (some ⟨g, 0, none⟩) n cap) n (L.map (Value.int .u8))) : Src w (some ⟨g, 0, none⟩) n L := by
  have hl := h.1
  rw [List.length_map, Nat.mul_one] at hl
  refine ⟨hl, fun _ => ⟨_, rfl, fun j v hj => ?_⟩⟩
  have hlt : j < n := by
    rw [← hl]
    rcases Nat.lt_or_ge j L.length with h | h
    · exact h
    · rw [List.getElem?_eq_none h] at hj; simp at hj
  have := h.cellAt j (by omega)
  rw [List.getElem?_map, hj, Option.map_some] at this
  by_cases hj0 : j = 0
  · subst hj0; simpa [Addr.add] using this
  · simpa [Addr.add, hj0] using this
theorem owns_row {w : World} {B g n : Nat} {L : List Int} (h : w.ownsRow B 5 1 (.slice (some ⟨g, 0, none⟩) n n) n (L.map (Value.int .u8))) : Row w g L := by
  rcases h.2 with ⟨h', _⟩ | ⟨g', cap, cur, h', _, hg, _, _, hcs, ht⟩
  · simp at h'
  · simp only [Value.slice.injEq, Option.some.injEq, Addr.mk.injEq, and_true, true_and] at h'
    obtain ⟨rfl, rfl⟩ := h'
    unfold Row
    rw [hg]
    have e1 : cur.toList = L.map (Value.int .u8) := by
      rw [← List.take_of_length_le (l := cur.toList) (i := n * 1) (by simp [hcs]), ht]
    rw [← e1]
/-- What a slice that a call owns leads to. -/
theorem owns_any {w : World} {B n : Nat} {v : Value} {L : List Int} (h : w.ownsRow B 5 1 v n (L.map (Value.int .u8))) : ∃ a c, v = .slice a n c ∧ n ≤ c ∧ c ≤ 9223372036854775807 ∧ (a = none → n = 0 ∧ c = 0) ∧ Src w a n L := by
  rcases h.2 with ⟨rfl, rfl⟩ | ⟨g, cap, cur, rfl, hB, hg, hn, hc, _⟩
  · have : L = [] := List.eq_nil_of_length_eq_zero (by simpa using h.1)
    subst this
    exact ⟨none, 0, rfl, by omega, by omega, fun _ => ⟨rfl, rfl⟩, src_nil w⟩
  · exact ⟨_, cap, rfl, hn, by unfold maxLen at hc; omega, (fun h => absurd h (by simp)), owns_src h⟩

set_option maxHeartbeats 1000000 in
theorem frame_any (a : Option Addr) (len cap : Nat) (L : List Int) (w : World) (hs : Src w a len L) (hb : Bts L) (hnil : a = none → len = 0 ∧ cap = 0) (hm : len ≤ 4194304) :
    Calls Try.prog 12 #[.slice a len cap] w fun e w' => e = .returned (.tuple #[.slice (some ⟨w.heap.size, 0, none⟩) (len + 8) (len + 8), .int .i64 0]) ∧ Row w' w.heap.size (fr L) ∧ Below w.heap.size w w' := by
  obtain ⟨i0, hi, hz0, hz1, hz2⟩ := info_parts Try.info5
  go_enter Try.func12, Try.ntmps12
  go_wp2_with (first
    | (go_at_call 19; refine (size_any a len cap _ (by omega)).mono ?_; rintro e w' ⟨rfl, rfl⟩)
    | (at_make; refine wpList_make_own _ rfl _ _ 22 rfl w.heap.size 5 i0 (.int .u8 0) 1 Try.underlying22 hi hz0 hz1 _ _ _ (len + 8) rfl rfl (by omega) (by rw [hz2]; omega) (by unfold maxLen; omega) (Nat.le_refl _) ?_; intro w1 hown1 hgrow1))
  have hb1 : Below w.heap.size w w1 := (Below.refl _ _).grown hgrow1 (Nat.le_refl _) (fun k hk => by cases hk)
  refine (lay_any w.heap.size w.heap.size 0 (len + 8) [] len w1 hb1.size (by omega) (by simpa using hown1) (Nat.le_refl _)).mono ?_
  rintro e w2 ⟨rfl, hown2, hb2⟩
  have hb2' := hb1.trans hb2
  have hs2 := hs.below hb2'
  have hc2 : ∀ ad, a = some ad → ∀ j u, (L.map (Value.int .u8))[j]? = some u → w2.cell? (ad.add j) = some u := by
    intro ad ha j u hj
    have hp : 0 < (L.map (Value.int .u8)).length := by
      rcases Nat.eq_zero_or_pos (L.map (Value.int .u8)).length with h | h
      · rw [List.getElem?_eq_none (by omega)] at hj; simp at hj
      · exact h
    obtain ⟨_, ad', ha', hcc⟩ := src_pos (g := 0) hs hb2' hp
    rw [ha] at ha'
    obtain rfl := Option.some.inj ha'
    exact hcc j u hj
  rw [List.nil_append] at hown2
  have hl4 : (le4 (len : Int)).length = 4 := le4_length _
  go_wp2_with (at_builtin; refine wpList_append_fits_any _ rfl _ _ 22 rfl w.heap.size 5 i0 1 Try.underlying22 hi hz1 w.heap.size (0 + 4) (len + 8) _ rfl hown2 a len cap (L.map (Value.int .u8)) rfl (by rw [List.length_map, hs.1]; omega) hnil hc2 (ones_int L) (by omega) ?_; intro w3 hown3 hgrow3)
  have hb3 : Below w.heap.size w w3 := hb2'.grown hgrow3 hb2'.size (fun k hk => by cases hk; exact Nat.le_refl _)
  rw [← List.map_append, Nat.zero_add] at hown3
  have hs3 := owns_src hown3
  have hbt : Bts (le4 (len : Int) ++ L) := (le4_bts _).app hb
  have hsr := sumI_range (le4 (len : Int) ++ L)
  refine (sum_any _ (4 + len) (len + 8) _ w3 hs3 hbt (by omega)).mono ?_
  rintro e w4 ⟨rfl, rfl⟩
  go_wp2_with fail
  refine (lay_any w.heap.size w.heap.size (4 + len) (len + 8) _ (sumI (le4 (len : Int) ++ L)) w3 hb3.size (by omega) hown3 (Nat.le_refl _)).mono ?_
  rintro e w5 ⟨rfl, hown5, hb5⟩
  have hlen : 4 + len + 4 = len + 8 := by omega
  rw [hlen] at hown5 ⊢
  have hrow : Row w5 w.heap.size (fr L) := by
    have := owns_row hown5
    unfold fr
    rw [hs.1]
    exact this
  go_wp2_with fail
  go_ret2
  exact ⟨rfl, hrow, hb3.trans hb5⟩

/-- Where a piece begins that leaves the first i bytes out. -/
def cutA (a : Option Addr) (cap i : Nat) : Option Addr := if cap = i then a else a.map (·.add i)
theorem src_cut {w : World} {a : Option Addr} {len : Nat} {L : List Int} (h : Src w a len L) (cap i : Nat) (hc : len ≤ cap) : Src w (cutA a cap i) (len - i) (L.drop i) := by
  by_cases hp : i < len
  · obtain ⟨g, off, rfl, _⟩ := h.flat (by omega)
    unfold cutA
    rw [if_neg (by omega), Option.map_some, Addr.add_lit]
    exact src_drop h i
  · have : L.drop i = [] := List.drop_eq_nil_of_le (by rw [h.1]; omega)
    rw [this, show len - i = 0 by omega]
    exact ⟨rfl, fun h => absurd h (by omega)⟩
theorem cutA_nil {a : Option Addr} {cap i : Nat} (h : cutA a cap i = none) : a = none := by
  unfold cutA at h
  split at h
  · exact h
  · simpa using h

set_option maxHeartbeats 1000000 in
theorem next_any (a : Option Addr) (len cap : Nat) (L : List Int) (w : World) (hs : Src w a len L) (hb : Bts L) (hlc : len ≤ cap) (hm : len ≤ 140737488355328) (hnil : a = none → len = 0) :
    Calls Try.prog 14 #[.slice a len cap] w fun e w' => ∃ v u, e = .returned (.tuple #[v, u, .int .i64 (nx L).1]) ∧ Below w.heap.size w w' ∧
      ((nx L).1 ≠ 0 → v = .slice none 0 0 ∧ u = .slice none 0 0) ∧
      ((nx L).1 = 0 → (∃ a1 c1, v = .slice a1 (nx L).2.1.length c1 ∧ (nx L).2.1.length ≤ c1 ∧ (a1 = none → (nx L).2.1.length = 0) ∧ Src w' a1 (nx L).2.1.length (nx L).2.1) ∧
        (∃ a2 c2, u = .slice a2 (len - (nx L).2.2) c2 ∧ len - (nx L).2.2 ≤ c2 ∧ (a2 = none → len - (nx L).2.2 = 0) ∧ Src w' a2 (len - (nx L).2.2) (L.drop (nx L).2.2))) := by
  have hF := first_any a len cap L w hs hb hlc hm
  by_cases h0 : (nx L).1 = 0
  · have hp := (src_pc hs hb h0).1
    have hk := nx_ok hb h0
    rw [hs.1] at hk
    obtain ⟨g, off, rfl, _⟩ := hs.flat (by omega)
    obtain ⟨n, hn⟩ : ∃ n, n = (nx L).2.1.length := ⟨_, rfl⟩
    have hpc : pc (some ⟨g, off, none⟩) cap L = .slice (some ⟨g, off + 4, none⟩) n (cap - 4) := by unfold pc; rw [if_pos h0, ← hn, Option.map_some, Addr.add_lit]
    have h22 : (nx L).2.2 = n + 8 := by rw [hk.1, hn]
    rw [← hn, Option.map_some, Addr.add_lit] at hp
    rw [hpc, h0] at hF
    rw [h22, ← hn, h0]
    have hle : n + 8 ≤ len := by omega
    obtain ⟨M, hM⟩ : ∃ M, M = (nx L).2.1 := ⟨_, rfl⟩
    rw [← hM] at hp ⊢
    clear hpc hM hn h22 hk h0
    have hcut := src_cut hs cap (n + 8) hlc
    have hC1 := fun q => clone_any (some ⟨g, off + 4, none⟩) n (cap - 4) M (w.drewN q) hp (by simp) (by omega)
    have hC2 := fun w1 (h : Below w.heap.size w w1) => clone_any (cutA (some ⟨g, off, none⟩) cap (n + 8)) (len - (n + 8)) (cap - (n + 8)) _ w1 (hcut.below h) (fun h => by have := cutA_nil h; simp at this) (by omega)
    go_enter Try.func14, Try.ntmps14
    go_wp2_with (first
      | (go_at_call 22; refine hF.mono ?_; rintro e w' ⟨rfl, q, rfl⟩))
    refine (hC1 _).mono ?_
    rintro e w1 ⟨v, rfl, hv1, hb1⟩
    obtain ⟨a1, c1, rfl, h1c, _, h1n, h1s⟩ := owns_any hv1
    have hbw : Below w.heap.size w w1 := (below_drewN (Below.refl _ w) q).trans hb1
    have hC2' := hC2 w1 hbw
    clear hC1 hC2 hF hcut
    have fin : ∀ w3 u, w3.ownsRow w1.heap.size 5 1 u (len - (n + 8)) ((L.drop (n + 8)).map (Value.int .u8)) → Below w1.heap.size w1 w3 →
        Below w.heap.size w w3 ∧ ((0 : Int) ≠ 0 → (Value.slice a1 n c1) = .slice none 0 0 ∧ u = .slice none 0 0) ∧
        ((0 : Int) = 0 → (∃ a1' c1', (Value.slice a1 n c1) = .slice a1' n c1' ∧ n ≤ c1' ∧ (a1' = none → n = 0) ∧ Src w3 a1' n M) ∧
          (∃ a2 c2, u = .slice a2 (len - (n + 8)) c2 ∧ len - (n + 8) ≤ c2 ∧ (a2 = none → len - (n + 8) = 0) ∧ Src w3 a2 (len - (n + 8)) (L.drop (n + 8)))) := by
      intro w3 u hu hb3
      obtain ⟨a2, c2, rfl, h2c, _, h2n, h2s⟩ := owns_any hu
      exact ⟨bnext hbw hb3, fun h => absurd rfl h, fun _ => ⟨⟨a1, c1, rfl, h1c, fun h => (h1n h).1, h1s.below hb3⟩, a2, c2, rfl, h2c, fun h => (h2n h).1, h2s⟩⟩
    have fin' := hid fin
    clear fin h1s h1n hv1 hb1
    have hnn : (n : Int) + 8 ≤ (len : Int) := by omega
    go_wp2_with (first
      | (go_at_call 19; refine (size_any _ n _ _ (by omega)).mono ?_; rintro e w2 ⟨rfl, rfl⟩))
    · have e1 : cutA (some ⟨g, off, none⟩) (n + 8) (n + 8) = some ⟨g, off, none⟩ := by simp [cutA]
      have hce : cap = n + 8 := by assumption
      rw [hce, e1, Nat.sub_self] at hC2'
      clear e1
      refine hC2'.mono ?_
      rintro e w3 ⟨u, rfl, hu, hb3⟩
      have hfin := hid (fin'.out w3 u hu hb3)
      clear hC2' fin' hu
      go_wp2_with fail
      go_ret3
      exact ⟨_, _, rfl, hfin.out⟩
    · have e1 : cutA (some ⟨g, off, none⟩) cap (n + 8) = some ⟨g, off + (n + 8), none⟩ := by unfold cutA; rw [if_neg (by assumption), Option.map_some, Addr.add_lit]
      rw [e1] at hC2'
      clear e1
      refine hC2'.mono ?_
      rintro e w3 ⟨u, rfl, hu, hb3⟩
      have hfin := hid (fin'.out w3 u hu hb3)
      clear hC2' fin' hu
      go_wp2_with fail
      go_ret3
      exact ⟨_, _, rfl, hfin.out⟩
  · have hpc : pc a cap L = .slice none 0 0 := by unfold pc; rw [if_neg h0]
    rw [hpc] at hF
    have hne : ((nx L).1 != 0) = true := by simp [h0]
    have h0' : Hid ((nx L).1 ≠ 0) := h0
    clear hpc h0
    generalize nx L = E at *
    go_enter Try.func14, Try.ntmps14
    go_wp2_with (first
      | (go_at_call 22; refine hF.mono ?_; rintro e w' ⟨rfl, q, rfl⟩))
    go_ret3
    exact ⟨_, _, rfl, below_drewN (Below.refl _ _) q, fun _ => ⟨rfl, rfl⟩, fun h => absurd h h0'.out⟩

set_option maxHeartbeats 400000 in
theorem frame_great (a : Option Addr) (len cap : Nat) (w : World) (hm : 4194304 < len) (hx : len ≤ 9223372036854775807) :
    Calls Try.prog 12 #[.slice a len cap] w fun e w' => e = .returned (.tuple #[.slice none 0 0, .int .i64 81]) ∧ w = w' := by
  go_enter Try.func12, Try.ntmps12
  go_wp2_with fail
  go_ret2
  exact ⟨rfl, rfl⟩
end Go.Proofs.Ytajopapcknnfoaa
