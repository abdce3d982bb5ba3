/- Concat of slices of bytes that lie in a row: their bytes, one behind the other, in new memory. -/
import Derived.Test.YthipadnghdodlaaOText
import Derived.WalkSpells
import Derived.WalkLawsBesides
import Derived.Lib.AppendZeros
import Derived.Laws.AppendOwnNone
namespace Go.Proofs.Ythipadnghdodlaa
open Go.RowKit

set_option maxHeartbeats 1000000 in
theorem grow_any (n : Nat) (w : World) (hn : n ≤ 20000000) :
    Calls Try.prog 69 #[.slice none 0 0, .int .i64 n] w fun e w' => ∃ v, e = .returned v ∧ w'.ownsRow w.heap.size 5 1 v 0 [] ∧ Below w.heap.size w w' := by
  obtain ⟨i0, hi, hz0, hz1, hz2⟩ := info_parts Try.info5
  by_cases h0 : n = 0
  · subst h0
    go_enter Try.func69, Try.ntmps69
    go_wp2
    go_ret
    exact ⟨_, rfl, World.ownsRow_nil _ _ _ _, Below.refl _ _⟩
  · have hpos : 0 < (n : Int) := by omega
    have hgc := grownCap_ge w n 0 5
    have hgm := grownCap_le_maxLen w n 0 5 (by unfold maxLen; omega)
    go_enter Try.func69, Try.ntmps69
    go_wp2_with (first
      | (at_builtin; refine Lib.wpList_append_run _ rfl _ _ 32 3 rfl (.slice none 0 0) (.int .i64 n) (by rfl) (by rfl) _ _ (Lib.run_append_nil_zeros w 32 3 _ 5 i0 _ .i64 .i64 Try.underlying32 Try.underlying3 hi hz0 n (by omega) (by omega) (by omega) (by rw [hz2]; omega)) ?_))
    go_ret
    refine ⟨_, rfl, ?_, (((Below.refl _ w).alloc (Nat.le_refl _) _).drew)⟩
    refine (World.ownsRow_made (e := 5) (size := 1) w _ (grownCap w n 0 5) (Nat.le_refl _) hgm ?_).drew
    rw [Array.size_append, size_zeroCells, size_zeroCells]
    show n * 1 + (grownCap w n 0 5 - n) * 1 = grownCap w n 0 5 * 1
    omega

/-- append of bytes, none or not, to a slice of the call's own. -/
theorem wpList_append_src {w : World} {ops : Array Oper} {rest : List Oper} {o : Oper} {a : Act} {Q : Exit → Act → World → Prop} (hgd : o.guard = none) (s x : Operand)
    (ho : o.op = .call { callee := .builtin .append, args := #[s, x], argTypes := #[32, 32] }) (base : Nat) (v : Value) (n : Nat) (M : List Int) (hs : a.eval s = v) (hown : w.ownsRow base 5 1 v n (b8s M))
    (ao : Option Addr) (m c : Nat) (L : List Int) (hx : a.eval x = .slice ao m c) (hL : Src w ao m L) (hnn : ao = none → m = 0 ∧ c = 0) (hb : n + m ≤ 20000000) (hbase : base ≤ w.heap.size)
    (h : ∀ v' w', w'.ownsRow base 5 1 v' (n + m) (b8s (M ++ L)) → w.grownBy w' v.ownBlock → wpList Try.prog ops Q rest (a.put o.dst v') w') : wpList Try.prog ops Q (o :: rest) a w := by
  obtain ⟨i0, hi, hz0, hz1, hz2⟩ := info_parts Try.info5
  cases ao with
  | none =>
    obtain ⟨rfl, rfl⟩ := hnn rfl
    have : L = [] := List.eq_nil_of_length_eq_zero hL.1
    subst this
    refine wpList_append_own_none hgd s x 32 ho base 5 i0 1 Try.underlying32 hi v n (b8s M) hs hown hx ?_
    exact h v w (by simpa using hown) (World.grownBy.refl _ _)
  | some ad =>
    refine wpList_append_own w hgd s x 32 ho base 5 i0 _ 1 1 Try.underlying32 hi hz0 hz1 hz2 rfl (by decide) v n (b8s M) hs hown ad m c (b8s L) hx (by rw [List.length_map, hL.1]; omega) (src_cells hL) (ones_u8 L) (by unfold maxLen; omega) (by omega) hbase
      (fun v' w' h1 h2 _ => h v' w' (by rw [b8s, List.map_append]; exact h1) h2)

/-- How many bytes the first i have. -/
def suml (N : Nat → Nat) : Nat → Nat
  | 0 => 0
  | i + 1 => suml N i + N i

/-- The bytes of the first i. -/
def cats (M : Nat → List Int) : Nat → List Int
  | 0 => []
  | i + 1 => cats M i ++ M i

theorem suml_le (N : Nat → Nat) (k : Nat) (h : ∀ i, i < k → N i ≤ 2000000) : ∀ i, i ≤ k → suml N i ≤ i * 2000000
  | 0, _ => Nat.le_refl _
  | i + 1, hi => by
    have := suml_le N k h i (by omega)
    have := h i (by omega)
    simp only [suml]
    omega

theorem cats_length (N : Nat → Nat) (M : Nat → List Int) (k : Nat) (h : ∀ i, i < k → (M i).length = N i) : ∀ i, i ≤ k → (cats M i).length = suml N i
  | 0, _ => rfl
  | i + 1, hi => by
    simp only [cats, suml, List.length_append]
    rw [cats_length N M k h i (by omega), h i (by omega)]

set_option maxRecDepth 100000 in
set_option maxHeartbeats 2000000 in
theorem concat_any (k : Nat) (A : Nat → Option Addr) (N C : Nat → Nat) (M : Nat → List Int) (q : Nat) (w : World) (hk : k ≤ 5) (hs : ∀ i, i < k → Src w (A i) (N i) (M i)) (hN : ∀ i, i < k → N i ≤ 2000000) (hA : ∀ i, i < k → A i = none → N i = 0 ∧ C i = 0)
    (hc : ∀ i, i < k → w.cell? ⟨q, i, none⟩ = some (.slice (A i) (N i) (C i))) :
    Calls Try.prog 42 #[.slice (some ⟨q, 0, none⟩) k k] w (GivesB w (cats M k)) := by
  have HS := hid hs
  have HA := hid hA
  have HC := hid hc
  have hsum := hid (suml_le N k hN)
  have hlen := hid (cats_length N M k (fun i hi => (hs i hi).1))
  have HN := hid hN
  clear hs hA hc hN
  go_enter Try.func42, Try.ntmps42
  go_wp2
  go_loopw [11, 3] (fun i z wr => wr = w ∧ ∃ j : Nat, j ≤ k ∧ i = .int .i64 j ∧ z = .int .i64 (suml N j)) (fun i _ _ => k - (intOf i).toNat)
  case atStart => exact ⟨rfl, 0, by omega, rfl, rfl⟩
  case round =>
    obtain ⟨hwr, j, hj, rfl, rfl⟩ := hrel
    have hwr2 := hwr.symm
    subst hwr2
    clear hwr
    by_cases hlt : j < k
    · have hcj := HC.out j hlt
      have hsl := hsum.out j hj
      have hNl := HN.out j hlt
      have hst : Hid (suml N (j + 1) = suml N j + N j) := hid rfl
      generalize suml N j = S at hsl hst ⊢
      generalize N j = n at hcj hNl hst
      generalize A j = a at hcj
      generalize C j = c at hcj
      go_wp2
      go_roundw
      case rel => exact ⟨by first | exact trivial | rfl, j + 1, by omega, by go_num, by rw [hst.out]; go_num⟩
      case measure => simp [intOf]; omega
    · obtain rfl : j = k := by omega
      have hsl := hsum.out j hj
      have HL := hid (hlen.out j hj)
      generalize suml N j = S at hsl HL ⊢
      go_wp2_with (first
        | (go_at_call 69; refine (grow_any S w (by omega)).mono ?_; rintro e w1 ⟨v1, rfl, ho1, b1⟩))
      go_loopw [27, 6] (fun i v wq => ∃ t : Nat, t ≤ j ∧ i = .int .i64 t ∧ wq.ownsRow w.heap.size 5 1 v (suml N t) (b8s (cats M t)) ∧ Below w.heap.size w wq) (fun i _ _ => j - (intOf i).toNat)
      case atStart => exact ⟨0, by omega, rfl, ho1, b1⟩
      case round =>
        obtain ⟨t, ht, rfl, ho, hb⟩ := hrel
        by_cases hlt : t < j
        · have hcj := HC.out t hlt
          have hqs := cell_in hcj
          have hcq : wr.cell? ⟨q, t, none⟩ = _ := (hb.cell hqs).trans hcj
          have hsl := hsum.out t ht
          have hNl := HN.out t hlt
          have hSr := hid ((HS.out t hlt).below hb)
          have hAn := hid (HA.out t hlt)
          have hst : Hid (suml N (t + 1) = suml N t + N t) := hid rfl
          have hct : Hid (cats M (t + 1) = cats M t ++ M t) := hid rfl
          generalize suml N t = S at hsl hst ho
          generalize N t = n at hcj hcq hNl hst hSr hAn
          generalize A t = a at hcj hcq hSr hAn
          generalize C t = c at hcj hcq hAn
          generalize cats M t = X at ho hct
          generalize M t = Y at hSr hct
          clear hcj
          go_wp2_with (first
            | (at_builtin; refine wpList_append_src rfl _ _ rfl w.heap.size _ _ X rfl ho a n c Y rfl hSr.out hAn.out (by omega) hb.size ?_; intro v2 w2 ho2 hg2))
          go_roundw
          case rel => exact ⟨t + 1, by omega, by go_num, by rw [hst.out, hct.out]; exact ho2, hb.grown hg2 hb.size (fun j hj => (ho.lt j hj).1)⟩
          case measure => simp [intOf]; omega
        · obtain rfl : t = j := by omega
          go_wp2
          go_ret
          refine ⟨_, rfl, ?_, hb⟩
          rw [hlen.out t (Nat.le_refl _)]
          exact ho
end Go.Proofs.Ythipadnghdodlaa
