/- Concat and Union: two rows, one behind the other, in new memory; Union puts them in order. -/
import Derived.Test.YtmkjfgedhcidcaaDJoin
import Derived.WalkKit
import Derived.WalkSpells
import Derived.WalkLawsBesides
import Derived.Lib.AppendZeros
import Derived.Laws.AppendOwnNone
namespace Go.Proofs.Ytmkjfgedhcidcaa
open Go.RowKit Go.Sort Go.Maps

set_option maxHeartbeats 1000000 in
theorem grow_any (n : Nat) (w : World) (hn : n ≤ 2000000) :
    Calls Try.prog 40 #[.slice none 0 0, .int .i64 n] w fun e w' => ∃ v, e = .returned v ∧ w'.ownsRow w.heap.size 23 2 v 0 [] ∧ Below w.heap.size w w' := by
  obtain ⟨i0, hi, hz0, hz1, hz2⟩ := info_parts Try.info23
  by_cases h0 : n = 0
  · subst h0
    go_enter Try.func40, Try.ntmps40
    go_wp2
    go_ret
    exact ⟨_, rfl, World.ownsRow_nil _ _ _ _, Below.refl _ _⟩
  · have hpos : 0 < (n : Int) := by omega
    have hgc := grownCap_ge w n 0 23
    have hgm := grownCap_le_maxLen w n 0 23 (by unfold maxLen; omega)
    go_enter Try.func40, Try.ntmps40
    go_wp2_with (first
      | (at_builtin; refine Lib.wpList_append_run _ rfl _ _ 28 3 rfl (.slice none 0 0) (.int .i64 n) (by rfl) (by rfl) _ _ (Lib.run_append_nil_zeros w 28 3 _ 23 i0 _ .i64 .i64 Try.underlying28 Try.underlying3 hi hz0 n (by omega) (by omega) (by omega) (by rw [hz2]; omega)) ?_))
    go_ret
    refine ⟨_, rfl, ?_, (((Below.refl _ w).alloc (Nat.le_refl _) _).drew)⟩
    refine (World.ownsRow_made (e := 23) (size := 2) w _ (grownCap w n 0 23) (Nat.le_refl _) hgm ?_).drew
    rw [Array.size_append, size_zeroCells, size_zeroCells]
    show n * 2 + (grownCap w n 0 23 - n) * 2 = grownCap w n 0 23 * 2
    omega

theorem sbase {w : World} {b b' : Nat} {v : Value} {n : Nat} {xs : List Value} (h : w.ownsRow b 23 2 v n xs) (hb : b' ≤ b) : w.ownsRow b' 23 2 v n xs := by
  obtain ⟨h1, h2⟩ := h
  refine ⟨h1, ?_⟩
  rcases h2 with h2 | ⟨g', cap', cur, hv, hg, r⟩
  · exact .inl h2
  · exact .inr ⟨g', cap', cur, hv, Nat.le_trans hb hg, r⟩

/-- A slice that is of the call's own, or none, read as dots. -/
theorem owned_ps {w : World} {base : Nat} {v : Value} {n : Nat} {L : List Dt} (h : w.ownsRow base 23 2 v n (flat L)) (hl : L.length = n) : ∃ a c, v = .slice a n c ∧ PS w a n c L := by
  rcases h.2 with ⟨rfl, rfl⟩ | ⟨g, cap, cur, rfl, hg, hb, hn, hcap, hsz, ht⟩
  · have : L = [] := List.eq_nil_of_length_eq_zero hl
    subst this
    exact ⟨none, 0, rfl, PS.none w⟩
  · exact ⟨_, _, rfl, Own.ps h hl⟩

theorem flat_one (L : List Dt) : ∀ u ∈ flat L, u.oneCell' = true := by
  induction L with
  | nil => intro u hu; simp [flat] at hu
  | cons d r ih =>
    intro u hu
    simp only [flat, List.mem_cons] at hu
    rcases hu with rfl | rfl | hu
    · rfl
    · rfl
    · exact ih u hu

/-- append of a row of dots, none or not, to a slice of the call's own. -/
theorem wpList_append_dots {w : World} {ops : Array Oper} {rest : List Oper} {o : Oper} {a : Act} {Q : Exit → Act → World → Prop} (hgd : o.guard = none) (s x : Operand)
    (ho : o.op = .call { callee := .builtin .append, args := #[s, x], argTypes := #[28, 28] }) (base : Nat) (v : Value) (n : Nat) (xs : List Value) (hs : a.eval s = v) (hown : w.ownsRow base 23 2 v n xs)
    (ao : Option Addr) (m c : Nat) (L : List Dt) (hx : a.eval x = .slice ao m c) (hL : PS w ao m c L) (hb : n + m ≤ 8000000) (hbase : base ≤ w.heap.size)
    (h : ∀ v' w', w'.ownsRow base 23 2 v' (n + m) (xs ++ flat L) → w.grownBy w' v.ownBlock → wpList Try.prog ops Q rest (a.put o.dst v') w') : wpList Try.prog ops Q (o :: rest) a w := by
  obtain ⟨i0, hi, hz0, hz1, hz2⟩ := info_parts Try.info23
  cases ao with
  | none =>
    obtain ⟨rfl, rfl⟩ := hL.nil rfl
    have : L = [] := List.eq_nil_of_length_eq_zero hL.len
    subst this
    refine wpList_append_own_none hgd s x 28 ho base 23 i0 2 Try.underlying28 hi v n xs hs hown hx ?_
    exact h v w (by simpa [flat] using hown) (World.grownBy.refl _ _)
  | some ad =>
    exact wpList_append_own w hgd s x 28 ho base 23 i0 _ 2 16 Try.underlying28 hi hz0 hz1 hz2 rfl (by decide) v n xs hs hown ad m c (flat L) hx (by rw [flat_length, hL.len]) (hL.cells ad rfl) (flat_one L) (by unfold maxLen; omega) (by omega) hbase
      (fun v' w' h1 h2 _ => h v' w' h1 h2)

set_option maxRecDepth 100000 in
set_option maxHeartbeats 2000000 in
/-- Concat of two rows that lie in a new row of two. -/
theorem concat_any (a : Option Addr) (n c : Nat) (L : List Dt) (a' : Option Addr) (n' c' : Nat) (M : List Dt) (q : Nat) (w : World) (hs : PS w a n c L) (hn : n ≤ 1000000) (hs' : PS w a' n' c' M) (hn' : n' ≤ 1000000)
    (h0 : w.cell? ⟨q, 0, none⟩ = some (.slice a n c)) (h1 : w.cell? ⟨q, 1, none⟩ = some (.slice a' n' c')) :
    Calls Try.prog 32 #[.slice (some ⟨q, 0, none⟩) 2 2] w fun e w' => ∃ v, e = .returned v ∧ w'.ownsRow w.heap.size 23 2 v (n + n') (flat (L ++ M)) ∧ Below w.heap.size w w' := by
  go_enter Try.func32, Try.ntmps32
  go_wp2
  have hqs : q < w.heap.size := by have := cell_in h0; simpa using this
  go_loopw [11, 3] (fun i z wr => wr = w ∧ ((i = .int .i64 0 ∧ z = .int .i64 0) ∨ (i = .int .i64 1 ∧ z = .int .i64 n) ∨ (i = .int .i64 2 ∧ z = .int .i64 (n + n' : Nat)))) (fun i _ _ => 2 - (intOf i).toNat)
  case atStart => exact ⟨rfl, .inl ⟨rfl, rfl⟩⟩
  case round =>
    obtain ⟨hwr, hrel⟩ := hrel
    have hwr2 := hwr.symm
    subst hwr2
    clear hwr
    rcases hrel with ⟨rfl, rfl⟩ | ⟨rfl, rfl⟩ | ⟨rfl, rfl⟩
    · go_wp2
      go_roundw
      case rel => exact ⟨by first | exact trivial | rfl, .inr (.inl ⟨rfl, rfl⟩)⟩
      case measure => simp [intOf]
    · go_wp2
      go_roundw
      case rel => exact ⟨by first | exact trivial | rfl, .inr (.inr ⟨rfl, by simp⟩)⟩
      case measure => simp [intOf]
    · go_wp2_with (first
        | (go_at_call 40; refine (grow_any (n + n') w (by omega)).mono ?_; rintro e w1 ⟨v1, rfl, ho1, b1⟩))
      have hh0 := hid h0
      have hh1 := hid h1
      clear h0 h1
      go_loopw [27, 6] (fun i v wq => (i = .int .i64 0 ∧ wq.ownsRow w.heap.size 23 2 v 0 [] ∧ Below w.heap.size w wq) ∨ (i = .int .i64 1 ∧ wq.ownsRow w.heap.size 23 2 v n (flat L) ∧ Below w.heap.size w wq) ∨ (i = .int .i64 2 ∧ wq.ownsRow w.heap.size 23 2 v (n + n') (flat (L ++ M)) ∧ Below w.heap.size w wq)) (fun i _ _ => 2 - (intOf i).toNat)
      case atStart => exact .inl ⟨rfl, ho1, b1⟩
      case round =>
        have hcq : ∀ p : Addr, p.block = q → Below w.heap.size w wr → wr.cell? p = w.cell? p := fun p hp hb => hb.cell (by rw [hp]; exact hqs)
        rcases hrel with ⟨rfl, ho, hb⟩ | ⟨rfl, ho, hb⟩ | ⟨rfl, ho, hb⟩
        · have hc := hcq ⟨q, 0, none⟩ rfl hb
          rw [hh0.out] at hc
          clear hcq
          go_wp2_with (first
            | (at_builtin; refine wpList_append_dots rfl _ _ rfl w.heap.size _ _ _ rfl ho a n c L rfl (hs.below hb) (by omega) hb.size ?_; intro v2 w2 ho2 hg2))
          go_roundw
          case rel => exact .inr (.inl ⟨rfl, by simpa using ho2, hb.grown hg2 hb.size (fun j hj => (ho.lt j hj).1)⟩)
          case measure => simp [intOf]
        · have hc := hcq ⟨q, 1, none⟩ rfl hb
          rw [hh1.out] at hc
          clear hcq
          go_wp2_with (first
            | (at_builtin; refine wpList_append_dots rfl _ _ rfl w.heap.size _ _ _ rfl ho a' n' c' M rfl (hs'.below hb) (by omega) hb.size ?_; intro v2 w2 ho2 hg2))
          go_roundw
          case rel => exact .inr (.inr ⟨rfl, by rw [flat_append]; exact ho2, hb.grown hg2 hb.size (fun j hj => (ho.lt j hj).1)⟩)
          case measure => simp [intOf]
        · clear hcq
          go_wp2
          go_ret
          exact ⟨_, rfl, ho, hb⟩

end Go.Proofs.Ytmkjfgedhcidcaa
