/- The reference: one more move. -/
import Derived.Test.YtplcohjpchfkkaaTrRBlkO
import Derived.Deep.CutRange
import Derived.Deep.CutBlock
import Derived.BigQuiet
set_option linter.unusedVariables false
set_option linter.unusedSimpArgs false
namespace Go.Proofs.Ytplcohjpchfkkaa
open Go.RowKit

theorem rstore {U : World} {b : Nat} {t : TypeId} (hres : U.heap[b]? = some (.cells #[.slice none 0 0, .slice none 0 0, .slice none 0 0] t (0, 0))) (l s k : Value) : (((U.setCell ⟨b, 0, none⟩ l).setCell ⟨b, 1, none⟩ s).setCell ⟨b, 2, none⟩ k).cell? ⟨b, 0, none⟩ = some l ∧ (((U.setCell ⟨b, 0, none⟩ l).setCell ⟨b, 1, none⟩ s).setCell ⟨b, 2, none⟩ k).cell? ⟨b, 1, none⟩ = some s ∧ (((U.setCell ⟨b, 0, none⟩ l).setCell ⟨b, 1, none⟩ s).setCell ⟨b, 2, none⟩ k).cell? ⟨b, 2, none⟩ = some k ∧ (∀ j, j ≠ b → (((U.setCell ⟨b, 0, none⟩ l).setCell ⟨b, 1, none⟩ s).setCell ⟨b, 2, none⟩ k).heap[j]? = U.heap[j]?) ∧ U.heap.size ≤ (((U.setCell ⟨b, 0, none⟩ l).setCell ⟨b, 1, none⟩ s).setCell ⟨b, 2, none⟩ k).heap.size ∧ Sm U (((U.setCell ⟨b, 0, none⟩ l).setCell ⟨b, 1, none⟩ s).setCell ⟨b, 2, none⟩ k) := by
  have hzz : (((U.setCell ⟨b, 0, none⟩ l).setCell ⟨b, 1, none⟩ s).setCell ⟨b, 2, none⟩ k).heap[b]? = some (.cells #[l, s, k] t (0, 0)) := by
    have := set_blk (j := 2) (set_blk (j := 1) (set_blk (j := 0) hres l) s) k
    simpa using this
  refine ⟨by simp only [World.cell?, hzz]; rfl, by simp only [World.cell?, hzz]; rfl, by simp only [World.cell?, hzz]; rfl, fun j hj => (Below.heap_setCell _ _ _ j (by simpa using hj)).trans ((Below.heap_setCell _ _ _ j (by simpa using hj)).trans (Below.heap_setCell _ _ _ j (by simpa using hj))), ?_, ⟨rfl, rfl, rfl⟩⟩
  exact Nat.le_trans (grownBy_setCell U b 0 l).size (Nat.le_trans (grownBy_setCell _ b 1 s).size (grownBy_setCell _ b 2 k).size)

theorem mayT_not (d : Dt) : mayT d = (!decide (d = (0, 0)) && !endB d) := by
  unfold mayT endB
  by_cases h0 : d = (0, 0) <;> by_cases h1 : d = (0, -1) <;> by_cases h2 : d = (0, -2) <;> simp [h0, h1, h2]

set_option maxRecDepth 100000 in
set_option maxHeartbeats 8000000 in
theorem trmove_any (la : Option Addr) (n lc : Nat) (sa : Option Addr) (ns sc : Nat) (ka : Option Addr) (nk kc : Nat) (l : List Mv) (m : Mv) (w : World) (h : R3 w la n lc sa ns sc ka nk kc l) (hn : n ≤ 900) :
    Calls Try.prog 11 #[.agg #[.slice la n lc, .slice sa ns sc, .slice ka nk kc], m.val] w fun e w' => ∃ la' n' lc' sa' ns' sc' ka' nk' kc', e = .returned (.tuple #[.agg #[.slice la' n' lc', .slice sa' ns' sc', .slice ka' nk' kc'], .int .i64 (mvE l m)]) ∧ R3 w' la' n' lc' sa' ns' sc' ka' nk' kc' (mvL l m) ∧ Below w.heap.size w w' ∧ (∀ j, B3 la' n' sa' ns' ka' nk' j → B3 la n sa ns ka nk j ∨ w.heap.size ≤ j) := by
  obtain ⟨⟨i1, i2⟩, tm, ⟨b1, b2⟩, ⟨p1, p2⟩, ky⟩ := m
  have hmxo : Try.prog.follows .mixedOrders = true := by kernel_rfl
  have mixed := mixed
  obtain ⟨W0, hW0⟩ : ∃ W0, W0 = ((w.alloc (.cells #[.slice la n lc, .slice sa ns sc, .slice ka nk kc] 31)).alloc (.cells #[.int .i64 i1, .int .i64 i2, .int .i64 tm, .int .i64 b1, .int .i64 b2, .int .i64 p1, .int .i64 p2, .string ky] 33)).alloc (.cells #[.slice none 0 0, .slice none 0 0, .slice none 0 0] 31) := ⟨_, rfl⟩
  have hB0 : Below w.heap.size w W0 := by rw [hW0]; exact (((Below.refl _ w).alloc (Nat.le_refl _) _).alloc (by simp) _).alloc (by simp; omega) _
  have hz0 : W0.heap.size = w.heap.size + 3 := by rw [hW0]; simp
  have HBX : Hid (∀ U, Below W0.heap.size W0 U → (U.heap[w.heap.size]? = some (.cells #[.slice la n lc, .slice sa ns sc, .slice ka nk kc] 31 (0, 0)) ∧ U.heap[w.heap.size + 1]? = some (.cells #[.int .i64 i1, .int .i64 i2, .int .i64 tm, .int .i64 b1, .int .i64 b2, .int .i64 p1, .int .i64 p2, .string ky] 33 (0, 0)) ∧ U.heap[w.heap.size + 2]? = some (.cells #[.slice none 0 0, .slice none 0 0, .slice none 0 0] 31 (0, 0)))) := hid (fun U hU => by
    refine ⟨(hU.block _ (by omega)).trans ?_, (hU.block _ (by omega)).trans ?_, (hU.block _ (by omega)).trans ?_⟩
    · rw [hW0]
      exact (Below.heap_alloc _ _ _ (by simp; omega)).trans ((Below.heap_alloc _ _ _ (by simp)).trans (World.alloc_heap_new w _))
    · rw [hW0]
      have := World.alloc_heap_new (w.alloc (.cells #[.slice la n lc, .slice sa ns sc, .slice ka nk kc] 31)) (.cells #[.int .i64 i1, .int .i64 i2, .int .i64 tm, .int .i64 b1, .int .i64 b2, .int .i64 p1, .int .i64 p2, .string ky] 33)
      rw [World.size_alloc] at this
      exact (Below.heap_alloc _ _ _ (by simp)).trans this
    · rw [hW0]
      have := World.alloc_heap_new ((w.alloc (.cells #[.slice la n lc, .slice sa ns sc, .slice ka nk kc] 31)).alloc (.cells #[.int .i64 i1, .int .i64 i2, .int .i64 tm, .int .i64 b1, .int .i64 b2, .int .i64 p1, .int .i64 p2, .string ky] 33)) (.cells #[.slice none 0 0, .slice none 0 0, .slice none 0 0] 31)
      rw [World.size_alloc, World.size_alloc] at this
      exact this)
  have HTB : Hid (∀ U, Below W0.heap.size W0 U → (U.cell? ⟨w.heap.size, 0, none⟩ = some (.slice la n lc) ∧ U.cell? ⟨w.heap.size, 1, none⟩ = some (.slice sa ns sc) ∧ U.cell? ⟨w.heap.size, 2, none⟩ = some (.slice ka nk kc))) := hid (fun U hU => by
    obtain ⟨e, _, _⟩ := HBX.out U hU
    exact ⟨by simp [World.cell?, e], by simp [World.cell?, e], by simp [World.cell?, e]⟩)
  have HMB : Hid (∀ U, Below W0.heap.size W0 U → (U.cell? ⟨w.heap.size + 1, 0, none⟩ = some (.int .i64 i1) ∧ U.cell? ⟨w.heap.size + 1, 1, none⟩ = some (.int .i64 i2) ∧ U.cell? ⟨w.heap.size + 1, 2, none⟩ = some (.int .i64 tm) ∧ U.cell? ⟨w.heap.size + 1, 3, none⟩ = some (.int .i64 b1) ∧ U.cell? ⟨w.heap.size + 1, 4, none⟩ = some (.int .i64 b2) ∧ U.cell? ⟨w.heap.size + 1, 5, none⟩ = some (.int .i64 p1) ∧ U.cell? ⟨w.heap.size + 1, 6, none⟩ = some (.int .i64 p2) ∧ U.cell? ⟨w.heap.size + 1, 7, none⟩ = some (.string ky))) := hid (fun U hU => by
    obtain ⟨_, e, _⟩ := HBX.out U hU
    exact ⟨by simp [World.cell?, e], by simp [World.cell?, e], by simp [World.cell?, e], by simp [World.cell?, e], by simp [World.cell?, e], by simp [World.cell?, e], by simp [World.cell?, e], by simp [World.cell?, e]⟩)
  have HR := hid h
  have HLn := hid h.mv.len
  have hcap := h.mv.cap
  have hmax := h.mv.max
  unfold maxLen at hmax
  have HB0 := hid hB0
  have Hz0 := hid hz0
  obtain ⟨EI, hEI⟩ : ∃ E, E = endB (i1, i2) := ⟨_, rfl⟩
  obtain ⟨EB, hEB⟩ : ∃ E, E = endB (b1, b2) := ⟨_, rfl⟩
  obtain ⟨C, hC⟩ : ∃ C, C = !(mayT (i1, i2) && mayT (b1, b2)) := ⟨_, rfl⟩
  have HC1 : Hid (((i1, i2) : Dt) = (0, 0) → C = true) := hid (fun e => by rw [hC, mayT_not (i1, i2), decide_eq_true e]; rfl)
  have HC2 : Hid (((b1, b2) : Dt) = (0, 0) → C = true) := hid (fun e => by rw [hC, mayT_not (b1, b2), decide_eq_true e]; simp)
  have HC3 : Hid (EI = true ∨ EB = true → C = true) := hid (fun e => by
    rw [hC, mayT_not (i1, i2), mayT_not (b1, b2), ← hEI, ← hEB]
    rcases e with e | e <;> rw [e] <;> simp)
  have HC4 : Hid (((i1, i2) : Dt) ≠ (0, 0) → ((b1, b2) : Dt) ≠ (0, 0) → EI = false → EB = false → C = false) := hid (fun h1 h2 h3 h4 => by
    rw [hC, mayT_not (i1, i2), mayT_not (b1, b2), ← hEI, ← hEB, h3, h4, decide_eq_false h1, decide_eq_false h2]
    rfl)
  have HEa := (ends_any (i1, i2) W0).mono (R' := fun e U => e = .returned (.bool EI) ∧ Hid (Below W0.heap.size W0 U)) (fun e U g => ⟨by rw [g.1, hEI], hid g.2⟩)
  have HEb : Hid (∀ V, Below W0.heap.size W0 V → Calls Try.prog 27 #[.agg #[.int .i64 b1, .int .i64 b2]] V fun e U => e = .returned (.bool EB) ∧ Hid (Below W0.heap.size W0 U)) := hid (fun V hV => (ends_any (b1, b2) V).mono (fun e U g => ⟨by rw [g.1, hEB], hid (hV.trans (g.2.mono hV.size))⟩))
  have HC := hid hC
  have HW := hid hW0
  clear h hB0 hz0 hW0 hC hEI hEB
  show Calls Try.prog 11 #[.agg #[.slice la n lc, .slice sa ns sc, .slice ka nk kc], .agg #[.int .i64 i1, .int .i64 i2, .int .i64 tm, .int .i64 b1, .int .i64 b2, .int .i64 p1, .int .i64 p2, .string ky]] w _
  go_enter Try.func11, Try.ntmps11
  go_upto_region 1 with fail
  obtain ⟨m0, m1, m2, m3, m4, m5, m6, m7⟩ := HMB.out W0 (Below.refl _ _)
  rw [← HW.out]
  go_cut [29] from 10 to 29 (fun s wc => s = .bool C ∧ Hid (Below W0.heap.size W0 wc))
  case first =>
    by_cases e1 : i1 = 0
    · by_cases e2 : i2 = 0
      · subst e1 e2
        have hC : C = true := HC1.out rfl
        subst hC
        go_wp2_with (first
          | (go_at_call 27; have hq := HBa; refine (HEb.out _ HBa.out).mono ?_; rintro e U4 ⟨rfl, HBb⟩)
          | (go_at_call 27; refine HEa.mono ?_; rintro e U3 ⟨rfl, HBa⟩; obtain ⟨y0, y1, y2, y3, y4, y5, y6, y7⟩ := HMB.out _ HBa.out))
        go_meet
        case rel => exact ⟨rfl, by first | exact HBb | exact HBa | exact hid (Below.refl _ _)⟩
      · subst e1
        have h2 : (i2 == 0) = false := by simpa using e2
        have hiz : ((0, i2) : Dt) ≠ (0, 0) := fun e => e2 (Prod.mk.inj e).2
        by_cases f1 : b1 = 0
        · by_cases f2 : b2 = 0
          · subst f1 f2
            have hC : C = true := HC2.out rfl
            subst hC
            go_wp2_with (first
              | (go_at_call 27; have hq := HBa; refine (HEb.out _ HBa.out).mono ?_; rintro e U4 ⟨rfl, HBb⟩)
              | (go_at_call 27; refine HEa.mono ?_; rintro e U3 ⟨rfl, HBa⟩; obtain ⟨y0, y1, y2, y3, y4, y5, y6, y7⟩ := HMB.out _ HBa.out))
            go_meet
            case rel => exact ⟨rfl, by first | exact HBb | exact HBa | exact hid (Below.refl _ _)⟩
          · subst f1
            have g2 : (b2 == 0) = false := by simpa using f2
            have hbz : ((0, b2) : Dt) ≠ (0, 0) := fun e => f2 (Prod.mk.inj e).2
            cases EI with
            | true =>
              have hC : C = true := HC3.out (Or.inl rfl)
              subst hC
              go_wp2_with (first
                | (go_at_call 27; have hq := HBa; refine (HEb.out _ HBa.out).mono ?_; rintro e U4 ⟨rfl, HBb⟩)
                | (go_at_call 27; refine HEa.mono ?_; rintro e U3 ⟨rfl, HBa⟩; obtain ⟨y0, y1, y2, y3, y4, y5, y6, y7⟩ := HMB.out _ HBa.out))
              go_meet
              case rel => exact ⟨rfl, by first | exact HBb | exact HBa | exact hid (Below.refl _ _)⟩
            | false =>
              cases EB with
              | true =>
                have hC : C = true := HC3.out (Or.inr rfl)
                subst hC
                go_wp2_with (first
                  | (go_at_call 27; have hq := HBa; refine (HEb.out _ HBa.out).mono ?_; rintro e U4 ⟨rfl, HBb⟩)
                  | (go_at_call 27; refine HEa.mono ?_; rintro e U3 ⟨rfl, HBa⟩; obtain ⟨y0, y1, y2, y3, y4, y5, y6, y7⟩ := HMB.out _ HBa.out))
                go_meet
                case rel => exact ⟨rfl, by first | exact HBb | exact HBa | exact hid (Below.refl _ _)⟩
              | false =>
                have hC : C = false := HC4.out hiz hbz rfl rfl
                subst hC
                go_wp2_with (first
                  | (go_at_call 27; have hq := HBa; refine (HEb.out _ HBa.out).mono ?_; rintro e U4 ⟨rfl, HBb⟩)
                  | (go_at_call 27; refine HEa.mono ?_; rintro e U3 ⟨rfl, HBa⟩; obtain ⟨y0, y1, y2, y3, y4, y5, y6, y7⟩ := HMB.out _ HBa.out))
                go_meet
                case rel => exact ⟨rfl, by first | exact HBb | exact HBa | exact hid (Below.refl _ _)⟩
        · have g1 : (b1 == 0) = false := by simpa using f1
          have hbz : ((b1, b2) : Dt) ≠ (0, 0) := fun e => f1 (Prod.mk.inj e).1
          cases EI with
          | true =>
            have hC : C = true := HC3.out (Or.inl rfl)
            subst hC
            go_wp2_with (first
              | (go_at_call 27; have hq := HBa; refine (HEb.out _ HBa.out).mono ?_; rintro e U4 ⟨rfl, HBb⟩)
              | (go_at_call 27; refine HEa.mono ?_; rintro e U3 ⟨rfl, HBa⟩; obtain ⟨y0, y1, y2, y3, y4, y5, y6, y7⟩ := HMB.out _ HBa.out))
            go_meet
            case rel => exact ⟨rfl, by first | exact HBb | exact HBa | exact hid (Below.refl _ _)⟩
          | false =>
            cases EB with
            | true =>
              have hC : C = true := HC3.out (Or.inr rfl)
              subst hC
              go_wp2_with (first
                | (go_at_call 27; have hq := HBa; refine (HEb.out _ HBa.out).mono ?_; rintro e U4 ⟨rfl, HBb⟩)
                | (go_at_call 27; refine HEa.mono ?_; rintro e U3 ⟨rfl, HBa⟩; obtain ⟨y0, y1, y2, y3, y4, y5, y6, y7⟩ := HMB.out _ HBa.out))
              go_meet
              case rel => exact ⟨rfl, by first | exact HBb | exact HBa | exact hid (Below.refl _ _)⟩
            | false =>
              have hC : C = false := HC4.out hiz hbz rfl rfl
              subst hC
              go_wp2_with (first
                | (go_at_call 27; have hq := HBa; refine (HEb.out _ HBa.out).mono ?_; rintro e U4 ⟨rfl, HBb⟩)
                | (go_at_call 27; refine HEa.mono ?_; rintro e U3 ⟨rfl, HBa⟩; obtain ⟨y0, y1, y2, y3, y4, y5, y6, y7⟩ := HMB.out _ HBa.out))
              go_meet
              case rel => exact ⟨rfl, by first | exact HBb | exact HBa | exact hid (Below.refl _ _)⟩
    · have h1 : (i1 == 0) = false := by simpa using e1
      have hiz : ((i1, i2) : Dt) ≠ (0, 0) := fun e => e1 (Prod.mk.inj e).1
      by_cases f1 : b1 = 0
      · by_cases f2 : b2 = 0
        · subst f1 f2
          have hC : C = true := HC2.out rfl
          subst hC
          go_wp2_with (first
            | (go_at_call 27; have hq := HBa; refine (HEb.out _ HBa.out).mono ?_; rintro e U4 ⟨rfl, HBb⟩)
            | (go_at_call 27; refine HEa.mono ?_; rintro e U3 ⟨rfl, HBa⟩; obtain ⟨y0, y1, y2, y3, y4, y5, y6, y7⟩ := HMB.out _ HBa.out))
          go_meet
          case rel => exact ⟨rfl, by first | exact HBb | exact HBa | exact hid (Below.refl _ _)⟩
        · subst f1
          have g2 : (b2 == 0) = false := by simpa using f2
          have hbz : ((0, b2) : Dt) ≠ (0, 0) := fun e => f2 (Prod.mk.inj e).2
          cases EI with
          | true =>
            have hC : C = true := HC3.out (Or.inl rfl)
            subst hC
            go_wp2_with (first
              | (go_at_call 27; have hq := HBa; refine (HEb.out _ HBa.out).mono ?_; rintro e U4 ⟨rfl, HBb⟩)
              | (go_at_call 27; refine HEa.mono ?_; rintro e U3 ⟨rfl, HBa⟩; obtain ⟨y0, y1, y2, y3, y4, y5, y6, y7⟩ := HMB.out _ HBa.out))
            go_meet
            case rel => exact ⟨rfl, by first | exact HBb | exact HBa | exact hid (Below.refl _ _)⟩
          | false =>
            cases EB with
            | true =>
              have hC : C = true := HC3.out (Or.inr rfl)
              subst hC
              go_wp2_with (first
                | (go_at_call 27; have hq := HBa; refine (HEb.out _ HBa.out).mono ?_; rintro e U4 ⟨rfl, HBb⟩)
                | (go_at_call 27; refine HEa.mono ?_; rintro e U3 ⟨rfl, HBa⟩; obtain ⟨y0, y1, y2, y3, y4, y5, y6, y7⟩ := HMB.out _ HBa.out))
              go_meet
              case rel => exact ⟨rfl, by first | exact HBb | exact HBa | exact hid (Below.refl _ _)⟩
            | false =>
              have hC : C = false := HC4.out hiz hbz rfl rfl
              subst hC
              go_wp2_with (first
                | (go_at_call 27; have hq := HBa; refine (HEb.out _ HBa.out).mono ?_; rintro e U4 ⟨rfl, HBb⟩)
                | (go_at_call 27; refine HEa.mono ?_; rintro e U3 ⟨rfl, HBa⟩; obtain ⟨y0, y1, y2, y3, y4, y5, y6, y7⟩ := HMB.out _ HBa.out))
              go_meet
              case rel => exact ⟨rfl, by first | exact HBb | exact HBa | exact hid (Below.refl _ _)⟩
      · have g1 : (b1 == 0) = false := by simpa using f1
        have hbz : ((b1, b2) : Dt) ≠ (0, 0) := fun e => f1 (Prod.mk.inj e).1
        cases EI with
        | true =>
          have hC : C = true := HC3.out (Or.inl rfl)
          subst hC
          go_wp2_with (first
            | (go_at_call 27; have hq := HBa; refine (HEb.out _ HBa.out).mono ?_; rintro e U4 ⟨rfl, HBb⟩)
            | (go_at_call 27; refine HEa.mono ?_; rintro e U3 ⟨rfl, HBa⟩; obtain ⟨y0, y1, y2, y3, y4, y5, y6, y7⟩ := HMB.out _ HBa.out))
          go_meet
          case rel => exact ⟨rfl, by first | exact HBb | exact HBa | exact hid (Below.refl _ _)⟩
        | false =>
          cases EB with
          | true =>
            have hC : C = true := HC3.out (Or.inr rfl)
            subst hC
            go_wp2_with (first
              | (go_at_call 27; have hq := HBa; refine (HEb.out _ HBa.out).mono ?_; rintro e U4 ⟨rfl, HBb⟩)
              | (go_at_call 27; refine HEa.mono ?_; rintro e U3 ⟨rfl, HBa⟩; obtain ⟨y0, y1, y2, y3, y4, y5, y6, y7⟩ := HMB.out _ HBa.out))
            go_meet
            case rel => exact ⟨rfl, by first | exact HBb | exact HBa | exact hid (Below.refl _ _)⟩
          | false =>
            have hC : C = false := HC4.out hiz hbz rfl rfl
            subst hC
            go_wp2_with (first
              | (go_at_call 27; have hq := HBa; refine (HEb.out _ HBa.out).mono ?_; rintro e U4 ⟨rfl, HBb⟩)
              | (go_at_call 27; refine HEa.mono ?_; rintro e U3 ⟨rfl, HBa⟩; obtain ⟨y0, y1, y2, y3, y4, y5, y6, y7⟩ := HMB.out _ HBa.out))
            go_meet
            case rel => exact ⟨rfl, by first | exact HBb | exact HBa | exact hid (Below.refl _ _)⟩
  case rest =>
    clear HEa HEb m0 m1 m2 m3 m4 m5 m6 m7
    obtain ⟨rfl, HBU⟩ := hcut
    obtain ⟨U, hU⟩ : ∃ U, U = wc := ⟨_, rfl⟩
    rw [← hU] at HBU ⊢
    clear hU
    cases hCC : C with
    | true =>
      subst hCC
      have HEE : Hid (mvE l (⟨(i1, i2), tm, (b1, b2), (p1, p2), ky⟩ : Mv) = 1) := hid (by
        have h1 := HC.out
        unfold mvE
        show (if (mayT (i1, i2) && mayT (b1, b2)) = true then _ else _) = _
        cases h2 : (mayT (i1, i2) && mayT (b1, b2)) with
        | true => rw [h2] at h1; cases h1
        | false => rfl)
      obtain ⟨t0, t1, t2⟩ := HTB.out _ HBU.out
      have hxW : Below w.heap.size w U := HB0.out.trans (HBU.out.mono HB0.out.size)
      have hx := HBU.out
      obtain ⟨_, _, hres⟩ := HBX.out U hx
      have r0 : U.cell? ⟨w.heap.size + 2, 0, none⟩ = some (.slice none 0 0) := by simp [World.cell?, hres]
      have r1 : U.cell? ⟨w.heap.size + 2, 1, none⟩ = some (.slice none 0 0) := by simp [World.cell?, hres]
      have r2 : U.cell? ⟨w.heap.size + 2, 2, none⟩ = some (.slice none 0 0) := by simp [World.cell?, hres]
      have z0 : U.frozen? ⟨w.heap.size + 2, 0, none⟩ = false := by simp [World.frozen?, hres]
      have z1 : U.frozen? ⟨w.heap.size + 2, 1, none⟩ = false := by simp [World.frozen?, hres]
      have z2 : U.frozen? ⟨w.heap.size + 2, 2, none⟩ = false := by simp [World.frozen?, hres]
      obtain ⟨ZZ, hZZ⟩ : ∃ ZZ, ZZ = ((U.setCell ⟨w.heap.size + 2, 0, none⟩ (.slice la n lc)).setCell ⟨w.heap.size + 2, 1, none⟩ (.slice sa ns sc)).setCell ⟨w.heap.size + 2, 2, none⟩ (.slice ka nk kc) := ⟨_, rfl⟩
      obtain ⟨q0, q1, q2, hkp, hsz, hZs⟩ := rstore hres (.slice la n lc) (.slice sa ns sc) (.slice ka nk kc)
      rw [← hZZ] at q0 q1 q2 hkp hsz hZs
      have hZB : Below w.heap.size w ZZ := ⟨hZs.1.trans hxW.os, hZs.2.1.trans hxW.tape, hZs.2.2.trans hxW.output, Nat.le_trans hxW.size hsz, fun j hj => (hkp j (by omega)).trans (hxW.block j hj)⟩
      have HF : Hid (∃ la' n' lc' sa' ns' sc' ka' nk' kc', Ending.returned (.tuple #[.agg #[.slice la n lc, .slice sa ns sc, .slice ka nk kc], .int .i64 1]) = .returned (.tuple #[.agg #[.slice la' n' lc', .slice sa' ns' sc', .slice ka' nk' kc'], .int .i64 (mvE l (⟨(i1, i2), tm, (b1, b2), (p1, p2), ky⟩ : Mv))]) ∧ R3 ZZ la' n' lc' sa' ns' sc' ka' nk' kc' (mvL l (⟨(i1, i2), tm, (b1, b2), (p1, p2), ky⟩ : Mv)) ∧ Below w.heap.size w ZZ ∧ (∀ j, B3 la' n' sa' ns' ka' nk' j → B3 la n sa ns ka nk j ∨ w.heap.size ≤ j)) := hid (by
        rw [HEE.out]
        exact ⟨la, n, lc, sa, ns, sc, ka, nk, kc, rfl, by
          have e : mvL l (⟨(i1, i2), tm, (b1, b2), (p1, p2), ky⟩ : Mv) = l := by unfold mvL; rw [HEE.out]; exact if_neg (by decide)
          rw [e]
          exact HR.out.below hZB, hZB, fun j hj => Or.inl hj⟩)
      clear hkp hsz hZs hZB hxW
      go_wp2_with fail
      rw [← hZZ]
      clear hZZ
      refine bodyPost_ret (v := .tuple #[.agg #[.slice la n lc, .slice sa ns sc, .slice ka nk kc], .int .i64 1]) (by simp [results, Try.results11, go_sem, q0, q1, q2]) rfl ?_
      exact HF.out
    | false =>
      subst hCC
      have HMy : Hid (mayT (i1, i2) = true ∧ mayT (b1, b2) = true) := hid (by
        have h1 := HC.out
        cases h2 : mayT (i1, i2) with
        | false => rw [h2] at h1; cases h1
        | true =>
          cases h3 : mayT (b1, b2) with
          | false => rw [h2, h3] at h1; cases h1
          | true => exact ⟨rfl, rfl⟩)
      go_wp2_with fail
      go_loopw [6, 7] (fun kv iv wr => ∃ (k q : Nat), k ≤ n ∧ q ≤ k ∧ kv = .int .i64 q ∧ iv = .int .i64 k ∧ Hid (q = ((l.take k).filter (fun y => mvl y (⟨(i1, i2), tm, (b1, b2), (p1, p2), ky⟩ : Mv))).length) ∧ Hid (∀ x ∈ l.take k, x.id ≠ (i1, i2)) ∧ Hid (Below W0.heap.size W0 wr)) (fun _ i _ => n - (intOf i).toNat)
      case atStart => exact ⟨0, 0, by omega, by omega, rfl, rfl, hid rfl, hid (by simp), HBU⟩
      case round =>
        clear HBU
        obtain ⟨k, q, hk, hqk, rfl, rfl, HQ0, HNo, HBU⟩ := hrel
        obtain ⟨t0, t1, t2⟩ := HTB.out _ HBU.out
        by_cases hkn : k < n
        · obtain ⟨x, hx⟩ : ∃ x, l[k]? = some x := ⟨_, List.getElem?_eq_getElem (by rw [HLn.out]; exact hkn)⟩
          have hb1 : decide ((k : Int) < (n : Int)) = true := by simp [hkn]
          obtain ⟨⟨zi1, zi2⟩, ztm, ⟨zb1, zb2⟩, ⟨zp1, zp2⟩, zky⟩ := x
          obtain ⟨g, o, rfl, hg, hcl⟩ := HR.out.mv.look hx
          have HCL : Hid (∀ V, Below W0.heap.size W0 V → (V.cell? ⟨g, o + k * 8, none⟩ = some (.int .i64 zi1) ∧ V.cell? ⟨g, o + k * 8 + 1, none⟩ = some (.int .i64 zi2) ∧ V.cell? ⟨g, o + k * 8 + 2, none⟩ = some (.int .i64 ztm) ∧ V.cell? ⟨g, o + k * 8 + 3, none⟩ = some (.int .i64 zb1) ∧ V.cell? ⟨g, o + k * 8 + 4, none⟩ = some (.int .i64 zb2) ∧ V.cell? ⟨g, o + k * 8 + 5, none⟩ = some (.int .i64 zp1) ∧ V.cell? ⟨g, o + k * 8 + 6, none⟩ = some (.int .i64 zp2) ∧ V.cell? ⟨g, o + k * 8 + 7, none⟩ = some (.string zky))) := hid (fun V hV => hcl V ((HB0.out.trans (hV.mono HB0.out.size)).block g hg))
          have HTK : Hid (l.take (k + 1) = l.take k ++ [(⟨(zi1, zi2), ztm, (zb1, zb2), (zp1, zp2), zky⟩ : Mv)]) := hid (by rw [List.take_succ_eq_append_getElem (by rw [HLn.out]; exact hkn), (List.getElem?_eq_some_iff.1 hx).2])
          have HRK : Hid (((l.take (k + 1)).filter (fun y => mvl y (⟨(i1, i2), tm, (b1, b2), (p1, p2), ky⟩ : Mv))).length = ((l.take k).filter (fun y => mvl y (⟨(i1, i2), tm, (b1, b2), (p1, p2), ky⟩ : Mv))).length + (if mvl (⟨(zi1, zi2), ztm, (zb1, zb2), (zp1, zp2), zky⟩ : Mv) (⟨(i1, i2), tm, (b1, b2), (p1, p2), ky⟩ : Mv) then 1 else 0)) := hid (rk_next hx)
          have HXM : Hid ((⟨(zi1, zi2), ztm, (zb1, zb2), (zp1, zp2), zky⟩ : Mv) ∈ l) := hid (List.mem_of_getElem? hx)
          clear hx hcl hg
          have hkq : (k : Int) < (n : Int) := by omega
          have hkq0 : (0 : Int) ≤ (k : Int) := by omega
          obtain ⟨Bq, hBq⟩ : ∃ Bq, Bq = decide (((zi1, zi2) : Dt) = (i1, i2)) := ⟨_, rfl⟩
          have HBq := hid hBq
          clear hBq
          have C0 : ∀ mm, (wr.drewN mm).cell? ⟨w.heap.size, 0, none⟩ = some (.slice (some ⟨g, o, none⟩) n lc) := fun mm => (HTB.out _ HBU.out).1
          have C1 : ∀ mm, (wr.drewN mm).cell? ⟨w.heap.size + 1, 0, none⟩ = some (.int .i64 i1) := fun mm => (HMB.out _ HBU.out).1
          have C2 : ∀ mm, (wr.drewN mm).cell? ⟨w.heap.size + 1, 1, none⟩ = some (.int .i64 i2) := fun mm => (HMB.out _ HBU.out).2.1
          have C3 : ∀ mm, (wr.drewN mm).cell? ⟨g, o + k * 8, none⟩ = some (.int .i64 zi1) := fun mm => (HCL.out _ HBU.out).1
          have C4 : ∀ mm, (wr.drewN mm).cell? ⟨g, o + k * 8 + 1, none⟩ = some (.int .i64 zi2) := fun mm => (HCL.out _ HBU.out).2.1
          go_upto_region 7 with fail
          go_cut [46] from 31 to 46 (fun s wc => s = .bool Bq ∧ Hid (Below W0.heap.size W0 wc))
          case first =>
            by_cases e1 : zi1 = i1
            · by_cases e2 : zi2 = i2
              · have hBB : Bq = true := by rw [HBq.out, e1, e2]; simp
                subst hBB
                have f1 : (zi1 == i1) = true := by simpa using e1
                have f2 : (zi2 == i2) = true := by simpa using e2
                clear e1 e2
                go_quiet (fail)
                go_wp2_with fail
                go_meet
                case rel => exact ⟨rfl, hid (HBU.out.trans (((Far.refl wr).drewN _).below.mono HBU.out.size))⟩
              · have hBB : Bq = false := by rw [HBq.out]; simp [e2]
                subst hBB
                have f1 : (zi1 == i1) = true := by simpa using e1
                have f2 : (zi2 == i2) = false := by simpa using e2
                clear e1 e2
                go_quiet (fail)
                go_wp2_with fail
                go_meet
                case rel => exact ⟨rfl, hid (HBU.out.trans (((Far.refl wr).drewN _).below.mono HBU.out.size))⟩
            · have hBB : Bq = false := by rw [HBq.out]; simp [e1]
              subst hBB
              have f1 : (zi1 == i1) = false := by simpa using e1
              clear e1
              go_quiet (fail)
              go_wp2_with fail
              go_meet
              case rel => exact ⟨rfl, hid (HBU.out.trans (((Far.refl wr).drewN _).below.mono HBU.out.size))⟩
          case rest =>
            clear C0 C1 C2 C3 C4
            obtain ⟨rfl, HBV⟩ := hcut
            obtain ⟨U, hU⟩ : ∃ U, U = wc := ⟨_, rfl⟩
            rw [← hU] at HBV ⊢
            clear hU
            cases hBB : Bq with
            | true =>
              subst hBB
              have HEE : Hid (mvE l (⟨(i1, i2), tm, (b1, b2), (p1, p2), ky⟩ : Mv) = 32) := hid (mvE_twice HMy.out.1 HMy.out.2 HXM.out (of_decide_eq_true HBq.out.symm))
              obtain ⟨t0, t1, t2⟩ := HTB.out _ HBV.out
              have hxW : Below w.heap.size w U := HB0.out.trans (HBV.out.mono HB0.out.size)
              have hx := HBV.out
              obtain ⟨_, _, hres⟩ := HBX.out U hx
              have r0 : U.cell? ⟨w.heap.size + 2, 0, none⟩ = some (.slice none 0 0) := by simp [World.cell?, hres]
              have r1 : U.cell? ⟨w.heap.size + 2, 1, none⟩ = some (.slice none 0 0) := by simp [World.cell?, hres]
              have r2 : U.cell? ⟨w.heap.size + 2, 2, none⟩ = some (.slice none 0 0) := by simp [World.cell?, hres]
              have z0 : U.frozen? ⟨w.heap.size + 2, 0, none⟩ = false := by simp [World.frozen?, hres]
              have z1 : U.frozen? ⟨w.heap.size + 2, 1, none⟩ = false := by simp [World.frozen?, hres]
              have z2 : U.frozen? ⟨w.heap.size + 2, 2, none⟩ = false := by simp [World.frozen?, hres]
              obtain ⟨ZZ, hZZ⟩ : ∃ ZZ, ZZ = ((U.setCell ⟨w.heap.size + 2, 0, none⟩ (.slice (some ⟨g, o, none⟩) n lc)).setCell ⟨w.heap.size + 2, 1, none⟩ (.slice sa ns sc)).setCell ⟨w.heap.size + 2, 2, none⟩ (.slice ka nk kc) := ⟨_, rfl⟩
              obtain ⟨q0, q1, q2, hkp, hsz, hZs⟩ := rstore hres (.slice (some ⟨g, o, none⟩) n lc) (.slice sa ns sc) (.slice ka nk kc)
              rw [← hZZ] at q0 q1 q2 hkp hsz hZs
              have hZB : Below w.heap.size w ZZ := ⟨hZs.1.trans hxW.os, hZs.2.1.trans hxW.tape, hZs.2.2.trans hxW.output, Nat.le_trans hxW.size hsz, fun j hj => (hkp j (by omega)).trans (hxW.block j hj)⟩
              have HF : Hid (∃ la' n' lc' sa' ns' sc' ka' nk' kc', Ending.returned (.tuple #[.agg #[.slice (some ⟨g, o, none⟩) n lc, .slice sa ns sc, .slice ka nk kc], .int .i64 32]) = .returned (.tuple #[.agg #[.slice la' n' lc', .slice sa' ns' sc', .slice ka' nk' kc'], .int .i64 (mvE l (⟨(i1, i2), tm, (b1, b2), (p1, p2), ky⟩ : Mv))]) ∧ R3 ZZ la' n' lc' sa' ns' sc' ka' nk' kc' (mvL l (⟨(i1, i2), tm, (b1, b2), (p1, p2), ky⟩ : Mv)) ∧ Below w.heap.size w ZZ ∧ (∀ j, B3 la' n' sa' ns' ka' nk' j → B3 (some ⟨g, o, none⟩) n sa ns ka nk j ∨ w.heap.size ≤ j)) := hid (by
                rw [HEE.out]
                exact ⟨_, n, lc, sa, ns, sc, ka, nk, kc, rfl, by
                  have e : mvL l (⟨(i1, i2), tm, (b1, b2), (p1, p2), ky⟩ : Mv) = l := by unfold mvL; rw [HEE.out]; exact if_neg (by decide)
                  rw [e]
                  exact HR.out.below hZB, hZB, fun j hj => Or.inl hj⟩)
              clear hkp hsz hZs hZB hxW
              go_wp2_with fail
              rw [← hZZ]
              clear hZZ
              refine bodyPost_ret (v := .tuple #[.agg #[.slice (some ⟨g, o, none⟩) n lc, .slice sa ns sc, .slice ka nk kc], .int .i64 32]) (by simp [results, Try.results11, go_sem, q0, q1, q2]) rfl ?_
              exact HF.out
            | false =>
              subst hBB
              obtain ⟨A, hA⟩ : ∃ A, A = mvl (⟨(zi1, zi2), ztm, (zb1, zb2), (zp1, zp2), zky⟩ : Mv) (⟨(i1, i2), tm, (b1, b2), (p1, p2), ky⟩ : Mv) := ⟨_, rfl⟩
              have HSS : Hid (∀ V, Below W0.heap.size W0 V → (V.cell? ⟨w.heap.size, 0, none⟩ = some (.slice (some ⟨g, o, none⟩) n lc) ∧ V.cell? ⟨w.heap.size + 1, 0, none⟩ = some (.int .i64 i1) ∧ V.cell? ⟨w.heap.size + 1, 1, none⟩ = some (.int .i64 i2) ∧ V.cell? ⟨w.heap.size + 1, 2, none⟩ = some (.int .i64 tm) ∧ V.cell? ⟨w.heap.size + 1, 3, none⟩ = some (.int .i64 b1) ∧ V.cell? ⟨w.heap.size + 1, 4, none⟩ = some (.int .i64 b2) ∧ V.cell? ⟨w.heap.size + 1, 5, none⟩ = some (.int .i64 p1) ∧ V.cell? ⟨w.heap.size + 1, 6, none⟩ = some (.int .i64 p2) ∧ V.cell? ⟨w.heap.size + 1, 7, none⟩ = some (.string ky) ∧ V.cell? ⟨g, o + k * 8, none⟩ = some (.int .i64 zi1) ∧ V.cell? ⟨g, o + k * 8 + 1, none⟩ = some (.int .i64 zi2) ∧ V.cell? ⟨g, o + k * 8 + 2, none⟩ = some (.int .i64 ztm) ∧ V.cell? ⟨g, o + k * 8 + 3, none⟩ = some (.int .i64 zb1) ∧ V.cell? ⟨g, o + k * 8 + 4, none⟩ = some (.int .i64 zb2) ∧ V.cell? ⟨g, o + k * 8 + 5, none⟩ = some (.int .i64 zp1) ∧ V.cell? ⟨g, o + k * 8 + 6, none⟩ = some (.int .i64 zp2) ∧ V.cell? ⟨g, o + k * 8 + 7, none⟩ = some (.string zky))) := hid (fun V hV => by
                obtain ⟨c0, _, _⟩ := HTB.out V hV
                obtain ⟨m0, m1, m2, m3, m4, m5, m6, m7⟩ := HMB.out V hV
                obtain ⟨y0, y1, y2, y3, y4, y5, y6, y7⟩ := HCL.out V hV
                exact ⟨c0, m0, m1, m2, m3, m4, m5, m6, m7, y0, y1, y2, y3, y4, y5, y6, y7⟩)
              have HAh : Calls Try.prog 28 #[.agg #[.int .i64 zi1, .int .i64 zi2, .int .i64 ztm, .int .i64 zb1, .int .i64 zb2, .int .i64 zp1, .int .i64 zp2, .string zky], .agg #[.int .i64 i1, .int .i64 i2, .int .i64 tm, .int .i64 b1, .int .i64 b2, .int .i64 p1, .int .i64 p2, .string ky]] U.drew fun e V => e = .returned (.bool A) ∧ (V.cell? ⟨w.heap.size, 0, none⟩ = some (.slice (some ⟨g, o, none⟩) n lc) ∧ V.cell? ⟨w.heap.size + 1, 0, none⟩ = some (.int .i64 i1) ∧ V.cell? ⟨w.heap.size + 1, 1, none⟩ = some (.int .i64 i2) ∧ V.cell? ⟨w.heap.size + 1, 2, none⟩ = some (.int .i64 tm) ∧ V.cell? ⟨w.heap.size + 1, 3, none⟩ = some (.int .i64 b1) ∧ V.cell? ⟨w.heap.size + 1, 4, none⟩ = some (.int .i64 b2) ∧ V.cell? ⟨w.heap.size + 1, 5, none⟩ = some (.int .i64 p1) ∧ V.cell? ⟨w.heap.size + 1, 6, none⟩ = some (.int .i64 p2) ∧ V.cell? ⟨w.heap.size + 1, 7, none⟩ = some (.string ky) ∧ V.cell? ⟨g, o + k * 8, none⟩ = some (.int .i64 zi1) ∧ V.cell? ⟨g, o + k * 8 + 1, none⟩ = some (.int .i64 zi2) ∧ V.cell? ⟨g, o + k * 8 + 2, none⟩ = some (.int .i64 ztm) ∧ V.cell? ⟨g, o + k * 8 + 3, none⟩ = some (.int .i64 zb1) ∧ V.cell? ⟨g, o + k * 8 + 4, none⟩ = some (.int .i64 zb2) ∧ V.cell? ⟨g, o + k * 8 + 5, none⟩ = some (.int .i64 zp1) ∧ V.cell? ⟨g, o + k * 8 + 6, none⟩ = some (.int .i64 zp2) ∧ V.cell? ⟨g, o + k * 8 + 7, none⟩ = some (.string zky)) ∧ Hid (Below W0.heap.size W0 V) := (trahead_any (⟨(zi1, zi2), ztm, (zb1, zb2), (zp1, zp2), zky⟩ : Mv) (⟨(i1, i2), tm, (b1, b2), (p1, p2), ky⟩ : Mv) U.drew).mono (fun e V h => by
                have hb : Below W0.heap.size W0 V := HBV.out.drew.trans (h.2.mono HBV.out.size)
                exact ⟨by rw [h.1, hA], HSS.out V hb, hid hb⟩)
              have hS9 := HSS.out U.drew HBV.out.drew
              have HA := hid hA
              clear hA
              go_wp2_with fail
              refine wp_region_held_drew (S := fun w' => w'.cell? ⟨w.heap.size, 0, none⟩ = some (.slice (some ⟨g, o, none⟩) n lc) ∧ w'.cell? ⟨w.heap.size + 1, 0, none⟩ = some (.int .i64 i1) ∧ w'.cell? ⟨w.heap.size + 1, 1, none⟩ = some (.int .i64 i2) ∧ w'.cell? ⟨w.heap.size + 1, 2, none⟩ = some (.int .i64 tm) ∧ w'.cell? ⟨w.heap.size + 1, 3, none⟩ = some (.int .i64 b1) ∧ w'.cell? ⟨w.heap.size + 1, 4, none⟩ = some (.int .i64 b2) ∧ w'.cell? ⟨w.heap.size + 1, 5, none⟩ = some (.int .i64 p1) ∧ w'.cell? ⟨w.heap.size + 1, 6, none⟩ = some (.int .i64 p2) ∧ w'.cell? ⟨w.heap.size + 1, 7, none⟩ = some (.string ky) ∧ w'.cell? ⟨g, o + k * 8, none⟩ = some (.int .i64 zi1) ∧ w'.cell? ⟨g, o + k * 8 + 1, none⟩ = some (.int .i64 zi2) ∧ w'.cell? ⟨g, o + k * 8 + 2, none⟩ = some (.int .i64 ztm) ∧ w'.cell? ⟨g, o + k * 8 + 3, none⟩ = some (.int .i64 zb1) ∧ w'.cell? ⟨g, o + k * 8 + 4, none⟩ = some (.int .i64 zb2) ∧ w'.cell? ⟨g, o + k * 8 + 5, none⟩ = some (.int .i64 zp1) ∧ w'.cell? ⟨g, o + k * 8 + 6, none⟩ = some (.int .i64 zp2) ∧ w'.cell? ⟨g, o + k * 8 + 7, none⟩ = some (.string zky)) hmxo hS9 ?_
              intro _
              refine wpAnyH_take (i := 0) (v := .pointer (some ⟨w.heap.size, 0, none⟩)) rfl (by kernel_rfl) (by kernel_rfl) (by kernel_rfl) (fun _ _ _ h => h) (Or.inl ⟨by kernel_rfl, fun w hSw => ?_⟩) hS9 ?_
              · obtain ⟨e1, e2, e3, e4, e5, e6, e7, e8, e9, e10, e11, e12, e13, e14, e15, e16, e17⟩ := hSw; go_simp
              simp only [Act.put, List.getElem_toArray, List.getElem_cons_succ, List.getElem_cons_zero, List.setIfInBounds_toArray, List.set_cons_zero, List.set_cons_succ]
              refine wpAnyH_take (i := 1) (v := .slice (some ⟨g, o, none⟩) n lc) rfl (by kernel_rfl) (by kernel_rfl) (by kernel_rfl) (fun _ _ _ h => h) (Or.inl ⟨by kernel_rfl, fun w hSw => ?_⟩) hS9 ?_
              · obtain ⟨e1, e2, e3, e4, e5, e6, e7, e8, e9, e10, e11, e12, e13, e14, e15, e16, e17⟩ := hSw; go_simp
              simp only [Act.put, List.getElem_toArray, List.getElem_cons_succ, List.getElem_cons_zero, List.setIfInBounds_toArray, List.set_cons_zero, List.set_cons_succ]
              refine wpAnyH_take (i := 2) (v := .int .i64 (k : Int)) rfl (by kernel_rfl) (by kernel_rfl) (by kernel_rfl) (fun _ _ _ h => h) (Or.inl ⟨by kernel_rfl, fun w hSw => ?_⟩) hS9 ?_
              · obtain ⟨e1, e2, e3, e4, e5, e6, e7, e8, e9, e10, e11, e12, e13, e14, e15, e16, e17⟩ := hSw; go_simp
              simp only [Act.put, List.getElem_toArray, List.getElem_cons_succ, List.getElem_cons_zero, List.setIfInBounds_toArray, List.set_cons_zero, List.set_cons_succ]
              refine wpAnyH_take (i := 3) (v := .pointer (some ⟨g, o + k * 8, none⟩)) rfl (by kernel_rfl) (by kernel_rfl) (by kernel_rfl) (fun _ _ _ h => h) (Or.inl ⟨by kernel_rfl, fun w hSw => ?_⟩) hS9 ?_
              · obtain ⟨e1, e2, e3, e4, e5, e6, e7, e8, e9, e10, e11, e12, e13, e14, e15, e16, e17⟩ := hSw; go_simp
              simp only [Act.put, List.getElem_toArray, List.getElem_cons_succ, List.getElem_cons_zero, List.setIfInBounds_toArray, List.set_cons_zero, List.set_cons_succ]
              refine wpAnyH_take (i := 4) (v := .agg #[.int .i64 zi1, .int .i64 zi2, .int .i64 ztm, .int .i64 zb1, .int .i64 zb2, .int .i64 zp1, .int .i64 zp2, .string zky]) rfl (by kernel_rfl) (by kernel_rfl) (by kernel_rfl) (fun _ _ _ h => h) (Or.inl ⟨by kernel_rfl, fun w hSw => ?_⟩) hS9 ?_
              · obtain ⟨e1, e2, e3, e4, e5, e6, e7, e8, e9, e10, e11, e12, e13, e14, e15, e16, e17⟩ := hSw; go_simp
              simp only [Act.put, List.getElem_toArray, List.getElem_cons_succ, List.getElem_cons_zero, List.setIfInBounds_toArray, List.set_cons_zero, List.set_cons_succ]
              refine wpAnyH_take (i := 5) (v := .agg #[.int .i64 i1, .int .i64 i2, .int .i64 tm, .int .i64 b1, .int .i64 b2, .int .i64 p1, .int .i64 p2, .string ky]) rfl (by kernel_rfl) (by kernel_rfl) (by kernel_rfl) (fun _ _ _ h => h) (Or.inl ⟨by kernel_rfl, fun w hSw => ?_⟩) hS9 ?_
              · obtain ⟨e1, e2, e3, e4, e5, e6, e7, e8, e9, e10, e11, e12, e13, e14, e15, e16, e17⟩ := hSw; go_simp
              simp only [Act.put, List.getElem_toArray, List.getElem_cons_succ, List.getElem_cons_zero, List.setIfInBounds_toArray, List.set_cons_zero, List.set_cons_succ]
              refine wpAnyH_ready (rs := [6]) (by kernel_rfl) (by simp) ?_
              refine AllReadyH.cons rfl (fun K hK => ?_) AllReadyH.nil
              go_simp
              refine (HAh).mono ?_
              rintro e V1 ⟨rfl, hS10, HB3⟩
              refine hK.out _ _ hS10 (fun _ => ?_)
              clear hK K
              refine wpAnyH_take (i := 7) (v := .bool A) rfl (by kernel_rfl) (by kernel_rfl) (by kernel_rfl) (fun _ _ _ h => h) (Or.inl ⟨by kernel_rfl, fun w hSw => ?_⟩) hS10 ?_
              · obtain ⟨e1, e2, e3, e4, e5, e6, e7, e8, e9, e10, e11, e12, e13, e14, e15, e16, e17⟩ := hSw; go_simp
              simp only [Act.put, List.getElem_toArray, List.getElem_cons_succ, List.getElem_cons_zero, List.setIfInBounds_toArray, List.set_cons_zero, List.set_cons_succ]
              refine wpAnyH_done (by kernel_rfl) ?_ _
              clear HAh hS9 hS10
              have HNx : Hid (∀ x ∈ l.take (k + 1), x.id ≠ (i1, i2)) := hid (fun x hx => by
                rw [HTK.out] at hx
                rcases List.mem_append.1 hx with h | h
                · exact HNo.out x h
                · rw [List.mem_singleton.1 h]
                  exact of_decide_eq_false HBq.out.symm)
              cases hAA : A with
              | true =>
                subst hAA
                go_wp2
                go_roundw
                case rel => exact ⟨k + 1, q + 1, by omega, by omega, by go_num, by go_num, hid (by rw [HRK.out, ← HA.out, ← HQ0.out]; rfl), HNx, HB3⟩
                case measure => simp [intOf]; omega
              | false =>
                subst hAA
                go_wp2
                go_roundw
                case rel => exact ⟨k + 1, q, by omega, by omega, rfl, by go_num, hid (by rw [HRK.out, ← HA.out, ← HQ0.out]; rfl), HNx, HB3⟩
                case measure => simp [intOf]; omega
        · clear t0 t1 t2
          obtain rfl : n = k := by omega
          have hb1 : decide ((n : Int) < (n : Int)) = false := by simp
          have hln : l.take n = l := List.take_of_length_le (by rw [HLn.out]; exact Nat.le_refl _)
          rw [hln] at HQ0 HNo
          have HQ : Hid (q = rkL mvl l (⟨(i1, i2), tm, (b1, b2), (p1, p2), ky⟩ : Mv)) := HQ0
          have HE0 : Hid (mvE l (⟨(i1, i2), tm, (b1, b2), (p1, p2), ky⟩ : Mv) = 0) := hid (mvE_ok HMy.out.1 HMy.out.2 HNo.out)
          have hnl := HR.out.mv.nil
          have hat := HR.out.mv.at_
          have hmx := HR.out.mv.max
          unfold maxLen at hmx
          obtain ⟨U5, hU5⟩ : ∃ U5, U5 = wr := ⟨_, rfl⟩
          rw [← hU5] at HBU ⊢
          clear hU5
          cases la with
          | none =>
            obtain ⟨hn0, hc0⟩ := hnl rfl
            subst hn0 hc0
            obtain rfl : q = 0 := by omega
            clear hnl hat
            have hl3 : MvS U5 none 0 0 l := HR.out.mv.belo (HB0.out.trans (HBU.out.mono HB0.out.size))
            obtain ⟨m0, m1, m2, m3, m4, m5, m6, m7⟩ := HMB.out _ HBU.out
            obtain ⟨t0, _, _⟩ := HTB.out _ HBU.out
            have hz5 := HBU.out.size
            go_upto_region 16 with (first
              | (at_builtin; have hq := ho4; refine wpList_append_mvs rfl _ _ 22 Try.underlying22 rfl W0.heap.size v4 _ _ rfl ho4 none 0 (0 - 0) [] rfl (MvS.no _ _ _ (by simp) (by unfold maxLen; omega)) (by omega) (by omega) ?_; intro v5 W5 ho5 hg5)
              | (at_builtin; have hq := ho3; refine wpList_append_mvs rfl _ _ 22 Try.underlying22 rfl W0.heap.size v3 _ _ rfl (ho3.alloc _) (some ⟨W3.heap.size, 0, none⟩) 1 1 [(⟨(i1, i2), tm, (b1, b2), (p1, p2), ky⟩ : Mv)] rfl (mvs_one W3 (⟨(i1, i2), tm, (b1, b2), (p1, p2), ky⟩ : Mv)) (by omega) (by simp; omega) ?_; intro v4 W4 ho4 hg4; have b4 := (b3.alloc b3.size (.cells #[.int .i64 i1, .int .i64 i2, .int .i64 tm, .int .i64 b1, .int .i64 b2, .int .i64 p1, .int .i64 p2, .string ky] 33)).grown hg4 (b3.alloc b3.size (.cells #[.int .i64 i1, .int .i64 i2, .int .i64 tm, .int .i64 b1, .int .i64 b2, .int .i64 p1, .int .i64 p2, .string ky] 33)).size (fun j hj => (ho3.lt j hj).1); have hl4 : MvS W4 none 0 0 l := HR.out.mv.belo (HB0.out.trans (b4.mono HB0.out.size)); have hz4 := b4.size; obtain ⟨t3, _, _⟩ := HTB.out _ b4)
              | (at_builtin; refine wpList_append_mvs rfl _ _ 22 Try.underlying22 rfl W0.heap.size (.slice none 0 0) 0 [] rfl (World.ownsRow_nil _ _ _ _) none 0 0 (l.take 0) rfl (hl3.take 0 (by omega)) (by omega) hz5 ?_; intro v3 W3 ho3 hg3; have b3 := HBU.out.grown hg3 hz5 (fun j hj => by simp [Value.ownBlock] at hj); have hz3 := b3.size; obtain ⟨n0, n1, n2, n3, n4, n5, n6, n7⟩ := HMB.out _ b3))
            obtain ⟨a5, c5, rfl, hm5, hn5⟩ := rmove_fin (B := W0.heap.size) (k := 0) (n := 0) HLn.out (by omega) HQ.out (by rw [show l.drop 0 = [] from List.drop_eq_nil_of_le (by rw [HLn.out]; exact Nat.le_refl _)]; simpa using ho5)
            go_wp2_with fail
            go_at_call 29
            refine (trdone_any a5 _ c5 _ W5 hm5 (by omega)).mono ?_
            rintro e V6 ⟨sa6, ns6, sc6, ka6, nk6, kc6, rfl, h61, h62, h63, h64, h65⟩
            have b5 := b4.grown hg5 b4.size (fun j hj => (ho4.lt j hj).1)
            have hx : Below W0.heap.size W0 V6 := b5.trans (h63.mono b5.size)
            obtain ⟨_, _, hres⟩ := HBX.out V6 hx
            have r0 : V6.cell? ⟨w.heap.size + 2, 0, none⟩ = some (.slice none 0 0) := by simp [World.cell?, hres]
            have r1 : V6.cell? ⟨w.heap.size + 2, 1, none⟩ = some (.slice none 0 0) := by simp [World.cell?, hres]
            have r2 : V6.cell? ⟨w.heap.size + 2, 2, none⟩ = some (.slice none 0 0) := by simp [World.cell?, hres]
            have z0 : V6.frozen? ⟨w.heap.size + 2, 0, none⟩ = false := by simp [World.frozen?, hres]
            have z1 : V6.frozen? ⟨w.heap.size + 2, 1, none⟩ = false := by simp [World.frozen?, hres]
            have z2 : V6.frozen? ⟨w.heap.size + 2, 2, none⟩ = false := by simp [World.frozen?, hres]
            go_wp2_with fail
            have hxW : Below w.heap.size w V6 := HB0.out.trans (hx.mono HB0.out.size)
            obtain ⟨_, _, hres⟩ := HBX.out V6 hx
            have r0 : V6.cell? ⟨w.heap.size + 2, 0, none⟩ = some (.slice none 0 0) := by simp [World.cell?, hres]
            have r1 : V6.cell? ⟨w.heap.size + 2, 1, none⟩ = some (.slice none 0 0) := by simp [World.cell?, hres]
            have r2 : V6.cell? ⟨w.heap.size + 2, 2, none⟩ = some (.slice none 0 0) := by simp [World.cell?, hres]
            have z0 : V6.frozen? ⟨w.heap.size + 2, 0, none⟩ = false := by simp [World.frozen?, hres]
            have z1 : V6.frozen? ⟨w.heap.size + 2, 1, none⟩ = false := by simp [World.frozen?, hres]
            have z2 : V6.frozen? ⟨w.heap.size + 2, 2, none⟩ = false := by simp [World.frozen?, hres]
            obtain ⟨ZZ, hZZ⟩ : ∃ ZZ, ZZ = ((V6.setCell ⟨w.heap.size + 2, 0, none⟩ (.slice a5 (0 + 1) c5)).setCell ⟨w.heap.size + 2, 1, none⟩ (.slice sa6 ns6 sc6)).setCell ⟨w.heap.size + 2, 2, none⟩ (.slice ka6 nk6 kc6) := ⟨_, rfl⟩
            obtain ⟨q0, q1, q2, hkp, hsz, hZs⟩ := rstore hres (.slice a5 (0 + 1) c5) (.slice sa6 ns6 sc6) (.slice ka6 nk6 kc6)
            rw [← hZZ] at q0 q1 q2 hkp hsz hZs
            have hZB : Below w.heap.size w ZZ := ⟨hZs.1.trans hxW.os, hZs.2.1.trans hxW.tape, hZs.2.2.trans hxW.output, Nat.le_trans hxW.size hsz, fun j hj => (hkp j (by omega)).trans (hxW.block j hj)⟩
            have HF : Hid (∃ la' n' lc' sa' ns' sc' ka' nk' kc', Ending.returned (.tuple #[.agg #[.slice a5 (0 + 1) c5, .slice sa6 ns6 sc6, .slice ka6 nk6 kc6], .int .i64 0]) = .returned (.tuple #[.agg #[.slice la' n' lc', .slice sa' ns' sc', .slice ka' nk' kc'], .int .i64 (mvE l (⟨(i1, i2), tm, (b1, b2), (p1, p2), ky⟩ : Mv))]) ∧ R3 ZZ la' n' lc' sa' ns' sc' ka' nk' kc' (mvL l (⟨(i1, i2), tm, (b1, b2), (p1, p2), ky⟩ : Mv)) ∧ Below w.heap.size w ZZ ∧ (∀ j, B3 la' n' sa' ns' ka' nk' j → B3 none 0 sa ns ka nk j ∨ w.heap.size ≤ j)) := hid (by
              have hz0 := Hz0.out
              have hb5 := b5.size
              have hnew : ∀ j, B3 a5 (0 + 1) sa6 ns6 ka6 nk6 j → w.heap.size + 3 ≤ j := fun j hj => by
                rcases hj with ⟨_, ad, e, rfl⟩ | ⟨_, ad, e, rfl⟩ | ⟨_, ad, e, rfl⟩
                · have := hn5 ad e; omega
                · have := h64 ad e; omega
                · have := h65 ad e; omega
              have hR6 : R3 V6 a5 (0 + 1) c5 sa6 ns6 sc6 ka6 nk6 kc6 (insL mvl l (⟨(i1, i2), tm, (b1, b2), (p1, p2), ky⟩ : Mv)) := ⟨hm5.belo h63, h61, h62⟩
              rw [HE0.out]
              have e : mvL l (⟨(i1, i2), tm, (b1, b2), (p1, p2), ky⟩ : Mv) = insL mvl l (⟨(i1, i2), tm, (b1, b2), (p1, p2), ky⟩ : Mv) := by unfold mvL; rw [HE0.out]; exact if_pos rfl
              rw [e]
              exact ⟨_, _, _, _, _, _, _, _, _, rfl, hR6.same hsz (fun j hj => hkp j (by have := hnew j hj; omega)), hZB, fun j hj => Or.inr (by have := hnew j hj; omega)⟩)
            clear hkp hsz hZs hZB hxW
            rw [← hZZ]
            clear hZZ
            refine bodyPost_ret (v := .tuple #[.agg #[.slice a5 (0 + 1) c5, .slice sa6 ns6 sc6, .slice ka6 nk6 kc6], .int .i64 0]) (by simp [results, Try.results11, go_sem, q0, q1, q2]) rfl ?_
            exact HF.out
          | some ad =>
            clear hnl
            by_cases hqn : q < n
            · obtain ⟨g, o, e, hg, _⟩ := hat (by omega)
              cases e
              clear hat hg
              have hl3 : MvS U5 (some ⟨g, o, none⟩) n lc l := HR.out.mv.belo (HB0.out.trans (HBU.out.mono HB0.out.size))
              obtain ⟨m0, m1, m2, m3, m4, m5, m6, m7⟩ := HMB.out _ HBU.out
              obtain ⟨t0, _, _⟩ := HTB.out _ HBU.out
              have hz5 := HBU.out.size
              go_upto_region 16 with (first
                | (at_builtin; have hq := ho4; refine wpList_append_mvs rfl _ _ 22 Try.underlying22 rfl W0.heap.size v4 _ _ rfl ho4 (some ⟨g, o + q * 8, none⟩) (n - q) (lc - q) (l.drop q) (by first | rfl | skip) (hl4.drop q (by omega)) (by omega) (by omega) ?_; intro v5 W5 ho5 hg5)
                | (at_builtin; have hq := ho3; refine wpList_append_mvs rfl _ _ 22 Try.underlying22 rfl W0.heap.size v3 _ _ rfl (ho3.alloc _) (some ⟨W3.heap.size, 0, none⟩) 1 1 [(⟨(i1, i2), tm, (b1, b2), (p1, p2), ky⟩ : Mv)] rfl (mvs_one W3 (⟨(i1, i2), tm, (b1, b2), (p1, p2), ky⟩ : Mv)) (by omega) (by simp; omega) ?_; intro v4 W4 ho4 hg4; have b4 := (b3.alloc b3.size (.cells #[.int .i64 i1, .int .i64 i2, .int .i64 tm, .int .i64 b1, .int .i64 b2, .int .i64 p1, .int .i64 p2, .string ky] 33)).grown hg4 (b3.alloc b3.size (.cells #[.int .i64 i1, .int .i64 i2, .int .i64 tm, .int .i64 b1, .int .i64 b2, .int .i64 p1, .int .i64 p2, .string ky] 33)).size (fun j hj => (ho3.lt j hj).1); have hl4 : MvS W4 (some ⟨g, o, none⟩) n lc l := HR.out.mv.belo (HB0.out.trans (b4.mono HB0.out.size)); have hz4 := b4.size; obtain ⟨t3, _, _⟩ := HTB.out _ b4)
                | (at_builtin; refine wpList_append_mvs rfl _ _ 22 Try.underlying22 rfl W0.heap.size (.slice none 0 0) 0 [] rfl (World.ownsRow_nil _ _ _ _) (some ⟨g, o, none⟩) q lc (l.take q) rfl (hl3.take q (by omega)) (by omega) hz5 ?_; intro v3 W3 ho3 hg3; have b3 := HBU.out.grown hg3 hz5 (fun j hj => by simp [Value.ownBlock] at hj); have hz3 := b3.size; obtain ⟨n0, n1, n2, n3, n4, n5, n6, n7⟩ := HMB.out _ b3))
              obtain ⟨a5, c5, rfl, hm5, hn5⟩ := rmove_fin (B := W0.heap.size) (k := q) (n := n) HLn.out (by omega) HQ.out ho5
              go_wp2_with fail
              go_at_call 29
              refine (trdone_any a5 _ c5 _ W5 hm5 (by omega)).mono ?_
              rintro e V6 ⟨sa6, ns6, sc6, ka6, nk6, kc6, rfl, h61, h62, h63, h64, h65⟩
              have b5 := b4.grown hg5 b4.size (fun j hj => (ho4.lt j hj).1)
              have hx : Below W0.heap.size W0 V6 := b5.trans (h63.mono b5.size)
              obtain ⟨_, _, hres⟩ := HBX.out V6 hx
              have r0 : V6.cell? ⟨w.heap.size + 2, 0, none⟩ = some (.slice none 0 0) := by simp [World.cell?, hres]
              have r1 : V6.cell? ⟨w.heap.size + 2, 1, none⟩ = some (.slice none 0 0) := by simp [World.cell?, hres]
              have r2 : V6.cell? ⟨w.heap.size + 2, 2, none⟩ = some (.slice none 0 0) := by simp [World.cell?, hres]
              have z0 : V6.frozen? ⟨w.heap.size + 2, 0, none⟩ = false := by simp [World.frozen?, hres]
              have z1 : V6.frozen? ⟨w.heap.size + 2, 1, none⟩ = false := by simp [World.frozen?, hres]
              have z2 : V6.frozen? ⟨w.heap.size + 2, 2, none⟩ = false := by simp [World.frozen?, hres]
              go_wp2_with fail
              have hxW : Below w.heap.size w V6 := HB0.out.trans (hx.mono HB0.out.size)
              obtain ⟨_, _, hres⟩ := HBX.out V6 hx
              have r0 : V6.cell? ⟨w.heap.size + 2, 0, none⟩ = some (.slice none 0 0) := by simp [World.cell?, hres]
              have r1 : V6.cell? ⟨w.heap.size + 2, 1, none⟩ = some (.slice none 0 0) := by simp [World.cell?, hres]
              have r2 : V6.cell? ⟨w.heap.size + 2, 2, none⟩ = some (.slice none 0 0) := by simp [World.cell?, hres]
              have z0 : V6.frozen? ⟨w.heap.size + 2, 0, none⟩ = false := by simp [World.frozen?, hres]
              have z1 : V6.frozen? ⟨w.heap.size + 2, 1, none⟩ = false := by simp [World.frozen?, hres]
              have z2 : V6.frozen? ⟨w.heap.size + 2, 2, none⟩ = false := by simp [World.frozen?, hres]
              obtain ⟨ZZ, hZZ⟩ : ∃ ZZ, ZZ = ((V6.setCell ⟨w.heap.size + 2, 0, none⟩ (.slice a5 (n + 1) c5)).setCell ⟨w.heap.size + 2, 1, none⟩ (.slice sa6 ns6 sc6)).setCell ⟨w.heap.size + 2, 2, none⟩ (.slice ka6 nk6 kc6) := ⟨_, rfl⟩
              obtain ⟨q0, q1, q2, hkp, hsz, hZs⟩ := rstore hres (.slice a5 (n + 1) c5) (.slice sa6 ns6 sc6) (.slice ka6 nk6 kc6)
              rw [← hZZ] at q0 q1 q2 hkp hsz hZs
              have hZB : Below w.heap.size w ZZ := ⟨hZs.1.trans hxW.os, hZs.2.1.trans hxW.tape, hZs.2.2.trans hxW.output, Nat.le_trans hxW.size hsz, fun j hj => (hkp j (by omega)).trans (hxW.block j hj)⟩
              have HF : Hid (∃ la' n' lc' sa' ns' sc' ka' nk' kc', Ending.returned (.tuple #[.agg #[.slice a5 (n + 1) c5, .slice sa6 ns6 sc6, .slice ka6 nk6 kc6], .int .i64 0]) = .returned (.tuple #[.agg #[.slice la' n' lc', .slice sa' ns' sc', .slice ka' nk' kc'], .int .i64 (mvE l (⟨(i1, i2), tm, (b1, b2), (p1, p2), ky⟩ : Mv))]) ∧ R3 ZZ la' n' lc' sa' ns' sc' ka' nk' kc' (mvL l (⟨(i1, i2), tm, (b1, b2), (p1, p2), ky⟩ : Mv)) ∧ Below w.heap.size w ZZ ∧ (∀ j, B3 la' n' sa' ns' ka' nk' j → B3 (some ⟨g, o, none⟩) n sa ns ka nk j ∨ w.heap.size ≤ j)) := hid (by
                have hz0 := Hz0.out
                have hb5 := b5.size
                have hnew : ∀ j, B3 a5 (n + 1) sa6 ns6 ka6 nk6 j → w.heap.size + 3 ≤ j := fun j hj => by
                  rcases hj with ⟨_, ad, e, rfl⟩ | ⟨_, ad, e, rfl⟩ | ⟨_, ad, e, rfl⟩
                  · have := hn5 ad e; omega
                  · have := h64 ad e; omega
                  · have := h65 ad e; omega
                have hR6 : R3 V6 a5 (n + 1) c5 sa6 ns6 sc6 ka6 nk6 kc6 (insL mvl l (⟨(i1, i2), tm, (b1, b2), (p1, p2), ky⟩ : Mv)) := ⟨hm5.belo h63, h61, h62⟩
                rw [HE0.out]
                have e : mvL l (⟨(i1, i2), tm, (b1, b2), (p1, p2), ky⟩ : Mv) = insL mvl l (⟨(i1, i2), tm, (b1, b2), (p1, p2), ky⟩ : Mv) := by unfold mvL; rw [HE0.out]; exact if_pos rfl
                rw [e]
                exact ⟨_, _, _, _, _, _, _, _, _, rfl, hR6.same hsz (fun j hj => hkp j (by have := hnew j hj; omega)), hZB, fun j hj => Or.inr (by have := hnew j hj; omega)⟩)
              clear hkp hsz hZs hZB hxW
              rw [← hZZ]
              clear hZZ
              refine bodyPost_ret (v := .tuple #[.agg #[.slice a5 (n + 1) c5, .slice sa6 ns6 sc6, .slice ka6 nk6 kc6], .int .i64 0]) (by simp [results, Try.results11, go_sem, q0, q1, q2]) rfl ?_
              exact HF.out
            · obtain rfl : q = n := by omega
              clear hat
              by_cases hcq : lc = q
              · subst hcq
                have hl3 : MvS U5 (some ad) lc lc l := HR.out.mv.belo (HB0.out.trans (HBU.out.mono HB0.out.size))
                obtain ⟨m0, m1, m2, m3, m4, m5, m6, m7⟩ := HMB.out _ HBU.out
                obtain ⟨t0, _, _⟩ := HTB.out _ HBU.out
                have hz5 := HBU.out.size
                go_upto_region 16 with (first
                  | (at_builtin; have hq := ho4; refine wpList_append_mvs rfl _ _ 22 Try.underlying22 rfl W0.heap.size v4 _ _ rfl ho4 _ 0 _ [] rfl (MvS.no _ _ _ (fun e => by first | rfl | (cases e; done)) (by first | exact Nat.zero_le _ | (unfold maxLen; omega))) (by omega) (by omega) ?_; intro v5 W5 ho5 hg5)
                  | (at_builtin; have hq := ho3; refine wpList_append_mvs rfl _ _ 22 Try.underlying22 rfl W0.heap.size v3 _ _ rfl (ho3.alloc _) (some ⟨W3.heap.size, 0, none⟩) 1 1 [(⟨(i1, i2), tm, (b1, b2), (p1, p2), ky⟩ : Mv)] rfl (mvs_one W3 (⟨(i1, i2), tm, (b1, b2), (p1, p2), ky⟩ : Mv)) (by omega) (by simp; omega) ?_; intro v4 W4 ho4 hg4; have b4 := (b3.alloc b3.size (.cells #[.int .i64 i1, .int .i64 i2, .int .i64 tm, .int .i64 b1, .int .i64 b2, .int .i64 p1, .int .i64 p2, .string ky] 33)).grown hg4 (b3.alloc b3.size (.cells #[.int .i64 i1, .int .i64 i2, .int .i64 tm, .int .i64 b1, .int .i64 b2, .int .i64 p1, .int .i64 p2, .string ky] 33)).size (fun j hj => (ho3.lt j hj).1); have hl4 : MvS W4 (some ad) lc lc l := HR.out.mv.belo (HB0.out.trans (b4.mono HB0.out.size)); have hz4 := b4.size; obtain ⟨t3, _, _⟩ := HTB.out _ b4)
                  | (at_builtin; refine wpList_append_mvs rfl _ _ 22 Try.underlying22 rfl W0.heap.size (.slice none 0 0) 0 [] rfl (World.ownsRow_nil _ _ _ _) (some ad) lc lc (l.take lc) rfl (hl3.take lc (by omega)) (by omega) hz5 ?_; intro v3 W3 ho3 hg3; have b3 := HBU.out.grown hg3 hz5 (fun j hj => by simp [Value.ownBlock] at hj); have hz3 := b3.size; obtain ⟨n0, n1, n2, n3, n4, n5, n6, n7⟩ := HMB.out _ b3))
                obtain ⟨a5, c5, rfl, hm5, hn5⟩ := rmove_fin (B := W0.heap.size) (k := lc) (n := lc) HLn.out (by omega) HQ.out (by rw [show l.drop lc = [] from List.drop_eq_nil_of_le (by rw [HLn.out]; exact Nat.le_refl _)]; simpa using ho5)
                go_wp2_with fail
                go_at_call 29
                refine (trdone_any a5 _ c5 _ W5 hm5 (by omega)).mono ?_
                rintro e V6 ⟨sa6, ns6, sc6, ka6, nk6, kc6, rfl, h61, h62, h63, h64, h65⟩
                have b5 := b4.grown hg5 b4.size (fun j hj => (ho4.lt j hj).1)
                have hx : Below W0.heap.size W0 V6 := b5.trans (h63.mono b5.size)
                obtain ⟨_, _, hres⟩ := HBX.out V6 hx
                have r0 : V6.cell? ⟨w.heap.size + 2, 0, none⟩ = some (.slice none 0 0) := by simp [World.cell?, hres]
                have r1 : V6.cell? ⟨w.heap.size + 2, 1, none⟩ = some (.slice none 0 0) := by simp [World.cell?, hres]
                have r2 : V6.cell? ⟨w.heap.size + 2, 2, none⟩ = some (.slice none 0 0) := by simp [World.cell?, hres]
                have z0 : V6.frozen? ⟨w.heap.size + 2, 0, none⟩ = false := by simp [World.frozen?, hres]
                have z1 : V6.frozen? ⟨w.heap.size + 2, 1, none⟩ = false := by simp [World.frozen?, hres]
                have z2 : V6.frozen? ⟨w.heap.size + 2, 2, none⟩ = false := by simp [World.frozen?, hres]
                go_wp2_with fail
                have hxW : Below w.heap.size w V6 := HB0.out.trans (hx.mono HB0.out.size)
                obtain ⟨_, _, hres⟩ := HBX.out V6 hx
                have r0 : V6.cell? ⟨w.heap.size + 2, 0, none⟩ = some (.slice none 0 0) := by simp [World.cell?, hres]
                have r1 : V6.cell? ⟨w.heap.size + 2, 1, none⟩ = some (.slice none 0 0) := by simp [World.cell?, hres]
                have r2 : V6.cell? ⟨w.heap.size + 2, 2, none⟩ = some (.slice none 0 0) := by simp [World.cell?, hres]
                have z0 : V6.frozen? ⟨w.heap.size + 2, 0, none⟩ = false := by simp [World.frozen?, hres]
                have z1 : V6.frozen? ⟨w.heap.size + 2, 1, none⟩ = false := by simp [World.frozen?, hres]
                have z2 : V6.frozen? ⟨w.heap.size + 2, 2, none⟩ = false := by simp [World.frozen?, hres]
                obtain ⟨ZZ, hZZ⟩ : ∃ ZZ, ZZ = ((V6.setCell ⟨w.heap.size + 2, 0, none⟩ (.slice a5 (lc + 1) c5)).setCell ⟨w.heap.size + 2, 1, none⟩ (.slice sa6 ns6 sc6)).setCell ⟨w.heap.size + 2, 2, none⟩ (.slice ka6 nk6 kc6) := ⟨_, rfl⟩
                obtain ⟨q0, q1, q2, hkp, hsz, hZs⟩ := rstore hres (.slice a5 (lc + 1) c5) (.slice sa6 ns6 sc6) (.slice ka6 nk6 kc6)
                rw [← hZZ] at q0 q1 q2 hkp hsz hZs
                have hZB : Below w.heap.size w ZZ := ⟨hZs.1.trans hxW.os, hZs.2.1.trans hxW.tape, hZs.2.2.trans hxW.output, Nat.le_trans hxW.size hsz, fun j hj => (hkp j (by omega)).trans (hxW.block j hj)⟩
                have HF : Hid (∃ la' n' lc' sa' ns' sc' ka' nk' kc', Ending.returned (.tuple #[.agg #[.slice a5 (lc + 1) c5, .slice sa6 ns6 sc6, .slice ka6 nk6 kc6], .int .i64 0]) = .returned (.tuple #[.agg #[.slice la' n' lc', .slice sa' ns' sc', .slice ka' nk' kc'], .int .i64 (mvE l (⟨(i1, i2), tm, (b1, b2), (p1, p2), ky⟩ : Mv))]) ∧ R3 ZZ la' n' lc' sa' ns' sc' ka' nk' kc' (mvL l (⟨(i1, i2), tm, (b1, b2), (p1, p2), ky⟩ : Mv)) ∧ Below w.heap.size w ZZ ∧ (∀ j, B3 la' n' sa' ns' ka' nk' j → B3 (some ad) lc sa ns ka nk j ∨ w.heap.size ≤ j)) := hid (by
                  have hz0 := Hz0.out
                  have hb5 := b5.size
                  have hnew : ∀ j, B3 a5 (lc + 1) sa6 ns6 ka6 nk6 j → w.heap.size + 3 ≤ j := fun j hj => by
                    rcases hj with ⟨_, ad, e, rfl⟩ | ⟨_, ad, e, rfl⟩ | ⟨_, ad, e, rfl⟩
                    · have := hn5 ad e; omega
                    · have := h64 ad e; omega
                    · have := h65 ad e; omega
                  have hR6 : R3 V6 a5 (lc + 1) c5 sa6 ns6 sc6 ka6 nk6 kc6 (insL mvl l (⟨(i1, i2), tm, (b1, b2), (p1, p2), ky⟩ : Mv)) := ⟨hm5.belo h63, h61, h62⟩
                  rw [HE0.out]
                  have e : mvL l (⟨(i1, i2), tm, (b1, b2), (p1, p2), ky⟩ : Mv) = insL mvl l (⟨(i1, i2), tm, (b1, b2), (p1, p2), ky⟩ : Mv) := by unfold mvL; rw [HE0.out]; exact if_pos rfl
                  rw [e]
                  exact ⟨_, _, _, _, _, _, _, _, _, rfl, hR6.same hsz (fun j hj => hkp j (by have := hnew j hj; omega)), hZB, fun j hj => Or.inr (by have := hnew j hj; omega)⟩)
                clear hkp hsz hZs hZB hxW
                rw [← hZZ]
                clear hZZ
                refine bodyPost_ret (v := .tuple #[.agg #[.slice a5 (lc + 1) c5, .slice sa6 ns6 sc6, .slice ka6 nk6 kc6], .int .i64 0]) (by simp [results, Try.results11, go_sem, q0, q1, q2]) rfl ?_
                exact HF.out
              · have hlt : q < lc := by omega
                have hl3 : MvS U5 (some ad) q lc l := HR.out.mv.belo (HB0.out.trans (HBU.out.mono HB0.out.size))
                obtain ⟨m0, m1, m2, m3, m4, m5, m6, m7⟩ := HMB.out _ HBU.out
                obtain ⟨t0, _, _⟩ := HTB.out _ HBU.out
                have hz5 := HBU.out.size
                go_upto_region 16 with (first
                  | (at_builtin; have hq := ho4; refine wpList_append_mvs rfl _ _ 22 Try.underlying22 rfl W0.heap.size v4 _ _ rfl ho4 _ 0 _ [] rfl (MvS.no _ _ _ (fun e => by first | rfl | (cases e; done)) (by first | exact Nat.zero_le _ | (unfold maxLen; omega))) (by omega) (by omega) ?_; intro v5 W5 ho5 hg5)
                  | (at_builtin; have hq := ho3; refine wpList_append_mvs rfl _ _ 22 Try.underlying22 rfl W0.heap.size v3 _ _ rfl (ho3.alloc _) (some ⟨W3.heap.size, 0, none⟩) 1 1 [(⟨(i1, i2), tm, (b1, b2), (p1, p2), ky⟩ : Mv)] rfl (mvs_one W3 (⟨(i1, i2), tm, (b1, b2), (p1, p2), ky⟩ : Mv)) (by omega) (by simp; omega) ?_; intro v4 W4 ho4 hg4; have b4 := (b3.alloc b3.size (.cells #[.int .i64 i1, .int .i64 i2, .int .i64 tm, .int .i64 b1, .int .i64 b2, .int .i64 p1, .int .i64 p2, .string ky] 33)).grown hg4 (b3.alloc b3.size (.cells #[.int .i64 i1, .int .i64 i2, .int .i64 tm, .int .i64 b1, .int .i64 b2, .int .i64 p1, .int .i64 p2, .string ky] 33)).size (fun j hj => (ho3.lt j hj).1); have hl4 : MvS W4 (some ad) q lc l := HR.out.mv.belo (HB0.out.trans (b4.mono HB0.out.size)); have hz4 := b4.size; obtain ⟨t3, _, _⟩ := HTB.out _ b4)
                  | (at_builtin; refine wpList_append_mvs rfl _ _ 22 Try.underlying22 rfl W0.heap.size (.slice none 0 0) 0 [] rfl (World.ownsRow_nil _ _ _ _) (some ad) q lc (l.take q) rfl (hl3.take q (by omega)) (by omega) hz5 ?_; intro v3 W3 ho3 hg3; have b3 := HBU.out.grown hg3 hz5 (fun j hj => by simp [Value.ownBlock] at hj); have hz3 := b3.size; obtain ⟨n0, n1, n2, n3, n4, n5, n6, n7⟩ := HMB.out _ b3))
                obtain ⟨a5, c5, rfl, hm5, hn5⟩ := rmove_fin (B := W0.heap.size) (k := q) (n := q) HLn.out (by omega) HQ.out (by rw [show l.drop q = [] from List.drop_eq_nil_of_le (by rw [HLn.out]; exact Nat.le_refl _)]; simpa using ho5)
                go_wp2_with fail
                go_at_call 29
                refine (trdone_any a5 _ c5 _ W5 hm5 (by omega)).mono ?_
                rintro e V6 ⟨sa6, ns6, sc6, ka6, nk6, kc6, rfl, h61, h62, h63, h64, h65⟩
                have b5 := b4.grown hg5 b4.size (fun j hj => (ho4.lt j hj).1)
                have hx : Below W0.heap.size W0 V6 := b5.trans (h63.mono b5.size)
                obtain ⟨_, _, hres⟩ := HBX.out V6 hx
                have r0 : V6.cell? ⟨w.heap.size + 2, 0, none⟩ = some (.slice none 0 0) := by simp [World.cell?, hres]
                have r1 : V6.cell? ⟨w.heap.size + 2, 1, none⟩ = some (.slice none 0 0) := by simp [World.cell?, hres]
                have r2 : V6.cell? ⟨w.heap.size + 2, 2, none⟩ = some (.slice none 0 0) := by simp [World.cell?, hres]
                have z0 : V6.frozen? ⟨w.heap.size + 2, 0, none⟩ = false := by simp [World.frozen?, hres]
                have z1 : V6.frozen? ⟨w.heap.size + 2, 1, none⟩ = false := by simp [World.frozen?, hres]
                have z2 : V6.frozen? ⟨w.heap.size + 2, 2, none⟩ = false := by simp [World.frozen?, hres]
                go_wp2_with fail
                have hxW : Below w.heap.size w V6 := HB0.out.trans (hx.mono HB0.out.size)
                obtain ⟨_, _, hres⟩ := HBX.out V6 hx
                have r0 : V6.cell? ⟨w.heap.size + 2, 0, none⟩ = some (.slice none 0 0) := by simp [World.cell?, hres]
                have r1 : V6.cell? ⟨w.heap.size + 2, 1, none⟩ = some (.slice none 0 0) := by simp [World.cell?, hres]
                have r2 : V6.cell? ⟨w.heap.size + 2, 2, none⟩ = some (.slice none 0 0) := by simp [World.cell?, hres]
                have z0 : V6.frozen? ⟨w.heap.size + 2, 0, none⟩ = false := by simp [World.frozen?, hres]
                have z1 : V6.frozen? ⟨w.heap.size + 2, 1, none⟩ = false := by simp [World.frozen?, hres]
                have z2 : V6.frozen? ⟨w.heap.size + 2, 2, none⟩ = false := by simp [World.frozen?, hres]
                obtain ⟨ZZ, hZZ⟩ : ∃ ZZ, ZZ = ((V6.setCell ⟨w.heap.size + 2, 0, none⟩ (.slice a5 (q + 1) c5)).setCell ⟨w.heap.size + 2, 1, none⟩ (.slice sa6 ns6 sc6)).setCell ⟨w.heap.size + 2, 2, none⟩ (.slice ka6 nk6 kc6) := ⟨_, rfl⟩
                obtain ⟨q0, q1, q2, hkp, hsz, hZs⟩ := rstore hres (.slice a5 (q + 1) c5) (.slice sa6 ns6 sc6) (.slice ka6 nk6 kc6)
                rw [← hZZ] at q0 q1 q2 hkp hsz hZs
                have hZB : Below w.heap.size w ZZ := ⟨hZs.1.trans hxW.os, hZs.2.1.trans hxW.tape, hZs.2.2.trans hxW.output, Nat.le_trans hxW.size hsz, fun j hj => (hkp j (by omega)).trans (hxW.block j hj)⟩
                have HF : Hid (∃ la' n' lc' sa' ns' sc' ka' nk' kc', Ending.returned (.tuple #[.agg #[.slice a5 (q + 1) c5, .slice sa6 ns6 sc6, .slice ka6 nk6 kc6], .int .i64 0]) = .returned (.tuple #[.agg #[.slice la' n' lc', .slice sa' ns' sc', .slice ka' nk' kc'], .int .i64 (mvE l (⟨(i1, i2), tm, (b1, b2), (p1, p2), ky⟩ : Mv))]) ∧ R3 ZZ la' n' lc' sa' ns' sc' ka' nk' kc' (mvL l (⟨(i1, i2), tm, (b1, b2), (p1, p2), ky⟩ : Mv)) ∧ Below w.heap.size w ZZ ∧ (∀ j, B3 la' n' sa' ns' ka' nk' j → B3 (some ad) q sa ns ka nk j ∨ w.heap.size ≤ j)) := hid (by
                  have hz0 := Hz0.out
                  have hb5 := b5.size
                  have hnew : ∀ j, B3 a5 (q + 1) sa6 ns6 ka6 nk6 j → w.heap.size + 3 ≤ j := fun j hj => by
                    rcases hj with ⟨_, ad, e, rfl⟩ | ⟨_, ad, e, rfl⟩ | ⟨_, ad, e, rfl⟩
                    · have := hn5 ad e; omega
                    · have := h64 ad e; omega
                    · have := h65 ad e; omega
                  have hR6 : R3 V6 a5 (q + 1) c5 sa6 ns6 sc6 ka6 nk6 kc6 (insL mvl l (⟨(i1, i2), tm, (b1, b2), (p1, p2), ky⟩ : Mv)) := ⟨hm5.belo h63, h61, h62⟩
                  rw [HE0.out]
                  have e : mvL l (⟨(i1, i2), tm, (b1, b2), (p1, p2), ky⟩ : Mv) = insL mvl l (⟨(i1, i2), tm, (b1, b2), (p1, p2), ky⟩ : Mv) := by unfold mvL; rw [HE0.out]; exact if_pos rfl
                  rw [e]
                  exact ⟨_, _, _, _, _, _, _, _, _, rfl, hR6.same hsz (fun j hj => hkp j (by have := hnew j hj; omega)), hZB, fun j hj => Or.inr (by have := hnew j hj; omega)⟩)
                clear hkp hsz hZs hZB hxW
                rw [← hZZ]
                clear hZZ
                refine bodyPost_ret (v := .tuple #[.agg #[.slice a5 (q + 1) c5, .slice sa6 ns6 sc6, .slice ka6 nk6 kc6], .int .i64 0]) (by simp [results, Try.results11, go_sem, q0, q1, q2]) rfl ?_
                exact HF.out
end Go.Proofs.Ytplcohjpchfkkaa
