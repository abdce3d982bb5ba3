/- The reference: what Done has in memory while it goes on. -/
import Derived.Test.YtplcohjpchfkkaaTrSRow
import Derived.Test.YtplcohjpchfkkaaEIn
import Derived.Deep.CutRange
import Derived.Deep.CutBlock
import Derived.BigQuiet
import Derived.Test.YtplcohjpchfkkaaTrRKidsM
import Derived.Maps.AppendAt
namespace Go.Proofs.Ytplcohjpchfkkaa
section
set_option linter.unusedVariables false
set_option linter.unusedSimpArgs false
open Go.RowKit
open Go.Sort (grow)

theorem takes_eq (S : List Sp) (m : Mv) : takes S m = ((endB m.parent || (lk S m.parent).isSome) && ((lk S m.block).isSome || decide (m.block = m.id)) && !decide (m.block = m.parent) && !decide (m.block ∈ pth S m.parent)) := by
  unfold takes endB
  simp only [decide_not]

theorem up_short (σ : Dt → Option Pl) : ∀ (n : Nat) (b : Dt), (up σ n b).length ≤ n
  | 0, _ => Nat.le_refl _
  | n + 1, b => by
    unfold up
    cases σ b with
    | none => simp
    | some q => simpa using up_short σ n q.1

theorem spI_ge (T : List Sp) (d : Dt) : decide (spI T d ≥ 0) = (lk T d).isSome := by
  rcases spI_lk T d with ⟨h1, h2⟩ | ⟨k, x, h1, h2, h3, h4⟩
  · rw [h1, h2]; rfl
  · rw [h4, h2]; simp

set_option maxRecDepth 100000 in
set_option maxHeartbeats 4000000 in
theorem trtakes_any (la ka : Option Addr) (ln lc kn kc : Nat) (a : Option Addr) (n c : Nat) (T : List Sp) (m : Mv) (w : World) (h : SpR w a n c T) (hn : n ≤ 100000) :
    Calls Try.prog 51 #[.agg #[.slice la ln lc, .slice a n c, .slice ka kn kc], m.val] w fun e w' => e = .returned (.bool (takes T m)) ∧ Below w.heap.size w w' := by
  obtain ⟨⟨i1, i2⟩, tm, ⟨b1, b2⟩, ⟨p1, p2⟩, ky⟩ := m
  have hmxo : Try.prog.follows .mixedOrders = true := by kernel_rfl
  have mixed := mixed
  obtain ⟨W0, hW0⟩ : ∃ W0, W0 = (w.alloc (.cells #[.slice la ln lc, .slice a n c, .slice ka kn kc] 31)).alloc (.cells #[.int .i64 i1, .int .i64 i2, .int .i64 tm, .int .i64 b1, .int .i64 b2, .int .i64 p1, .int .i64 p2, .string ky] 33) := ⟨_, rfl⟩
  have hB0 : Below w.heap.size w W0 := by rw [hW0]; exact ((Below.refl _ w).alloc (Nat.le_refl _) _).alloc (by simp) _
  have hz0 : W0.heap.size = w.heap.size + 2 := by rw [hW0]; simp
  have hb1 : W0.heap[w.heap.size]? = some (.cells #[.slice la ln lc, .slice a n c, .slice ka kn kc] 31 (0, 0)) := by rw [hW0]; exact (Below.heap_alloc _ _ _ (by simp)).trans (World.alloc_heap_new w _)
  have hb2 : W0.heap[w.heap.size + 1]? = some (.cells #[.int .i64 i1, .int .i64 i2, .int .i64 tm, .int .i64 b1, .int .i64 b2, .int .i64 p1, .int .i64 p2, .string ky] 33 (0, 0)) := by
    rw [hW0]
    have := World.alloc_heap_new (w.alloc (.cells #[.slice la ln lc, .slice a n c, .slice ka kn kc] 31)) (.cells #[.int .i64 i1, .int .i64 i2, .int .i64 tm, .int .i64 b1, .int .i64 b2, .int .i64 p1, .int .i64 p2, .string ky] 33)
    rwa [World.size_alloc] at this
  have HBX : Hid (∀ U, Below W0.heap.size W0 U → (U.cell? ⟨w.heap.size, 0, none⟩ = some (.slice la ln lc) ∧ U.cell? ⟨w.heap.size, 1, none⟩ = some (.slice a n c) ∧ U.cell? ⟨w.heap.size, 2, none⟩ = some (.slice ka kn kc) ∧ U.cell? ⟨w.heap.size + 1, 0, none⟩ = some (.int .i64 i1) ∧ U.cell? ⟨w.heap.size + 1, 1, none⟩ = some (.int .i64 i2) ∧ U.cell? ⟨w.heap.size + 1, 2, none⟩ = some (.int .i64 tm) ∧ U.cell? ⟨w.heap.size + 1, 3, none⟩ = some (.int .i64 b1) ∧ U.cell? ⟨w.heap.size + 1, 4, none⟩ = some (.int .i64 b2) ∧ U.cell? ⟨w.heap.size + 1, 5, none⟩ = some (.int .i64 p1) ∧ U.cell? ⟨w.heap.size + 1, 6, none⟩ = some (.int .i64 p2) ∧ U.cell? ⟨w.heap.size + 1, 7, none⟩ = some (.string ky))) := hid (fun U hU => by
    have e1 := (hU.block w.heap.size (by omega)).trans hb1
    have e2 := (hU.block (w.heap.size + 1) (by omega)).trans hb2
    exact ⟨by simp [World.cell?, e1], by simp [World.cell?, e1], by simp [World.cell?, e1], by simp [World.cell?, e2], by simp [World.cell?, e2], by simp [World.cell?, e2], by simp [World.cell?, e2], by simp [World.cell?, e2], by simp [World.cell?, e2], by simp [World.cell?, e2], by simp [World.cell?, e2]⟩)
  have HAT : Hid (∀ (d : Dt) U, Below W0.heap.size W0 U → Calls Try.prog 34 #[.agg #[.slice la ln lc, .slice a n c, .slice ka kn kc], dv d] U fun e w' => e = .returned (.int .i64 (spI T d)) ∧ Hid (Below W0.heap.size W0 w')) := hid (fun d U hU => (trat_any la ka ln lc kn kc a n c T d U (h.below (hB0.trans (hU.mono hB0.size))) (by omega)).mono (fun e w' g => ⟨g.1, hid (hU.trans (g.2.mono hU.size))⟩))
  obtain ⟨k1, hk1⟩ : ∃ k1, k1 = spI T (p1, p2) := ⟨_, rfl⟩
  obtain ⟨k2, hk2⟩ : ∃ k2, k2 = spI T (b1, b2) := ⟨_, rfl⟩
  obtain ⟨B1, hB1⟩ : ∃ B1, B1 = (lk T (p1, p2)).isSome := ⟨_, rfl⟩
  obtain ⟨B2, hB2⟩ : ∃ B2, B2 = (lk T (b1, b2)).isSome := ⟨_, rfl⟩
  obtain ⟨E, hE⟩ : ∃ E, E = endB (p1, p2) := ⟨_, rfl⟩
  obtain ⟨M, hM⟩ : ∃ M, M = decide (((b1, b2) : Dt) ∈ pth T (p1, p2)) := ⟨_, rfl⟩
  obtain ⟨C, hC⟩ : ∃ C, C = !((E || B1) && (B2 || decide (((b1, b2) : Dt) = (i1, i2))) && !decide (((b1, b2) : Dt) = (p1, p2))) := ⟨_, rfl⟩
  have HR : Hid (takes T (⟨(i1, i2), tm, (b1, b2), (p1, p2), ky⟩ : Mv) = (!C && !M)) := hid (by
    rw [takes_eq, hC, hM, Bool.not_not]
    show ((endB (p1, p2) || (lk T (p1, p2)).isSome) && ((lk T (b1, b2)).isSome || decide (((b1, b2) : Dt) = (i1, i2))) && !decide (((b1, b2) : Dt) = (p1, p2)) && !decide (((b1, b2) : Dt) ∈ pth T (p1, p2))) = _
    rw [← hB1, ← hB2, ← hE])
  have hg1 : decide (k1 ≥ 0) = B1 := by rw [hk1, hB1, spI_ge]
  have hg2 : decide (k2 ≥ 0) = B2 := by rw [hk2, hB2, spI_ge]
  have HA1 := HAT.out (p1, p2) W0 (Below.refl _ _)
  have HA2 : Hid (∀ U, Below W0.heap.size W0 U → _) := hid (fun U hU => HAT.out (b1, b2) U hU)
  rw [← hk1] at HA1
  rw [← hk2] at HA2
  have HE2 : Hid (∀ U, Below W0.heap.size W0 U → Calls Try.prog 27 #[.agg #[.int .i64 p1, .int .i64 p2]] U fun e w' => e = .returned (.bool E) ∧ Hid (Below W0.heap.size W0 w')) := hid (fun U hU => (ends_any (p1, p2) U).mono (fun e w' g => ⟨by rw [g.1, hE], hid (hU.trans (g.2.mono hU.size))⟩))
  have HPA2 : Hid (∀ U, Below W0.heap.size W0 U → Calls Try.prog 35 #[.agg #[.slice la ln lc, .slice a n c, .slice ka kn kc], .agg #[.int .i64 p1, .int .i64 p2]] U fun e w' => ∃ a5 n5 c5, e = .returned (.slice a5 n5 c5) ∧ Hid (Below W0.heap.size W0 w' ∧ PS w' a5 n5 c5 (pth T (p1, p2)) ∧ n5 ≤ 1000000)) := hid (fun U hU => (trpath_any la ka ln lc kn kc a n c T (p1, p2) U (h.below (hB0.trans (hU.mono hB0.size))) hn).mono (fun e w' g => by
    obtain ⟨v, g1, g2, g3⟩ := g
    obtain ⟨a5, c5, rfl, hps⟩ := owned_ps g2 rfl
    refine ⟨a5, _, c5, g1, hid ⟨hU.trans (g3.mono hU.size), hps, ?_⟩⟩
    have h1 := up_short (lk T) (T.length + 1) (p1, p2)
    have h2 : (pth T (p1, p2)).length ≤ T.length + 1 := h1
    have h3 := h.len
    omega))
  have HIN : Hid (∀ U a5 n5 c5, (Below W0.heap.size W0 U ∧ PS U a5 n5 c5 (pth T (p1, p2)) ∧ n5 ≤ 1000000) → Calls Try.prog 22 #[.slice a5 n5 c5, .agg #[.int .i64 b1, .int .i64 b2]] U fun e w' => e = .returned (.bool M) ∧ Hid (Below W0.heap.size W0 w')) := hid (fun U a5 n5 c5 hU => (in_any a5 n5 c5 _ (b1, b2) U hU.2.1 hU.2.2).mono (fun e w' g => ⟨by rw [g.1, hM], hid (hU.1.trans (g.2.below.mono hU.1.size))⟩))
  have HC1 : Hid (E = false → B1 = false → C = true) := hid (fun h1 h2 => by rw [hC, h1, h2]; rfl)
  have HC2 : Hid ((E = true ∨ B1 = true) → B2 = false → ((b1, b2) : Dt) ≠ (i1, i2) → C = true) := hid (fun _ h2 h3 => by rw [hC, h2, decide_eq_false h3]; cases E <;> cases B1 <;> rfl)
  have HC3 : Hid ((E = true ∨ B1 = true) → (B2 = true ∨ ((b1, b2) : Dt) = (i1, i2)) → ((b1, b2) : Dt) = (p1, p2) → C = true) := hid (fun _ _ h3 => by rw [hC, decide_eq_true h3, Bool.not_true, Bool.and_false]; rfl)
  have HC4 : Hid ((E = true ∨ B1 = true) → (B2 = true ∨ ((b1, b2) : Dt) = (i1, i2)) → ((b1, b2) : Dt) ≠ (p1, p2) → C = false) := hid (fun h1 h2 h3 => by
    have e1 : (E || B1) = true := by rcases h1 with h | h <;> simp [h]
    have e2 : (B2 || decide (((b1, b2) : Dt) = (i1, i2))) = true := by
      rcases h2 with h | h
      · simp [h]
      · rw [decide_eq_true h]; simp
    rw [hC, e1, e2, decide_eq_false h3]
    rfl)
  have HB0 := hid hB0
  rw [HR.out]
  clear hB1 hB2 hE hM hC hk1 hk2 hb1 hb2 hz0 hB0 h
  show Calls Try.prog 51 #[.agg #[.slice la ln lc, .slice a n c, .slice ka kn kc], .agg #[.int .i64 i1, .int .i64 i2, .int .i64 tm, .int .i64 b1, .int .i64 b2, .int .i64 p1, .int .i64 p2, .string ky]] w _
  go_enter Try.func51, Try.ntmps51
  go_upto_region 3 with (first
    | (go_at_call 34; have hq := HB1; refine (HA2.out _ HB1.out).mono ?_; rintro e U2 ⟨rfl, HB2⟩; obtain ⟨z0, z1, z2, z3, z4, z5, z6, z7, z8, z9, z10⟩ := HBX.out _ HB2.out)
    | (go_at_call 34; rw [← hW0]; refine HA1.mono ?_; rintro e U1 ⟨rfl, HB1⟩; obtain ⟨y0, y1, y2, y3, y4, y5, y6, y7, y8, y9, y10⟩ := HBX.out _ HB1.out))
  clear HA1 HA2 hW0 y0 y1 y2 y3 y4 y5 y6 y7 y8 y9 y10
  have HE := HE2.out _ HB2.out
  go_cut [43] from 8 to 43 (fun s wc => s = .bool C ∧ Hid (Below W0.heap.size W0 wc))
  case first =>
    cases E with
    | true =>
      by_cases e1 : b1 = i1
      · by_cases e2 : b2 = i2
        · have f1 : (b1 == i1) = true := by simpa using e1
          have f2 : (b2 == i2) = true := by simpa using e2
          have HIP : Hid (B2 = true ∨ ((b1, b2) : Dt) = (i1, i2)) := hid (Or.inr (by rw [e1, e2]))
          clear e1 e2
          by_cases q1 : b1 = p1
          · by_cases q2 : b2 = p2
            · have g1 : (b1 == p1) = true := by simpa using q1
              have g2 : (b2 == p2) = true := by simpa using q2
              have hC : C = true := HC3.out (by simp) HIP.out (by rw [q1, q2])
              subst hC
              clear q1 q2
              go_wp2_with (go_at_call 27; refine HE.mono ?_; rintro e U3 ⟨rfl, HB3⟩; obtain ⟨d0, d1, d2, d3, d4, d5, d6, d7, d8, d9, d10⟩ := HBX.out _ HB3.out)
              go_meet
              case rel => exact ⟨rfl, HB3⟩
            · have g1 : (b1 == p1) = true := by simpa using q1
              have g2 : (b2 == p2) = false := by simpa using q2
              have hC : C = false := HC4.out (by simp) HIP.out (fun e => q2 (Prod.mk.inj e).2)
              subst hC
              clear q1 q2
              go_wp2_with (go_at_call 27; refine HE.mono ?_; rintro e U3 ⟨rfl, HB3⟩; obtain ⟨d0, d1, d2, d3, d4, d5, d6, d7, d8, d9, d10⟩ := HBX.out _ HB3.out)
              go_meet
              case rel => exact ⟨rfl, HB3⟩
          · have g1 : (b1 == p1) = false := by simpa using q1
            have hC : C = false := HC4.out (by simp) HIP.out (fun e => q1 (Prod.mk.inj e).1)
            subst hC
            clear q1
            go_wp2_with (go_at_call 27; refine HE.mono ?_; rintro e U3 ⟨rfl, HB3⟩; obtain ⟨d0, d1, d2, d3, d4, d5, d6, d7, d8, d9, d10⟩ := HBX.out _ HB3.out)
            go_meet
            case rel => exact ⟨rfl, HB3⟩
        · have f1 : (b1 == i1) = true := by simpa using e1
          have f2 : (b2 == i2) = false := by simpa using e2
          cases B2 with
          | true =>
            have HIP : Hid (true = true ∨ ((b1, b2) : Dt) = (i1, i2)) := hid (Or.inl rfl)
            clear e1 e2
            by_cases q1 : b1 = p1
            · by_cases q2 : b2 = p2
              · have g1 : (b1 == p1) = true := by simpa using q1
                have g2 : (b2 == p2) = true := by simpa using q2
                have hC : C = true := HC3.out (by simp) HIP.out (by rw [q1, q2])
                subst hC
                clear q1 q2
                go_wp2_with (go_at_call 27; refine HE.mono ?_; rintro e U3 ⟨rfl, HB3⟩; obtain ⟨d0, d1, d2, d3, d4, d5, d6, d7, d8, d9, d10⟩ := HBX.out _ HB3.out)
                go_meet
                case rel => exact ⟨rfl, HB3⟩
              · have g1 : (b1 == p1) = true := by simpa using q1
                have g2 : (b2 == p2) = false := by simpa using q2
                have hC : C = false := HC4.out (by simp) HIP.out (fun e => q2 (Prod.mk.inj e).2)
                subst hC
                clear q1 q2
                go_wp2_with (go_at_call 27; refine HE.mono ?_; rintro e U3 ⟨rfl, HB3⟩; obtain ⟨d0, d1, d2, d3, d4, d5, d6, d7, d8, d9, d10⟩ := HBX.out _ HB3.out)
                go_meet
                case rel => exact ⟨rfl, HB3⟩
            · have g1 : (b1 == p1) = false := by simpa using q1
              have hC : C = false := HC4.out (by simp) HIP.out (fun e => q1 (Prod.mk.inj e).1)
              subst hC
              clear q1
              go_wp2_with (go_at_call 27; refine HE.mono ?_; rintro e U3 ⟨rfl, HB3⟩; obtain ⟨d0, d1, d2, d3, d4, d5, d6, d7, d8, d9, d10⟩ := HBX.out _ HB3.out)
              go_meet
              case rel => exact ⟨rfl, HB3⟩
          | false =>
            have hC : C = true := HC2.out (by simp) rfl (fun e => e2 (Prod.mk.inj e).2)
            subst hC
            clear e1 e2
            go_wp2_with (go_at_call 27; refine HE.mono ?_; rintro e U3 ⟨rfl, HB3⟩; obtain ⟨d0, d1, d2, d3, d4, d5, d6, d7, d8, d9, d10⟩ := HBX.out _ HB3.out)
            go_meet
            case rel => exact ⟨rfl, HB3⟩
      · have f1 : (b1 == i1) = false := by simpa using e1
        cases B2 with
        | true =>
          have HIP : Hid (true = true ∨ ((b1, b2) : Dt) = (i1, i2)) := hid (Or.inl rfl)
          clear e1
          by_cases q1 : b1 = p1
          · by_cases q2 : b2 = p2
            · have g1 : (b1 == p1) = true := by simpa using q1
              have g2 : (b2 == p2) = true := by simpa using q2
              have hC : C = true := HC3.out (by simp) HIP.out (by rw [q1, q2])
              subst hC
              clear q1 q2
              go_wp2_with (go_at_call 27; refine HE.mono ?_; rintro e U3 ⟨rfl, HB3⟩; obtain ⟨d0, d1, d2, d3, d4, d5, d6, d7, d8, d9, d10⟩ := HBX.out _ HB3.out)
              go_meet
              case rel => exact ⟨rfl, HB3⟩
            · have g1 : (b1 == p1) = true := by simpa using q1
              have g2 : (b2 == p2) = false := by simpa using q2
              have hC : C = false := HC4.out (by simp) HIP.out (fun e => q2 (Prod.mk.inj e).2)
              subst hC
              clear q1 q2
              go_wp2_with (go_at_call 27; refine HE.mono ?_; rintro e U3 ⟨rfl, HB3⟩; obtain ⟨d0, d1, d2, d3, d4, d5, d6, d7, d8, d9, d10⟩ := HBX.out _ HB3.out)
              go_meet
              case rel => exact ⟨rfl, HB3⟩
          · have g1 : (b1 == p1) = false := by simpa using q1
            have hC : C = false := HC4.out (by simp) HIP.out (fun e => q1 (Prod.mk.inj e).1)
            subst hC
            clear q1
            go_wp2_with (go_at_call 27; refine HE.mono ?_; rintro e U3 ⟨rfl, HB3⟩; obtain ⟨d0, d1, d2, d3, d4, d5, d6, d7, d8, d9, d10⟩ := HBX.out _ HB3.out)
            go_meet
            case rel => exact ⟨rfl, HB3⟩
        | false =>
          have hC : C = true := HC2.out (by simp) rfl (fun e => e1 (Prod.mk.inj e).1)
          subst hC
          clear e1
          go_wp2_with (go_at_call 27; refine HE.mono ?_; rintro e U3 ⟨rfl, HB3⟩; obtain ⟨d0, d1, d2, d3, d4, d5, d6, d7, d8, d9, d10⟩ := HBX.out _ HB3.out)
          go_meet
          case rel => exact ⟨rfl, HB3⟩
    | false =>
      cases B1 with
      | true =>
        by_cases e1 : b1 = i1
        · by_cases e2 : b2 = i2
          · have f1 : (b1 == i1) = true := by simpa using e1
            have f2 : (b2 == i2) = true := by simpa using e2
            have HIP : Hid (B2 = true ∨ ((b1, b2) : Dt) = (i1, i2)) := hid (Or.inr (by rw [e1, e2]))
            clear e1 e2
            by_cases q1 : b1 = p1
            · by_cases q2 : b2 = p2
              · have g1 : (b1 == p1) = true := by simpa using q1
                have g2 : (b2 == p2) = true := by simpa using q2
                have hC : C = true := HC3.out (by simp) HIP.out (by rw [q1, q2])
                subst hC
                clear q1 q2
                go_wp2_with (go_at_call 27; refine HE.mono ?_; rintro e U3 ⟨rfl, HB3⟩; obtain ⟨d0, d1, d2, d3, d4, d5, d6, d7, d8, d9, d10⟩ := HBX.out _ HB3.out)
                go_meet
                case rel => exact ⟨rfl, HB3⟩
              · have g1 : (b1 == p1) = true := by simpa using q1
                have g2 : (b2 == p2) = false := by simpa using q2
                have hC : C = false := HC4.out (by simp) HIP.out (fun e => q2 (Prod.mk.inj e).2)
                subst hC
                clear q1 q2
                go_wp2_with (go_at_call 27; refine HE.mono ?_; rintro e U3 ⟨rfl, HB3⟩; obtain ⟨d0, d1, d2, d3, d4, d5, d6, d7, d8, d9, d10⟩ := HBX.out _ HB3.out)
                go_meet
                case rel => exact ⟨rfl, HB3⟩
            · have g1 : (b1 == p1) = false := by simpa using q1
              have hC : C = false := HC4.out (by simp) HIP.out (fun e => q1 (Prod.mk.inj e).1)
              subst hC
              clear q1
              go_wp2_with (go_at_call 27; refine HE.mono ?_; rintro e U3 ⟨rfl, HB3⟩; obtain ⟨d0, d1, d2, d3, d4, d5, d6, d7, d8, d9, d10⟩ := HBX.out _ HB3.out)
              go_meet
              case rel => exact ⟨rfl, HB3⟩
          · have f1 : (b1 == i1) = true := by simpa using e1
            have f2 : (b2 == i2) = false := by simpa using e2
            cases B2 with
            | true =>
              have HIP : Hid (true = true ∨ ((b1, b2) : Dt) = (i1, i2)) := hid (Or.inl rfl)
              clear e1 e2
              by_cases q1 : b1 = p1
              · by_cases q2 : b2 = p2
                · have g1 : (b1 == p1) = true := by simpa using q1
                  have g2 : (b2 == p2) = true := by simpa using q2
                  have hC : C = true := HC3.out (by simp) HIP.out (by rw [q1, q2])
                  subst hC
                  clear q1 q2
                  go_wp2_with (go_at_call 27; refine HE.mono ?_; rintro e U3 ⟨rfl, HB3⟩; obtain ⟨d0, d1, d2, d3, d4, d5, d6, d7, d8, d9, d10⟩ := HBX.out _ HB3.out)
                  go_meet
                  case rel => exact ⟨rfl, HB3⟩
                · have g1 : (b1 == p1) = true := by simpa using q1
                  have g2 : (b2 == p2) = false := by simpa using q2
                  have hC : C = false := HC4.out (by simp) HIP.out (fun e => q2 (Prod.mk.inj e).2)
                  subst hC
                  clear q1 q2
                  go_wp2_with (go_at_call 27; refine HE.mono ?_; rintro e U3 ⟨rfl, HB3⟩; obtain ⟨d0, d1, d2, d3, d4, d5, d6, d7, d8, d9, d10⟩ := HBX.out _ HB3.out)
                  go_meet
                  case rel => exact ⟨rfl, HB3⟩
              · have g1 : (b1 == p1) = false := by simpa using q1
                have hC : C = false := HC4.out (by simp) HIP.out (fun e => q1 (Prod.mk.inj e).1)
                subst hC
                clear q1
                go_wp2_with (go_at_call 27; refine HE.mono ?_; rintro e U3 ⟨rfl, HB3⟩; obtain ⟨d0, d1, d2, d3, d4, d5, d6, d7, d8, d9, d10⟩ := HBX.out _ HB3.out)
                go_meet
                case rel => exact ⟨rfl, HB3⟩
            | false =>
              have hC : C = true := HC2.out (by simp) rfl (fun e => e2 (Prod.mk.inj e).2)
              subst hC
              clear e1 e2
              go_wp2_with (go_at_call 27; refine HE.mono ?_; rintro e U3 ⟨rfl, HB3⟩; obtain ⟨d0, d1, d2, d3, d4, d5, d6, d7, d8, d9, d10⟩ := HBX.out _ HB3.out)
              go_meet
              case rel => exact ⟨rfl, HB3⟩
        · have f1 : (b1 == i1) = false := by simpa using e1
          cases B2 with
          | true =>
            have HIP : Hid (true = true ∨ ((b1, b2) : Dt) = (i1, i2)) := hid (Or.inl rfl)
            clear e1
            by_cases q1 : b1 = p1
            · by_cases q2 : b2 = p2
              · have g1 : (b1 == p1) = true := by simpa using q1
                have g2 : (b2 == p2) = true := by simpa using q2
                have hC : C = true := HC3.out (by simp) HIP.out (by rw [q1, q2])
                subst hC
                clear q1 q2
                go_wp2_with (go_at_call 27; refine HE.mono ?_; rintro e U3 ⟨rfl, HB3⟩; obtain ⟨d0, d1, d2, d3, d4, d5, d6, d7, d8, d9, d10⟩ := HBX.out _ HB3.out)
                go_meet
                case rel => exact ⟨rfl, HB3⟩
              · have g1 : (b1 == p1) = true := by simpa using q1
                have g2 : (b2 == p2) = false := by simpa using q2
                have hC : C = false := HC4.out (by simp) HIP.out (fun e => q2 (Prod.mk.inj e).2)
                subst hC
                clear q1 q2
                go_wp2_with (go_at_call 27; refine HE.mono ?_; rintro e U3 ⟨rfl, HB3⟩; obtain ⟨d0, d1, d2, d3, d4, d5, d6, d7, d8, d9, d10⟩ := HBX.out _ HB3.out)
                go_meet
                case rel => exact ⟨rfl, HB3⟩
            · have g1 : (b1 == p1) = false := by simpa using q1
              have hC : C = false := HC4.out (by simp) HIP.out (fun e => q1 (Prod.mk.inj e).1)
              subst hC
              clear q1
              go_wp2_with (go_at_call 27; refine HE.mono ?_; rintro e U3 ⟨rfl, HB3⟩; obtain ⟨d0, d1, d2, d3, d4, d5, d6, d7, d8, d9, d10⟩ := HBX.out _ HB3.out)
              go_meet
              case rel => exact ⟨rfl, HB3⟩
          | false =>
            have hC : C = true := HC2.out (by simp) rfl (fun e => e1 (Prod.mk.inj e).1)
            subst hC
            clear e1
            go_wp2_with (go_at_call 27; refine HE.mono ?_; rintro e U3 ⟨rfl, HB3⟩; obtain ⟨d0, d1, d2, d3, d4, d5, d6, d7, d8, d9, d10⟩ := HBX.out _ HB3.out)
            go_meet
            case rel => exact ⟨rfl, HB3⟩
      | false =>
        have hC : C = true := HC1.out rfl rfl
        subst hC
        go_wp2_with (go_at_call 27; refine HE.mono ?_; rintro e U3 ⟨rfl, HB3⟩; obtain ⟨d0, d1, d2, d3, d4, d5, d6, d7, d8, d9, d10⟩ := HBX.out _ HB3.out)
        go_meet
        case rel => exact ⟨rfl, HB3⟩
  case rest =>
    obtain ⟨rfl, HB4⟩ := hcut
    obtain ⟨U4, hU4⟩ : ∃ U4, U4 = wc := ⟨_, rfl⟩
    rw [← hU4] at HB4 ⊢
    clear hU4 HE z0 z1 z2 z3 z4 z5 z6 z7 z8 z9 z10
    cases hCC : C with
    | true =>
      subst hCC
      go_wp2
      go_ret
      exact ⟨rfl, HB0.out.trans (HB4.out.mono HB0.out.size)⟩
    | false =>
      subst hCC
      have HPA := HPA2.out U4.drew HB4.out.drew
      have hS5 := HBX.out U4.drew HB4.out.drew
      go_wp2_with fail
      refine wp_region_held_drew (S := fun w' => w'.cell? ⟨w.heap.size, 0, none⟩ = some (.slice la ln lc) ∧ w'.cell? ⟨w.heap.size, 1, none⟩ = some (.slice a n c) ∧ w'.cell? ⟨w.heap.size, 2, none⟩ = some (.slice ka kn kc) ∧ w'.cell? ⟨w.heap.size + 1, 0, none⟩ = some (.int .i64 i1) ∧ w'.cell? ⟨w.heap.size + 1, 1, none⟩ = some (.int .i64 i2) ∧ w'.cell? ⟨w.heap.size + 1, 2, none⟩ = some (.int .i64 tm) ∧ w'.cell? ⟨w.heap.size + 1, 3, none⟩ = some (.int .i64 b1) ∧ w'.cell? ⟨w.heap.size + 1, 4, none⟩ = some (.int .i64 b2) ∧ w'.cell? ⟨w.heap.size + 1, 5, none⟩ = some (.int .i64 p1) ∧ w'.cell? ⟨w.heap.size + 1, 6, none⟩ = some (.int .i64 p2) ∧ w'.cell? ⟨w.heap.size + 1, 7, none⟩ = some (.string ky)) hmxo hS5 ?_
      intro _
      refine wpAnyH_take (i := 0) (v := .agg #[.slice la ln lc, .slice a n c, .slice ka kn kc]) rfl (by kernel_rfl) (by kernel_rfl) (by kernel_rfl) (fun _ _ _ h => h) (Or.inl ⟨by kernel_rfl, fun w hSw => ?_⟩) hS5 ?_
      · obtain ⟨e1, e2, e3, e4, e5, e6, e7, e8, e9, e10, e11⟩ := hSw; go_simp
      simp only [Act.put, List.getElem_toArray, List.getElem_cons_succ, List.getElem_cons_zero, List.setIfInBounds_toArray, List.set_cons_zero, List.set_cons_succ]
      refine wpAnyH_take (i := 1) (v := .pointer (some ⟨w.heap.size + 1, 5, none⟩)) rfl (by kernel_rfl) (by kernel_rfl) (by kernel_rfl) (fun _ _ _ h => h) (Or.inl ⟨by kernel_rfl, fun w hSw => ?_⟩) hS5 ?_
      · obtain ⟨e1, e2, e3, e4, e5, e6, e7, e8, e9, e10, e11⟩ := hSw; go_simp
      simp only [Act.put, List.getElem_toArray, List.getElem_cons_succ, List.getElem_cons_zero, List.setIfInBounds_toArray, List.set_cons_zero, List.set_cons_succ]
      refine wpAnyH_take (i := 2) (v := .agg #[.int .i64 p1, .int .i64 p2]) rfl (by kernel_rfl) (by kernel_rfl) (by kernel_rfl) (fun _ _ _ h => h) (Or.inl ⟨by kernel_rfl, fun w hSw => ?_⟩) hS5 ?_
      · obtain ⟨e1, e2, e3, e4, e5, e6, e7, e8, e9, e10, e11⟩ := hSw; go_simp
      simp only [Act.put, List.getElem_toArray, List.getElem_cons_succ, List.getElem_cons_zero, List.setIfInBounds_toArray, List.set_cons_zero, List.set_cons_succ]
      refine wpAnyH_take (i := 4) (v := .pointer (some ⟨w.heap.size + 1, 3, none⟩)) rfl (by kernel_rfl) (by kernel_rfl) (by kernel_rfl) (fun _ _ _ h => h) (Or.inl ⟨by kernel_rfl, fun w hSw => ?_⟩) hS5 ?_
      · obtain ⟨e1, e2, e3, e4, e5, e6, e7, e8, e9, e10, e11⟩ := hSw; go_simp
      simp only [Act.put, List.getElem_toArray, List.getElem_cons_succ, List.getElem_cons_zero, List.setIfInBounds_toArray, List.set_cons_zero, List.set_cons_succ]
      refine wpAnyH_take (i := 5) (v := .agg #[.int .i64 b1, .int .i64 b2]) rfl (by kernel_rfl) (by kernel_rfl) (by kernel_rfl) (fun _ _ _ h => h) (Or.inl ⟨by kernel_rfl, fun w hSw => ?_⟩) hS5 ?_
      · obtain ⟨e1, e2, e3, e4, e5, e6, e7, e8, e9, e10, e11⟩ := hSw; go_simp
      simp only [Act.put, List.getElem_toArray, List.getElem_cons_succ, List.getElem_cons_zero, List.setIfInBounds_toArray, List.set_cons_zero, List.set_cons_succ]
      refine wpAnyH_ready (rs := [3]) (by kernel_rfl) (by simp) ?_
      refine AllReadyH.cons rfl (fun K hK => ?_) AllReadyH.nil
      go_simp
      refine (HPA).mono ?_
      rintro e U5 ⟨a5, n5, c5, rfl, S5⟩
      have hS6 := HBX.out _ S5.out.1
      refine hK.out _ _ hS6 (fun _ => ?_)
      clear hK K
      refine wpAnyH_ready (rs := [6]) (by kernel_rfl) (by simp) ?_
      refine AllReadyH.cons rfl (fun K hK => ?_) AllReadyH.nil
      go_simp
      refine (HIN.out _ _ _ _ S5.out).mono ?_
      rintro e U6 ⟨rfl, S6⟩
      have hS7 := HBX.out _ S6.out
      refine hK.out _ _ hS7 (fun _ => ?_)
      clear hK K
      refine wpAnyH_take (i := 7) (v := .bool M) rfl (by kernel_rfl) (by kernel_rfl) (by kernel_rfl) (fun _ _ _ h => h) (Or.inl ⟨by kernel_rfl, fun w hSw => ?_⟩) hS7 ?_
      · obtain ⟨e1, e2, e3, e4, e5, e6, e7, e8, e9, e10, e11⟩ := hSw; go_simp
      simp only [Act.put, List.getElem_toArray, List.getElem_cons_succ, List.getElem_cons_zero, List.setIfInBounds_toArray, List.set_cons_zero, List.set_cons_succ]
      refine wpAnyH_done (by kernel_rfl) ?_ _
      clear HPA hS5 hS6 hS7
      go_wp2
      go_ret
      exact ⟨rfl, HB0.out.trans (S6.out.mono HB0.out.size)⟩
end

section
set_option linter.unusedVariables false
open Go.RowKit

/-- What comes of moves, and which took effect. -/
def dnP (L : List Mv) : List Sp × List Dt := L.foldl (fun q m => if takes q.1 m then (put q.1 m.sp, q.2 ++ [m.id]) else q) ([], [])

theorem dnP_snoc (L : List Mv) (m : Mv) : dnP (L ++ [m]) = if takes (dnP L).1 m then (put (dnP L).1 m.sp, (dnP L).2 ++ [m.id]) else dnP L := by
  unfold dnP
  rw [List.foldl_append]
  rfl

theorem dnP_run (L : List Mv) : (dnP L).1 = run L := by
  have main : ∀ (L : List Mv) (q : List Sp × List Dt), (L.foldl (fun q m => if takes q.1 m then (put q.1 m.sp, q.2 ++ [m.id]) else q) q).1 = L.foldl step q.1 := by
    intro L
    induction L with
    | nil => intro q; rfl
    | cons m L ih =>
      intro q
      rw [List.foldl_cons, List.foldl_cons, ih]
      congr 1
      unfold step
      split <;> rfl
  exact main L ([], [])

/-- Those that took effect. -/
def tkL (L : List Mv) : List Dt := (dnP L).2

theorem tkL_snoc (L : List Mv) (m : Mv) : tkL (L ++ [m]) = if takes (run L) m then tkL L ++ [m.id] else tkL L := by
  unfold tkL
  rw [dnP_snoc, dnP_run]
  split <;> rfl

theorem tkL_mem (l : List Mv) (d : Dt) : d ∈ tkL l ↔ tookP l d := by
  have main : ∀ k, k ≤ l.length → (d ∈ tkL (l.take k) ↔ ∃ (i : Nat) (m : Mv), i < k ∧ l[i]? = some m ∧ m.id = d ∧ takes (run (l.take i)) m = true) := by
    intro k
    induction k with
    | zero =>
      intro _
      simp [tkL, dnP]
    | succ k ih =>
      intro hk
      have hx : l[k]? = some (l[k]'(by omega)) := List.getElem?_eq_getElem (by omega)
      rw [List.take_succ_eq_append_getElem (by omega), tkL_snoc]
      by_cases ht : takes (run (l.take k)) (l[k]'(by omega)) = true
      · rw [if_pos ht, List.mem_append, ih (by omega), List.mem_singleton]
        constructor
        · rintro (⟨i, m, h1, h2, h3, h4⟩ | h)
          · exact ⟨i, m, by omega, h2, h3, h4⟩
          · exact ⟨k, _, by omega, hx, h.symm, ht⟩
        · rintro ⟨i, m, h1, h2, h3, h4⟩
          rcases Nat.lt_or_ge i k with h | h
          · exact Or.inl ⟨i, m, h, h2, h3, h4⟩
          · obtain rfl : i = k := by omega
            rw [hx] at h2
            cases h2
            exact Or.inr h3.symm
      · rw [if_neg ht, ih (by omega)]
        constructor
        · rintro ⟨i, m, h1, h2⟩
          exact ⟨i, m, by omega, h2⟩
        · rintro ⟨i, m, h1, h2, h3, h4⟩
          rcases Nat.lt_or_ge i k with h | h
          · exact ⟨i, m, h, h2, h3, h4⟩
          · obtain rfl : i = k := by omega
            rw [hx] at h2
            cases h2
            exact absurd h4 ht
  have := main l.length (Nat.le_refl _)
  rw [List.take_length] at this
  rw [this]
  constructor
  · rintro ⟨i, m, _, h2⟩
    exact ⟨i, m, h2⟩
  · rintro ⟨i, m, h2, h3⟩
    exact ⟨i, m, (List.getElem?_eq_some_iff.1 h2).1, h2, h3⟩

theorem tkL_len (L : List Mv) : (tkL L).length ≤ L.length := by
  have main : ∀ (L : List Mv) (q : List Sp × List Dt), (L.foldl (fun q m => if takes q.1 m then (put q.1 m.sp, q.2 ++ [m.id]) else q) q).2.length ≤ q.2.length + L.length := by
    intro L
    induction L with
    | nil => intro q; simp
    | cons m L ih =>
      intro q
      rw [List.foldl_cons]
      refine Nat.le_trans (ih _) ?_
      split
      · simp; omega
      · simp
  have := main L ([], [])
  simpa [tkL, dnP] using this

/-- Done's memory: its tree in a box, with two rows of its own. -/
structure DN (w wr : World) (lv sv kv : Value) (ns nk : Nat) (S : List Sp) (K : List Dt) : Prop where
  box : wr.heap[w.heap.size + 1]? = some (.cells #[lv, sv, kv] 31 (0, 0))
  res : wr.heap[w.heap.size]? = some (.cells #[.slice none 0 0, .slice none 0 0, .slice none 0 0] 31 (0, 0))
  ss : wr.ownsRow (w.heap.size + 2) 81 5 sv ns (flS S)
  ks : wr.ownsRow (w.heap.size + 2) 24 2 kv nk (flat K)
  ap : ∀ j, sv.ownBlock = some j → kv.ownBlock ≠ some j
  bel : Below w.heap.size w wr

theorem own_kept2 {w w' : World} {b n size : Nat} {ty : TypeId} {v : Value} {xs : List Value} (h : w.ownsRow b ty size v n xs) (hk : ∀ j, v.ownBlock = some j → w'.heap[j]? = w.heap[j]?) : w'.ownsRow b ty size v n xs := by
  refine ⟨h.1, ?_⟩
  rcases h.2 with h' | ⟨g, cap, cur, e, hb, hg, hn, hc, hs, ht⟩
  · exact Or.inl h'
  · exact Or.inr ⟨g, cap, cur, e, hb, (hk g (by rw [e]; rfl)).trans hg, hn, hc, hs, ht⟩

theorem DN.below {w wr V : World} {lv sv kv : Value} {ns nk : Nat} {S : List Sp} {K : List Dt} (h : DN w wr lv sv kv ns nk S K) (hb : Below wr.heap.size wr V) : DN w V lv sv kv ns nk S K :=
  ⟨(hb.block _ (Array.getElem?_eq_some_iff.1 h.box).1).trans h.box, (hb.block _ (Array.getElem?_eq_some_iff.1 h.res).1).trans h.res, own_kept2 h.ss (fun j hj => hb.block j (h.ss.lt j hj).2), own_kept2 h.ks (fun j hj => hb.block j (h.ks.lt j hj).2), h.ap, h.bel.trans (hb.mono h.bel.size)⟩

theorem DN.cells {w wr : World} {lv sv kv : Value} {ns nk : Nat} {S : List Sp} {K : List Dt} (h : DN w wr lv sv kv ns nk S K) : wr.cell? ⟨w.heap.size + 1, 0, none⟩ = some lv ∧ wr.cell? ⟨w.heap.size + 1, 1, none⟩ = some sv ∧ wr.cell? ⟨w.heap.size + 1, 2, none⟩ = some kv := by
  have e := h.box
  exact ⟨by simp [World.cell?, e], by simp [World.cell?, e], by simp [World.cell?, e]⟩
theorem DN.frozen {w wr : World} {lv sv kv : Value} {ns nk : Nat} {S : List Sp} {K : List Dt} (h : DN w wr lv sv kv ns nk S K) (j : Nat) : wr.frozen? ⟨w.heap.size + 1, j, none⟩ = false := by
  have e := h.box
  simp [World.frozen?, e]

/-- The row of spots is another one. -/
theorem DN.puts {w wr V : World} {lv sv kv sv' : Value} {ns nk ns' : Nat} {S S' : List Sp} {K : List Dt} (h : DN w wr lv sv kv ns nk S K) (hb : Below wr.heap.size wr V) (ho : V.ownsRow wr.heap.size 81 5 sv' ns' (flS S')) : DN w (V.setCell ⟨w.heap.size + 1, 1, none⟩ sv') lv sv' kv ns' nk S' K := by
  have hV := h.below hb
  have hk : ∀ j, j ≠ w.heap.size + 1 → (V.setCell ⟨w.heap.size + 1, 1, none⟩ sv').heap[j]? = V.heap[j]? := fun j hj => Below.heap_setCell _ _ _ j (by simpa using hj)
  have hbx := (Array.getElem?_eq_some_iff.1 h.box).1
  have hsz : V.heap.size ≤ (V.setCell ⟨w.heap.size + 1, 1, none⟩ sv').heap.size := (grownBy_setCell V (w.heap.size + 1) 1 sv').size
  refine ⟨?_, (hk _ (by omega)).trans hV.res, ?_, own_kept2 hV.ks (fun j hj => hk j (by have := (hV.ks.lt j hj).1; omega)), fun j hj hj' => ?_, ?_⟩
  · have := set_blk (j := 1) hV.box sv'
    simpa using this
  · exact ownS_low (own_kept2 ho (fun j hj => hk j (by have := (ho.lt j hj).1; omega))) (by omega)
  · have h1 := (ho.lt j hj).1
    have h2 := (h.ks.lt j hj').2
    omega
  · have hB := hV.bel
    exact ⟨hB.os, hB.tape, hB.output, Nat.le_trans hB.size hsz, fun j hj => (hk j (by omega)).trans (hB.block j hj)⟩

/-- One more that took effect. -/
theorem DN.took {w wr : World} {lv sv kv : Value} {ns nk : Nat} {S : List Sp} {K : List Dt} (h : DN w wr lv sv kv ns nk S K) (d : Dt) (hn : nk ≤ 1000000) (ty : TypeId) :
    ∃ v' w', (Builtin.append_ #[29, 29] ty #[kv, .slice (some ⟨wr.heap.size, 0, none⟩) 1 1]).run Try.prog (wr.alloc (.cells #[.int .i64 d.1, .int .i64 d.2] 24)) = .ok v' w' ∧ w'.heap[w.heap.size + 1]? = some (.cells #[lv, sv, kv] 31 (0, 0)) ∧ Below w.heap.size w w' ∧ DN w (w'.setCell ⟨w.heap.size + 1, 2, none⟩ v') lv sv v' ns (nk + 1) S (K ++ [d]) := by
  obtain ⟨W1, hW1⟩ : ∃ W1, W1 = wr.alloc (.cells #[.int .i64 d.1, .int .i64 d.2] 24) := ⟨_, rfl⟩
  have hb1 : Below wr.heap.size wr W1 := by rw [hW1]; exact (Below.refl _ wr).alloc (Nat.le_refl _) _
  have hz1 : W1.heap.size = wr.heap.size + 1 := by rw [hW1]; simp
  have hnew : W1.heap[wr.heap.size]? = some (.cells #[.int .i64 d.1, .int .i64 d.2] 24 (0, 0)) := by rw [hW1]; exact World.alloc_heap_new wr _
  have h1 := h.below hb1
  rw [← hW1]
  clear hW1
  have hbx := (Array.getElem?_eq_some_iff.1 h1.box).1
  obtain ⟨i0, hi, hz0, hz1', hz2⟩ := info_parts Try.infoDD
  obtain ⟨v', w', hrun, hown, hg, _, hat⟩ := run_append_own_at (w := W1) (P := Try.prog) (w.heap.size + 2) 29 ty 24 i0 _ 2 16 Try.underlying29 hi hz0 hz1' hz2 rfl (by decide) kv nk (flat K) h1.ks ⟨wr.heap.size, 0, none⟩ 1 1 [.int .i64 d.1, .int .i64 d.2] rfl (fun j u hj => by
    rw [tadd_none]
    simp only [World.cell?]
    rw [hnew]
    simpa using hj) (by simp [Value.oneCell']) (by unfold maxLen; omega) (by omega) (by omega)
  have hkeep : ∀ j, j < W1.heap.size → kv.ownBlock ≠ some j → w'.heap[j]? = W1.heap[j]? := fun j hj hne => hg.block j hj (fun e => hne e.symm)
  have hkb : ∀ j, kv.ownBlock = some j → w.heap.size + 2 ≤ j ∧ j < W1.heap.size := fun j hj => h1.ks.lt j hj
  have hbox : w'.heap[w.heap.size + 1]? = some (.cells #[lv, sv, kv] 31 (0, 0)) := (hkeep _ hbx (fun e => by have := (hkb _ e).1; omega)).trans h1.box
  have hB' : Below w.heap.size w w' := by
    have hB := h1.bel
    exact ⟨hg.os.trans hB.os, hg.tape.trans hB.tape, hg.output.trans hB.output, Nat.le_trans hB.size hg.size, fun j hj => (hkeep j (Nat.lt_of_lt_of_le hj hB.size) (fun e => by have := (hkb _ e).1; omega)).trans (hB.block j hj)⟩
  have hk : ∀ j, j ≠ w.heap.size + 1 → (w'.setCell ⟨w.heap.size + 1, 2, none⟩ v').heap[j]? = w'.heap[j]? := fun j hj => Below.heap_setCell _ _ _ j (by simpa using hj)
  have hsz : w'.heap.size ≤ (w'.setCell ⟨w.heap.size + 1, 2, none⟩ v').heap.size := (grownBy_setCell w' (w.heap.size + 1) 2 v').size
  refine ⟨v', w', hrun, hbox, hB', ?_, (hk _ (by omega)).trans ((hkeep _ (by omega) (fun e => by have := (hkb _ e).1; omega)).trans h1.res), own_kept2 h1.ss (fun j hj => (hk j (by have := (h1.ss.lt j hj).1; omega)).trans (hkeep j (h1.ss.lt j hj).2 (h1.ap j hj))), ?_, fun j hj hj' => ?_, ?_⟩
  · have := set_blk (j := 2) hbox v'
    simpa using this
  · rw [flat_append]
    exact own_kept2 hown (fun j hj => hk j (by have := (hown.lt j hj).1; omega))
  · rcases hat with e | e
    · rw [e] at hj'
      exact h1.ap j hj hj'
    · rw [e] at hj'
      cases hj'
      have := (h1.ss.lt _ hj).2
      omega
  · exact ⟨hB'.os, hB'.tape, hB'.output, Nat.le_trans hB'.size hsz, fun j hj => (hk j (by omega)).trans (hB'.block j hj)⟩
end
end Go.Proofs.Ytplcohjpchfkkaa
