/- The first look of every statement of this layer answers true. -/
import Derived.Test.YtliahpjlmgplkaaVMiss
import Derived.Deep.RegionHeld
namespace Go.Proofs.Ytliahpjlmgplkaa
open Go.RowKit
open Go.Sort (grow)

abbrev vA : List Dt := [(1, 3), (2, 1)]
abbrev vB : List Dt := [(2, 4)]

theorem vmA : VM vA := (vmb_iff _).1 (by decide)
theorem vmB : VM vB := (vmb_iff _).1 (by decide)

theorem ps_A (w : World) : PS (w.alloc (.cells #[.int .i64 1, .int .i64 3, .int .i64 2, .int .i64 1] 24)) (some ⟨w.heap.size, 0, none⟩) 2 2 vA := by
  refine ⟨rfl, Nat.le_refl _, by decide, fun h => (by cases h), fun ad ha j u hj => ?_⟩
  cases ha
  match j, hj with
  | 0, hj => simp [flat] at hj; subst hj; simp [Addr.add]
  | 1, hj => simp [flat] at hj; subst hj; simp [Addr.add]
  | 2, hj => simp [flat] at hj; subst hj; simp [Addr.add]
  | 3, hj => simp [flat] at hj; subst hj; simp [Addr.add]

theorem ps_C (w : World) : PS (w.alloc (.cells #[.int .i64 2, .int .i64 4, .int .i64 1, .int .i64 3] 24)) (some ⟨w.heap.size, 0, none⟩) 2 2 [(2, 4), (1, 3)] := by
  refine ⟨rfl, Nat.le_refl _, by decide, fun h => (by cases h), fun ad ha j u hj => ?_⟩
  cases ha
  match j, hj with
  | 0, hj => simp [flat] at hj; subst hj; simp [Addr.add]
  | 1, hj => simp [flat] at hj; subst hj; simp [Addr.add]
  | 2, hj => simp [flat] at hj; subst hj; simp [Addr.add]
  | 3, hj => simp [flat] at hj; subst hj; simp [Addr.add]

theorem joinAB : vjoin vA vB = [(1, 3), (2, 4)] := by decide
theorem meetAB : vmeet vA vB = [(2, 1)] := by decide

abbrev oA : Obj := .cells #[.int .i64 1, .int .i64 3, .int .i64 2, .int .i64 1] 24
abbrev oB : Obj := .cells #[.int .i64 2, .int .i64 4] 24

theorem join_law (w : World) : Calls Try.prog 20 #[.slice (some ⟨w.heap.size, 0, none⟩) 2 2, .slice (some ⟨w.heap.size + 1, 0, none⟩) 1 1] ((w.alloc oA).alloc oB) fun e w' =>
    ∃ g o c, e = .returned (.slice (some ⟨g, o, none⟩) 2 c) ∧ PS w' (some ⟨g, o, none⟩) 2 c [(1, 3), (2, 4)] ∧ PS w' (some ⟨w.heap.size, 0, none⟩) 2 2 vA ∧ PS w' (some ⟨w.heap.size + 1, 0, none⟩) 1 1 vB ∧ RowKit.Below w.heap.size w w' := by
  have b1 : RowKit.Below (w.alloc oA).heap.size (w.alloc oA) ((w.alloc oA).alloc oB) := (Below.refl _ _).alloc (Nat.le_refl _) _
  have pA := (ps_A w).below b1
  have pB := ps_one (w.alloc oA) (2, 4)
  rw [World.size_alloc] at pB
  refine (join_any pA (by omega) pB (by omega) vmA vmB).mono ?_
  intro e w' h
  obtain ⟨a, c, rfl, hp, hb⟩ := h.ans
  rw [show vj (fun x y => max x y) vA vB = [(1, 3), (2, 4)] from joinAB] at hp
  obtain ⟨g, o, rfl, _, _⟩ := hp.at (by decide)
  exact ⟨g, o, c, by rw [show vj (fun x y => max x y) vA vB = [(1, 3), (2, 4)] from joinAB]; rfl, hp, pA.below hb, pB.below hb, below2 (below2 ((Below.refl _ w).alloc (Nat.le_refl _) oA) b1) hb⟩

theorem meet_law (w : World) (q : Nat) (pA : PS w (some ⟨q, 0, none⟩) 2 2 vA) (pB : PS w (some ⟨q + 1, 0, none⟩) 1 1 vB) : Calls Try.prog 22 #[.slice (some ⟨q, 0, none⟩) 2 2, .slice (some ⟨q + 1, 0, none⟩) 1 1] w fun e w' =>
    ∃ g o c, e = .returned (.slice (some ⟨g, o, none⟩) 1 c) ∧ PS w' (some ⟨g, o, none⟩) 1 c [(2, 1)] ∧ RowKit.Below w.heap.size w w' := by
  refine (meet_any pA (by omega) pB (by omega) vmA vmB).mono ?_
  intro e w' h
  obtain ⟨a, c, rfl, hp, hb⟩ := h.ans
  rw [show vj (fun x y => min x y) vA vB = [(2, 1)] from meetAB] at hp
  obtain ⟨g, o, rfl, _, _⟩ := hp.at (by decide)
  exact ⟨g, o, c, by rw [show vj (fun x y => min x y) vA vB = [(2, 1)] from meetAB]; rfl, hp, hb⟩

set_option maxRecDepth 100000 in
set_option maxHeartbeats 4000000 in
theorem awake_any (w : World) : Calls Try.prog 9 #[] w fun e w' => e = .returned (.bool true) ∧ RowKit.Below w.heap.size w w' := by
  have mixed := mixed
  have hj := join_law w
  go_enter Try.func9, Try.ntmps9
  go_wp2_with (first
    | (go_at_call 22; have hq := pJ; refine (meet_law w3 w.heap.size pA pB).mono ?_; rintro e w4 ⟨gm, om, cm, rfl, pM, b4⟩)
    | (go_at_call 20; refine hj.mono ?_; rintro e w3 ⟨gj, oj, cj, rfl, pJ, pA, pB, b3⟩))
  have hb := hid (below2 b3 b4)
  have pA4 := pA.below b4
  have pB4 := pB.below b4
  have pJ4 := pJ.below b4
  obtain ⟨g1, o1, e1, _, cA⟩ := pA4.at (by decide)
  cases e1
  obtain ⟨g1, o1, e1, _, cB⟩ := pB4.at (by decide)
  cases e1
  obtain ⟨g1, o1, e1, _, cJ⟩ := pJ4.at (by decide)
  cases e1
  obtain ⟨g1, o1, e1, _, cM⟩ := pM.at (by decide)
  cases e1
  have a0 := (cA 0 (by decide)).1
  have a1 := (cA 0 (by decide)).2
  have bb0 := (cB 0 (by decide)).1
  have bb1 := (cB 0 (by decide)).2
  have j1 := (cJ 0 (by decide)).2
  have j3 := (cJ 1 (by decide)).2
  have m1 := (cM 0 (by decide)).2
  simp at a0 a1 bb0 bb1 j1 j3 m1
  have H : Hid (∀ W, Far w4 W → W.cell? ⟨w.heap.size, 0, none⟩ = some (.int .i64 1) ∧ W.cell? ⟨w.heap.size, 1, none⟩ = some (.int .i64 3) ∧ W.cell? ⟨w.heap.size + 1, 0, none⟩ = some (.int .i64 2) ∧ W.cell? ⟨w.heap.size + 1, 1, none⟩ = some (.int .i64 4) ∧ W.cell? ⟨gj, oj + 1, none⟩ = some (.int .i64 3) ∧ W.cell? ⟨gj, oj + 2 + 1, none⟩ = some (.int .i64 4) ∧ W.cell? ⟨gm, om + 1, none⟩ = some (.int .i64 1)) := hid (fun W hW => by
    have q := fun (p : Addr) (v : Value) (h : w4.cell? p = some v) => (hW.below.cell (cell_in h)).trans h
    exact ⟨q _ _ a0, q _ _ a1, q _ _ bb0, q _ _ bb1, q _ _ j1, q _ _ j3, q _ _ m1⟩)
  have hD : Far w4 w4.drew := (Far.refl w4).drew
  have PA := hid (fun W (hW : Far w4 W) => pA4.far hW)
  have eC : cntv vA = 4 := by decide
  have eH : hasv vA (1, 2) = true := by decide
  have eM : vmb vA = true := by decide
  have eN : vmb [(2, 4), (1, 3)] = false := by decide
  have kC := hid (fun W (hW : Far w4 W) => by have := count_any _ _ _ vA W (PA.out W hW) (by omega) vmA; rw [eC] at this; exact this)
  have kH := hid (fun W (hW : Far w4 W) => by have := has_any _ _ _ vA (1, 2) W (PA.out W hW) (by omega) vmA.ac; rw [eH] at this; exact this)
  have kM := hid (fun W (hW : Far w4 W) => by have := vmay_any _ _ _ vA W (PA.out W hW) (by omega); rw [eM] at this; exact this)
  have kN := hid (fun W => by have := vmay_any _ _ _ [(2, 4), (1, 3)] _ (ps_C W) (by omega); rw [eN] at this; exact this)
  have cj2 := pJ.cap
  have cm2 := pM.cap
  clear hj pA pB pJ pM b3 b4 pA4 pB4 pJ4 cA cB cJ cM a0 a1 bb0 bb1 j1 j3 m1 eC eH eM eN
  go_region_held (fun W => W.cell? ⟨w.heap.size, 0, none⟩ = some (.int .i64 1) ∧ W.cell? ⟨w.heap.size, 1, none⟩ = some (.int .i64 3) ∧ W.cell? ⟨w.heap.size + 1, 0, none⟩ = some (.int .i64 2) ∧ W.cell? ⟨w.heap.size + 1, 1, none⟩ = some (.int .i64 4) ∧ W.cell? ⟨gj, oj + 1, none⟩ = some (.int .i64 3) ∧ W.cell? ⟨gj, oj + 2 + 1, none⟩ = some (.int .i64 4) ∧ W.cell? ⟨gm, om + 1, none⟩ = some (.int .i64 1))
    (first | exact H.out _ (by assumption) | exact H.out _ (Far.alloc (by assumption) _))
    (first
      | (go_at_call 17; refine (kC.out _ hD).mono ?_; rintro e w5 ⟨rfl, f5⟩; have F5 := hD.trans f5)
      | (go_at_call 15; refine (kH.out _ F5).mono ?_; rintro e w6 ⟨rfl, f6⟩; have F6 := F5.trans f6)
      | (go_at_call 11; have hq := F7; refine (kN.out w7).mono ?_; rintro e w8 ⟨rfl, f8⟩; have F8 := (F7.alloc _).trans f8)
      | (go_at_call 11; refine (kM.out _ F6).mono ?_; rintro e w7 ⟨rfl, f7⟩; have F7 := F6.trans f7))
  all_goals go_wp2_with fail
  all_goals go_ret
  all_goals exact ⟨rfl, below2 hb.out F8.below⟩

end Go.Proofs.Ytliahpjlmgplkaa
