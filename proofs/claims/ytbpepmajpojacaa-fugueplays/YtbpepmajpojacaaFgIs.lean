/- is: does a text tell what the reference's tells? -/
import Derived.Test.YtbpepmajpojacaaFgRPlace
import Derived.Test.YtbpepmajpojacaaFgRString
import Derived.Test.YtbpepmajpojacaaFgTwo
import Derived.Deep.CutRange
set_option linter.unusedVariables false
set_option linter.unusedSimpArgs false
namespace Go.Proofs.Ytbpepmajpojacaa
open Go.RowKit
open Go.Sort (grow)

theorem own_isC {w : World} {base n : Nat} {v : Value} {C : List Cr} (h : w.ownsRow base 3 1 v n (C.map (fun c => Value.int .i64 c.ch))) : ∃ a c, v = .slice a n c ∧ IS w a n c (C.map (·.ch)) := by
  have hl : C.length = n := by have := h.1; rw [List.length_map] at this; omega
  rcases h.2 with ⟨rfl, h0⟩ | ⟨g, cap, cur, rfl, hB, hg, hn, hc, hcs, ht⟩
  · subst h0
    exact ⟨none, 0, rfl, by simpa using hl, Nat.le_refl _, Nat.zero_le _, fun hp => absurd hp (by omega)⟩
  · refine ⟨_, _, rfl, by simpa using hl, hn, hc, (fun hp => ⟨g, 0, rfl, (Array.getElem?_eq_some_iff.1 hg).1, fun i hi => ?_⟩)⟩
    have hi' : i < C.length := by simpa using hi
    have := h.cells (g := g) rfl i (.int .i64 (C.map (·.ch))[i]) (by simp [hi'])
    have e : (⟨g, 0, none⟩ : Addr).add i = ⟨g, 0 + i, none⟩ := by
      unfold Addr.add
      split
      · rename_i h0
        simp only [Addr.mk.injEq, true_and, and_true]
        omega
      · simp only [Addr.mk.injEq, true_and, and_true]
    rw [e] at this
    exact this

theorem seenP_of {T : List Cr} (hT : WT T) {x : Cr} (hx : x ∈ T) : seenP T x.id = x.seen := by
  unfold seenP
  rw [fnd_of hT hx]

theorem idxL_yes {L : List Cr} {x : Cr} (hx : x ∈ L) : (idxL L x.id).2 = true := by
  unfold idxL
  rw [if_pos ⟨x, hx, rfl⟩]

/-- A call that answers a slice of dots; of numbers. -/
def FD (L : List Dt) (v : Value) (w : World) : Prop := ∃ a c, v = .slice a L.length c ∧ PS w a L.length c L
def FI (L : List Int) (v : Value) (w : World) : Prop := ∃ a c, v = .slice a L.length c ∧ IS w a L.length c L
theorem same_yes {L : List Dt} {w : World} {a a' : Option Addr} {c c' : Nat} (h : PS w a L.length c L) (h' : PS w a' L.length c' L) (hn : L.length ≤ 100000) : Calls Try.prog 21 #[.slice a L.length c, .slice a' L.length c'] w fun e w' => e = .returned (.bool true) ∧ Below w.heap.size w w' :=
  (fsame_any h (by omega) h' (by omega)).mono (fun e w' ⟨he, hb⟩ => ⟨by rw [he, decide_eq_true (rfl : L = L)], hb⟩)
theorem ints_yes {L : List Int} {w : World} {a a' : Option Addr} {c c' : Nat} (h : IS w a L.length c L) (h' : IS w a' L.length c' L) (hn : L.length ≤ 100000) : Calls Try.prog 26 #[.slice a L.length c, .slice a' L.length c'] w fun e w' => e = .returned (.bool true) ∧ Below w.heap.size w w' :=
  (ints_any h (by omega) h' (by omega)).mono (fun e w' ⟨he, hb⟩ => ⟨by rw [he, decide_eq_true (rfl : L = L)], hb⟩)
theorem FD.mono (L : List Dt) : ∀ v w w', FD L v w → Below w.heap.size w w' → FD L v w' := fun v w w' ⟨a, c, e, h⟩ hb => ⟨a, c, e, h.below hb⟩
theorem FI.mono (L : List Int) : ∀ v w w', FI L v w → Below w.heap.size w w' → FI L v w' := fun v w w' ⟨a, c, e, h⟩ hb => ⟨a, c, e, h.below hb⟩

set_option maxRecDepth 100000 in
set_option maxHeartbeats 16000000 in
theorem is_any (t : Nat) (T : List Cr) (a : Option Addr) (n c : Nat) (i : Int) (w : World) (h : TM w t T) (hr : RT w a n c T) (hn : n ≤ 100000) (hdw : ∀ x ∈ T, Dw x.id) (hi : I64 i) :
    Calls Try.prog 14 #[.pointer (some ⟨t, 0, none⟩), .agg #[.slice a n c], .int .i64 i] w fun e w' => e = .returned (.bool true) ∧ Below w.heap.size w w' := by
  have mixed := mixed
  have hmxo : Try.prog.follows .mixedOrders = true := by kernel_rfl
  obtain ⟨W0, hW0⟩ : ∃ W0, W0 = w.alloc (.cells #[.slice a n c] 30) := ⟨_, rfl⟩
  have hB0 : Below w.heap.size w W0 := by rw [hW0]; exact (Below.refl _ w).alloc (Nat.le_refl _) _
  have hb1 : W0.heap[w.heap.size]? = some (.cells #[.slice a n c] 30 (0, 0)) := by rw [hW0]; exact World.alloc_heap_new w _
  have hl1 := (Array.getElem?_eq_some_iff.1 hb1).1
  have HC : Hid (∀ W, Below W0.heap.size W0 W → W.cell? ⟨w.heap.size, 0, none⟩ = some (.slice a n c)) := hid (fun W hb => by
    have g1 := (hb.block _ hl1).trans hb1
    simp [World.cell?, g1])
  have HT : Hid (∀ W, Below W0.heap.size W0 W → TM W t T) := hid (fun W hb => h.below (hB0.trans (hb.mono hB0.size)))
  have HR : Hid (∀ W, Below W0.heap.size W0 W → RT W a n c T) := hid (fun W hb => hr.below (hB0.trans (hb.mono hB0.size)))
  have hTn : T.length = n := hr.len
  have hT1 : T.length ≤ 1000000 := by omega
  have hwt := h.wt
  have hall := rall_any a n c T hwt hn W0 (HR.out W0 (Below.refl _ _))
  have hcell := HC.out W0 (Below.refl _ _)
  obtain ⟨L, hL⟩ : ∃ L, L = allT T := ⟨_, rfl⟩
  rw [← hL] at hall
  have HL : Hid (L.length = n) := hid (by rw [hL, allT_len hwt, hr.len])
  have HLd := hid hL
  obtain ⟨D, hD⟩ : ∃ D, D = (seenC T).map Cr.id := ⟨_, rfl⟩
  obtain ⟨X, hX⟩ : ∃ X, X = (seenC T).map (·.ch) := ⟨_, rfl⟩
  obtain ⟨s, hs⟩ : ∃ s : ByteArray, s = ⟨(strB (seenC T)).toArray⟩ := ⟨_, rfl⟩
  have HDl : Hid ((seenC T).length = D.length) := hid (by rw [hD, List.length_map])
  have HXl : Hid ((seenC T).length = X.length) := hid (by rw [hX, List.length_map])
  have hDn : D.length ≤ 100000 := by
    rw [← HDl.out]
    refine Nat.le_trans (List.length_filter_le _ _) ?_
    rw [allC_len hwt, hr.len]
    exact hn
  have hXn : X.length ≤ 100000 := by rw [← HXl.out, HDl.out]; exact hDn
  have cAll : Hid (∀ W, Below W0.heap.size W0 W → Calls Try.prog 22 #[.pointer (some ⟨t, 0, none⟩)] W fun e w' => ∃ v, e = .returned v ∧ FD L v w' ∧ Below W.heap.size W w') := hid (fun W hb => (all_tm (HT.out W hb) hT1).mono (fun e w' hg => by
    obtain ⟨a1, c1, he, hp, hb⟩ := hg.ans
    rw [← hL] at he hp
    exact ⟨_, he, ⟨a1, c1, rfl, hp⟩, hb⟩))
  have cDots : Hid (∀ W, Below W0.heap.size W0 W → Calls Try.prog 24 #[.pointer (some ⟨t, 0, none⟩)] W fun e w' => ∃ v, e = .returned v ∧ FD D v w' ∧ Below W.heap.size W w') := hid (fun W hb => (dots_tm (HT.out W hb) hT1).mono (fun e w' hg => by
    obtain ⟨a1, c1, he, hp, hb⟩ := hg.ans
    rw [← hD] at he hp
    exact ⟨_, he, ⟨a1, c1, rfl, hp⟩, hb⟩))
  have rDots : Hid (∀ W, Below W0.heap.size W0 W → Calls Try.prog 35 #[.agg #[.slice a n c]] W fun e w' => ∃ v, e = .returned v ∧ FD D v w' ∧ Below W.heap.size W w') := hid (fun W hb => (rdots_any a n c T hwt hn W (HR.out W hb)).mono (fun e w' hg => by
    obtain ⟨a1, c1, he, hp, hb⟩ := hg.ans
    rw [← hD] at he hp
    exact ⟨_, he, ⟨a1, c1, rfl, hp⟩, hb⟩))
  have cChars : Hid (∀ W, Below W0.heap.size W0 W → Calls Try.prog 27 #[.pointer (some ⟨t, 0, none⟩)] W fun e w' => ∃ v, e = .returned v ∧ FI X v w' ∧ Below W.heap.size W w') := hid (fun W hb => (chars_tm (HT.out W hb) hT1).mono (fun e w' ⟨v, he, ho, hb⟩ => by
    obtain ⟨a1, c1, e1, hp⟩ := own_isC ho
    rw [← hX, HXl.out] at hp
    rw [HXl.out] at e1
    exact ⟨v, he, ⟨a1, c1, e1, hp⟩, hb⟩))
  have rChars : Hid (∀ W, Below W0.heap.size W0 W → Calls Try.prog 36 #[.agg #[.slice a n c]] W fun e w' => ∃ v, e = .returned v ∧ FI X v w' ∧ Below W.heap.size W w') := hid (fun W hb => (rchars_any a n c T hwt hn W (HR.out W hb)).mono (fun e w' ⟨v, he, ho, hb⟩ => by
    obtain ⟨a1, c1, e1, hp⟩ := own_isC ho
    rw [← hX, HXl.out] at hp
    rw [HXl.out] at e1
    exact ⟨v, he, ⟨a1, c1, e1, hp⟩, hb⟩))
  have cStr : Hid (∀ W, Below W0.heap.size W0 W → Calls Try.prog 23 #[.pointer (some ⟨t, 0, none⟩)] W fun e w' => ∃ v, e = .returned v ∧ v = .string s ∧ Below W.heap.size W w') := hid (fun W hb => (string_tm (HT.out W hb) hT1).mono (fun e w' ⟨he, hb⟩ => ⟨_, he, by rw [hs], hb⟩))
  have rStr : Hid (∀ W, Below W0.heap.size W0 W → Calls Try.prog 37 #[.agg #[.slice a n c]] W fun e w' => ∃ v, e = .returned v ∧ v = .string s ∧ Below W.heap.size W w') := hid (fun W hb => (rstring_any a n c T hwt h.2 hn W (HR.out W hb)).mono (fun e w' ⟨he, hb⟩ => ⟨_, he, by rw [hs], hb⟩))
  have cLen : Hid (∀ W, Below W0.heap.size W0 W → Calls Try.prog 28 #[.pointer (some ⟨t, 0, none⟩)] W fun e w' => ∃ v, e = .returned v ∧ v = .int .i64 (D.length : Int) ∧ Below W.heap.size W w') := hid (fun W hb => (len_tm (HT.out W hb) hT1).mono (fun e w' ⟨he, hb⟩ => ⟨_, he, by rw [HDl.out], hb⟩))
  have cSize : Hid (∀ W, Below W0.heap.size W0 W → Calls Try.prog 29 #[.pointer (some ⟨t, 0, none⟩)] W fun e w' => e = .returned (.int .i64 (n : Int)) ∧ Below W.heap.size W w') := hid (fun W hb => (size_tm (HT.out W hb)).mono (fun e w' ⟨he, hb⟩ => ⟨by rw [he, hTn], by rw [hb]; exact Below.refl _ _⟩))
  have HLN : L.length ≤ 100000 := by have := HL.out; omega
  have HB0 := hid hB0
  have HWT := hid hwt
  have HDW := hid hdw
  have HI := hid hi
  clear hb1 hl1 h hr hL hD hX hs hdw hwt hi hTn
  go_enter Try.func14, Try.ntmps14
  go_wp2_with (go_at_call 34; rw [← hW0]; clear hW0; refine hall.mono ?_; intro e W1 hg1; obtain ⟨a0, c0, rfl, q0, b0⟩ := hg1.ans; have hp0 := hid q0; have HB1 := hid b0; clear hg1 q0 b0)
  have HWU : Hid (∀ W, Below W1.heap.size W1 W → Below W0.heap.size W0 W) := hid (fun W hb => HB1.out.trans (hb.mono HB1.out.size))
  clear hall hcell
  go_cut [64] from 21 to 64 (fun s wc => s = .bool false ∧ Hid (Below W1.heap.size W1 wc))
  case first =>
    have hp0 := hp0.out
    have HU0 : Hid (Below W1.heap.size W1 W1.drew) := hid (((Far.refl W1).drewN 1).below)
    have hS0 := HC.out _ (HWU.out _ HU0.out)
    have mS : ∀ u v : World, u.cell? ⟨w.heap.size, 0, none⟩ = some (.slice a n c) → Below u.heap.size u v → v.cell? ⟨w.heap.size, 0, none⟩ = some (.slice a n c) := fun u v h1 h2 => bel_cell (n := 0) h2 h1
    refine wp_region_held_drew (S := fun w' => w'.cell? ⟨w.heap.size, 0, none⟩ = some (.slice a n c)) hmxo hS0 ?_
    intro _
    obtain ⟨U0, hU0⟩ : ∃ U0, U0 = W1.drew := ⟨_, rfl⟩
    rw [← hU0] at hS0 HU0 ⊢
    clear hU0
    refine wpAnyH_take (i := 0) (v := .pointer (some ⟨t, 0, none⟩)) rfl (by kernel_rfl) (by kernel_rfl) (by kernel_rfl) (fun _ _ _ h => h) (Or.inl ⟨by kernel_rfl, fun w hSw => ?_⟩) hS0 ?_
    · go_simp
    simp only [Act.put, List.setIfInBounds_toArray, List.set_cons_zero, List.set_cons_succ]
    refine wpAnyH_take (i := 2) (v := .slice a0 L.length c0) rfl (by kernel_rfl) (by kernel_rfl) (by kernel_rfl) (fun _ _ _ h => h) (Or.inl ⟨by kernel_rfl, fun w hSw => ?_⟩) hS0 ?_
    · go_simp
    simp only [Act.put, List.setIfInBounds_toArray, List.set_cons_zero, List.set_cons_succ]
    refine wpAnyH_ready (rs := [1]) (by kernel_rfl) (by simp) ?_
    refine AllReadyH.cons rfl (fun K hK => ?_) AllReadyH.nil
    go_simp
    refine (cAll.out U0 (HWU.out _ HU0.out)).mono ?_
    rintro e U1 ⟨v, rfl, ⟨a1, c1, rfl, hp1⟩, hb1⟩
    have hS1 := mS _ _ hS0 hb1
    have HU1 : Hid (Below W1.heap.size W1 U1) := hid (HU0.out.trans (hb1.mono HU0.out.size))
    refine hK.out _ _ hS1 (fun _ => ?_)
    clear hK K
    have hp0 := hp0.below HU1.out
    refine wpAnyH_ready (rs := [3]) (by kernel_rfl) (by simp) ?_
    refine AllReadyH.cons rfl (fun K hK => ?_) AllReadyH.nil
    go_simp
    refine (same_yes (w := U1) hp1 hp0 (by omega)).mono ?_
    rintro e U2 ⟨rfl, hb2⟩
    have hS2 := mS _ _ hS1 hb2
    have HU2 : Hid (Below W1.heap.size W1 U2) := hid (HU1.out.trans (hb2.mono HU1.out.size))
    refine hK.out _ _ hS2 (fun _ => ?_)
    clear hK K
    clear hp0 hp1
    refine wpAnyH_take (i := 4) (v := .bool false) rfl (by kernel_rfl) (by kernel_rfl) (by kernel_rfl) (fun _ _ _ h => h) (Or.inl ⟨by kernel_rfl, fun w hSw => ?_⟩) hS2 ?_
    · go_simp
    simp only [Act.put, List.setIfInBounds_toArray, List.set_cons_zero, List.set_cons_succ]
    refine wpAnyH_take (i := 5) (v := .bool false) rfl (by kernel_rfl) (by kernel_rfl) (by kernel_rfl) (fun _ _ _ h => h) (Or.inl ⟨by kernel_rfl, fun w hSw => ?_⟩) hS2 ?_
    · go_simp
    simp only [Act.put, List.setIfInBounds_toArray, List.set_cons_zero, List.set_cons_succ]
    refine wpAnyH_take (i := 6) (v := .pointer (some ⟨t, 0, none⟩)) rfl (by kernel_rfl) (by kernel_rfl) (by kernel_rfl) (fun _ _ _ h => h) (Or.inl ⟨by kernel_rfl, fun w hSw => ?_⟩) hS2 ?_
    · go_simp
    simp only [Act.put, List.setIfInBounds_toArray, List.set_cons_zero, List.set_cons_succ]
    refine wpAnyH_take (i := 8) (v := .agg #[.slice a n c]) rfl (by kernel_rfl) (by kernel_rfl) (by kernel_rfl) (fun _ _ _ h => h) (Or.inl ⟨by kernel_rfl, fun w hSw => ?_⟩) hS2 ?_
    · go_simp
    simp only [Act.put, List.setIfInBounds_toArray, List.set_cons_zero, List.set_cons_succ]
    refine wpAnyH_ready (rs := [7]) (by kernel_rfl) (by simp) ?_
    refine AllReadyH.cons rfl (fun K hK => ?_) AllReadyH.nil
    go_simp
    refine (cDots.out U2 (HWU.out _ HU2.out)).mono ?_
    rintro e U3 ⟨v, rfl, ⟨a2, c2, rfl, hp2⟩, hb3⟩
    have hS3 := mS _ _ hS2 hb3
    have HU3 : Hid (Below W1.heap.size W1 U3) := hid (HU2.out.trans (hb3.mono HU2.out.size))
    refine hK.out _ _ hS3 (fun _ => ?_)
    clear hK K
    refine wpAnyH_ready (rs := [9]) (by kernel_rfl) (by simp) ?_
    refine AllReadyH.cons rfl (fun K hK => ?_) AllReadyH.nil
    go_simp
    refine (rDots.out U3 (HWU.out _ HU3.out)).mono ?_
    rintro e U4 ⟨v, rfl, ⟨a3, c3, rfl, hp3⟩, hb4⟩
    have hS4 := mS _ _ hS3 hb4
    have HU4 : Hid (Below W1.heap.size W1 U4) := hid (HU3.out.trans (hb4.mono HU3.out.size))
    refine hK.out _ _ hS4 (fun _ => ?_)
    clear hK K
    have hp2 := hp2.below hb4
    refine wpAnyH_ready (rs := [10]) (by kernel_rfl) (by simp) ?_
    refine AllReadyH.cons rfl (fun K hK => ?_) AllReadyH.nil
    go_simp
    refine (same_yes (w := U4) hp2 hp3 (by omega)).mono ?_
    rintro e U5 ⟨rfl, hb5⟩
    have hS5 := mS _ _ hS4 hb5
    have HU5 : Hid (Below W1.heap.size W1 U5) := hid (HU4.out.trans (hb5.mono HU4.out.size))
    refine hK.out _ _ hS5 (fun _ => ?_)
    clear hK K
    clear hp2 hp3
    refine wpAnyH_take (i := 11) (v := .bool false) rfl (by kernel_rfl) (by kernel_rfl) (by kernel_rfl) (fun _ _ _ h => h) (Or.inl ⟨by kernel_rfl, fun w hSw => ?_⟩) hS5 ?_
    · go_simp
    simp only [Act.put, List.setIfInBounds_toArray, List.set_cons_zero, List.set_cons_succ]
    refine wpAnyH_take (i := 12) (v := .bool false) rfl (by kernel_rfl) (by kernel_rfl) (by kernel_rfl) (fun _ _ _ h => h) (Or.inl ⟨by kernel_rfl, fun w hSw => ?_⟩) hS5 ?_
    · go_simp
    simp only [Act.put, List.setIfInBounds_toArray, List.set_cons_zero, List.set_cons_succ]
    refine wpAnyH_take (i := 13) (v := .bool false) rfl (by kernel_rfl) (by kernel_rfl) (by kernel_rfl) (fun _ _ _ h => h) (Or.inl ⟨by kernel_rfl, fun w hSw => ?_⟩) hS5 ?_
    · go_simp
    simp only [Act.put, List.setIfInBounds_toArray, List.set_cons_zero, List.set_cons_succ]
    refine wpAnyH_take (i := 14) (v := .pointer (some ⟨t, 0, none⟩)) rfl (by kernel_rfl) (by kernel_rfl) (by kernel_rfl) (fun _ _ _ h => h) (Or.inl ⟨by kernel_rfl, fun w hSw => ?_⟩) hS5 ?_
    · go_simp
    simp only [Act.put, List.setIfInBounds_toArray, List.set_cons_zero, List.set_cons_succ]
    refine wpAnyH_take (i := 16) (v := .agg #[.slice a n c]) rfl (by kernel_rfl) (by kernel_rfl) (by kernel_rfl) (fun _ _ _ h => h) (Or.inl ⟨by kernel_rfl, fun w hSw => ?_⟩) hS5 ?_
    · go_simp
    simp only [Act.put, List.setIfInBounds_toArray, List.set_cons_zero, List.set_cons_succ]
    refine wpAnyH_ready (rs := [15]) (by kernel_rfl) (by simp) ?_
    refine AllReadyH.cons rfl (fun K hK => ?_) AllReadyH.nil
    go_simp
    refine (cChars.out U5 (HWU.out _ HU5.out)).mono ?_
    rintro e U6 ⟨v, rfl, ⟨a4, c4, rfl, hp4⟩, hb6⟩
    have hS6 := mS _ _ hS5 hb6
    have HU6 : Hid (Below W1.heap.size W1 U6) := hid (HU5.out.trans (hb6.mono HU5.out.size))
    refine hK.out _ _ hS6 (fun _ => ?_)
    clear hK K
    refine wpAnyH_ready (rs := [17]) (by kernel_rfl) (by simp) ?_
    refine AllReadyH.cons rfl (fun K hK => ?_) AllReadyH.nil
    go_simp
    refine (rChars.out U6 (HWU.out _ HU6.out)).mono ?_
    rintro e U7 ⟨v, rfl, ⟨a5, c5, rfl, hp5⟩, hb7⟩
    have hS7 := mS _ _ hS6 hb7
    have HU7 : Hid (Below W1.heap.size W1 U7) := hid (HU6.out.trans (hb7.mono HU6.out.size))
    refine hK.out _ _ hS7 (fun _ => ?_)
    clear hK K
    have hp4 := hp4.below hb7
    refine wpAnyH_ready (rs := [18]) (by kernel_rfl) (by simp) ?_
    refine AllReadyH.cons rfl (fun K hK => ?_) AllReadyH.nil
    go_simp
    refine (ints_yes (w := U7) hp4 hp5 (by omega)).mono ?_
    rintro e U8 ⟨rfl, hb8⟩
    have hS8 := mS _ _ hS7 hb8
    have HU8 : Hid (Below W1.heap.size W1 U8) := hid (HU7.out.trans (hb8.mono HU7.out.size))
    refine hK.out _ _ hS8 (fun _ => ?_)
    clear hK K
    clear hp4 hp5
    refine wpAnyH_take (i := 19) (v := .bool false) rfl (by kernel_rfl) (by kernel_rfl) (by kernel_rfl) (fun _ _ _ h => h) (Or.inl ⟨by kernel_rfl, fun w hSw => ?_⟩) hS8 ?_
    · go_simp
    simp only [Act.put, List.setIfInBounds_toArray, List.set_cons_zero, List.set_cons_succ]
    refine wpAnyH_take (i := 20) (v := .bool false) rfl (by kernel_rfl) (by kernel_rfl) (by kernel_rfl) (fun _ _ _ h => h) (Or.inl ⟨by kernel_rfl, fun w hSw => ?_⟩) hS8 ?_
    · go_simp
    simp only [Act.put, List.setIfInBounds_toArray, List.set_cons_zero, List.set_cons_succ]
    refine wpAnyH_take (i := 21) (v := .bool false) rfl (by kernel_rfl) (by kernel_rfl) (by kernel_rfl) (fun _ _ _ h => h) (Or.inl ⟨by kernel_rfl, fun w hSw => ?_⟩) hS8 ?_
    · go_simp
    simp only [Act.put, List.setIfInBounds_toArray, List.set_cons_zero, List.set_cons_succ]
    refine wpAnyH_take (i := 22) (v := .pointer (some ⟨t, 0, none⟩)) rfl (by kernel_rfl) (by kernel_rfl) (by kernel_rfl) (fun _ _ _ h => h) (Or.inl ⟨by kernel_rfl, fun w hSw => ?_⟩) hS8 ?_
    · go_simp
    simp only [Act.put, List.setIfInBounds_toArray, List.set_cons_zero, List.set_cons_succ]
    refine wpAnyH_take (i := 24) (v := .agg #[.slice a n c]) rfl (by kernel_rfl) (by kernel_rfl) (by kernel_rfl) (fun _ _ _ h => h) (Or.inl ⟨by kernel_rfl, fun w hSw => ?_⟩) hS8 ?_
    · go_simp
    simp only [Act.put, List.setIfInBounds_toArray, List.set_cons_zero, List.set_cons_succ]
    refine wpAnyH_ready (rs := [23]) (by kernel_rfl) (by simp) ?_
    refine AllReadyH.cons rfl (fun K hK => ?_) AllReadyH.nil
    go_simp
    refine (cStr.out U8 (HWU.out _ HU8.out)).mono ?_
    rintro e U9 ⟨v, rfl, rfl, hb9⟩
    have hS9 := mS _ _ hS8 hb9
    have HU9 : Hid (Below W1.heap.size W1 U9) := hid (HU8.out.trans (hb9.mono HU8.out.size))
    refine hK.out _ _ hS9 (fun _ => ?_)
    clear hK K
    refine wpAnyH_ready (rs := [25]) (by kernel_rfl) (by simp) ?_
    refine AllReadyH.cons rfl (fun K hK => ?_) AllReadyH.nil
    go_simp
    refine (rStr.out U9 (HWU.out _ HU9.out)).mono ?_
    rintro e U10 ⟨v, rfl, rfl, hb10⟩
    have hS10 := mS _ _ hS9 hb10
    have HU10 : Hid (Below W1.heap.size W1 U10) := hid (HU9.out.trans (hb10.mono HU9.out.size))
    refine hK.out _ _ hS10 (fun _ => ?_)
    clear hK K
    refine wpAnyH_take (i := 26) (v := .bool false) rfl (by kernel_rfl) (by kernel_rfl) (by kernel_rfl) (fun _ _ _ h => h) (Or.inl ⟨by kernel_rfl, fun w hSw => ?_⟩) hS10 ?_
    · go_simp
    simp only [Act.put, List.setIfInBounds_toArray, List.set_cons_zero, List.set_cons_succ]
    refine wpAnyH_take (i := 27) (v := .bool false) rfl (by kernel_rfl) (by kernel_rfl) (by kernel_rfl) (fun _ _ _ h => h) (Or.inl ⟨by kernel_rfl, fun w hSw => ?_⟩) hS10 ?_
    · go_simp
    simp only [Act.put, List.setIfInBounds_toArray, List.set_cons_zero, List.set_cons_succ]
    refine wpAnyH_take (i := 28) (v := .bool false) rfl (by kernel_rfl) (by kernel_rfl) (by kernel_rfl) (fun _ _ _ h => h) (Or.inl ⟨by kernel_rfl, fun w hSw => ?_⟩) hS10 ?_
    · go_simp
    simp only [Act.put, List.setIfInBounds_toArray, List.set_cons_zero, List.set_cons_succ]
    refine wpAnyH_take (i := 29) (v := .pointer (some ⟨t, 0, none⟩)) rfl (by kernel_rfl) (by kernel_rfl) (by kernel_rfl) (fun _ _ _ h => h) (Or.inl ⟨by kernel_rfl, fun w hSw => ?_⟩) hS10 ?_
    · go_simp
    simp only [Act.put, List.setIfInBounds_toArray, List.set_cons_zero, List.set_cons_succ]
    refine wpAnyH_take (i := 31) (v := .agg #[.slice a n c]) rfl (by kernel_rfl) (by kernel_rfl) (by kernel_rfl) (fun _ _ _ h => h) (Or.inl ⟨by kernel_rfl, fun w hSw => ?_⟩) hS10 ?_
    · go_simp
    simp only [Act.put, List.setIfInBounds_toArray, List.set_cons_zero, List.set_cons_succ]
    refine wpAnyH_ready (rs := [30]) (by kernel_rfl) (by simp) ?_
    refine AllReadyH.cons rfl (fun K hK => ?_) AllReadyH.nil
    go_simp
    refine (cLen.out U10 (HWU.out _ HU10.out)).mono ?_
    rintro e U11 ⟨v, rfl, rfl, hb11⟩
    have hS11 := mS _ _ hS10 hb11
    have HU11 : Hid (Below W1.heap.size W1 U11) := hid (HU10.out.trans (hb11.mono HU10.out.size))
    refine hK.out _ _ hS11 (fun _ => ?_)
    clear hK K
    refine wpAnyH_ready (rs := [32]) (by kernel_rfl) (by simp) ?_
    refine AllReadyH.cons rfl (fun K hK => ?_) AllReadyH.nil
    go_simp
    refine (rDots.out U11 (HWU.out _ HU11.out)).mono ?_
    rintro e U12 ⟨v, rfl, ⟨a6, c6, rfl, hp6⟩, hb12⟩
    have hS12 := mS _ _ hS11 hb12
    have HU12 : Hid (Below W1.heap.size W1 U12) := hid (HU11.out.trans (hb12.mono HU11.out.size))
    refine hK.out _ _ hS12 (fun _ => ?_)
    clear hK K
    clear hp6
    refine wpAnyH_take (i := 33) (v := .int .i64 (D.length : Int)) rfl (by kernel_rfl) (by kernel_rfl) (by kernel_rfl) (fun _ _ _ h => h) (Or.inl ⟨by kernel_rfl, fun w hSw => ?_⟩) hS12 ?_
    · go_simp
    simp only [Act.put, List.setIfInBounds_toArray, List.set_cons_zero, List.set_cons_succ]
    refine wpAnyH_take (i := 34) (v := .bool false) rfl (by kernel_rfl) (by kernel_rfl) (by kernel_rfl) (fun _ _ _ h => h) (Or.inl ⟨by kernel_rfl, fun w hSw => ?_⟩) hS12 ?_
    · go_simp
    simp only [Act.put, List.setIfInBounds_toArray, List.set_cons_zero, List.set_cons_succ]
    refine wpAnyH_take (i := 35) (v := .bool false) rfl (by kernel_rfl) (by kernel_rfl) (by kernel_rfl) (fun _ _ _ h => h) (Or.inl ⟨by kernel_rfl, fun w hSw => ?_⟩) hS12 ?_
    · go_simp
    simp only [Act.put, List.setIfInBounds_toArray, List.set_cons_zero, List.set_cons_succ]
    refine wpAnyH_take (i := 36) (v := .bool false) rfl (by kernel_rfl) (by kernel_rfl) (by kernel_rfl) (fun _ _ _ h => h) (Or.inl ⟨by kernel_rfl, fun w hSw => ?_⟩) hS12 ?_
    · go_simp
    simp only [Act.put, List.setIfInBounds_toArray, List.set_cons_zero, List.set_cons_succ]
    refine wpAnyH_take (i := 37) (v := .pointer (some ⟨t, 0, none⟩)) rfl (by kernel_rfl) (by kernel_rfl) (by kernel_rfl) (fun _ _ _ h => h) (Or.inl ⟨by kernel_rfl, fun w hSw => ?_⟩) hS12 ?_
    · go_simp
    simp only [Act.put, List.setIfInBounds_toArray, List.set_cons_zero, List.set_cons_succ]
    refine wpAnyH_take (i := 39) (v := .pointer (some ⟨w.heap.size, 0, none⟩)) rfl (by kernel_rfl) (by kernel_rfl) (by kernel_rfl) (fun _ _ _ h => h) (Or.inl ⟨by kernel_rfl, fun w hSw => ?_⟩) hS12 ?_
    · go_simp
    simp only [Act.put, List.getElem_toArray, List.getElem_cons_succ, List.getElem_cons_zero, List.setIfInBounds_toArray, List.set_cons_zero, List.set_cons_succ]
    refine wpAnyH_take (i := 40) (v := .slice a n c) rfl (by kernel_rfl) (by kernel_rfl) (by kernel_rfl) (fun _ _ _ h => h) (Or.inl ⟨by kernel_rfl, fun w hSw => ?_⟩) hS12 ?_
    · go_simp
    simp only [Act.put, List.getElem_toArray, List.getElem_cons_succ, List.getElem_cons_zero, List.setIfInBounds_toArray, List.set_cons_zero, List.set_cons_succ]
    refine wpAnyH_take (i := 41) (v := .int .i64 (n : Int)) rfl (by kernel_rfl) (by kernel_rfl) (by kernel_rfl) (fun _ _ _ h => h) (Or.inl ⟨by kernel_rfl, fun w hSw => ?_⟩) hS12 ?_
    · go_simp
    simp only [Act.put, List.getElem_toArray, List.getElem_cons_succ, List.getElem_cons_zero, List.setIfInBounds_toArray, List.set_cons_zero, List.set_cons_succ]
    refine wpAnyH_ready (rs := [38]) (by kernel_rfl) (by simp) ?_
    refine AllReadyH.cons rfl (fun K hK => ?_) AllReadyH.nil
    go_simp
    refine (cSize.out U12 (HWU.out _ HU12.out)).mono ?_
    rintro e U13 ⟨rfl, hb13⟩
    have hS13 := mS _ _ hS12 hb13
    have HU13 : Hid (Below W1.heap.size W1 U13) := hid (HU12.out.trans (hb13.mono HU12.out.size))
    refine hK.out _ _ hS13 (fun _ => ?_)
    clear hK K
    refine wpAnyH_take (i := 42) (v := .bool false) rfl (by kernel_rfl) (by kernel_rfl) (by kernel_rfl) (fun _ _ _ h => h) (Or.inl ⟨by kernel_rfl, fun w hSw => ?_⟩) hS13 ?_
    · go_simp
    simp only [Act.put, List.getElem_toArray, List.getElem_cons_succ, List.getElem_cons_zero, List.setIfInBounds_toArray, List.set_cons_zero, List.set_cons_succ]
    refine wpAnyH_take (i := 43) (v := .bool false) rfl (by kernel_rfl) (by kernel_rfl) (by kernel_rfl) (fun _ _ _ h => h) (Or.inl ⟨by kernel_rfl, fun w hSw => ?_⟩) hS13 ?_
    · go_simp
    simp only [Act.put, List.getElem_toArray, List.getElem_cons_succ, List.getElem_cons_zero, List.setIfInBounds_toArray, List.set_cons_zero, List.set_cons_succ]
    refine wpAnyH_done (by kernel_rfl) ?_ _
    go_wp2_with fail
    go_meet
    case rel => exact ⟨rfl, HU13⟩
  case rest =>
    obtain ⟨rfl, HW2⟩ := hcut
    have hcap0 := hp0.out.cap
    have hmax0 := hp0.out.max
    unfold maxLen at hmax0
    have HCl := hid (allC_len HWT.out)
    have HCi := hid (allC_ids HWT.out)
    have hTn : Hid (T.length = n) := hid (HR.out W0 (Below.refl _ _)).len
    clear cAll cDots rDots cChars rChars cStr rStr cLen cSize
    go_wp2_with fail
    go_loopw [8] (fun i wr => ∃ k : Nat, k ≤ L.length ∧ i = .int .i64 k ∧ Hid (Below W1.heap.size W1 wr)) (fun i _ => L.length - (intOf i).toNat)
    case atStart => exact ⟨0, by omega, rfl, HW2⟩
    case round =>
      obtain ⟨k, hk, rfl, hbw⟩ := hrel
      by_cases hlt : k < L.length
      · obtain ⟨gk, ok, rfl, hgk, hatk⟩ := hp0.out.at (by omega)
        obtain ⟨hc0, hc1⟩ := hatk k hlt
        have hkC : k < (allC T).length := by rw [HCl.out, hTn.out, ← HL.out]; exact hlt
        obtain ⟨x, hx⟩ : ∃ x, x = (allC T)[k]'hkC := ⟨_, rfl⟩
        have hxT : x ∈ T := allC_mem (by rw [hx]; exact List.getElem_mem hkC)
        have hxA : x ∈ allC T := by rw [hx]; exact List.getElem_mem hkC
        have hxy : L[k]'hlt = x.id := by
          have e1 : L[k]? = ((allC T).map Cr.id)[k]? := by rw [HCi.out, HLd.out]
          rw [List.getElem?_map, List.getElem?_eq_getElem hlt, List.getElem?_eq_getElem hkC, ← hx] at e1
          exact Option.some.inj e1
        rw [hxy] at hc0 hc1
        obtain ⟨j, hj, hatj⟩ := atI_all HWT.out hxT
        have hjT := (List.getElem?_eq_some_iff.1 hj).1
        have hjn : j < n := by rw [← hTn.out]; exact hjT
        obtain ⟨g, o, rfl, hat⟩ := (HR.out W1 HB1.out).at hjn
        have hjx : T[j]'hjT = x := (List.getElem?_eq_some_iff.1 hj).2
        rw [hjx] at hat
        have hc6 := hat.c6
        have hdx := HDW.out x hxT
        have hse := seenP_of HWT.out hxT
        have hix := idxL_yes hxA
        obtain ⟨y1, hy1⟩ : ∃ y1, y1 = x.id.1 := ⟨_, rfl⟩
        obtain ⟨y2, hy2⟩ : ∃ y2, y2 = x.id.2 := ⟨_, rfl⟩
        obtain ⟨sn, hsn⟩ : ∃ sn, sn = x.seen := ⟨_, rfl⟩
        have hxe : x.id = (y1, y2) := by rw [hy1, hy2]
        rw [hxe] at hatj hdx hse hix
        obtain ⟨X1, hX1⟩ : ∃ X1, X1 = (idxL (allC T) (y1, y2)).1 := ⟨_, rfl⟩
        rw [← hsn] at hse
        rw [← hy1] at hc0
        rw [← hy2] at hc1
        rw [← hsn] at hc6
        have HSx : Hid (∀ w', Below W1.heap.size W1 w' → (w'.cell? ⟨w.heap.size, 0, none⟩ = some (.slice (some ⟨g, o, none⟩) n c) ∧ w'.cell? ⟨gk, ok + k * 2, none⟩ = some (.int .i64 y1) ∧ w'.cell? ⟨gk, ok + k * 2 + 1, none⟩ = some (.int .i64 y2) ∧ w'.cell? ⟨g, o + j * 7 + 6, none⟩ = some (.bool sn))) := hid (fun w' h' => ⟨HC.out _ (HWU.out _ h'), bel_cell (n := 0) h' hc0, bel_cell (n := 0) h' hc1, bel_cell (n := 0) h' hc6⟩)
        have cIx : Hid (∀ W, Below W1.heap.size W1 W → Calls Try.prog 15 #[.pointer (some ⟨t, 0, none⟩), .agg #[.int .i64 y1, .int .i64 y2]] W fun e w' => e = .returned (.tuple #[.int .i64 X1, .bool true]) ∧ Hid (Below W1.heap.size W1 w')) := hid (fun W hW => (index_tm (HT.out _ (HWU.out _ hW)) hT1 (y1, y2)).mono (fun e w' ⟨h1, h2⟩ => ⟨by rw [h1, hX1, hix], hid (hW.trans (h2.mono hW.size))⟩))
        have rIx : Hid (∀ W, Below W1.heap.size W1 W → Calls Try.prog 16 #[.agg #[.slice (some ⟨g, o, none⟩) n c], .agg #[.int .i64 y1, .int .i64 y2]] W fun e w' => e = .returned (.tuple #[.int .i64 X1, .bool true]) ∧ Hid (Below W1.heap.size W1 w')) := hid (fun W hW => (rindex_any _ n c T HWT.out hn (y1, y2) W (HR.out _ (HWU.out _ hW))).mono (fun e w' ⟨h1, h2⟩ => ⟨by rw [h1, hX1, hix], hid (hW.trans (h2.mono hW.size))⟩))
        have cSe : Hid (∀ W, Below W1.heap.size W1 W → Calls Try.prog 17 #[.pointer (some ⟨t, 0, none⟩), .agg #[.int .i64 y1, .int .i64 y2]] W fun e w' => e = .returned (.bool sn) ∧ Hid (Below W1.heap.size W1 w')) := hid (fun W hW => (seen_tm (HT.out _ (HWU.out _ hW)) (y1, y2) hdx).mono (fun e w' ⟨h1, h2⟩ => ⟨by rw [h1, hse], hid (hW.trans (h2.mono hW.size))⟩))
        have rAt : Hid (∀ W, Below W1.heap.size W1 W → Calls Try.prog 30 #[.agg #[.slice (some ⟨g, o, none⟩) n c], .agg #[.int .i64 y1, .int .i64 y2]] W fun e w' => e = .returned (.int .i64 (j : Int)) ∧ Hid (Below W1.heap.size W1 w')) := hid (fun W hW => (rat_any _ n c T (y1, y2) W (HR.out _ (HWU.out _ hW)) (by omega)).mono (fun e w' ⟨h1, h2⟩ => ⟨by rw [h1, hatj], hid (hW.trans (h2.mono hW.size))⟩))
        have hk1 : (k : Int) < (L.length : Int) := by omega
        have hk0' : (0 : Int) ≤ (k : Int) := by omega
        have hj1 : (j : Int) < (n : Int) := by omega
        have hj0 : (0 : Int) ≤ (j : Int) := by omega
        have hcapn := (HR.out W1 HB1.out).cap
        have hmaxn := (HR.out W1 HB1.out).max
        unfold maxLen at hmaxn
        clear hatk hc0 hc1 hat hc6 hx hxT hxA hxy hj hatj hjT hjx hy1 hy2 hsn hkC hdx hse hix hX1 hxe
        obtain ⟨s1, s2, s3, s4⟩ := HSx.out _ hbw.out
        go_wp2_with (go_at_call 15; refine (cIx.out _ hbw.out).mono ?_; rintro e U1 ⟨rfl, hU1⟩; clear s1 s2 s3 s4)
        have HU2 : Hid (Below W1.heap.size W1 U1.drew) := hid (hU1.out.trans (((Far.refl U1).drewN 1).below.mono hU1.out.size))
        have hS2 := HSx.out _ HU2.out
        have hcall2 := rIx.out _ HU2.out
        go_cut [9, 10, 11, 12] from 65 to 115 (fun s9 s10 s11 s12 wc => s9 = .int .i64 X1 ∧ s10 = .bool true ∧ s11 = .int .i64 X1 ∧ s12 = .bool true ∧ Hid (Below W1.heap.size W1 wc))
        case first =>
              refine wp_region_held_drew (S := fun w' => w'.cell? ⟨w.heap.size, 0, none⟩ = some (.slice (some ⟨g, o, none⟩) n c) ∧ w'.cell? ⟨gk, ok + k * 2, none⟩ = some (.int .i64 y1) ∧ w'.cell? ⟨gk, ok + k * 2 + 1, none⟩ = some (.int .i64 y2) ∧ w'.cell? ⟨g, o + j * 7 + 6, none⟩ = some (.bool sn)) hmxo hS2 ?_
              intro _
              refine wpAnyH_take (i := 0) (v := .agg #[.slice (some ⟨g, o, none⟩) n c]) rfl (by kernel_rfl) (by kernel_rfl) (by kernel_rfl) (fun _ _ _ h => h) (Or.inl ⟨by kernel_rfl, fun w hSw => ?_⟩) hS2 ?_
              · obtain ⟨d1, d2, d3, d4⟩ := hSw; go_simp
              simp only [Act.put, List.getElem_toArray, List.getElem_cons_succ, List.getElem_cons_zero, List.setIfInBounds_toArray, List.set_cons_zero, List.set_cons_succ]
              refine wpAnyH_take (i := 1) (v := .slice (some ⟨gk, ok, none⟩) L.length c0) rfl (by kernel_rfl) (by kernel_rfl) (by kernel_rfl) (fun _ _ _ h => h) (Or.inl ⟨by kernel_rfl, fun w hSw => ?_⟩) hS2 ?_
              · obtain ⟨d1, d2, d3, d4⟩ := hSw; go_simp
              simp only [Act.put, List.getElem_toArray, List.getElem_cons_succ, List.getElem_cons_zero, List.setIfInBounds_toArray, List.set_cons_zero, List.set_cons_succ]
              refine wpAnyH_take (i := 2) (v := .int .i64 (k : Int)) rfl (by kernel_rfl) (by kernel_rfl) (by kernel_rfl) (fun _ _ _ h => h) (Or.inl ⟨by kernel_rfl, fun w hSw => ?_⟩) hS2 ?_
              · obtain ⟨d1, d2, d3, d4⟩ := hSw; go_simp
              simp only [Act.put, List.getElem_toArray, List.getElem_cons_succ, List.getElem_cons_zero, List.setIfInBounds_toArray, List.set_cons_zero, List.set_cons_succ]
              refine wpAnyH_take (i := 3) (v := .pointer (some ⟨gk, ok + k * 2, none⟩)) rfl (by kernel_rfl) (by kernel_rfl) (by kernel_rfl) (fun _ _ _ h => h) (Or.inl ⟨by kernel_rfl, fun w hSw => ?_⟩) hS2 ?_
              · obtain ⟨d1, d2, d3, d4⟩ := hSw; go_simp
              simp only [Act.put, List.getElem_toArray, List.getElem_cons_succ, List.getElem_cons_zero, List.setIfInBounds_toArray, List.set_cons_zero, List.set_cons_succ]
              refine wpAnyH_take (i := 4) (v := .agg #[.int .i64 y1, .int .i64 y2]) rfl (by kernel_rfl) (by kernel_rfl) (by kernel_rfl) (fun _ _ _ h => h) (Or.inl ⟨by kernel_rfl, fun w hSw => ?_⟩) hS2 ?_
              · obtain ⟨d1, d2, d3, d4⟩ := hSw; go_simp
              simp only [Act.put, List.getElem_toArray, List.getElem_cons_succ, List.getElem_cons_zero, List.setIfInBounds_toArray, List.set_cons_zero, List.set_cons_succ]
              refine wpAnyH_ready (rs := [5]) (by kernel_rfl) (by simp) ?_
              refine AllReadyH.cons rfl (fun K hK => ?_) AllReadyH.nil
              go_simp
              refine hcall2.mono ?_
              rintro e U3 ⟨rfl, hU3⟩
              have hS3 := HSx.out _ hU3.out
              refine hK.out _ _ hS3 (fun _ => ?_)
              clear hK K
              refine wpAnyH_take (i := 6) (v := .tuple #[.int .i64 X1, .bool true]) rfl (by kernel_rfl) (by kernel_rfl) (by kernel_rfl) (fun _ _ _ h => h) (Or.inl ⟨by kernel_rfl, fun w hSw => ?_⟩) hS3 ?_
              · obtain ⟨d1, d2, d3, d4⟩ := hSw; go_simp
              simp only [Act.put, List.getElem_toArray, List.getElem_cons_succ, List.getElem_cons_zero, List.setIfInBounds_toArray, List.set_cons_zero, List.set_cons_succ]
              refine wpAnyH_take (i := 7) (v := .int .i64 X1) rfl (by kernel_rfl) (by kernel_rfl) (by kernel_rfl) (fun _ _ _ h => h) (Or.inl ⟨by kernel_rfl, fun w hSw => ?_⟩) hS3 ?_
              · obtain ⟨d1, d2, d3, d4⟩ := hSw; go_simp
              simp only [Act.put, List.getElem_toArray, List.getElem_cons_succ, List.getElem_cons_zero, List.setIfInBounds_toArray, List.set_cons_zero, List.set_cons_succ]
              refine wpAnyH_take (i := 8) (v := .bool true) rfl (by kernel_rfl) (by kernel_rfl) (by kernel_rfl) (fun _ _ _ h => h) (Or.inl ⟨by kernel_rfl, fun w hSw => ?_⟩) hS3 ?_
              · obtain ⟨d1, d2, d3, d4⟩ := hSw; go_simp
              simp only [Act.put, List.getElem_toArray, List.getElem_cons_succ, List.getElem_cons_zero, List.setIfInBounds_toArray, List.set_cons_zero, List.set_cons_succ]
              refine wpAnyH_take (i := 9) (v := .int .i64 X1) rfl (by kernel_rfl) (by kernel_rfl) (by kernel_rfl) (fun _ _ _ h => h) (Or.inl ⟨by kernel_rfl, fun w hSw => ?_⟩) hS3 ?_
              · obtain ⟨d1, d2, d3, d4⟩ := hSw; go_simp
              simp only [Act.put, List.getElem_toArray, List.getElem_cons_succ, List.getElem_cons_zero, List.setIfInBounds_toArray, List.set_cons_zero, List.set_cons_succ]
              refine wpAnyH_take (i := 10) (v := .bool true) rfl (by kernel_rfl) (by kernel_rfl) (by kernel_rfl) (fun _ _ _ h => h) (Or.inl ⟨by kernel_rfl, fun w hSw => ?_⟩) hS3 ?_
              · obtain ⟨d1, d2, d3, d4⟩ := hSw; go_simp
              simp only [Act.put, List.getElem_toArray, List.getElem_cons_succ, List.getElem_cons_zero, List.setIfInBounds_toArray, List.set_cons_zero, List.set_cons_succ]
              refine wpAnyH_done (by kernel_rfl) ?_ _
              go_wp2_with fail
              go_meet
              case rel => exact ⟨rfl, rfl, rfl, rfl, hU3⟩
        case rest =>
              obtain ⟨rfl, rfl, rfl, rfl, HU4⟩ := hcut
              have HU5 : Hid (Below W1.heap.size W1 wc.drew) := hid (HU4.out.trans (((Far.refl wc).drewN 1).below.mono HU4.out.size))
              have hS5 := HSx.out _ HU5.out
              have hcall3 := cSe.out _ HU5.out
              clear hcall2 hS2
              go_wp2_with fail
              refine wp_region_held_drew (S := fun w' => w'.cell? ⟨w.heap.size, 0, none⟩ = some (.slice (some ⟨g, o, none⟩) n c) ∧ w'.cell? ⟨gk, ok + k * 2, none⟩ = some (.int .i64 y1) ∧ w'.cell? ⟨gk, ok + k * 2 + 1, none⟩ = some (.int .i64 y2) ∧ w'.cell? ⟨g, o + j * 7 + 6, none⟩ = some (.bool sn)) hmxo hS5 ?_
              intro _
              refine wpAnyH_take (i := 0) (v := .bool true) rfl (by kernel_rfl) (by kernel_rfl) (by kernel_rfl) (fun _ _ _ h => h) (Or.inl ⟨by kernel_rfl, fun w hSw => ?_⟩) hS5 ?_
              · obtain ⟨d1, d2, d3, d4⟩ := hSw; go_simp
              simp only [Act.put, List.getElem_toArray, List.getElem_cons_succ, List.getElem_cons_zero, List.setIfInBounds_toArray, List.set_cons_zero, List.set_cons_succ]
              refine wpAnyH_take (i := 1) (v := .bool false) rfl (by kernel_rfl) (by kernel_rfl) (by kernel_rfl) (fun _ _ _ h => h) (Or.inl ⟨by kernel_rfl, fun w hSw => ?_⟩) hS5 ?_
              · obtain ⟨d1, d2, d3, d4⟩ := hSw; go_simp
              simp only [Act.put, List.getElem_toArray, List.getElem_cons_succ, List.getElem_cons_zero, List.setIfInBounds_toArray, List.set_cons_zero, List.set_cons_succ]
              refine wpAnyH_take (i := 2) (v := .bool false) rfl (by kernel_rfl) (by kernel_rfl) (by kernel_rfl) (fun _ _ _ h => h) (Or.inl ⟨by kernel_rfl, fun w hSw => ?_⟩) hS5 ?_
              · obtain ⟨d1, d2, d3, d4⟩ := hSw; go_simp
              simp only [Act.put, List.getElem_toArray, List.getElem_cons_succ, List.getElem_cons_zero, List.setIfInBounds_toArray, List.set_cons_zero, List.set_cons_succ]
              refine wpAnyH_take (i := 3) (v := .int .i64 X1) rfl (by kernel_rfl) (by kernel_rfl) (by kernel_rfl) (fun _ _ _ h => h) (Or.inl ⟨by kernel_rfl, fun w hSw => ?_⟩) hS5 ?_
              · obtain ⟨d1, d2, d3, d4⟩ := hSw; go_simp
              simp only [Act.put, List.getElem_toArray, List.getElem_cons_succ, List.getElem_cons_zero, List.setIfInBounds_toArray, List.set_cons_zero, List.set_cons_succ]
              refine wpAnyH_take (i := 4) (v := .int .i64 X1) rfl (by kernel_rfl) (by kernel_rfl) (by kernel_rfl) (fun _ _ _ h => h) (Or.inl ⟨by kernel_rfl, fun w hSw => ?_⟩) hS5 ?_
              · obtain ⟨d1, d2, d3, d4⟩ := hSw; go_simp
              simp only [Act.put, List.getElem_toArray, List.getElem_cons_succ, List.getElem_cons_zero, List.setIfInBounds_toArray, List.set_cons_zero, List.set_cons_succ]
              refine wpAnyH_take (i := 5) (v := .bool false) rfl (by kernel_rfl) (by kernel_rfl) (by kernel_rfl) (fun _ _ _ h => h) (Or.inl ⟨by kernel_rfl, fun w hSw => ?_⟩) hS5 ?_
              · obtain ⟨d1, d2, d3, d4⟩ := hSw; go_simp
              simp only [Act.put, List.getElem_toArray, List.getElem_cons_succ, List.getElem_cons_zero, List.setIfInBounds_toArray, List.set_cons_zero, List.set_cons_succ]
              refine wpAnyH_take (i := 6) (v := .bool false) rfl (by kernel_rfl) (by kernel_rfl) (by kernel_rfl) (fun _ _ _ h => h) (Or.inl ⟨by kernel_rfl, fun w hSw => ?_⟩) hS5 ?_
              · obtain ⟨d1, d2, d3, d4⟩ := hSw; go_simp
              simp only [Act.put, List.getElem_toArray, List.getElem_cons_succ, List.getElem_cons_zero, List.setIfInBounds_toArray, List.set_cons_zero, List.set_cons_succ]
              refine wpAnyH_take (i := 7) (v := .bool false) rfl (by kernel_rfl) (by kernel_rfl) (by kernel_rfl) (fun _ _ _ h => h) (Or.inl ⟨by kernel_rfl, fun w hSw => ?_⟩) hS5 ?_
              · obtain ⟨d1, d2, d3, d4⟩ := hSw; go_simp
              simp only [Act.put, List.getElem_toArray, List.getElem_cons_succ, List.getElem_cons_zero, List.setIfInBounds_toArray, List.set_cons_zero, List.set_cons_succ]
              refine wpAnyH_take (i := 8) (v := .pointer (some ⟨t, 0, none⟩)) rfl (by kernel_rfl) (by kernel_rfl) (by kernel_rfl) (fun _ _ _ h => h) (Or.inl ⟨by kernel_rfl, fun w hSw => ?_⟩) hS5 ?_
              · obtain ⟨d1, d2, d3, d4⟩ := hSw; go_simp
              simp only [Act.put, List.getElem_toArray, List.getElem_cons_succ, List.getElem_cons_zero, List.setIfInBounds_toArray, List.set_cons_zero, List.set_cons_succ]
              refine wpAnyH_take (i := 9) (v := .slice (some ⟨gk, ok, none⟩) L.length c0) rfl (by kernel_rfl) (by kernel_rfl) (by kernel_rfl) (fun _ _ _ h => h) (Or.inl ⟨by kernel_rfl, fun w hSw => ?_⟩) hS5 ?_
              · obtain ⟨d1, d2, d3, d4⟩ := hSw; go_simp
              simp only [Act.put, List.getElem_toArray, List.getElem_cons_succ, List.getElem_cons_zero, List.setIfInBounds_toArray, List.set_cons_zero, List.set_cons_succ]
              refine wpAnyH_take (i := 10) (v := .int .i64 (k : Int)) rfl (by kernel_rfl) (by kernel_rfl) (by kernel_rfl) (fun _ _ _ h => h) (Or.inl ⟨by kernel_rfl, fun w hSw => ?_⟩) hS5 ?_
              · obtain ⟨d1, d2, d3, d4⟩ := hSw; go_simp
              simp only [Act.put, List.getElem_toArray, List.getElem_cons_succ, List.getElem_cons_zero, List.setIfInBounds_toArray, List.set_cons_zero, List.set_cons_succ]
              refine wpAnyH_take (i := 11) (v := .pointer (some ⟨gk, ok + k * 2, none⟩)) rfl (by kernel_rfl) (by kernel_rfl) (by kernel_rfl) (fun _ _ _ h => h) (Or.inl ⟨by kernel_rfl, fun w hSw => ?_⟩) hS5 ?_
              · obtain ⟨d1, d2, d3, d4⟩ := hSw; go_simp
              simp only [Act.put, List.getElem_toArray, List.getElem_cons_succ, List.getElem_cons_zero, List.setIfInBounds_toArray, List.set_cons_zero, List.set_cons_succ]
              refine wpAnyH_take (i := 12) (v := .agg #[.int .i64 y1, .int .i64 y2]) rfl (by kernel_rfl) (by kernel_rfl) (by kernel_rfl) (fun _ _ _ h => h) (Or.inl ⟨by kernel_rfl, fun w hSw => ?_⟩) hS5 ?_
              · obtain ⟨d1, d2, d3, d4⟩ := hSw; go_simp
              simp only [Act.put, List.getElem_toArray, List.getElem_cons_succ, List.getElem_cons_zero, List.setIfInBounds_toArray, List.set_cons_zero, List.set_cons_succ]
              refine wpAnyH_take (i := 14) (v := .pointer (some ⟨w.heap.size, 0, none⟩)) rfl (by kernel_rfl) (by kernel_rfl) (by kernel_rfl) (fun _ _ _ h => h) (Or.inl ⟨by kernel_rfl, fun w hSw => ?_⟩) hS5 ?_
              · obtain ⟨d1, d2, d3, d4⟩ := hSw; go_simp
              simp only [Act.put, List.getElem_toArray, List.getElem_cons_succ, List.getElem_cons_zero, List.setIfInBounds_toArray, List.set_cons_zero, List.set_cons_succ]
              refine wpAnyH_take (i := 15) (v := .slice (some ⟨g, o, none⟩) n c) rfl (by kernel_rfl) (by kernel_rfl) (by kernel_rfl) (fun _ _ _ h => h) (Or.inl ⟨by kernel_rfl, fun w hSw => ?_⟩) hS5 ?_
              · obtain ⟨d1, d2, d3, d4⟩ := hSw; go_simp
              simp only [Act.put, List.getElem_toArray, List.getElem_cons_succ, List.getElem_cons_zero, List.setIfInBounds_toArray, List.set_cons_zero, List.set_cons_succ]
              refine wpAnyH_take (i := 16) (v := .agg #[.slice (some ⟨g, o, none⟩) n c]) rfl (by kernel_rfl) (by kernel_rfl) (by kernel_rfl) (fun _ _ _ h => h) (Or.inl ⟨by kernel_rfl, fun w hSw => ?_⟩) hS5 ?_
              · obtain ⟨d1, d2, d3, d4⟩ := hSw; go_simp
              simp only [Act.put, List.getElem_toArray, List.getElem_cons_succ, List.getElem_cons_zero, List.setIfInBounds_toArray, List.set_cons_zero, List.set_cons_succ]
              refine wpAnyH_take (i := 17) (v := .slice (some ⟨gk, ok, none⟩) L.length c0) rfl (by kernel_rfl) (by kernel_rfl) (by kernel_rfl) (fun _ _ _ h => h) (Or.inl ⟨by kernel_rfl, fun w hSw => ?_⟩) hS5 ?_
              · obtain ⟨d1, d2, d3, d4⟩ := hSw; go_simp
              simp only [Act.put, List.getElem_toArray, List.getElem_cons_succ, List.getElem_cons_zero, List.setIfInBounds_toArray, List.set_cons_zero, List.set_cons_succ]
              refine wpAnyH_take (i := 18) (v := .int .i64 (k : Int)) rfl (by kernel_rfl) (by kernel_rfl) (by kernel_rfl) (fun _ _ _ h => h) (Or.inl ⟨by kernel_rfl, fun w hSw => ?_⟩) hS5 ?_
              · obtain ⟨d1, d2, d3, d4⟩ := hSw; go_simp
              simp only [Act.put, List.getElem_toArray, List.getElem_cons_succ, List.getElem_cons_zero, List.setIfInBounds_toArray, List.set_cons_zero, List.set_cons_succ]
              refine wpAnyH_take (i := 19) (v := .pointer (some ⟨gk, ok + k * 2, none⟩)) rfl (by kernel_rfl) (by kernel_rfl) (by kernel_rfl) (fun _ _ _ h => h) (Or.inl ⟨by kernel_rfl, fun w hSw => ?_⟩) hS5 ?_
              · obtain ⟨d1, d2, d3, d4⟩ := hSw; go_simp
              simp only [Act.put, List.getElem_toArray, List.getElem_cons_succ, List.getElem_cons_zero, List.setIfInBounds_toArray, List.set_cons_zero, List.set_cons_succ]
              refine wpAnyH_take (i := 20) (v := .agg #[.int .i64 y1, .int .i64 y2]) rfl (by kernel_rfl) (by kernel_rfl) (by kernel_rfl) (fun _ _ _ h => h) (Or.inl ⟨by kernel_rfl, fun w hSw => ?_⟩) hS5 ?_
              · obtain ⟨d1, d2, d3, d4⟩ := hSw; go_simp
              simp only [Act.put, List.getElem_toArray, List.getElem_cons_succ, List.getElem_cons_zero, List.setIfInBounds_toArray, List.set_cons_zero, List.set_cons_succ]
              refine wpAnyH_ready (rs := [13]) (by kernel_rfl) (by simp) ?_
              refine AllReadyH.cons rfl (fun K hK => ?_) AllReadyH.nil
              go_simp
              refine hcall3.mono ?_
              rintro e U6 ⟨rfl, hU6⟩
              have hS6 := HSx.out _ hU6.out
              refine hK.out _ _ hS6 (fun _ => ?_)
              clear hK K
              have hcall4 := rAt.out _ hU6.out
              refine wpAnyH_ready (rs := [21]) (by kernel_rfl) (by simp) ?_
              refine AllReadyH.cons rfl (fun K hK => ?_) AllReadyH.nil
              go_simp
              refine hcall4.mono ?_
              rintro e U7 ⟨rfl, hU7⟩
              have hS7 := HSx.out _ hU7.out
              refine hK.out _ _ hS7 (fun _ => ?_)
              clear hK K
              refine wpAnyH_take (i := 22) (v := .pointer (some ⟨g, o + j * 7, none⟩)) rfl (by kernel_rfl) (by kernel_rfl) (by kernel_rfl) (fun _ _ _ h => h) (Or.inl ⟨by kernel_rfl, fun w hSw => ?_⟩) hS7 ?_
              · obtain ⟨d1, d2, d3, d4⟩ := hSw; go_simp
              simp only [Act.put, List.getElem_toArray, List.getElem_cons_succ, List.getElem_cons_zero, List.setIfInBounds_toArray, List.set_cons_zero, List.set_cons_succ]
              refine wpAnyH_take (i := 23) (v := .pointer (some ⟨g, o + j * 7 + 6, none⟩)) rfl (by kernel_rfl) (by kernel_rfl) (by kernel_rfl) (fun _ _ _ h => h) (Or.inl ⟨by kernel_rfl, fun w hSw => ?_⟩) hS7 ?_
              · obtain ⟨d1, d2, d3, d4⟩ := hSw; go_simp
              simp only [Act.put, List.getElem_toArray, List.getElem_cons_succ, List.getElem_cons_zero, List.setIfInBounds_toArray, List.set_cons_zero, List.set_cons_succ]
              refine wpAnyH_take (i := 24) (v := .bool sn) rfl (by kernel_rfl) (by kernel_rfl) (by kernel_rfl) (fun _ _ _ h => h) (Or.inl ⟨by kernel_rfl, fun w hSw => ?_⟩) hS7 ?_
              · obtain ⟨d1, d2, d3, d4⟩ := hSw; go_simp
              simp only [Act.put, List.getElem_toArray, List.getElem_cons_succ, List.getElem_cons_zero, List.setIfInBounds_toArray, List.set_cons_zero, List.set_cons_succ]
              refine wpAnyH_take (i := 25) (v := .bool false) rfl (by kernel_rfl) (by kernel_rfl) (by kernel_rfl) (fun _ _ _ h => h) (Or.inl ⟨by kernel_rfl, fun w hSw => ?_⟩) hS7 ?_
              · obtain ⟨d1, d2, d3, d4⟩ := hSw; go_simp
              simp only [Act.put, List.getElem_toArray, List.getElem_cons_succ, List.getElem_cons_zero, List.setIfInBounds_toArray, List.set_cons_zero, List.set_cons_succ]
              refine wpAnyH_take (i := 26) (v := .bool false) rfl (by kernel_rfl) (by kernel_rfl) (by kernel_rfl) (fun _ _ _ h => h) (Or.inl ⟨by kernel_rfl, fun w hSw => ?_⟩) hS7 ?_
              · obtain ⟨d1, d2, d3, d4⟩ := hSw; go_simp
              simp only [Act.put, List.getElem_toArray, List.getElem_cons_succ, List.getElem_cons_zero, List.setIfInBounds_toArray, List.set_cons_zero, List.set_cons_succ]
              refine wpAnyH_done (by kernel_rfl) ?_ _
              clear hcall3 hcall4 hS5 hS6 hS7
              go_wp2
              go_roundw
              case rel => exact ⟨k + 1, by omega, by go_num, hU7⟩
              case measure => simp [intOf]; omega
      · have hkL : k = L.length := by omega
        subst hkL
        obtain ⟨q1, q2, sd, er, hpl⟩ : ∃ q1 q2 sd er, plcI T i = ((q1, q2), sd, er) := ⟨_, _, _, _, rfl⟩
        have cPl : Hid (∀ W, Below W1.heap.size W1 W → Calls Try.prog 25 #[.pointer (some ⟨t, 0, none⟩), .int .i64 i] W fun e w' => e = .returned (.tuple #[.agg #[.int .i64 q1, .int .i64 q2], .int .i64 sd, .int .i64 er]) ∧ Hid (Below W1.heap.size W1 w')) := hid (fun W hW => (place_tm (HT.out _ (HWU.out _ hW)) hT1 i HI.out).mono (fun e w' ⟨h1, h2⟩ => ⟨by rw [h1, hpl], hid (hW.trans (h2.mono hW.size))⟩))
        have rPl : Hid (∀ W, Below W1.heap.size W1 W → Calls Try.prog 38 #[.agg #[.slice a n c], .int .i64 i] W fun e w' => e = .returned (.tuple #[.agg #[.int .i64 q1, .int .i64 q2], .int .i64 sd, .int .i64 er]) ∧ Hid (Below W1.heap.size W1 w') ∧ Hid (Below W.heap.size W w')) := hid (fun W hW => (rplace_any a n c T HWT.out hn i W (HR.out _ (HWU.out _ hW))).mono (fun e w' ⟨h1, h2⟩ => ⟨by rw [h1, hpl], hid (hW.trans (h2.mono hW.size)), hid h2⟩))
        have HAl : Hid (∀ V, Below W1.heap.size W1 V → Below W1.heap.size W1 (V.alloc (.cells #[.int .i64 q1, .int .i64 q2] 24)) ∧ (V.alloc (.cells #[.int .i64 q1, .int .i64 q2] 24)).cell? ⟨w.heap.size, 0, none⟩ = some (.slice a n c)) := hid (fun V hV => by
          have hb := hV.alloc hV.size (.cells #[.int .i64 q1, .int .i64 q2] 24)
          exact ⟨hb, HC.out _ (HWU.out _ hb)⟩)
        clear hpl
        go_wp2_with (first
          | (have hq := hP1; go_at_call 38; refine (rPl.out _ (HAl.out _ hP1.out).1).mono ?_; rintro e V2 ⟨rfl, hP2, hB2⟩; obtain ⟨z0, z1, _, _, z4⟩ := (DB.below (World.alloc_heap_new V1 (.cells #[.int .i64 q1, .int .i64 q2] 24)) hB2.out).facts; have z5 : ∀ o, (V2.alloc o).cell? ⟨V1.heap.size, 0, none⟩ = some (.int .i64 q1) := (fun o => (World.cell?_alloc_lt _ _ _ z4).trans z0); have z6 : ∀ o, (V2.alloc o).cell? ⟨V1.heap.size, 1, none⟩ = some (.int .i64 q2) := (fun o => (World.cell?_alloc_lt _ _ _ z4).trans z1))
          | (go_at_call 25; refine (cPl.out _ hbw.out).mono ?_; rintro e V1 ⟨rfl, hP1⟩; have z7 := (HAl.out V1 hP1.out).2))
        go_ret
        refine ⟨rfl, ?_⟩
        have hb := hP2.out.alloc hP2.out.size (.cells #[.int .i64 q1, .int .i64 q2] 24)
        exact hB0.trans ((HWU.out _ hb).mono hB0.size)
end Go.Proofs.Ytbpepmajpojacaa
