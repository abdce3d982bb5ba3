/- New, Delete, Seen, Size. -/
import Derived.Test.YtbpepmajpojacaaFgTx
import Derived.Deep.RegionHeld
import Derived.Deep.CutBlock
import Derived.Deep.RegionWith
namespace Go.Proofs.Ytbpepmajpojacaa
section
open Go.RowKit
open Go.Sort (grow)

/-- Whether a character may be put in there, as far as that hangs on no others. -/
def mayI (id at_ : Dt) (side : Int) : Bool := if side = 0 then decide (id ≠ (0, 0)) && decide (at_ ≠ (0, 0)) else if side = 1 then decide (id ≠ (0, 0)) else false

theorem dot_cases (d : Dt) : (d = (0, 0)) ∨ (d ≠ (0, 0) ∧ (d.1 == 0) = false ∧ (d.1 != 0) = true) ∨ (d ≠ (0, 0) ∧ d.1 = 0 ∧ (d.2 == 0) = false ∧ (d.2 != 0) = true) := by
  obtain ⟨a, b⟩ := d
  by_cases ha : a = 0
  · by_cases hb : b = 0
    · left; rw [ha, hb]
    · right; right; exact ⟨fun e => hb (by simpa using congrArg Prod.snd e), ha, by simp [hb], by simp [hb]⟩
  · right; left; exact ⟨fun e => ha (by simpa using congrArg Prod.fst e), by simp [ha], by simp [ha]⟩

set_option maxRecDepth 100000 in
set_option maxHeartbeats 4000000 in
theorem fgmay_any (id at_ : Dt) (side : Int) (w : World) : Tells 31 #[dv id, dv at_, .int .i64 side] w (.bool (mayI id at_ side)) := by
  have hfar : ∀ a b c : Obj, Far w (((w.alloc a).alloc b).alloc c) := fun a b c => (((Far.refl w).alloc a).alloc b).alloc c
  by_cases h0 : side = 0
  · subst h0
    have hr : Hid (mayI id at_ 0 = (decide (id ≠ (0, 0)) && decide (at_ ≠ (0, 0)))) := hid rfl
    rcases dot_cases id with rfl | ⟨hi, hi1, hi2⟩ | ⟨hi, hi0, hi1, hi2⟩
    · have hr' : Hid (mayI (0, 0) at_ 0 = false) := hid (by rw [hr.out]; simp)
      go_enter Try.func31, Try.ntmps31
      go_wp2
      go_ret
      exact ⟨by rw [hr'.out]; rfl, hfar _ _ _⟩
    · rcases dot_cases at_ with rfl | ⟨ha, ha1, ha2⟩ | ⟨ha, ha0, ha1, ha2⟩
      · have hr' : Hid (mayI id (0, 0) 0 = false) := hid (by rw [hr.out]; simp)
        clear hi hr
        go_enter Try.func31, Try.ntmps31
        go_wp2
        go_ret
        exact ⟨by rw [hr'.out]; rfl, hfar _ _ _⟩
      · have hr' : Hid (mayI id at_ 0 = true) := hid (by rw [hr.out]; simp [hi, ha])
        clear hi ha hr
        go_enter Try.func31, Try.ntmps31
        go_wp2
        go_ret
        exact ⟨by rw [hr'.out]; rfl, hfar _ _ _⟩
      · have hr' : Hid (mayI id at_ 0 = true) := hid (by rw [hr.out]; simp [hi, ha])
        clear hi ha hr
        go_enter Try.func31, Try.ntmps31
        go_wp2
        go_ret
        exact ⟨by rw [hr'.out]; rfl, hfar _ _ _⟩
    · rcases dot_cases at_ with rfl | ⟨ha, ha1, ha2⟩ | ⟨ha, ha0, ha1, ha2⟩
      · have hr' : Hid (mayI id (0, 0) 0 = false) := hid (by rw [hr.out]; simp)
        clear hi hr
        go_enter Try.func31, Try.ntmps31
        go_wp2
        go_ret
        exact ⟨by rw [hr'.out]; rfl, hfar _ _ _⟩
      · have hr' : Hid (mayI id at_ 0 = true) := hid (by rw [hr.out]; simp [hi, ha])
        clear hi ha hr
        go_enter Try.func31, Try.ntmps31
        go_wp2
        go_ret
        exact ⟨by rw [hr'.out]; rfl, hfar _ _ _⟩
      · have hr' : Hid (mayI id at_ 0 = true) := hid (by rw [hr.out]; simp [hi, ha])
        clear hi ha hr
        go_enter Try.func31, Try.ntmps31
        go_wp2
        go_ret
        exact ⟨by rw [hr'.out]; rfl, hfar _ _ _⟩
  · have hb0 : (side == 0) = false := by simp [h0]
    by_cases h1 : side = 1
    · subst h1
      have hr : Hid (mayI id at_ 1 = decide (id ≠ (0, 0))) := hid rfl
      rcases dot_cases id with rfl | ⟨hi, hi1, hi2⟩ | ⟨hi, hi0, hi1, hi2⟩
      · have hr' : Hid (mayI (0, 0) at_ 1 = false) := hid (by rw [hr.out]; simp)
        clear hr
        go_enter Try.func31, Try.ntmps31
        go_wp2
        go_ret
        exact ⟨by rw [hr'.out]; rfl, hfar _ _ _⟩
      · have hr' : Hid (mayI id at_ 1 = true) := hid (by rw [hr.out]; simp [hi])
        clear hi hr
        go_enter Try.func31, Try.ntmps31
        go_wp2
        go_ret
        exact ⟨by rw [hr'.out]; rfl, hfar _ _ _⟩
      · have hr' : Hid (mayI id at_ 1 = true) := hid (by rw [hr.out]; simp [hi])
        clear hi hr
        go_enter Try.func31, Try.ntmps31
        go_wp2
        go_ret
        exact ⟨by rw [hr'.out]; rfl, hfar _ _ _⟩
    · have hb1 : (side == 1) = false := by simp [h1]
      have hr' : Hid (mayI id at_ side = false) := hid (by unfold mayI; rw [if_neg h0, if_neg h1])
      go_enter Try.func31, Try.ntmps31
      go_wp2
      go_ret
      exact ⟨by rw [hr'.out]; rfl, hfar _ _ _⟩
end

section
open Go.RowKit
open Go.Sort (grow)

/-- What the map of a text tells, or no map. -/
theorem TX.found {w : World} {t : Nat} {T : List Cr} {G : Dt → Option Nat} {n : Nat} {R : Dt → Bool → Value} (h : TX w t T G G n R) : ∃ fm, w.cell? ⟨t, 0, none⟩ = some fm ∧ (∃ o, fm = .map o) ∧ ∀ (W : World), RowKit.Below w.heap.size w W → ∀ d, Dw d → (Instr.lookup 65 fm (.agg #[.int .i64 d.1, .int .i64 d.2]) false).run Try.prog W = .ok (pvo (G d)) W := by
  obtain ⟨fm, h1, h2⟩ := h.tb
  refine ⟨fm, by simp [World.cell?, h1, txCells], ?_, fun W hb d hd => ?_⟩
  · rcases h2 with ⟨_, e⟩ | ⟨mb, e, _⟩
    · exact ⟨_, e⟩
    · exact ⟨_, e⟩
  · rcases h2 with ⟨hT, rfl⟩ | ⟨mb, rfl, _, hp⟩
    · have hn : G d = none := by
        cases e : G d with
        | none => rfl
        | some g =>
          obtain ⟨c, hc, _⟩ := (h.gd d hd).1 (by rw [e]; rfl)
          rw [hT] at hc
          simp at hc
      rw [hn]
      exact Maps.look_nil false law Try.underlying65 (zeroPtr W) (keyOf_dot hd)
    · exact (hp.same (hb.block _ hp.lt)).look hd

/-- The root, or a character, or none. -/
def aboveV (t : Nat) (G : Dt → Option Nat) (d : Dt) : Value := if d = (0, 0) then .pointer (some ⟨t, 1, none⟩) else pvo (G d)

set_option maxRecDepth 100000 in
set_option maxHeartbeats 4000000 in
theorem above_any (t : Nat) (T : List Cr) (G : Dt → Option Nat) (n : Nat) (R : Dt → Bool → Value) (d : Dt) (w : World) (h : TX w t T G G n R) (hd : Dw d) :
    Calls Try.prog 32 #[.pointer (some ⟨t, 0, none⟩), dv d] w fun e w' => e = .returned (aboveV t G d) ∧ RowKit.Below w.heap.size w w' := by
  have mixed := mixed
  obtain ⟨fm, hc, ⟨om, rfl⟩, hlk⟩ := h.found
  have htl := h.lt
  have hA : RowKit.Below w.heap.size w (w.alloc (.cells #[.int .i64 d.1, .int .i64 d.2] 24)) := ((Far.refl w).alloc _).below
  by_cases h0 : d = (0, 0)
  · subst h0
    have hr : Hid (aboveV t G (0, 0) = .pointer (some ⟨t, 1, none⟩)) := hid rfl
    clear hlk h hd
    go_enter Try.func32, Try.ntmps32
    go_wp2
    go_ret
    exact ⟨by rw [hr.out]; rfl, hA⟩
  · obtain ⟨d1, d2⟩ := d
    have hr : Hid (aboveV t G (d1, d2) = pvo (G (d1, d2))) := hid (if_neg h0)
    have hx : ((d1 == 0) && (d2 == 0)) = false := by
      rcases dot_cases (d1, d2) with e | ⟨_, e, _⟩ | ⟨_, _, e, _⟩
      · exact absurd e h0
      · simp [e]
      · simp [e]
    obtain ⟨W, hW⟩ : ∃ W, W = w.alloc (.cells #[.int .i64 d1, .int .i64 d2] 24) := ⟨_, rfl⟩
    have k0 : W.cell? ⟨w.heap.size, 0, none⟩ = some (.int .i64 d1) := by rw [hW]; go_simp
    have k1 : W.cell? ⟨w.heap.size, 1, none⟩ = some (.int .i64 d2) := by rw [hW]; go_simp
    rw [← hW] at hA
    have hwl : w.heap.size < W.heap.size := by rw [hW]; simp
    haveI : Nonempty (Wb W) := ⟨⟨W, Below.refl _ _⟩⟩
    have y0 := fun p : Wb W => (p.h.cell (p := ⟨w.heap.size, 0, none⟩) hwl).trans k0
    have y1 := fun p : Wb W => (p.h.cell (p := ⟨w.heap.size, 1, none⟩) hwl).trans k1
    have yt := fun p : Wb W => ((below2 hA p.h).cell (p := ⟨t, 0, none⟩) htl).trans hc
    have yl := fun p : Wb W => hlk p.u (below2 hA p.h) (d1, d2) hd
    generalize pvo (G (d1, d2)) = pr at *
    clear hlk h h0
    by_cases e0 : d1 = 0
    · have e1 : (d2 == 0) = false := by simpa [e0] using hx
      have e2 : (d2 != 0) = true := by simpa using e1
      subst e0
      go_enter Try.func32, Try.ntmps32
      go_upto_region 3 with fail
      rw [← hW]
      clear hW
      refine wp_region_below mixed (by kernel_rfl) ?_
      repeat (go_big_quiet_step (fail))
      refine wpQuiet_nil ?_
      intro _ hw'
      obtain ⟨p, hw''⟩ := hw'
      subst hw''
      go_wp2
      go_ret
      exact ⟨by rw [hr.out]; rfl, below2 hA p.h⟩
    · have e1 : (d1 == 0) = false := by simp [e0]
      have e2 : (d1 != 0) = true := by simp [e0]
      clear e0
      go_enter Try.func32, Try.ntmps32
      go_upto_region 3 with fail
      rw [← hW]
      clear hW
      refine wp_region_below mixed (by kernel_rfl) ?_
      repeat (go_big_quiet_step (fail))
      refine wpQuiet_nil ?_
      intro _ hw'
      obtain ⟨p, hw''⟩ := hw'
      subst hw''
      go_wp2
      go_ret
      exact ⟨by rw [hr.out]; rfl, below2 hA p.h⟩
end

section
set_option linter.unusedVariables false
open Go.RowKit
open Go.Sort (grow)

/-- What lies below block t, and what is of other types than a text's, is as it was. -/
structure FrW (t : Nat) (w w' : World) : Prop where
  os : w'.os = w.os
  tape : w'.tape = w.tape
  output : w'.output = w.output
  size : w.heap.size ≤ w'.heap.size
  block : ∀ k, k < w.heap.size → (k < t ∨ ∃ (cs : Array Value) (ty : TypeId), w.heap[k]? = some (.cells cs ty (0, 0)) ∧ ty ≠ 69 ∧ ty ≠ 71 ∧ ty ≠ 72) → w'.heap[k]? = w.heap[k]?

theorem FrW.of_below {t : Nat} {w w' : World} (h : RowKit.Below w.heap.size w w') : FrW t w w' := ⟨h.os, h.tape, h.output, h.size, fun k hk _ => h.block k hk⟩

theorem FrW.trans {t : Nat} {a b c : World} (h : FrW t a b) (k : FrW t b c) : FrW t a c :=
  ⟨k.os.trans h.os, k.tape.trans h.tape, k.output.trans h.output, Nat.le_trans h.size k.size, fun i hi hc => by
    have e := h.block i hi hc
    refine (k.block i (Nat.lt_of_lt_of_le hi h.size) ?_).trans e
    rcases hc with hc | ⟨cs, ty, h1, h2⟩
    · exact Or.inl hc
    · exact Or.inr ⟨cs, ty, e.trans h1, h2⟩⟩

/-- A block of a text's own may turn. -/
theorem FrW.of_grown {t : Nat} {w w' : World} {r : Option Nat} (h : w.grownBy w' r) (hr : ∀ k, r = some k → t ≤ k ∧ ∀ (cs : Array Value) (ty : TypeId), w.heap[k]? = some (.cells cs ty (0, 0)) → ty = 69 ∨ ty = 71 ∨ ty = 72) : FrW t w w' :=
  ⟨h.os, h.tape, h.output, h.size, fun k hk hc => h.block k hk (fun e => by
    obtain ⟨h1, h2⟩ := hr k e.symm
    rcases hc with hc | ⟨cs, ty, g1, g2, g3, g4⟩
    · omega
    · rcases h2 cs ty g1 with e | e | e
      · exact g2 e
      · exact g3 e
      · exact g4 e)⟩

theorem two_dots (w : World) (d e : Dt) : ((w.alloc (.cells #[.int .i64 d.1, .int .i64 d.2] 24)).alloc (.cells #[.int .i64 e.1, .int .i64 e.2] 24)).cell? ⟨w.heap.size, 0, none⟩ = some (.int .i64 d.1) ∧ ((w.alloc (.cells #[.int .i64 d.1, .int .i64 d.2] 24)).alloc (.cells #[.int .i64 e.1, .int .i64 e.2] 24)).cell? ⟨w.heap.size, 1, none⟩ = some (.int .i64 d.2) ∧
    ((w.alloc (.cells #[.int .i64 d.1, .int .i64 d.2] 24)).alloc (.cells #[.int .i64 e.1, .int .i64 e.2] 24)).cell? ⟨w.heap.size + 1, 0, none⟩ = some (.int .i64 e.1) ∧ ((w.alloc (.cells #[.int .i64 d.1, .int .i64 d.2] 24)).alloc (.cells #[.int .i64 e.1, .int .i64 e.2] 24)).cell? ⟨w.heap.size + 1, 1, none⟩ = some (.int .i64 e.2) ∧
    RowKit.Below w.heap.size w ((w.alloc (.cells #[.int .i64 d.1, .int .i64 d.2] 24)).alloc (.cells #[.int .i64 e.1, .int .i64 e.2] 24)) := by
  refine ⟨by go_simp, by go_simp, by go_simp, by go_simp, (((Far.refl w).alloc _).alloc _).below⟩

set_option maxRecDepth 100000 in
set_option maxHeartbeats 4000000 in
theorem ins_no (t : Nat) (T : List Cr) (G : Dt → Option Nat) (R : Dt → Bool → Value) (id at_ : Dt) (side ch : Int) (w : World) (h : TX w t T G G T.length R) (hid0 : Dw id) (hat : Dw at_) (hm : mayI id at_ side = false) :
    Calls Try.prog 12 #[.pointer (some ⟨t, 0, none⟩), dv id, dv at_, .int .i64 side, .int .i64 ch] w fun e w' => e = .returned (.int .i64 1) ∧ RowKit.Below w.heap.size w w' := by
  have mixed := mixed
  obtain ⟨k0, k1, k2, k3, hA⟩ := two_dots w id at_
  obtain ⟨W, hW⟩ : ∃ W, W = (w.alloc (.cells #[.int .i64 id.1, .int .i64 id.2] 24)).alloc (.cells #[.int .i64 at_.1, .int .i64 at_.2] 24) := ⟨_, rfl⟩
  rw [← hW] at k0 k1 k2 k3 hA
  have hWl : w.heap.size + 1 < W.heap.size := by rw [hW]; simp
  have hM := fgmay_any id at_ side W
  rw [hm] at hM
  clear h
  go_enter Try.func12, Try.ntmps12
  go_upto_region 1 with fail
  rw [← hW]
  clear hW
  go_wp2_with (first
    | (go_at_call 31; refine hM.mono ?_; rintro e w1 ⟨rfl, hF1⟩))
  go_ret
  exact ⟨rfl, below2 hA hF1.below⟩

set_option maxRecDepth 100000 in
set_option maxHeartbeats 4000000 in
theorem ins_twice (t : Nat) (T : List Cr) (G : Dt → Option Nat) (R : Dt → Bool → Value) (id at_ : Dt) (side ch : Int) (w : World) (h : TX w t T G G T.length R) (hid0 : Dw id) (hat : Dw at_) (hm : mayI id at_ side = true) (hf : ∃ c ∈ T, c.id = id) :
    Calls Try.prog 12 #[.pointer (some ⟨t, 0, none⟩), dv id, dv at_, .int .i64 side, .int .i64 ch] w fun e w' => e = .returned (.int .i64 32) ∧ RowKit.Below w.heap.size w w' := by
  have mixed := mixed
  obtain ⟨k0, k1, k2, k3, hA⟩ := two_dots w id at_
  obtain ⟨W, hW⟩ : ∃ W, W = (w.alloc (.cells #[.int .i64 id.1, .int .i64 id.2] 24)).alloc (.cells #[.int .i64 at_.1, .int .i64 at_.2] 24) := ⟨_, rfl⟩
  rw [← hW] at k0 k1 k2 k3 hA
  have hWl : w.heap.size + 1 < W.heap.size := by rw [hW]; simp
  obtain ⟨g, hg⟩ : ∃ g, G id = some g := by
    have := (h.gd id hid0).2 hf
    exact Option.isSome_iff_exists.1 this
  have hM := fgmay_any id at_ side W
  rw [hm] at hM
  have hX := hid h
  obtain ⟨fm, hc, ⟨om, rfl⟩, hlk⟩ := h.found
  have htl := h.lt
  have HLK := hid hlk
  clear h hlk
  go_enter Try.func12, Try.ntmps12
  go_upto_region 1 with fail
  rw [← hW]
  clear hW
  go_upto_region 3 with (first
    | (go_at_call 31; refine hM.mono ?_; rintro e w1 ⟨rfl, hF1⟩))
  have hA1 := below2 hA hF1.below
  have x0 := (hF1.below.cell (p := ⟨w.heap.size, 0, none⟩) (by show w.heap.size < W.heap.size; omega)).trans k0
  have x1 := (hF1.below.cell (p := ⟨w.heap.size, 1, none⟩) (by show w.heap.size < W.heap.size; omega)).trans k1
  have x2 := (hF1.below.cell (p := ⟨w.heap.size + 1, 0, none⟩) (by show w.heap.size + 1 < W.heap.size; omega)).trans k2
  have x3 := (hF1.below.cell (p := ⟨w.heap.size + 1, 1, none⟩) (by show w.heap.size + 1 < W.heap.size; omega)).trans k3
  have hw1l : w.heap.size + 1 < w1.heap.size := Nat.lt_of_lt_of_le hWl hF1.below.size
  clear k0 k1 k2 k3 hM hWl hA hF1
  haveI : Nonempty (Wb w1) := ⟨⟨w1, Below.refl _ _⟩⟩
  have y0 := fun p : Wb w1 => (p.h.cell (p := ⟨w.heap.size, 0, none⟩) (by show w.heap.size < w1.heap.size; omega)).trans x0
  have y1 := fun p : Wb w1 => (p.h.cell (p := ⟨w.heap.size, 1, none⟩) (by show w.heap.size < w1.heap.size; omega)).trans x1
  have yt := fun p : Wb w1 => ((below2 hA1 p.h).cell (p := ⟨t, 0, none⟩) htl).trans hc
  have yl := fun p : Wb w1 => HLK.out p.u (below2 hA1 p.h) id hid0
  rw [hg] at yl
  have yl' : ∀ p : Wb w1, (Instr.lookup 65 (.map om) (.agg #[.int .i64 id.1, .int .i64 id.2]) false).run Try.prog p.u = .ok (.pointer (some ⟨g, 0, none⟩)) p.u := yl
  clear yl hg hf
  refine wp_region_below mixed (by kernel_rfl) ?_
  repeat (go_big_quiet_step (fail))
  refine wpQuiet_nil ?_
  intro _ hw'
  obtain ⟨p, hw''⟩ := hw'
  subst hw''
  go_wp2
  go_ret
  exact ⟨rfl, below2 hA1 p.h⟩

set_option maxRecDepth 100000 in
set_option maxHeartbeats 4000000 in
theorem ins_index (t : Nat) (T : List Cr) (G : Dt → Option Nat) (R : Dt → Bool → Value) (id at_ : Dt) (side ch : Int) (w : World) (h : TX w t T G G T.length R) (hid0 : Dw id) (hat : Dw at_) (hm : mayI id at_ side = true) (hf : ¬ ∃ c ∈ T, c.id = id) (hnd : ¬ nodes T at_) :
    Calls Try.prog 12 #[.pointer (some ⟨t, 0, none⟩), dv id, dv at_, .int .i64 side, .int .i64 ch] w fun e w' => e = .returned (.int .i64 41) ∧ RowKit.Below w.heap.size w w' := by
  have mixed := mixed
  obtain ⟨k0, k1, k2, k3, hA⟩ := two_dots w id at_
  obtain ⟨W, hW⟩ : ∃ W, W = (w.alloc (.cells #[.int .i64 id.1, .int .i64 id.2] 24)).alloc (.cells #[.int .i64 at_.1, .int .i64 at_.2] 24) := ⟨_, rfl⟩
  rw [← hW] at k0 k1 k2 k3 hA
  have hWl : w.heap.size + 1 < W.heap.size := by rw [hW]; simp
  have hg : G id = none := by
    cases e : G id with
    | none => rfl
    | some g => exact absurd ((h.gd id hid0).1 (by rw [e]; rfl)) hf
  have hga : Hid (aboveV t G at_ = .pointer none) := hid (by
    unfold aboveV
    rw [if_neg (fun e => hnd (Or.inl e))]
    cases e : G at_ with
    | none => rfl
    | some g => exact absurd (Or.inr ((h.gd at_ hat).1 (by rw [e]; rfl))) hnd)
  have hM := fgmay_any id at_ side W
  rw [hm] at hM
  have hX := hid h
  obtain ⟨fm, hc, ⟨om, rfl⟩, hlk⟩ := h.found
  have htl := h.lt
  have HLK := hid hlk
  clear h hlk
  go_enter Try.func12, Try.ntmps12
  go_upto_region 1 with fail
  rw [← hW]
  clear hW
  go_upto_region 3 with (first
    | (go_at_call 31; refine hM.mono ?_; rintro e w1 ⟨rfl, hF1⟩))
  have hA1 := below2 hA hF1.below
  have x0 := (hF1.below.cell (p := ⟨w.heap.size, 0, none⟩) (by show w.heap.size < W.heap.size; omega)).trans k0
  have x1 := (hF1.below.cell (p := ⟨w.heap.size, 1, none⟩) (by show w.heap.size < W.heap.size; omega)).trans k1
  have x2 := (hF1.below.cell (p := ⟨w.heap.size + 1, 0, none⟩) (by show w.heap.size + 1 < W.heap.size; omega)).trans k2
  have x3 := (hF1.below.cell (p := ⟨w.heap.size + 1, 1, none⟩) (by show w.heap.size + 1 < W.heap.size; omega)).trans k3
  have hw1l : w.heap.size + 1 < w1.heap.size := Nat.lt_of_lt_of_le hWl hF1.below.size
  clear k0 k1 k2 k3 hM hWl hA hF1
  haveI : Nonempty (Wb w1) := ⟨⟨w1, Below.refl _ _⟩⟩
  have y0 := fun p : Wb w1 => (p.h.cell (p := ⟨w.heap.size, 0, none⟩) (by show w.heap.size < w1.heap.size; omega)).trans x0
  have y1 := fun p : Wb w1 => (p.h.cell (p := ⟨w.heap.size, 1, none⟩) (by show w.heap.size < w1.heap.size; omega)).trans x1
  have yt := fun p : Wb w1 => ((below2 hA1 p.h).cell (p := ⟨t, 0, none⟩) htl).trans hc
  have yl := fun p : Wb w1 => HLK.out p.u (below2 hA1 p.h) id hid0
  rw [hg] at yl
  have yl' : ∀ p : Wb w1, (Instr.lookup 65 (.map om) (.agg #[.int .i64 id.1, .int .i64 id.2]) false).run Try.prog p.u = .ok (.pointer none) p.u := yl
  clear yl hg hf
  refine wp_region_below mixed (by kernel_rfl) ?_
  repeat (go_big_quiet_step (fail))
  refine wpQuiet_nil ?_
  intro _ hw'
  obtain ⟨p, hw''⟩ := hw'
  subst hw''
  have hA2 := below2 hA1 p.h
  have z2 := (p.h.cell (p := ⟨w.heap.size + 1, 0, none⟩) (by show w.heap.size + 1 < w1.heap.size; omega)).trans x2
  have z3 := (p.h.cell (p := ⟨w.heap.size + 1, 1, none⟩) (by show w.heap.size + 1 < w1.heap.size; omega)).trans x3
  have hAb : Calls Try.prog 32 #[.pointer (some ⟨t, 0, none⟩), .agg #[.int .i64 at_.1, .int .i64 at_.2]] p.u fun e w' => e = .returned (.pointer none) ∧ RowKit.Below p.u.heap.size p.u w' := by
    have := above_any t T G T.length R at_ p.u (hX.out.below hA2) hat
    rw [hga.out] at this
    exact this
  clear yl' y0 y1 yt
  generalize p.u = w2 at *
  go_wp2_with (first
    | (go_at_call 32; refine hAb.mono ?_; rintro e w3 ⟨rfl, hB3⟩))
  go_ret
  exact ⟨rfl, below2 hA2 hB3⟩

end

section
set_option linter.unusedVariables false
open Go.RowKit Go.Maps
open Go.Sort (grow)

/-- A text's map is made. -/
theorem TX.mapped {w : World} {t : Nat} {G : Dt → Option Nat} {n : Nat} {R : Dt → Bool → Value} (h : TX w t [] G G n R) : TX ((w.alloc (.map #[] 0)).setCell ⟨t, 0, none⟩ (.map (some w.heap.size))) t [] G G 0 R ∧ FrW t w ((w.alloc (.map #[] 0)).setCell ⟨t, 0, none⟩ (.map (some w.heap.size))) ∧ ((w.alloc (.map #[] 0)).setCell ⟨t, 0, none⟩ (.map (some w.heap.size))).heap[t]? = some (.cells (txCells (.map (some w.heap.size)) (R (0, 0) false) (R (0, 0) true)) 71 (0, 0)) ∧ PM ((w.alloc (.map #[] 0)).setCell ⟨t, 0, none⟩ (.map (some w.heap.size))) w.heap.size 0 G := by
  have hlt := h.lt
  have hb : RowKit.Below w.heap.size w (w.alloc (.map #[] 0)) := ((Far.refl w).alloc _).below
  have h1 := h.below hb
  obtain ⟨fm, h2, _⟩ := h1.tb
  have hblk : ((w.alloc (.map #[] 0)).setCell ⟨t, 0, none⟩ (.map (some w.heap.size))).heap[t]? = some (.cells (txCells (.map (some w.heap.size)) (R (0, 0) false) (R (0, 0) true)) 71 (0, 0)) := by
    rw [fset_block h2]
    simp [txCells]
  have hpm : PM ((w.alloc (.map #[] 0)).setCell ⟨t, 0, none⟩ (.map (some w.heap.size))) w.heap.size 0 G := by
    have hp := (PM.made w).same (w' := (w.alloc (.map #[] 0)).setCell ⟨t, 0, none⟩ (.map (some w.heap.size))) (fset_other (by omega) _)
    obtain ⟨D, ho, hT⟩ := hp
    refine ⟨D, ho, fun d hd => ?_⟩
    have hg : G d = none := by
      cases e : G d with
      | none => rfl
      | some g =>
        obtain ⟨c, hc, _⟩ := (h.gd d hd).1 (by rw [e]; rfl)
        simp at hc
    rw [hg]
    exact hT d hd
  refine ⟨⟨h.wt, ⟨_, hblk, Or.inr ⟨w.heap.size, rfl, hlt, hpm⟩⟩, h.gd, fun c hc => by simp at hc, fun d s hd => ?_, h.apart⟩, ?_, hblk, hpm⟩
  · obtain ⟨gs, k1, k2⟩ := h1.rows d s hd
    refine ⟨gs, k1, World.ownsRow.kept k2 (fgrown_set _ _ _ _) ?_⟩
    cases hb : (R d s).ownBlock with
    | none => exact Or.inl rfl
    | some b =>
      right
      intro e
      cases e
      obtain ⟨cur, hc⟩ := own_block k2 hb
      rw [h2] at hc
      simp at hc
  · refine (FrW.of_below hb).trans (FrW.of_grown (fgrown_set _ _ _ _) (fun k hk => ?_))
    cases hk
    refine ⟨Nat.le_refl _, fun cs ty hc => ?_⟩
    rw [h2] at hc
    simp at hc
    exact Or.inr (Or.inl hc.2.symm)

/-- The map tells of one more. -/
theorem TX.told {w w' : World} {t mb : Nat} {T : List Cr} {G M' : Dt → Option Nat} {n n' : Nat} {R : Dt → Bool → Value} (h : TX w t T G G n R) (hblk : w.heap[t]? = some (.cells (txCells (.map (some mb)) (R (0, 0) false) (R (0, 0) true)) 71 (0, 0))) (htm : t < mb) {m0 : Nat} {M0 : Dt → Option Nat} (hm : PM w mb m0 M0) (hg : w.grownBy w' (some mb)) (hp : PM w' mb n' M') :
    TX w' t T G M' n' R ∧ w'.heap[t]? = w.heap[t]? := by
  have hnc : ∀ (k : Nat) (cs : Array Value) (ty : TypeId), w.heap[k]? = some (Obj.cells cs ty (0, 0)) → w'.heap[k]? = w.heap[k]? := fun k cs ty hk => by
    refine hg.block k (Array.getElem?_eq_some_iff.1 hk).1 (fun e => ?_)
    cases e
    obtain ⟨D, ⟨es, clock, h1, _⟩, _⟩ := hm
    rw [h1] at hk
    cases hk
  have ht := hnc t _ _ hblk
  refine ⟨⟨h.wt, ⟨_, ht.trans hblk, Or.inr ⟨mb, rfl, htm, hp⟩⟩, h.gd, fun c hc => ?_, fun d s hd => ?_, h.apart⟩, ht⟩
  · obtain ⟨g, k1, k2, k3⟩ := h.ch c hc
    exact ⟨g, k1, k2, (hnc _ _ _ k3).trans k3⟩
  · obtain ⟨gs, k1, k2⟩ := h.rows d s hd
    refine ⟨gs, k1, World.ownsRow.kept k2 hg ?_⟩
    cases hb : (R d s).ownBlock with
    | none => exact Or.inl rfl
    | some b =>
      right
      intro e
      cases e
      obtain ⟨cur, hc⟩ := own_block k2 hb
      obtain ⟨D, ⟨es, clock, h1, _⟩, _⟩ := hm
      rw [h1] at hc
      cases hc

end

section
open Go.RowKit Go.Maps
theorem map_none (W : World) : (binOp .eql 65 (.map none) (.map none)).run Try.prog W = .ok (.bool true) W := by
  have hd : Op.maxDepth = (Op.maxDepth - 1) + 1 := by decide
  simp only [binOp, Op.equal]
  rw [hd]
  simp [Op.equalIn, run_underlying Try.underlying65]
theorem map_some (b : Nat) (W : World) : (binOp .eql 65 (.map (some b)) (.map none)).run Try.prog W = .ok (.bool false) W := by
  have hd : Op.maxDepth = (Op.maxDepth - 1) + 1 := by decide
  simp only [binOp, Op.equal]
  rw [hd]
  simp [Op.equalIn, run_underlying Try.underlying65]
end

section
set_option linter.unusedVariables false
open Go.RowKit Go.Maps
open Go.Sort (grow)

set_option maxRecDepth 100000 in
set_option maxHeartbeats 4000000 in
theorem ins_left (t : Nat) (T : List Cr) (G : Dt → Option Nat) (R : Dt → Bool → Value) (id at_ : Dt) (ch : Int) (w : World) (h : TX w t T G G T.length R) (hid0 : Dw id) (hat : Dw at_) (hm : mayI id at_ 0 = true) (hf : ¬ ∃ c ∈ T, c.id = id) (hn : T.length ≤ 100000) (h0 : at_ ≠ (0, 0)) (hnd : nodes T at_) :
    Calls Try.prog 12 #[.pointer (some ⟨t, 0, none⟩), dv id, dv at_, .int .i64 0, .int .i64 ch] w fun e w' => e = .returned (.int .i64 0) ∧ ∃ G' R', TX w' t (T ++ [⟨id, at_, false, ch, true⟩]) G' G' (T.length + 1) R' ∧ FrW t w w' := by
  have mixed := mixed
  obtain ⟨k0, k1, k2, k3, hA⟩ := two_dots w id at_
  obtain ⟨W, hW⟩ : ∃ W, W = (w.alloc (.cells #[.int .i64 id.1, .int .i64 id.2] 24)).alloc (.cells #[.int .i64 at_.1, .int .i64 at_.2] 24) := ⟨_, rfl⟩
  rw [← hW] at k0 k1 k2 k3 hA
  have hWl : w.heap.size + 1 < W.heap.size := by rw [hW]; simp
  have hnz : id ≠ (0, 0) := by
    intro e
    rw [e] at hm
    simp [mayI] at hm
  have hfr : ∀ x ∈ T, x.id ≠ id := fun x hx e => hf ⟨x, hx, e⟩
  have hg : G id = none := by
    cases e : G id with
    | none => rfl
    | some g => exact absurd ((h.gd id hid0).1 (by rw [e]; rfl)) hf
  obtain ⟨ca, hca, hcae⟩ : ∃ c ∈ T, c.id = at_ := by
    rcases hnd with e | h'
    · exact absurd e h0
    · exact h'
  obtain ⟨ga, hga0, htga, _⟩ := h.ch ca hca
  rw [hcae] at hga0
  have hga : Hid (aboveV t G at_ = .pointer (some ⟨ga, 0, none⟩)) := hid (by unfold aboveV; rw [if_neg h0, hga0]; rfl)
  have hspot : Hid (spotOf t G at_ = (ga, 4)) := hid (by unfold spotOf; rw [if_neg h0, hga0]; rfl)
  have hM := fgmay_any id at_ 0 W
  rw [hm] at hM
  have hX := hid h
  obtain ⟨fm, hc, ⟨om, rfl⟩, hlk⟩ := h.found
  have htl := h.lt
  have HLK := hid hlk
  clear h hlk
  go_enter Try.func12, Try.ntmps12
  go_upto_region 1 with fail
  rw [← hW]
  clear hW
  go_upto_region 3 with (first
    | (go_at_call 31; refine hM.mono ?_; rintro e w1 ⟨rfl, hF1⟩))
  have hA1 := below2 hA hF1.below
  have x0 := (hF1.below.cell (p := ⟨w.heap.size, 0, none⟩) (by show w.heap.size < W.heap.size; omega)).trans k0
  have x1 := (hF1.below.cell (p := ⟨w.heap.size, 1, none⟩) (by show w.heap.size < W.heap.size; omega)).trans k1
  have x2 := (hF1.below.cell (p := ⟨w.heap.size + 1, 0, none⟩) (by show w.heap.size + 1 < W.heap.size; omega)).trans k2
  have x3 := (hF1.below.cell (p := ⟨w.heap.size + 1, 1, none⟩) (by show w.heap.size + 1 < W.heap.size; omega)).trans k3
  have hw1l : w.heap.size + 1 < w1.heap.size := Nat.lt_of_lt_of_le hWl hF1.below.size
  clear k0 k1 k2 k3 hM hWl hA hF1
  haveI : Nonempty (Wb w1) := ⟨⟨w1, Below.refl _ _⟩⟩
  have y0 := fun p : Wb w1 => (p.h.cell (p := ⟨w.heap.size, 0, none⟩) (by show w.heap.size < w1.heap.size; omega)).trans x0
  have y1 := fun p : Wb w1 => (p.h.cell (p := ⟨w.heap.size, 1, none⟩) (by show w.heap.size < w1.heap.size; omega)).trans x1
  have yt := fun p : Wb w1 => ((below2 hA1 p.h).cell (p := ⟨t, 0, none⟩) htl).trans hc
  have yl := fun p : Wb w1 => HLK.out p.u (below2 hA1 p.h) id hid0
  rw [hg] at yl
  have yl' : ∀ p : Wb w1, (Instr.lookup 65 (.map om) (.agg #[.int .i64 id.1, .int .i64 id.2]) false).run Try.prog p.u = .ok (.pointer none) p.u := yl
  clear yl hg
  refine wp_region_below mixed (by kernel_rfl) ?_
  repeat (go_big_quiet_step (fail))
  refine wpQuiet_nil ?_
  intro _ hw'
  obtain ⟨p, hw''⟩ := hw'
  subst hw''
  have hA2 := below2 hA1 p.h
  have z0 := (p.h.cell (p := ⟨w.heap.size, 0, none⟩) (by show w.heap.size < w1.heap.size; omega)).trans x0
  have z1 := (p.h.cell (p := ⟨w.heap.size, 1, none⟩) (by show w.heap.size < w1.heap.size; omega)).trans x1
  have z2 := (p.h.cell (p := ⟨w.heap.size + 1, 0, none⟩) (by show w.heap.size + 1 < w1.heap.size; omega)).trans x2
  have z3 := (p.h.cell (p := ⟨w.heap.size + 1, 1, none⟩) (by show w.heap.size + 1 < w1.heap.size; omega)).trans x3
  have hw2l : w.heap.size + 1 < p.u.heap.size := Nat.lt_of_lt_of_le hw1l p.h.size
  have hAb : Calls Try.prog 32 #[.pointer (some ⟨t, 0, none⟩), .agg #[.int .i64 at_.1, .int .i64 at_.2]] p.u fun e w' => e = .returned (.pointer (some ⟨ga, 0, none⟩)) ∧ RowKit.Below p.u.heap.size p.u w' := by
    have := above_any t T G T.length R at_ p.u (hX.out.below hA2) hat
    rw [hga.out] at this
    exact this
  clear yl' y0 y1 yt x0 x1 x2 x3 this
  generalize p.u = w2 at *
  go_upto_region 8 with (first
    | (go_at_call 32; refine hAb.mono ?_; rintro e w3 ⟨rfl, hB3⟩))
  have hA3 := below2 hA2 hB3
  have v0 := (hB3.cell (p := ⟨w.heap.size, 0, none⟩) (by show w.heap.size < w2.heap.size; omega)).trans z0
  have v1 := (hB3.cell (p := ⟨w.heap.size, 1, none⟩) (by show w.heap.size < w2.heap.size; omega)).trans z1
  have hw3l : w.heap.size + 1 < w3.heap.size := Nat.lt_of_lt_of_le hw2l hB3.size
  have hc3 := (hA3.cell (p := ⟨t, 0, none⟩) htl).trans hc
  have hX3 := hid (hX.out.below hA3)
  clear z0 z1 z2 z3 hAb hX HLK hc
  have hfz3 : w3.frozen? ⟨t, 0, none⟩ = false := by
    obtain ⟨fm, h1, _⟩ := hX3.out.tb
    simp [World.frozen?, h1]
  obtain ⟨mb, rfl, htm, hPM3, hb3⟩ : ∃ mb, om = some mb ∧ t < mb ∧ PM w3 mb T.length G ∧ w3.heap[t]? = some (.cells (txCells (.map (some mb)) (R (0, 0) false) (R (0, 0) true)) 71 (0, 0)) := by
    obtain ⟨fm, h1, h2⟩ := hX3.out.tb
    have hfm : fm = .map om := by
      have := hc3
      simp [World.cell?, h1, txCells] at this
      exact this
    rcases h2 with ⟨e, _⟩ | ⟨mb, e, k1, k2⟩
    · rw [e] at hca
      simp at hca
    · rw [hfm] at e
      simp at e
      exact ⟨mb, e, k1, k2, by rw [h1, hfm, e]⟩
  have hX4 := hX3
  have hPM4 := hid hPM3
  have hb4 := hid hb3
  have u0 := v0
  have u1 := v1
  have HF4 : Hid (FrW t w w3) := hid (FrW.of_below hA3)
  have hw4l := hw3l
  clear hX3 hPM3 hb3 v0 v1 hw3l hA3 hA2 hA1 hB3
  have hmn := map_some mb
  generalize w3 = w4 at *
  go_upto_region 11 with fail
  have hA5 : RowKit.Below w4.heap.size w4 (w4.alloc (.cells #[.int .i64 id.1, .int .i64 id.2, .int .i64 ch, .bool true, .slice none 0 0, .slice none 0 0] 69)) := ((Far.refl w4).alloc _).below
  have hgc5 : (w4.alloc (.cells #[.int .i64 id.1, .int .i64 id.2, .int .i64 ch, .bool true, .slice none 0 0, .slice none 0 0] 69)).heap[w4.heap.size]? = some (.cells ((⟨id, at_, false, ch, true⟩ : Cr).cells (.slice none 0 0) (.slice none 0 0)) 69 (0, 0)) := (MapKept.heap_alloc w4 _).1
  generalize w4.alloc (.cells #[.int .i64 id.1, .int .i64 id.2, .int .i64 ch, .bool true, .slice none 0 0, .slice none 0 0] 69) = w5 at *
  obtain ⟨gc, hgce⟩ : ∃ gc, w4.heap.size = gc := ⟨_, rfl⟩
  have htgc : t < gc := by have := hX4.out.lt; omega
  have hmb5 : mb < w5.heap.size := Nat.lt_of_lt_of_le hPM4.out.lt hA5.size
  rw [hgce] at hgc5 ⊢
  have hX5 := hid (hX4.out.below hA5)
  have hPM5 : PM w5 mb T.length G := hPM4.out.same (hA5.block _ hPM4.out.lt)
  have hb5 := (hA5.block t hX4.out.lt).trans hb4.out
  have s0 := (hA5.cell (p := ⟨w.heap.size, 0, none⟩) (by show w.heap.size < w4.heap.size; omega)).trans u0
  have s1 := (hA5.cell (p := ⟨w.heap.size, 1, none⟩) (by show w.heap.size < w4.heap.size; omega)).trans u1
  have s2 : w5.cell? ⟨t, 0, none⟩ = some (.map (some mb)) := by simp [World.cell?, hb5, txCells]
  obtain ⟨w6, hrun, hPM6, hg6⟩ := (hPM5.same (w' := w5.drew) rfl).put hid0 gc (by unfold maxLen; omega)
  have hrun' : (Instr.mapUpdate 65 (.map (some mb)) (.agg #[.int .i64 id.1, .int .i64 id.2]) (.pointer (some ⟨gc, 0, none⟩))).run Try.prog w5.drew = .ok () w6 := hrun
  clear hrun
  go_region
  have hg56 := (grownBy_drew1 w5 (some mb)).trans hg6
  obtain ⟨hT6, ht6⟩ := hX5.out.told hb5 htm hPM5 hg56 hPM6
  have hgcm : gc ≠ mb := by have := hPM4.out.lt; omega
  have hgc6 := (hg56.block gc (Array.getElem?_eq_some_iff.1 hgc5).1 (fun e => hgcm (by simpa using e))).trans hgc5
  obtain ⟨gs, hgs, hown⟩ := hT6.rows at_ false hnd
  obtain ⟨ra, rc, hRv, hpp⟩ := own_pp hown
  have hcr := hT6.cr hgs
  obtain ⟨ga', hga', _, hblk6⟩ := hT6.ch ca hca
  obtain rfl : ga = ga' := by rw [hcae, hga0] at hga'; simpa using hga'
  rw [hcae] at hblk6
  have hcb : w6.drew.cell? ⟨ga, 4, none⟩ = some (.slice ra (kids T at_ false).length rc) := by
    rw [← hRv]
    show w6.cell? ⟨ga, 4, none⟩ = _
    simp [World.cell?, hblk6, Cr.cells]
  have hneb : (R at_ false).ownBlock ≠ some ga := fun e => by
    obtain ⟨cur, hc⟩ := own_block hown e
    rw [hblk6] at hc
    simp at hc
  have hidc : IdAt w6.drew gc id := ⟨by show w6.cell? _ = _; simp [World.cell?, hgc6, Cr.cells], by show w6.cell? _ = _; simp [World.cell?, hgc6, Cr.cells]⟩
  have hkl := kids_len T at_ false
  have hsz6 : t ≤ w6.drew.heap.size := Nat.le_of_lt hT6.lt
  have hAm := among_any t (R at_ false) (kids T at_ false).length gs (kids T at_ false) gc id w6.drew hown (hcr.below ((Far.refl w6).drew).below) hidc (by omega) hsz6 (kids_up T at_ false)
  rw [hRv] at hAm hneb
  have hfin : ∀ (w7 : World) (q cq : Nat), w7.ownsRow t 72 1 (.slice (some ⟨q, 0, none⟩) ((kids T at_ false).length + 1) cq) ((kids T at_ false).length + 1) (prow (gs.take (aheadOf (kids T at_ false) id) ++ [gc] ++ gs.drop (aheadOf (kids T at_ false) id))) → w6.drew.grownBy w7 (Value.slice ra (kids T at_ false).length rc).ownBlock → ((Value.slice ra (kids T at_ false).length rc).ownBlock = some q ∨ w6.drew.heap.size ≤ q) →
      ∃ G' R', TX (w7.setCell ⟨ga, 4, none⟩ (.slice (some ⟨q, 0, none⟩) ((kids T at_ false).length + 1) cq)) t (T ++ [⟨id, at_, false, ch, true⟩]) G' G' (T.length + 1) R' ∧ FrW t w (w7.setCell ⟨ga, 4, none⟩ (.slice (some ⟨q, 0, none⟩) ((kids T at_ false).length + 1) cq)) := fun w7 q cq ho7 hg7 hq7 => by
    rw [← hRv] at hg7 hq7
    have hg67 := (grownBy_drew1 w6 (R at_ false).ownBlock).trans hg7
    have hf := TX.more (c := ⟨id, at_, false, ch, true⟩) hT6 hnz hid0 hfr hnd (fun e => absurd e h0) ⟨_, mb, ht6.trans hb5, rfl, htm, hPM6⟩ hgc6 htgc hgs hg67 ho7 rfl hq7
    have hsp : spotOf t G (Cr.at_ ⟨id, at_, false, ch, true⟩) = (ga, 4) := hspot.out
    rw [hsp] at hf
    refine ⟨_, _, hf, ?_⟩
    have f1 : FrW t w4 w5 := FrW.of_below hA5
    have f2 : FrW t w5 w6 := FrW.of_grown hg56 (fun k hk => by
      cases hk
      refine ⟨Nat.le_of_lt htm, fun cs ty hc => ?_⟩
      obtain ⟨D, ⟨es, clock, h1, _⟩, _⟩ := hPM5
      rw [h1] at hc
      cases hc)
    have f3 : FrW t w6 w7 := FrW.of_grown hg67 (fun k hk => by
      refine ⟨(World.ownsRow.lt hown k hk).1, fun cs ty hc => ?_⟩
      obtain ⟨cur, hc'⟩ := own_block hown hk
      rw [hc'] at hc
      simp at hc
      exact Or.inr (Or.inr hc.2.symm))
    have hb7 : w7.heap[ga]? = w6.heap[ga]? := hg67.block ga (Array.getElem?_eq_some_iff.1 hblk6).1 (fun e => by
      obtain ⟨cur, hc⟩ := own_block hown e.symm
      rw [hblk6] at hc
      simp at hc)
    have f4 : FrW t w7 (w7.setCell ⟨ga, 4, none⟩ (.slice (some ⟨q, 0, none⟩) ((kids T at_ false).length + 1) cq)) := FrW.of_grown (fgrown_set _ _ _ _) (fun k hk => by
      cases hk
      refine ⟨Nat.le_of_lt htga, fun cs ty hc => ?_⟩
      rw [hb7, hblk6] at hc
      simp at hc
      exact Or.inl hc.2.symm)
    exact (((HF4.out.trans f1).trans f2).trans f3).trans f4
  have HFIN := hid hfin
  have hS7 : ∀ w7, w6.drew.grownBy w7 (Value.slice ra (kids T at_ false).length rc).ownBlock → w7.cell? ⟨ga, 4, none⟩ = some (.slice ra (kids T at_ false).length rc) ∧ w7.frozen? ⟨ga, 4, none⟩ = false := fun w7 hg7 => by
    have hb7 : w7.heap[ga]? = w6.heap[ga]? := hg7.block ga (Array.getElem?_eq_some_iff.1 hblk6).1 (fun e => hneb e.symm)
    refine ⟨?_, by simp [World.frozen?, hb7, hblk6]⟩
    rw [← hcb]
    exact World.cell?_of_block hb7
  clear hfin hgs hown hpp hcr hidc hgc6 hgc5 hT6 ht6 hb5 hPM5 hX5 hPM6 hg6 hg56 hRv hblk6 s0 s1 s2 hrun' hA5 hkl
  generalize (kids T at_ false).length = rn at *
  generalize prow (gs.take (aheadOf (kids T at_ false) id) ++ [gc] ++ gs.drop (aheadOf (kids T at_ false) id)) = xr at *
  go_upto_region 12 with fail
  go_region_with (first
    | (go_at_call 33; refine hAm.mono ?_; rintro e w7 ⟨q, cq, rfl, ho7, hg7, hq7⟩; obtain ⟨ck7, fz7⟩ := hS7 w7 hg7))
  all_goals
    (go_wp2
     go_ret
     obtain ⟨G', R', r1, r2⟩ := HFIN.out w7 q cq ho7 hg7 hq7
     exact ⟨rfl, G', R', r1, r2⟩)

set_option maxRecDepth 100000 in
set_option maxHeartbeats 4000000 in
theorem ins_right (t : Nat) (T : List Cr) (G : Dt → Option Nat) (R : Dt → Bool → Value) (id at_ : Dt) (ch : Int) (w : World) (h : TX w t T G G T.length R) (hid0 : Dw id) (hat : Dw at_) (hm : mayI id at_ 1 = true) (hf : ¬ ∃ c ∈ T, c.id = id) (hn : T.length ≤ 100000) (h0 : at_ ≠ (0, 0)) (hnd : nodes T at_) :
    Calls Try.prog 12 #[.pointer (some ⟨t, 0, none⟩), dv id, dv at_, .int .i64 1, .int .i64 ch] w fun e w' => e = .returned (.int .i64 0) ∧ ∃ G' R', TX w' t (T ++ [⟨id, at_, true, ch, true⟩]) G' G' (T.length + 1) R' ∧ FrW t w w' := by
  have mixed := mixed
  obtain ⟨k0, k1, k2, k3, hA⟩ := two_dots w id at_
  obtain ⟨W, hW⟩ : ∃ W, W = (w.alloc (.cells #[.int .i64 id.1, .int .i64 id.2] 24)).alloc (.cells #[.int .i64 at_.1, .int .i64 at_.2] 24) := ⟨_, rfl⟩
  rw [← hW] at k0 k1 k2 k3 hA
  have hWl : w.heap.size + 1 < W.heap.size := by rw [hW]; simp
  have hnz : id ≠ (0, 0) := by
    intro e
    rw [e] at hm
    simp [mayI] at hm
  have hfr : ∀ x ∈ T, x.id ≠ id := fun x hx e => hf ⟨x, hx, e⟩
  have hg : G id = none := by
    cases e : G id with
    | none => rfl
    | some g => exact absurd ((h.gd id hid0).1 (by rw [e]; rfl)) hf
  obtain ⟨ca, hca, hcae⟩ : ∃ c ∈ T, c.id = at_ := by
    rcases hnd with e | h'
    · exact absurd e h0
    · exact h'
  obtain ⟨ga, hga0, htga, _⟩ := h.ch ca hca
  rw [hcae] at hga0
  have hga : Hid (aboveV t G at_ = .pointer (some ⟨ga, 0, none⟩)) := hid (by unfold aboveV; rw [if_neg h0, hga0]; rfl)
  have hspot : Hid (spotOf t G at_ = (ga, 4)) := hid (by unfold spotOf; rw [if_neg h0, hga0]; rfl)
  have hM := fgmay_any id at_ 1 W
  rw [hm] at hM
  have hX := hid h
  obtain ⟨fm, hc, ⟨om, rfl⟩, hlk⟩ := h.found
  have htl := h.lt
  have HLK := hid hlk
  clear h hlk
  go_enter Try.func12, Try.ntmps12
  go_upto_region 1 with fail
  rw [← hW]
  clear hW
  go_upto_region 3 with (first
    | (go_at_call 31; refine hM.mono ?_; rintro e w1 ⟨rfl, hF1⟩))
  have hA1 := below2 hA hF1.below
  have x0 := (hF1.below.cell (p := ⟨w.heap.size, 0, none⟩) (by show w.heap.size < W.heap.size; omega)).trans k0
  have x1 := (hF1.below.cell (p := ⟨w.heap.size, 1, none⟩) (by show w.heap.size < W.heap.size; omega)).trans k1
  have x2 := (hF1.below.cell (p := ⟨w.heap.size + 1, 0, none⟩) (by show w.heap.size + 1 < W.heap.size; omega)).trans k2
  have x3 := (hF1.below.cell (p := ⟨w.heap.size + 1, 1, none⟩) (by show w.heap.size + 1 < W.heap.size; omega)).trans k3
  have hw1l : w.heap.size + 1 < w1.heap.size := Nat.lt_of_lt_of_le hWl hF1.below.size
  clear k0 k1 k2 k3 hM hWl hA hF1
  haveI : Nonempty (Wb w1) := ⟨⟨w1, Below.refl _ _⟩⟩
  have y0 := fun p : Wb w1 => (p.h.cell (p := ⟨w.heap.size, 0, none⟩) (by show w.heap.size < w1.heap.size; omega)).trans x0
  have y1 := fun p : Wb w1 => (p.h.cell (p := ⟨w.heap.size, 1, none⟩) (by show w.heap.size < w1.heap.size; omega)).trans x1
  have yt := fun p : Wb w1 => ((below2 hA1 p.h).cell (p := ⟨t, 0, none⟩) htl).trans hc
  have yl := fun p : Wb w1 => HLK.out p.u (below2 hA1 p.h) id hid0
  rw [hg] at yl
  have yl' : ∀ p : Wb w1, (Instr.lookup 65 (.map om) (.agg #[.int .i64 id.1, .int .i64 id.2]) false).run Try.prog p.u = .ok (.pointer none) p.u := yl
  clear yl hg
  refine wp_region_below mixed (by kernel_rfl) ?_
  repeat (go_big_quiet_step (fail))
  refine wpQuiet_nil ?_
  intro _ hw'
  obtain ⟨p, hw''⟩ := hw'
  subst hw''
  have hA2 := below2 hA1 p.h
  have z0 := (p.h.cell (p := ⟨w.heap.size, 0, none⟩) (by show w.heap.size < w1.heap.size; omega)).trans x0
  have z1 := (p.h.cell (p := ⟨w.heap.size, 1, none⟩) (by show w.heap.size < w1.heap.size; omega)).trans x1
  have z2 := (p.h.cell (p := ⟨w.heap.size + 1, 0, none⟩) (by show w.heap.size + 1 < w1.heap.size; omega)).trans x2
  have z3 := (p.h.cell (p := ⟨w.heap.size + 1, 1, none⟩) (by show w.heap.size + 1 < w1.heap.size; omega)).trans x3
  have hw2l : w.heap.size + 1 < p.u.heap.size := Nat.lt_of_lt_of_le hw1l p.h.size
  have hAb : Calls Try.prog 32 #[.pointer (some ⟨t, 0, none⟩), .agg #[.int .i64 at_.1, .int .i64 at_.2]] p.u fun e w' => e = .returned (.pointer (some ⟨ga, 0, none⟩)) ∧ RowKit.Below p.u.heap.size p.u w' := by
    have := above_any t T G T.length R at_ p.u (hX.out.below hA2) hat
    rw [hga.out] at this
    exact this
  clear yl' y0 y1 yt x0 x1 x2 x3 this
  generalize p.u = w2 at *
  go_upto_region 8 with (first
    | (go_at_call 32; refine hAb.mono ?_; rintro e w3 ⟨rfl, hB3⟩))
  have hA3 := below2 hA2 hB3
  have v0 := (hB3.cell (p := ⟨w.heap.size, 0, none⟩) (by show w.heap.size < w2.heap.size; omega)).trans z0
  have v1 := (hB3.cell (p := ⟨w.heap.size, 1, none⟩) (by show w.heap.size < w2.heap.size; omega)).trans z1
  have hw3l : w.heap.size + 1 < w3.heap.size := Nat.lt_of_lt_of_le hw2l hB3.size
  have hc3 := (hA3.cell (p := ⟨t, 0, none⟩) htl).trans hc
  have hX3 := hid (hX.out.below hA3)
  clear z0 z1 z2 z3 hAb hX HLK hc
  have hfz3 : w3.frozen? ⟨t, 0, none⟩ = false := by
    obtain ⟨fm, h1, _⟩ := hX3.out.tb
    simp [World.frozen?, h1]
  obtain ⟨mb, rfl, htm, hPM3, hb3⟩ : ∃ mb, om = some mb ∧ t < mb ∧ PM w3 mb T.length G ∧ w3.heap[t]? = some (.cells (txCells (.map (some mb)) (R (0, 0) false) (R (0, 0) true)) 71 (0, 0)) := by
    obtain ⟨fm, h1, h2⟩ := hX3.out.tb
    have hfm : fm = .map om := by
      have := hc3
      simp [World.cell?, h1, txCells] at this
      exact this
    rcases h2 with ⟨e, _⟩ | ⟨mb, e, k1, k2⟩
    · rw [e] at hca
      simp at hca
    · rw [hfm] at e
      simp at e
      exact ⟨mb, e, k1, k2, by rw [h1, hfm, e]⟩
  have hX4 := hX3
  have hPM4 := hid hPM3
  have hb4 := hid hb3
  have u0 := v0
  have u1 := v1
  have HF4 : Hid (FrW t w w3) := hid (FrW.of_below hA3)
  have hw4l := hw3l
  clear hX3 hPM3 hb3 v0 v1 hw3l hA3 hA2 hA1 hB3
  have hmn := map_some mb
  generalize w3 = w4 at *
  go_upto_region 11 with fail
  have hA5 : RowKit.Below w4.heap.size w4 (w4.alloc (.cells #[.int .i64 id.1, .int .i64 id.2, .int .i64 ch, .bool true, .slice none 0 0, .slice none 0 0] 69)) := ((Far.refl w4).alloc _).below
  have hgc5 : (w4.alloc (.cells #[.int .i64 id.1, .int .i64 id.2, .int .i64 ch, .bool true, .slice none 0 0, .slice none 0 0] 69)).heap[w4.heap.size]? = some (.cells ((⟨id, at_, true, ch, true⟩ : Cr).cells (.slice none 0 0) (.slice none 0 0)) 69 (0, 0)) := (MapKept.heap_alloc w4 _).1
  generalize w4.alloc (.cells #[.int .i64 id.1, .int .i64 id.2, .int .i64 ch, .bool true, .slice none 0 0, .slice none 0 0] 69) = w5 at *
  obtain ⟨gc, hgce⟩ : ∃ gc, w4.heap.size = gc := ⟨_, rfl⟩
  have htgc : t < gc := by have := hX4.out.lt; omega
  have hmb5 : mb < w5.heap.size := Nat.lt_of_lt_of_le hPM4.out.lt hA5.size
  rw [hgce] at hgc5 ⊢
  have hX5 := hid (hX4.out.below hA5)
  have hPM5 : PM w5 mb T.length G := hPM4.out.same (hA5.block _ hPM4.out.lt)
  have hb5 := (hA5.block t hX4.out.lt).trans hb4.out
  have s0 := (hA5.cell (p := ⟨w.heap.size, 0, none⟩) (by show w.heap.size < w4.heap.size; omega)).trans u0
  have s1 := (hA5.cell (p := ⟨w.heap.size, 1, none⟩) (by show w.heap.size < w4.heap.size; omega)).trans u1
  have s2 : w5.cell? ⟨t, 0, none⟩ = some (.map (some mb)) := by simp [World.cell?, hb5, txCells]
  obtain ⟨w6, hrun, hPM6, hg6⟩ := (hPM5.same (w' := w5.drew) rfl).put hid0 gc (by unfold maxLen; omega)
  have hrun' : (Instr.mapUpdate 65 (.map (some mb)) (.agg #[.int .i64 id.1, .int .i64 id.2]) (.pointer (some ⟨gc, 0, none⟩))).run Try.prog w5.drew = .ok () w6 := hrun
  clear hrun
  go_region
  have hg56 := (grownBy_drew1 w5 (some mb)).trans hg6
  obtain ⟨hT6, ht6⟩ := hX5.out.told hb5 htm hPM5 hg56 hPM6
  have hgcm : gc ≠ mb := by have := hPM4.out.lt; omega
  have hgc6 := (hg56.block gc (Array.getElem?_eq_some_iff.1 hgc5).1 (fun e => hgcm (by simpa using e))).trans hgc5
  obtain ⟨gs, hgs, hown⟩ := hT6.rows at_ true hnd
  obtain ⟨ra, rc, hRv, hpp⟩ := own_pp hown
  have hcr := hT6.cr hgs
  obtain ⟨ga', hga', _, hblk6⟩ := hT6.ch ca hca
  obtain rfl : ga = ga' := by rw [hcae, hga0] at hga'; simpa using hga'
  rw [hcae] at hblk6
  have hcb : w6.drew.cell? ⟨ga, 5, none⟩ = some (.slice ra (kids T at_ true).length rc) := by
    rw [← hRv]
    show w6.cell? ⟨ga, 5, none⟩ = _
    simp [World.cell?, hblk6, Cr.cells]
  have hneb : (R at_ true).ownBlock ≠ some ga := fun e => by
    obtain ⟨cur, hc⟩ := own_block hown e
    rw [hblk6] at hc
    simp at hc
  have hidc : IdAt w6.drew gc id := ⟨by show w6.cell? _ = _; simp [World.cell?, hgc6, Cr.cells], by show w6.cell? _ = _; simp [World.cell?, hgc6, Cr.cells]⟩
  have hkl := kids_len T at_ true
  have hsz6 : t ≤ w6.drew.heap.size := Nat.le_of_lt hT6.lt
  have hAm := among_any t (R at_ true) (kids T at_ true).length gs (kids T at_ true) gc id w6.drew hown (hcr.below ((Far.refl w6).drew).below) hidc (by omega) hsz6 (kids_up T at_ true)
  rw [hRv] at hAm hneb
  have hfin : ∀ (w7 : World) (q cq : Nat), w7.ownsRow t 72 1 (.slice (some ⟨q, 0, none⟩) ((kids T at_ true).length + 1) cq) ((kids T at_ true).length + 1) (prow (gs.take (aheadOf (kids T at_ true) id) ++ [gc] ++ gs.drop (aheadOf (kids T at_ true) id))) → w6.drew.grownBy w7 (Value.slice ra (kids T at_ true).length rc).ownBlock → ((Value.slice ra (kids T at_ true).length rc).ownBlock = some q ∨ w6.drew.heap.size ≤ q) →
      ∃ G' R', TX (w7.setCell ⟨ga, 5, none⟩ (.slice (some ⟨q, 0, none⟩) ((kids T at_ true).length + 1) cq)) t (T ++ [⟨id, at_, true, ch, true⟩]) G' G' (T.length + 1) R' ∧ FrW t w (w7.setCell ⟨ga, 5, none⟩ (.slice (some ⟨q, 0, none⟩) ((kids T at_ true).length + 1) cq)) := fun w7 q cq ho7 hg7 hq7 => by
    rw [← hRv] at hg7 hq7
    have hg67 := (grownBy_drew1 w6 (R at_ true).ownBlock).trans hg7
    have hf := TX.more (c := ⟨id, at_, true, ch, true⟩) hT6 hnz hid0 hfr hnd (fun e => absurd e h0) ⟨_, mb, ht6.trans hb5, rfl, htm, hPM6⟩ hgc6 htgc hgs hg67 ho7 rfl hq7
    have hsp : spotOf t G (Cr.at_ ⟨id, at_, true, ch, true⟩) = (ga, 4) := hspot.out
    rw [hsp] at hf
    refine ⟨_, _, hf, ?_⟩
    have f1 : FrW t w4 w5 := FrW.of_below hA5
    have f2 : FrW t w5 w6 := FrW.of_grown hg56 (fun k hk => by
      cases hk
      refine ⟨Nat.le_of_lt htm, fun cs ty hc => ?_⟩
      obtain ⟨D, ⟨es, clock, h1, _⟩, _⟩ := hPM5
      rw [h1] at hc
      cases hc)
    have f3 : FrW t w6 w7 := FrW.of_grown hg67 (fun k hk => by
      refine ⟨(World.ownsRow.lt hown k hk).1, fun cs ty hc => ?_⟩
      obtain ⟨cur, hc'⟩ := own_block hown hk
      rw [hc'] at hc
      simp at hc
      exact Or.inr (Or.inr hc.2.symm))
    have hb7 : w7.heap[ga]? = w6.heap[ga]? := hg67.block ga (Array.getElem?_eq_some_iff.1 hblk6).1 (fun e => by
      obtain ⟨cur, hc⟩ := own_block hown e.symm
      rw [hblk6] at hc
      simp at hc)
    have f4 : FrW t w7 (w7.setCell ⟨ga, 5, none⟩ (.slice (some ⟨q, 0, none⟩) ((kids T at_ true).length + 1) cq)) := FrW.of_grown (fgrown_set _ _ _ _) (fun k hk => by
      cases hk
      refine ⟨Nat.le_of_lt htga, fun cs ty hc => ?_⟩
      rw [hb7, hblk6] at hc
      simp at hc
      exact Or.inl hc.2.symm)
    exact (((HF4.out.trans f1).trans f2).trans f3).trans f4
  have HFIN := hid hfin
  have hS7 : ∀ w7, w6.drew.grownBy w7 (Value.slice ra (kids T at_ true).length rc).ownBlock → w7.cell? ⟨ga, 5, none⟩ = some (.slice ra (kids T at_ true).length rc) ∧ w7.frozen? ⟨ga, 5, none⟩ = false := fun w7 hg7 => by
    have hb7 : w7.heap[ga]? = w6.heap[ga]? := hg7.block ga (Array.getElem?_eq_some_iff.1 hblk6).1 (fun e => hneb e.symm)
    refine ⟨?_, by simp [World.frozen?, hb7, hblk6]⟩
    rw [← hcb]
    exact World.cell?_of_block hb7
  clear hfin hgs hown hpp hcr hidc hgc6 hgc5 hT6 ht6 hb5 hPM5 hX5 hPM6 hg6 hg56 hRv hblk6 s0 s1 s2 hrun' hA5 hkl
  generalize (kids T at_ true).length = rn at *
  generalize prow (gs.take (aheadOf (kids T at_ true) id) ++ [gc] ++ gs.drop (aheadOf (kids T at_ true) id)) = xr at *
  go_upto_region 12 with fail
  go_region_with (first
    | (go_at_call 33; refine hAm.mono ?_; rintro e w7 ⟨q, cq, rfl, ho7, hg7, hq7⟩; obtain ⟨ck7, fz7⟩ := hS7 w7 hg7))
  all_goals
    (go_wp2
     go_ret
     obtain ⟨G', R', r1, r2⟩ := HFIN.out w7 q cq ho7 hg7 hq7
     exact ⟨rfl, G', R', r1, r2⟩)

set_option maxRecDepth 100000 in
set_option maxHeartbeats 4000000 in
theorem ins_root (t : Nat) (T : List Cr) (G : Dt → Option Nat) (R : Dt → Bool → Value) (id at_ : Dt) (ch : Int) (w : World) (h : TX w t T G G T.length R) (hid0 : Dw id) (hat : Dw at_) (hm : mayI id at_ 1 = true) (hf : ¬ ∃ c ∈ T, c.id = id) (hn : T.length ≤ 100000) (h0 : at_ = (0, 0)) :
    Calls Try.prog 12 #[.pointer (some ⟨t, 0, none⟩), dv id, dv at_, .int .i64 1, .int .i64 ch] w fun e w' => e = .returned (.int .i64 0) ∧ ∃ G' R', TX w' t (T ++ [⟨id, at_, true, ch, true⟩]) G' G' (T.length + 1) R' ∧ FrW t w w' := by
  have mixed := mixed
  obtain ⟨k0, k1, k2, k3, hA⟩ := two_dots w id at_
  obtain ⟨W, hW⟩ : ∃ W, W = (w.alloc (.cells #[.int .i64 id.1, .int .i64 id.2] 24)).alloc (.cells #[.int .i64 at_.1, .int .i64 at_.2] 24) := ⟨_, rfl⟩
  rw [← hW] at k0 k1 k2 k3 hA
  have hWl : w.heap.size + 1 < W.heap.size := by rw [hW]; simp
  have hnz : id ≠ (0, 0) := by
    intro e
    rw [e] at hm
    simp [mayI] at hm
  have hfr : ∀ x ∈ T, x.id ≠ id := fun x hx e => hf ⟨x, hx, e⟩
  have hg : G id = none := by
    cases e : G id with
    | none => rfl
    | some g => exact absurd ((h.gd id hid0).1 (by rw [e]; rfl)) hf
  have hnd : nodes T at_ := Or.inl h0
  have hga : Hid (aboveV t G at_ = .pointer (some ⟨t, 1, none⟩)) := hid (by unfold aboveV; rw [if_pos h0])
  have hspot : Hid (spotOf t G at_ = (t, 5)) := hid (by unfold spotOf; rw [if_pos h0])
  have H0 := hid h0
  clear h0
  have hM := fgmay_any id at_ 1 W
  rw [hm] at hM
  have hX := hid h
  obtain ⟨fm, hc, ⟨om, rfl⟩, hlk⟩ := h.found
  have htl := h.lt
  have HLK := hid hlk
  clear h hlk
  go_enter Try.func12, Try.ntmps12
  go_upto_region 1 with fail
  rw [← hW]
  clear hW
  go_upto_region 3 with (first
    | (go_at_call 31; refine hM.mono ?_; rintro e w1 ⟨rfl, hF1⟩))
  have hA1 := below2 hA hF1.below
  have x0 := (hF1.below.cell (p := ⟨w.heap.size, 0, none⟩) (by show w.heap.size < W.heap.size; omega)).trans k0
  have x1 := (hF1.below.cell (p := ⟨w.heap.size, 1, none⟩) (by show w.heap.size < W.heap.size; omega)).trans k1
  have x2 := (hF1.below.cell (p := ⟨w.heap.size + 1, 0, none⟩) (by show w.heap.size + 1 < W.heap.size; omega)).trans k2
  have x3 := (hF1.below.cell (p := ⟨w.heap.size + 1, 1, none⟩) (by show w.heap.size + 1 < W.heap.size; omega)).trans k3
  have hw1l : w.heap.size + 1 < w1.heap.size := Nat.lt_of_lt_of_le hWl hF1.below.size
  clear k0 k1 k2 k3 hM hWl hA hF1
  haveI : Nonempty (Wb w1) := ⟨⟨w1, Below.refl _ _⟩⟩
  have y0 := fun p : Wb w1 => (p.h.cell (p := ⟨w.heap.size, 0, none⟩) (by show w.heap.size < w1.heap.size; omega)).trans x0
  have y1 := fun p : Wb w1 => (p.h.cell (p := ⟨w.heap.size, 1, none⟩) (by show w.heap.size < w1.heap.size; omega)).trans x1
  have yt := fun p : Wb w1 => ((below2 hA1 p.h).cell (p := ⟨t, 0, none⟩) htl).trans hc
  have yl := fun p : Wb w1 => HLK.out p.u (below2 hA1 p.h) id hid0
  rw [hg] at yl
  have yl' : ∀ p : Wb w1, (Instr.lookup 65 (.map om) (.agg #[.int .i64 id.1, .int .i64 id.2]) false).run Try.prog p.u = .ok (.pointer none) p.u := yl
  clear yl hg
  refine wp_region_below mixed (by kernel_rfl) ?_
  repeat (go_big_quiet_step (fail))
  refine wpQuiet_nil ?_
  intro _ hw'
  obtain ⟨p, hw''⟩ := hw'
  subst hw''
  have hA2 := below2 hA1 p.h
  have z0 := (p.h.cell (p := ⟨w.heap.size, 0, none⟩) (by show w.heap.size < w1.heap.size; omega)).trans x0
  have z1 := (p.h.cell (p := ⟨w.heap.size, 1, none⟩) (by show w.heap.size < w1.heap.size; omega)).trans x1
  have z2 := (p.h.cell (p := ⟨w.heap.size + 1, 0, none⟩) (by show w.heap.size + 1 < w1.heap.size; omega)).trans x2
  have z3 := (p.h.cell (p := ⟨w.heap.size + 1, 1, none⟩) (by show w.heap.size + 1 < w1.heap.size; omega)).trans x3
  have hw2l : w.heap.size + 1 < p.u.heap.size := Nat.lt_of_lt_of_le hw1l p.h.size
  have hAb : Calls Try.prog 32 #[.pointer (some ⟨t, 0, none⟩), .agg #[.int .i64 at_.1, .int .i64 at_.2]] p.u fun e w' => e = .returned (.pointer (some ⟨t, 1, none⟩)) ∧ RowKit.Below p.u.heap.size p.u w' := by
    have := above_any t T G T.length R at_ p.u (hX.out.below hA2) hat
    rw [hga.out] at this
    exact this
  clear yl' y0 y1 yt x0 x1 x2 x3 this
  generalize p.u = w2 at *
  go_upto_region 8 with (first
    | (go_at_call 32; refine hAb.mono ?_; rintro e w3 ⟨rfl, hB3⟩))
  have hA3 := below2 hA2 hB3
  have v0 := (hB3.cell (p := ⟨w.heap.size, 0, none⟩) (by show w.heap.size < w2.heap.size; omega)).trans z0
  have v1 := (hB3.cell (p := ⟨w.heap.size, 1, none⟩) (by show w.heap.size < w2.heap.size; omega)).trans z1
  have hw3l : w.heap.size + 1 < w3.heap.size := Nat.lt_of_lt_of_le hw2l hB3.size
  have hc3 := (hA3.cell (p := ⟨t, 0, none⟩) htl).trans hc
  have hX3 := hid (hX.out.below hA3)
  clear z0 z1 z2 z3 hAb hX HLK hc
  have hfz3 : w3.frozen? ⟨t, 0, none⟩ = false := by
    obtain ⟨fm, h1, _⟩ := hX3.out.tb
    simp [World.frozen?, h1]
  cases om with
  | none =>
    have hT0 : T = [] := by
      obtain ⟨fm, h1, h2⟩ := hX3.out.tb
      rcases h2 with ⟨e, _⟩ | ⟨mb, e, _⟩
      · exact e
      · simp [World.cell?, h1, txCells, e] at hc3
    have hXn : TX w3 t [] G G 0 R := by
      have := hX3.out
      rw [hT0] at this
      exact this
    obtain ⟨m1, m2, m3, m4⟩ := hXn.mapped
    have hX4 : Hid (TX ((w3.alloc (.map #[] 0)).setCell ⟨t, 0, none⟩ (.map (some w3.heap.size))) t T G G T.length R) := hid (by rw [hT0]; exact m1)
    have hPM4 : Hid (PM ((w3.alloc (.map #[] 0)).setCell ⟨t, 0, none⟩ (.map (some w3.heap.size))) w3.heap.size T.length G) := hid (by rw [hT0]; exact m4)
    have hb4 := hid m3
    have htm : t < w3.heap.size := hXn.lt
    have HF4 := hid ((FrW.of_below hA3 : FrW t w w3).trans m2)
    have hAA : RowKit.Below w3.heap.size w3 (w3.alloc (.map #[] 0)) := ((Far.refl w3).alloc _).below
    have u0 : ((w3.alloc (.map #[] 0)).setCell ⟨t, 0, none⟩ (.map (some w3.heap.size))).cell? ⟨w.heap.size, 0, none⟩ = some (.int .i64 id.1) := (World.cell?_of_block (fset_other (by show w.heap.size ≠ t; omega) _)).trans ((hAA.cell (p := ⟨w.heap.size, 0, none⟩) (by show w.heap.size < w3.heap.size; omega)).trans v0)
    have u1 : ((w3.alloc (.map #[] 0)).setCell ⟨t, 0, none⟩ (.map (some w3.heap.size))).cell? ⟨w.heap.size, 1, none⟩ = some (.int .i64 id.2) := (World.cell?_of_block (fset_other (by show w.heap.size ≠ t; omega) _)).trans ((hAA.cell (p := ⟨w.heap.size, 1, none⟩) (by show w.heap.size < w3.heap.size; omega)).trans v1)
    have hw4l : w.heap.size + 1 < ((w3.alloc (.map #[] 0)).setCell ⟨t, 0, none⟩ (.map (some w3.heap.size))).heap.size := by
      have e : ((w3.alloc (.map #[] 0)).setCell ⟨t, 0, none⟩ (.map (some w3.heap.size))).heap.size = w3.heap.size + 1 := by simp [World.setCell]
      omega
    have hmn := map_none
    have hmk := @run_makeMap Try.prog
    clear m1 m2 m3 m4 hXn hX3 v0 v1 hA3 hA2 hA1 hB3 hAA hT0
    go_upto_region 10 with fail
    have hcm : (w3.alloc (.map #[] 0)).setCell ⟨t, 0, none⟩ (.map (some w3.heap.size)) = (w3.setCell ⟨t, 0, none⟩ (.map (some w3.heap.size))).alloc (.map #[] 0) := by go_simp
    rw [← hcm]
    clear hcm
    generalize (w3.alloc (.map #[] 0)).setCell ⟨t, 0, none⟩ (.map (some w3.heap.size)) = w4 at *
    clear hc3 hfz3 hmk hmn hw3l hw2l hw1l
    generalize w3.heap.size = mb at *
    go_upto_region 11 with fail
    have hA5 : RowKit.Below w4.heap.size w4 (w4.alloc (.cells #[.int .i64 id.1, .int .i64 id.2, .int .i64 ch, .bool true, .slice none 0 0, .slice none 0 0] 69)) := ((Far.refl w4).alloc _).below
    have hgc5 : (w4.alloc (.cells #[.int .i64 id.1, .int .i64 id.2, .int .i64 ch, .bool true, .slice none 0 0, .slice none 0 0] 69)).heap[w4.heap.size]? = some (.cells ((⟨id, at_, true, ch, true⟩ : Cr).cells (.slice none 0 0) (.slice none 0 0)) 69 (0, 0)) := (MapKept.heap_alloc w4 _).1
    generalize w4.alloc (.cells #[.int .i64 id.1, .int .i64 id.2, .int .i64 ch, .bool true, .slice none 0 0, .slice none 0 0] 69) = w5 at *
    obtain ⟨gc, hgce⟩ : ∃ gc, w4.heap.size = gc := ⟨_, rfl⟩
    have htgc : t < gc := by have := hX4.out.lt; omega
    have hmb5 : mb < w5.heap.size := Nat.lt_of_lt_of_le hPM4.out.lt hA5.size
    rw [hgce] at hgc5 ⊢
    have hX5 := hid (hX4.out.below hA5)
    have hPM5 : PM w5 mb T.length G := hPM4.out.same (hA5.block _ hPM4.out.lt)
    have hb5 := (hA5.block t hX4.out.lt).trans hb4.out
    have s0 := (hA5.cell (p := ⟨w.heap.size, 0, none⟩) (by show w.heap.size < w4.heap.size; omega)).trans u0
    have s1 := (hA5.cell (p := ⟨w.heap.size, 1, none⟩) (by show w.heap.size < w4.heap.size; omega)).trans u1
    have s2 : w5.cell? ⟨t, 0, none⟩ = some (.map (some mb)) := by simp [World.cell?, hb5, txCells]
    obtain ⟨w6, hrun, hPM6, hg6⟩ := (hPM5.same (w' := w5.drew) rfl).put hid0 gc (by unfold maxLen; omega)
    have hrun' : (Instr.mapUpdate 65 (.map (some mb)) (.agg #[.int .i64 id.1, .int .i64 id.2]) (.pointer (some ⟨gc, 0, none⟩))).run Try.prog w5.drew = .ok () w6 := hrun
    clear hrun
    go_region
    have hg56 := (grownBy_drew1 w5 (some mb)).trans hg6
    obtain ⟨hT6, ht6⟩ := hX5.out.told hb5 htm hPM5 hg56 hPM6
    have hgcm : gc ≠ mb := by have := hPM4.out.lt; omega
    have hgc6 := (hg56.block gc (Array.getElem?_eq_some_iff.1 hgc5).1 (fun e => hgcm (by simpa using e))).trans hgc5
    obtain ⟨gs, hgs, hown⟩ := hT6.rows at_ true hnd
    obtain ⟨ra, rc, hRv, hpp⟩ := own_pp hown
    have hcr := hT6.cr hgs
    obtain ⟨fm6, hblk6, _⟩ := hT6.tb
    rw [← H0.out] at hblk6
    have hcb : w6.drew.cell? ⟨t, 6, none⟩ = some (.slice ra (kids T at_ true).length rc) := by
      rw [← hRv]
      show w6.cell? ⟨t, 6, none⟩ = _
      simp [World.cell?, hblk6, txCells]
    have hneb : (R at_ true).ownBlock ≠ some t := fun e => by
      obtain ⟨cur, hc⟩ := own_block hown e
      rw [hblk6] at hc
      simp at hc
    have hidc : IdAt w6.drew gc id := ⟨by show w6.cell? _ = _; simp [World.cell?, hgc6, Cr.cells], by show w6.cell? _ = _; simp [World.cell?, hgc6, Cr.cells]⟩
    have hkl := kids_len T at_ true
    have hsz6 : t ≤ w6.drew.heap.size := Nat.le_of_lt hT6.lt
    have hAm := among_any t (R at_ true) (kids T at_ true).length gs (kids T at_ true) gc id w6.drew hown (hcr.below ((Far.refl w6).drew).below) hidc (by omega) hsz6 (kids_up T at_ true)
    rw [hRv] at hAm hneb
    have hfin : ∀ (w7 : World) (q cq : Nat), w7.ownsRow t 72 1 (.slice (some ⟨q, 0, none⟩) ((kids T at_ true).length + 1) cq) ((kids T at_ true).length + 1) (prow (gs.take (aheadOf (kids T at_ true) id) ++ [gc] ++ gs.drop (aheadOf (kids T at_ true) id))) → w6.drew.grownBy w7 (Value.slice ra (kids T at_ true).length rc).ownBlock → ((Value.slice ra (kids T at_ true).length rc).ownBlock = some q ∨ w6.drew.heap.size ≤ q) →
        ∃ G' R', TX (w7.setCell ⟨t, 6, none⟩ (.slice (some ⟨q, 0, none⟩) ((kids T at_ true).length + 1) cq)) t (T ++ [⟨id, at_, true, ch, true⟩]) G' G' (T.length + 1) R' ∧ FrW t w (w7.setCell ⟨t, 6, none⟩ (.slice (some ⟨q, 0, none⟩) ((kids T at_ true).length + 1) cq)) := fun w7 q cq ho7 hg7 hq7 => by
      rw [← hRv] at hg7 hq7
      have hg67 := (grownBy_drew1 w6 (R at_ true).ownBlock).trans hg7
      have hf := TX.more (c := ⟨id, at_, true, ch, true⟩) hT6 hnz hid0 hfr hnd (fun _ => rfl) ⟨_, mb, ht6.trans hb5, rfl, htm, hPM6⟩ hgc6 htgc hgs hg67 ho7 rfl hq7
      have hsp : spotOf t G (Cr.at_ ⟨id, at_, true, ch, true⟩) = (t, 5) := hspot.out
      rw [hsp] at hf
      refine ⟨_, _, hf, ?_⟩
      have f1 : FrW t w4 w5 := FrW.of_below hA5
      have f2 : FrW t w5 w6 := FrW.of_grown hg56 (fun k hk => by
        cases hk
        refine ⟨Nat.le_of_lt htm, fun cs ty hc => ?_⟩
        obtain ⟨D, ⟨es, clock, h1, _⟩, _⟩ := hPM5
        rw [h1] at hc
        cases hc)
      have f3 : FrW t w6 w7 := FrW.of_grown hg67 (fun k hk => by
        refine ⟨(World.ownsRow.lt hown k hk).1, fun cs ty hc => ?_⟩
        obtain ⟨cur, hc'⟩ := own_block hown hk
        rw [hc'] at hc
        simp at hc
        exact Or.inr (Or.inr hc.2.symm))
      have hb7 : w7.heap[t]? = w6.heap[t]? := hg67.block t (Array.getElem?_eq_some_iff.1 hblk6).1 (fun e => by
        obtain ⟨cur, hc⟩ := own_block hown e.symm
        rw [hblk6] at hc
        simp at hc)
      have f4 : FrW t w7 (w7.setCell ⟨t, 6, none⟩ (.slice (some ⟨q, 0, none⟩) ((kids T at_ true).length + 1) cq)) := FrW.of_grown (fgrown_set _ _ _ _) (fun k hk => by
        cases hk
        refine ⟨Nat.le_refl _, fun cs ty hc => ?_⟩
        rw [hb7, hblk6] at hc
        simp at hc
        exact Or.inr (Or.inl hc.2.symm))
      exact (((HF4.out.trans f1).trans f2).trans f3).trans f4
    have HFIN := hid hfin
    have hS7 : ∀ w7, w6.drew.grownBy w7 (Value.slice ra (kids T at_ true).length rc).ownBlock → w7.cell? ⟨t, 6, none⟩ = some (.slice ra (kids T at_ true).length rc) ∧ w7.frozen? ⟨t, 6, none⟩ = false := fun w7 hg7 => by
      have hb7 : w7.heap[t]? = w6.heap[t]? := hg7.block t (Array.getElem?_eq_some_iff.1 hblk6).1 (fun e => hneb e.symm)
      refine ⟨?_, by simp [World.frozen?, hb7, hblk6]⟩
      rw [← hcb]
      exact World.cell?_of_block hb7
    clear hfin hgs hown hpp hcr hidc hgc6 hgc5 hT6 ht6 hb5 hPM5 hX5 hPM6 hg6 hg56 hRv hblk6 s0 s1 s2 hrun' hA5 hkl
    generalize (kids T at_ true).length = rn at *
    generalize prow (gs.take (aheadOf (kids T at_ true) id) ++ [gc] ++ gs.drop (aheadOf (kids T at_ true) id)) = xr at *
    go_upto_region 12 with fail
    go_region_with (first
      | (go_at_call 33; refine hAm.mono ?_; rintro e w7 ⟨q, cq, rfl, ho7, hg7, hq7⟩; obtain ⟨ck7, fz7⟩ := hS7 w7 hg7))
    all_goals
      (go_wp2
       go_ret
       obtain ⟨G', R', r1, r2⟩ := HFIN.out w7 q cq ho7 hg7 hq7
       exact ⟨rfl, G', R', r1, r2⟩)
  | some mb =>
    obtain ⟨htm, hPM3, hb3⟩ : t < mb ∧ PM w3 mb T.length G ∧ w3.heap[t]? = some (.cells (txCells (.map (some mb)) (R (0, 0) false) (R (0, 0) true)) 71 (0, 0)) := by
      obtain ⟨fm, h1, h2⟩ := hX3.out.tb
      have hfm : fm = .map (some mb) := by
        have := hc3
        simp [World.cell?, h1, txCells] at this
        exact this
      rcases h2 with ⟨_, e⟩ | ⟨mb', e, k1, k2⟩
      · rw [hfm] at e
        cases e
      · rw [hfm] at e
        simp at e
        subst e
        exact ⟨k1, k2, by rw [h1, hfm]⟩
    have hX4 := hX3
    have hPM4 := hid hPM3
    have hb4 := hid hb3
    have u0 := v0
    have u1 := v1
    have HF4 : Hid (FrW t w w3) := hid (FrW.of_below hA3)
    have hw4l := hw3l
    clear hX3 hPM3 hb3 v0 v1 hw3l hA3 hA2 hA1 hB3
    have hmn := map_some mb
    generalize w3 = w4 at *
    go_upto_region 11 with fail
    have hA5 : RowKit.Below w4.heap.size w4 (w4.alloc (.cells #[.int .i64 id.1, .int .i64 id.2, .int .i64 ch, .bool true, .slice none 0 0, .slice none 0 0] 69)) := ((Far.refl w4).alloc _).below
    have hgc5 : (w4.alloc (.cells #[.int .i64 id.1, .int .i64 id.2, .int .i64 ch, .bool true, .slice none 0 0, .slice none 0 0] 69)).heap[w4.heap.size]? = some (.cells ((⟨id, at_, true, ch, true⟩ : Cr).cells (.slice none 0 0) (.slice none 0 0)) 69 (0, 0)) := (MapKept.heap_alloc w4 _).1
    generalize w4.alloc (.cells #[.int .i64 id.1, .int .i64 id.2, .int .i64 ch, .bool true, .slice none 0 0, .slice none 0 0] 69) = w5 at *
    obtain ⟨gc, hgce⟩ : ∃ gc, w4.heap.size = gc := ⟨_, rfl⟩
    have htgc : t < gc := by have := hX4.out.lt; omega
    have hmb5 : mb < w5.heap.size := Nat.lt_of_lt_of_le hPM4.out.lt hA5.size
    rw [hgce] at hgc5 ⊢
    have hX5 := hid (hX4.out.below hA5)
    have hPM5 : PM w5 mb T.length G := hPM4.out.same (hA5.block _ hPM4.out.lt)
    have hb5 := (hA5.block t hX4.out.lt).trans hb4.out
    have s0 := (hA5.cell (p := ⟨w.heap.size, 0, none⟩) (by show w.heap.size < w4.heap.size; omega)).trans u0
    have s1 := (hA5.cell (p := ⟨w.heap.size, 1, none⟩) (by show w.heap.size < w4.heap.size; omega)).trans u1
    have s2 : w5.cell? ⟨t, 0, none⟩ = some (.map (some mb)) := by simp [World.cell?, hb5, txCells]
    obtain ⟨w6, hrun, hPM6, hg6⟩ := (hPM5.same (w' := w5.drew) rfl).put hid0 gc (by unfold maxLen; omega)
    have hrun' : (Instr.mapUpdate 65 (.map (some mb)) (.agg #[.int .i64 id.1, .int .i64 id.2]) (.pointer (some ⟨gc, 0, none⟩))).run Try.prog w5.drew = .ok () w6 := hrun
    clear hrun
    go_region
    have hg56 := (grownBy_drew1 w5 (some mb)).trans hg6
    obtain ⟨hT6, ht6⟩ := hX5.out.told hb5 htm hPM5 hg56 hPM6
    have hgcm : gc ≠ mb := by have := hPM4.out.lt; omega
    have hgc6 := (hg56.block gc (Array.getElem?_eq_some_iff.1 hgc5).1 (fun e => hgcm (by simpa using e))).trans hgc5
    obtain ⟨gs, hgs, hown⟩ := hT6.rows at_ true hnd
    obtain ⟨ra, rc, hRv, hpp⟩ := own_pp hown
    have hcr := hT6.cr hgs
    obtain ⟨fm6, hblk6, _⟩ := hT6.tb
    rw [← H0.out] at hblk6
    have hcb : w6.drew.cell? ⟨t, 6, none⟩ = some (.slice ra (kids T at_ true).length rc) := by
      rw [← hRv]
      show w6.cell? ⟨t, 6, none⟩ = _
      simp [World.cell?, hblk6, txCells]
    have hneb : (R at_ true).ownBlock ≠ some t := fun e => by
      obtain ⟨cur, hc⟩ := own_block hown e
      rw [hblk6] at hc
      simp at hc
    have hidc : IdAt w6.drew gc id := ⟨by show w6.cell? _ = _; simp [World.cell?, hgc6, Cr.cells], by show w6.cell? _ = _; simp [World.cell?, hgc6, Cr.cells]⟩
    have hkl := kids_len T at_ true
    have hsz6 : t ≤ w6.drew.heap.size := Nat.le_of_lt hT6.lt
    have hAm := among_any t (R at_ true) (kids T at_ true).length gs (kids T at_ true) gc id w6.drew hown (hcr.below ((Far.refl w6).drew).below) hidc (by omega) hsz6 (kids_up T at_ true)
    rw [hRv] at hAm hneb
    have hfin : ∀ (w7 : World) (q cq : Nat), w7.ownsRow t 72 1 (.slice (some ⟨q, 0, none⟩) ((kids T at_ true).length + 1) cq) ((kids T at_ true).length + 1) (prow (gs.take (aheadOf (kids T at_ true) id) ++ [gc] ++ gs.drop (aheadOf (kids T at_ true) id))) → w6.drew.grownBy w7 (Value.slice ra (kids T at_ true).length rc).ownBlock → ((Value.slice ra (kids T at_ true).length rc).ownBlock = some q ∨ w6.drew.heap.size ≤ q) →
        ∃ G' R', TX (w7.setCell ⟨t, 6, none⟩ (.slice (some ⟨q, 0, none⟩) ((kids T at_ true).length + 1) cq)) t (T ++ [⟨id, at_, true, ch, true⟩]) G' G' (T.length + 1) R' ∧ FrW t w (w7.setCell ⟨t, 6, none⟩ (.slice (some ⟨q, 0, none⟩) ((kids T at_ true).length + 1) cq)) := fun w7 q cq ho7 hg7 hq7 => by
      rw [← hRv] at hg7 hq7
      have hg67 := (grownBy_drew1 w6 (R at_ true).ownBlock).trans hg7
      have hf := TX.more (c := ⟨id, at_, true, ch, true⟩) hT6 hnz hid0 hfr hnd (fun _ => rfl) ⟨_, mb, ht6.trans hb5, rfl, htm, hPM6⟩ hgc6 htgc hgs hg67 ho7 rfl hq7
      have hsp : spotOf t G (Cr.at_ ⟨id, at_, true, ch, true⟩) = (t, 5) := hspot.out
      rw [hsp] at hf
      refine ⟨_, _, hf, ?_⟩
      have f1 : FrW t w4 w5 := FrW.of_below hA5
      have f2 : FrW t w5 w6 := FrW.of_grown hg56 (fun k hk => by
        cases hk
        refine ⟨Nat.le_of_lt htm, fun cs ty hc => ?_⟩
        obtain ⟨D, ⟨es, clock, h1, _⟩, _⟩ := hPM5
        rw [h1] at hc
        cases hc)
      have f3 : FrW t w6 w7 := FrW.of_grown hg67 (fun k hk => by
        refine ⟨(World.ownsRow.lt hown k hk).1, fun cs ty hc => ?_⟩
        obtain ⟨cur, hc'⟩ := own_block hown hk
        rw [hc'] at hc
        simp at hc
        exact Or.inr (Or.inr hc.2.symm))
      have hb7 : w7.heap[t]? = w6.heap[t]? := hg67.block t (Array.getElem?_eq_some_iff.1 hblk6).1 (fun e => by
        obtain ⟨cur, hc⟩ := own_block hown e.symm
        rw [hblk6] at hc
        simp at hc)
      have f4 : FrW t w7 (w7.setCell ⟨t, 6, none⟩ (.slice (some ⟨q, 0, none⟩) ((kids T at_ true).length + 1) cq)) := FrW.of_grown (fgrown_set _ _ _ _) (fun k hk => by
        cases hk
        refine ⟨Nat.le_refl _, fun cs ty hc => ?_⟩
        rw [hb7, hblk6] at hc
        simp at hc
        exact Or.inr (Or.inl hc.2.symm))
      exact (((HF4.out.trans f1).trans f2).trans f3).trans f4
    have HFIN := hid hfin
    have hS7 : ∀ w7, w6.drew.grownBy w7 (Value.slice ra (kids T at_ true).length rc).ownBlock → w7.cell? ⟨t, 6, none⟩ = some (.slice ra (kids T at_ true).length rc) ∧ w7.frozen? ⟨t, 6, none⟩ = false := fun w7 hg7 => by
      have hb7 : w7.heap[t]? = w6.heap[t]? := hg7.block t (Array.getElem?_eq_some_iff.1 hblk6).1 (fun e => hneb e.symm)
      refine ⟨?_, by simp [World.frozen?, hb7, hblk6]⟩
      rw [← hcb]
      exact World.cell?_of_block hb7
    clear hfin hgs hown hpp hcr hidc hgc6 hgc5 hT6 ht6 hb5 hPM5 hX5 hPM6 hg6 hg56 hRv hblk6 s0 s1 s2 hrun' hA5 hkl
    generalize (kids T at_ true).length = rn at *
    generalize prow (gs.take (aheadOf (kids T at_ true) id) ++ [gc] ++ gs.drop (aheadOf (kids T at_ true) id)) = xr at *
    go_upto_region 12 with fail
    go_region_with (first
      | (go_at_call 33; refine hAm.mono ?_; rintro e w7 ⟨q, cq, rfl, ho7, hg7, hq7⟩; obtain ⟨ck7, fz7⟩ := hS7 w7 hg7))
    all_goals
      (go_wp2
       go_ret
       obtain ⟨G', R', r1, r2⟩ := HFIN.out w7 q cq ho7 hg7 hq7
       exact ⟨rfl, G', R', r1, r2⟩)

end

section
set_option linter.unusedVariables false
open Go.RowKit Go.Maps
open Go.Sort (grow)

/-- One is taken out of sight. -/
def hide (T : List Cr) (d : Dt) : List Cr := T.map (fun c => if c.id = d then { c with seen := false } else c)

theorem hide_mem {T : List Cr} {d : Dt} {c : Cr} (h : c ∈ hide T d) : ∃ x ∈ T, x.id = c.id ∧ x.at_ = c.at_ ∧ x.sd = c.sd ∧ x.ch = c.ch ∧ c.seen = (if x.id = d then false else x.seen) := by
  obtain ⟨x, hx, rfl⟩ := List.mem_map.1 h
  refine ⟨x, hx, ?_⟩
  by_cases e : x.id = d
  · simp [e]
  · simp [e]

theorem hide_ids (T : List Cr) (d : Dt) : (hide T d).map Cr.id = T.map Cr.id := by
  unfold hide
  rw [List.map_map]
  refine List.map_congr_left (fun c _ => ?_)
  by_cases e : c.id = d <;> simp [e]

theorem hide_kids (T : List Cr) (d k : Dt) (s : Bool) : kids (hide T d) k s = kids T k s := by
  refine up_ext (kids_up _ _ _) (kids_up _ _ _) (fun x => ?_)
  rw [mem_kids, mem_kids]
  constructor
  · rintro ⟨c, hc, h1, h2, h3⟩
    obtain ⟨y, hy, e1, e2, e3, _⟩ := hide_mem hc
    exact ⟨y, hy, by rw [e2, h1], by rw [e3, h2], by rw [e1, h3]⟩
  · rintro ⟨c, hc, h1, h2, h3⟩
    refine ⟨_, List.mem_map.2 ⟨c, hc, rfl⟩, ?_⟩
    by_cases e : c.id = d <;> simp [e, h1, h2] <;> simp [← h3, e]

theorem hide_nodes (T : List Cr) (d k : Dt) : nodes (hide T d) k ↔ nodes T k := by
  unfold nodes
  constructor
  · rintro (h | ⟨c, hc, e⟩)
    · exact Or.inl h
    · obtain ⟨y, hy, e1, _⟩ := hide_mem hc
      exact Or.inr ⟨y, hy, by rw [e1, e]⟩
  · rintro (h | ⟨c, hc, e⟩)
    · exact Or.inl h
    · refine Or.inr ⟨_, List.mem_map.2 ⟨c, hc, rfl⟩, ?_⟩
      by_cases e' : c.id = d
      · rw [if_pos e']
        exact e
      · rw [if_neg e']
        exact e

theorem hide_take (T : List Cr) (d : Dt) (i : Nat) : (hide T d).take i = hide (T.take i) d := by
  unfold hide
  rw [List.map_take]

theorem WT.hide {T : List Cr} (h : WT T) (d : Dt) : WT (hide T d) := by
  refine ⟨by rw [hide_ids]; exact h.ids, fun c hc => ?_, fun c hc => ?_, fun i c hc => ?_, fun c hc h0 => ?_⟩
  · obtain ⟨y, hy, e1, _⟩ := hide_mem hc
    rw [← e1]; exact h.nz y hy
  · obtain ⟨y, hy, e1, _⟩ := hide_mem hc
    rw [← e1]; exact h.dw y hy
  · rw [hide_take, hide_nodes]
    unfold Proofs.Ytbpepmajpojacaa.hide at hc
    rw [List.getElem?_map] at hc
    obtain ⟨x, hx, rfl⟩ := Option.map_eq_some_iff.1 hc
    have := h.under i x hx
    by_cases e : x.id = d <;> simp [e, this]
  · obtain ⟨y, hy, _, e2, e3, _⟩ := hide_mem hc
    rw [← e3]; exact h.root y hy (by rw [e2, h0])

/-- A text with one taken out of sight. -/
theorem TX.hide {w : World} {t : Nat} {T : List Cr} {G M : Dt → Option Nat} {n : Nat} {R : Dt → Bool → Value} (h : TX w t T G M n R) {d : Dt} {g : Nat} (hd : Dw d) (hg : G d = some g) : TX (w.setCell ⟨g, 3, none⟩ (.bool false)) t (hide T d) G M n R ∧ FrW t w (w.setCell ⟨g, 3, none⟩ (.bool false)) := by
  obtain ⟨c0, hc0, e0⟩ := (h.gd d hd).1 (by rw [hg]; rfl)
  obtain ⟨g0, k1, k2, k3⟩ := h.ch c0 hc0
  rw [e0, hg] at k1
  cases k1
  have hrow : ∀ {v : Value} {k : Nat} {xs : List Value}, w.ownsRow t 72 1 v k xs → (w.setCell ⟨g, 3, none⟩ (.bool false)).ownsRow t 72 1 v k xs := fun {v k xs} hv => by
    refine World.ownsRow.kept hv (fgrown_set _ _ _ _) ?_
    cases hb : v.ownBlock with
    | none => exact Or.inl rfl
    | some b =>
      right
      intro e
      cases e
      obtain ⟨cur, hc⟩ := own_block hv hb
      rw [k3] at hc
      simp at hc
  refine ⟨⟨h.wt.hide d, ?_, fun e he => ?_, fun c hc => ?_, fun k s hk => ?_, fun k s k' s' hk hk' => ?_⟩, ?_⟩
  · obtain ⟨fm, h1, h2⟩ := h.tb
    refine ⟨fm, (fset_other (by omega) _).trans h1, ?_⟩
    rcases h2 with ⟨e, _⟩ | ⟨mb, e, hm, hp⟩
    · rw [e] at hc0
      simp at hc0
    · refine Or.inr ⟨mb, e, hm, hp.same (fset_other (fun e' => ?_) _)⟩
      obtain ⟨D, ⟨es, clock, h5, _⟩, _⟩ := hp
      rw [e', k3] at h5
      cases h5
  · rw [h.gd e he]
    constructor
    · rintro ⟨c, hc, e1⟩
      have : e ∈ (Proofs.Ytbpepmajpojacaa.hide T d).map Cr.id := by rw [hide_ids]; exact List.mem_map.2 ⟨c, hc, e1⟩
      obtain ⟨x, hx, e2⟩ := List.mem_map.1 this
      exact ⟨x, hx, e2⟩
    · rintro ⟨c, hc, e1⟩
      obtain ⟨y, hy, e2, _⟩ := hide_mem hc
      exact ⟨y, hy, by rw [e2, e1]⟩
  · obtain ⟨x, hx, e1, _, _, e4, e5⟩ := hide_mem hc
    obtain ⟨gx, x1, x2, x3⟩ := h.ch x hx
    rw [← e1]
    refine ⟨gx, x1, x2, ?_⟩
    by_cases hxd : x.id = d
    · have : gx = g := by rw [hxd, hg] at x1; simpa using x1.symm
      subst this
      rw [fset_block x3]
      have : c.seen = false := by rw [e5, if_pos hxd]
      simp [Cr.cells, ← e1, e4, this]
    · have hne : gx ≠ g := fun e => by
        rw [e] at x1
        exact hxd (by rw [← e0]; exact h.inj hx hc0 x1 (by rw [e0]; exact hg))
      rw [fset_other hne, x3]
      have : c.seen = x.seen := by rw [e5, if_neg hxd]
      simp [Cr.cells, ← e1, e4, this]
  · rw [hide_kids]
    obtain ⟨gs, q1, q2⟩ := h.rows k s ((hide_nodes T d k).1 hk)
    exact ⟨gs, q1, hrow q2⟩
  · exact h.apart k s k' s' ((hide_nodes T d k).1 hk) ((hide_nodes T d k').1 hk')
  · refine FrW.of_grown (fgrown_set _ _ _ _) (fun k hk => ?_)
    cases hk
    refine ⟨Nat.le_of_lt k2, fun cs ty hc => ?_⟩
    rw [k3] at hc
    simp at hc
    exact Or.inl hc.2.symm

set_option maxRecDepth 100000 in
set_option maxHeartbeats 4000000 in
theorem del_no (t : Nat) (T : List Cr) (G : Dt → Option Nat) (n : Nat) (R : Dt → Bool → Value) (d : Dt) (w : World) (h : TX w t T G G n R) (hd : Dw d) (hg : G d = none) :
    Calls Try.prog 10 #[.pointer (some ⟨t, 0, none⟩), dv d] w fun e w' => e = .returned (.int .i64 41) ∧ RowKit.Below w.heap.size w w' := by
  have mixed := mixed
  obtain ⟨fm, hc, ⟨om, rfl⟩, hlk⟩ := h.found
  have htl := h.lt
  have hX := hid h
  have hA : RowKit.Below w.heap.size w (w.alloc (.cells #[.int .i64 d.1, .int .i64 d.2] 24)) := ((Far.refl w).alloc _).below
  obtain ⟨W, hW⟩ : ∃ W, W = w.alloc (.cells #[.int .i64 d.1, .int .i64 d.2] 24) := ⟨_, rfl⟩
  have k0 : W.cell? ⟨w.heap.size, 0, none⟩ = some (.int .i64 d.1) := by rw [hW]; go_simp
  have k1 : W.cell? ⟨w.heap.size, 1, none⟩ = some (.int .i64 d.2) := by rw [hW]; go_simp
  rw [← hW] at hA
  have hwl : w.heap.size < W.heap.size := by rw [hW]; simp
  haveI : Nonempty (Wb W) := ⟨⟨W, Below.refl _ _⟩⟩
  have y0 := fun p : Wb W => (p.h.cell (p := ⟨w.heap.size, 0, none⟩) hwl).trans k0
  have y1 := fun p : Wb W => (p.h.cell (p := ⟨w.heap.size, 1, none⟩) hwl).trans k1
  have yt := fun p : Wb W => ((below2 hA p.h).cell (p := ⟨t, 0, none⟩) htl).trans hc
  have yl := fun p : Wb W => hlk p.u (below2 hA p.h) d hd
  rw [hg] at yl
  have yl' : ∀ p : Wb W, (Instr.lookup 65 (.map om) (.agg #[.int .i64 d.1, .int .i64 d.2]) false).run Try.prog p.u = .ok (.pointer none) p.u := yl
  clear hlk h yl
  go_enter Try.func10, Try.ntmps10
  go_upto_region 3 with fail
  rw [← hW]
  clear hW
  refine wp_region_below mixed (by kernel_rfl) ?_
  repeat (go_big_quiet_step (fail))
  refine wpQuiet_nil ?_
  intro _ hw'
  obtain ⟨p, hw''⟩ := hw'
  subst hw''
  have hB := below2 hA p.h
  go_wp2
  go_ret
  exact ⟨rfl, hB⟩

set_option maxRecDepth 100000 in
set_option maxHeartbeats 4000000 in
theorem del_any (t : Nat) (T : List Cr) (G : Dt → Option Nat) (n : Nat) (R : Dt → Bool → Value) (d : Dt) (w : World) (h : TX w t T G G n R) (hd : Dw d) (g : Nat) (hg : G d = some g) :
    Calls Try.prog 10 #[.pointer (some ⟨t, 0, none⟩), dv d] w fun e w' => e = .returned (.int .i64 0) ∧ TX w' t (hide T d) G G n R ∧ FrW t w w' := by
  have mixed := mixed
  obtain ⟨fm, hc, ⟨om, rfl⟩, hlk⟩ := h.found
  have htl := h.lt
  have hX := hid h
  have hA : RowKit.Below w.heap.size w (w.alloc (.cells #[.int .i64 d.1, .int .i64 d.2] 24)) := ((Far.refl w).alloc _).below
  obtain ⟨W, hW⟩ : ∃ W, W = w.alloc (.cells #[.int .i64 d.1, .int .i64 d.2] 24) := ⟨_, rfl⟩
  have k0 : W.cell? ⟨w.heap.size, 0, none⟩ = some (.int .i64 d.1) := by rw [hW]; go_simp
  have k1 : W.cell? ⟨w.heap.size, 1, none⟩ = some (.int .i64 d.2) := by rw [hW]; go_simp
  rw [← hW] at hA
  have hwl : w.heap.size < W.heap.size := by rw [hW]; simp
  haveI : Nonempty (Wb W) := ⟨⟨W, Below.refl _ _⟩⟩
  have y0 := fun p : Wb W => (p.h.cell (p := ⟨w.heap.size, 0, none⟩) hwl).trans k0
  have y1 := fun p : Wb W => (p.h.cell (p := ⟨w.heap.size, 1, none⟩) hwl).trans k1
  have yt := fun p : Wb W => ((below2 hA p.h).cell (p := ⟨t, 0, none⟩) htl).trans hc
  have yl := fun p : Wb W => hlk p.u (below2 hA p.h) d hd
  rw [hg] at yl
  have yl' : ∀ p : Wb W, (Instr.lookup 65 (.map om) (.agg #[.int .i64 d.1, .int .i64 d.2]) false).run Try.prog p.u = .ok (.pointer (some ⟨g, 0, none⟩)) p.u := yl
  clear hlk h yl
  go_enter Try.func10, Try.ntmps10
  go_upto_region 3 with fail
  rw [← hW]
  clear hW
  refine wp_region_below mixed (by kernel_rfl) ?_
  repeat (go_big_quiet_step (fail))
  refine wpQuiet_nil ?_
  intro _ hw'
  obtain ⟨p, hw''⟩ := hw'
  subst hw''
  have hB := below2 hA p.h
  have hX2 := hX.out.below hB
  obtain ⟨r1, r2⟩ := hX2.hide hd hg
  obtain ⟨c0, hc0, e0⟩ := (hX2.gd d hd).1 (by rw [hg]; rfl)
  obtain ⟨g0, q1, q2, q3⟩ := hX2.ch c0 hc0
  rw [e0, hg] at q1
  obtain rfl : g = g0 := by simpa using q1
  have hcl : p.u.cell? ⟨g, 3, none⟩ = some (.bool c0.seen) := by simp [World.cell?, q3, Cr.cells]
  have hfz : p.u.frozen? ⟨g, 3, none⟩ = false := by simp [World.frozen?, q3]
  have HR1 := hid r1
  have HR2 := hid ((FrW.of_below hB : FrW t w p.u).trans r2)
  clear r1 r2 q1 q2 q3 hX2 e0 hg
  go_wp2
  go_ret
  exact ⟨rfl, HR1.out, HR2.out⟩

set_option maxRecDepth 100000 in
set_option maxHeartbeats 4000000 in
theorem seen_no (t : Nat) (T : List Cr) (G : Dt → Option Nat) (n : Nat) (R : Dt → Bool → Value) (d : Dt) (w : World) (h : TX w t T G G n R) (hd : Dw d) (hg : G d = none) :
    Calls Try.prog 17 #[.pointer (some ⟨t, 0, none⟩), dv d] w fun e w' => e = .returned (.bool false) ∧ RowKit.Below w.heap.size w w' := by
  have mixed := mixed
  obtain ⟨fm, hc, ⟨om, rfl⟩, hlk⟩ := h.found
  have htl := h.lt
  have hX := hid h
  have hA : RowKit.Below w.heap.size w (w.alloc (.cells #[.int .i64 d.1, .int .i64 d.2] 24)) := ((Far.refl w).alloc _).below
  obtain ⟨W, hW⟩ : ∃ W, W = w.alloc (.cells #[.int .i64 d.1, .int .i64 d.2] 24) := ⟨_, rfl⟩
  have k0 : W.cell? ⟨w.heap.size, 0, none⟩ = some (.int .i64 d.1) := by rw [hW]; go_simp
  have k1 : W.cell? ⟨w.heap.size, 1, none⟩ = some (.int .i64 d.2) := by rw [hW]; go_simp
  rw [← hW] at hA
  have hwl : w.heap.size < W.heap.size := by rw [hW]; simp
  haveI : Nonempty (Wb W) := ⟨⟨W, Below.refl _ _⟩⟩
  have y0 := fun p : Wb W => (p.h.cell (p := ⟨w.heap.size, 0, none⟩) hwl).trans k0
  have y1 := fun p : Wb W => (p.h.cell (p := ⟨w.heap.size, 1, none⟩) hwl).trans k1
  have yt := fun p : Wb W => ((below2 hA p.h).cell (p := ⟨t, 0, none⟩) htl).trans hc
  have yl := fun p : Wb W => hlk p.u (below2 hA p.h) d hd
  rw [hg] at yl
  have yl' : ∀ p : Wb W, (Instr.lookup 65 (.map om) (.agg #[.int .i64 d.1, .int .i64 d.2]) false).run Try.prog p.u = .ok (.pointer none) p.u := yl
  clear hlk h yl
  go_enter Try.func17, Try.ntmps17
  go_upto_region 3 with fail
  rw [← hW]
  clear hW
  refine wp_region_below mixed (by kernel_rfl) ?_
  repeat (go_big_quiet_step (fail))
  refine wpQuiet_nil ?_
  intro _ hw'
  obtain ⟨p, hw''⟩ := hw'
  subst hw''
  have hB := below2 hA p.h
  go_wp2
  go_ret
  exact ⟨rfl, hB⟩

set_option maxRecDepth 100000 in
set_option maxHeartbeats 4000000 in
theorem seen_any (t : Nat) (T : List Cr) (G : Dt → Option Nat) (n : Nat) (R : Dt → Bool → Value) (d : Dt) (w : World) (h : TX w t T G G n R) (hd : Dw d) (c0 : Cr) (hc0 : c0 ∈ T) (e0 : c0.id = d) :
    Calls Try.prog 17 #[.pointer (some ⟨t, 0, none⟩), dv d] w fun e w' => e = .returned (.bool c0.seen) ∧ RowKit.Below w.heap.size w w' := by
  obtain ⟨g, hg, _, q3⟩ := h.ch c0 hc0
  rw [e0] at hg
  have mixed := mixed
  obtain ⟨fm, hc, ⟨om, rfl⟩, hlk⟩ := h.found
  have htl := h.lt
  have hX := hid h
  have hA : RowKit.Below w.heap.size w (w.alloc (.cells #[.int .i64 d.1, .int .i64 d.2] 24)) := ((Far.refl w).alloc _).below
  obtain ⟨W, hW⟩ : ∃ W, W = w.alloc (.cells #[.int .i64 d.1, .int .i64 d.2] 24) := ⟨_, rfl⟩
  have k0 : W.cell? ⟨w.heap.size, 0, none⟩ = some (.int .i64 d.1) := by rw [hW]; go_simp
  have k1 : W.cell? ⟨w.heap.size, 1, none⟩ = some (.int .i64 d.2) := by rw [hW]; go_simp
  rw [← hW] at hA
  have hwl : w.heap.size < W.heap.size := by rw [hW]; simp
  haveI : Nonempty (Wb W) := ⟨⟨W, Below.refl _ _⟩⟩
  have y0 := fun p : Wb W => (p.h.cell (p := ⟨w.heap.size, 0, none⟩) hwl).trans k0
  have y1 := fun p : Wb W => (p.h.cell (p := ⟨w.heap.size, 1, none⟩) hwl).trans k1
  have yt := fun p : Wb W => ((below2 hA p.h).cell (p := ⟨t, 0, none⟩) htl).trans hc
  have yl := fun p : Wb W => hlk p.u (below2 hA p.h) d hd
  rw [hg] at yl
  have yl' : ∀ p : Wb W, (Instr.lookup 65 (.map om) (.agg #[.int .i64 d.1, .int .i64 d.2]) false).run Try.prog p.u = .ok (.pointer (some ⟨g, 0, none⟩)) p.u := yl
  clear hlk h yl
  go_enter Try.func17, Try.ntmps17
  go_upto_region 3 with fail
  rw [← hW]
  clear hW
  refine wp_region_below mixed (by kernel_rfl) ?_
  repeat (go_big_quiet_step (fail))
  refine wpQuiet_nil ?_
  intro _ hw'
  obtain ⟨p, hw''⟩ := hw'
  subst hw''
  have hB := below2 hA p.h
  have hcl : p.u.cell? ⟨g, 2 + 1, none⟩ = some (.bool c0.seen) := ((hB.cell (p := ⟨g, 3, none⟩) (Array.getElem?_eq_some_iff.1 q3).1).trans (by simp [World.cell?, q3, Cr.cells]))
  have hcl' : p.u.cell? ⟨g, 3, none⟩ = some (.bool c0.seen) := hcl
  obtain ⟨b0, hb0⟩ : ∃ b, c0.seen = b := ⟨_, rfl⟩
  rw [hb0] at hcl'
  have HB0 := hid hb0
  clear hcl hg e0 hb0
  cases b0
  · go_wp2
    go_ret
    exact ⟨by rw [HB0.out]; rfl, hB⟩
  · go_wp2
    go_ret
    exact ⟨by rw [HB0.out]; rfl, hB⟩

set_option maxRecDepth 100000 in
theorem new_any (w : World) : Calls Try.prog 9 #[] w fun e w' => e = .returned (.pointer (some ⟨w.heap.size, 0, none⟩)) ∧ TX w' w.heap.size [] (fun _ => none) (fun _ => none) 0 (fun _ _ => .slice none 0 0) ∧ RowKit.Below w.heap.size w w' := by
  have hb : RowKit.Below w.heap.size w (w.alloc (.cells (txCells (.map none) (.slice none 0 0) (.slice none 0 0)) 71)) := ((Far.refl w).alloc _).below
  have ht : (w.alloc (.cells (txCells (.map none) (.slice none 0 0) (.slice none 0 0)) 71)).heap[w.heap.size]? = some (.cells (txCells (.map none) (.slice none 0 0) (.slice none 0 0)) 71 (0, 0)) := (MapKept.heap_alloc w _).1
  have hTX : TX (w.alloc (.cells (txCells (.map none) (.slice none 0 0) (.slice none 0 0)) 71)) w.heap.size [] (fun _ => none) (fun _ => none) 0 (fun _ _ => .slice none 0 0) := by
    refine ⟨WT.nil, ⟨_, ht, Or.inl ⟨rfl, rfl⟩⟩, fun d _ => by simp, fun c hc => by simp at hc, fun d s _ => ⟨[], ?_, World.ownsRow_nil _ _ _ _⟩, fun _ _ _ _ _ _ _ => Or.inl rfl⟩
    rfl
  go_enter Try.func9, Try.ntmps9
  go_wp2
  go_ret
  exact ⟨rfl, hTX, hb⟩

set_option maxRecDepth 100000 in
theorem size_any (t : Nat) (T : List Cr) (G : Dt → Option Nat) (n : Nat) (R : Dt → Bool → Value) (w : World) (h : TX w t T G G n R) :
    Calls Try.prog 29 #[.pointer (some ⟨t, 0, none⟩)] w fun e w' => e = .returned (.int .i64 (T.length : Int)) ∧ w' = w := by
  obtain ⟨fm, h1, h2⟩ := h.tb
  have hc : w.cell? ⟨t, 0, none⟩ = some fm := by simp [World.cell?, h1, txCells]
  have htl := h.lt
  rcases h2 with ⟨hT, rfl⟩ | ⟨mb, rfl, _, hp⟩
  · have hl := Maps.len_nil (w := w) Try.underlying65 3
    have hz : Hid (T.length = 0) := hid (by rw [hT]; rfl)
    clear hT h h1
    go_enter Try.func29, Try.ntmps29
    go_wp2
    go_ret
    exact ⟨by rw [hz.out]; rfl, rfl⟩
  · obtain ⟨D, ho, hs⟩ := hp.size (S := T.map Cr.id) h.wt.ids (fun d hd => by obtain ⟨c, hc, rfl⟩ := List.mem_map.1 hd; exact h.wt.dw c hc) (fun d hd => by
      rw [h.gd d hd]
      constructor
      · rintro ⟨c, hc, e⟩; exact List.mem_map.2 ⟨c, hc, e⟩
      · intro hm; obtain ⟨c, hc, e⟩ := List.mem_map.1 hm; exact ⟨c, hc, e⟩)
    have hl := ho.len Try.underlying65 3
    rw [hs, List.length_map] at hl
    clear h h1 hp ho hs
    go_enter Try.func29, Try.ntmps29
    go_wp2
    go_ret
    exact ⟨rfl, rfl⟩

end
end Go.Proofs.Ytbpepmajpojacaa
