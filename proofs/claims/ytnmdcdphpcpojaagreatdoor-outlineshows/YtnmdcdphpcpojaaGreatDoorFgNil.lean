/- A map held against none. -/
import Derived.Test.YtnmdcdphpcpojaaGreatDoorFgTx
import Derived.Deep.RegionHeld
import Derived.Deep.CutBlock
import Derived.Deep.RegionWith
namespace Go.Proofs.YtnmdcdphpcpojaaGreatDoor
section
open Go.RowKit
open Go.Sort (grow)

/-- Whether a character may be put in there, as far as that hangs on no others. -/
def mayI (id at_ : Dt) (side : Int) : Bool := if side = 0 then decide (id ≠ (0, 0)) && decide (at_ ≠ (0, 0)) else if side = 1 then decide (id ≠ (0, 0)) else false

theorem dot_cases (d : Dt) : (d = (0, 0)) ∨ (d ≠ (0, 0) ∧ (d.1 == 0) = false ∧ (d.1 != 0) = true) ∨ (d ≠ (0, 0) ∧ d.1 = 0 ∧ (d.2 == 0) = false ∧ (d.2 != 0) = true) := by
  obtain ⟨a, b⟩ := d
  by_cases ha : a = 0
  · by_cases hb : b = 0
    · left; rw [ha, hb]
    · right; right; exact ⟨fun e => hb (by simpa using congrArg Prod.snd e), ha, by simp [hb], by simp [hb]⟩
  · right; left; exact ⟨fun e => ha (by simpa using congrArg Prod.fst e), by simp [ha], by simp [ha]⟩

set_option maxRecDepth 100000 in
set_option maxHeartbeats 4000000 in
theorem fgmay_any (id at_ : Dt) (side : Int) (w : World) : Tells 57 #[dv id, dv at_, .int .i64 side] w (.bool (mayI id at_ side)) := by
  have hfar : ∀ a b c : Obj, Far w (((w.alloc a).alloc b).alloc c) := fun a b c => (((Far.refl w).alloc a).alloc b).alloc c
  by_cases h0 : side = 0
  · subst h0
    have hr : Hid (mayI id at_ 0 = (decide (id ≠ (0, 0)) && decide (at_ ≠ (0, 0)))) := hid rfl
    rcases dot_cases id with rfl | ⟨hi, hi1, hi2⟩ | ⟨hi, hi0, hi1, hi2⟩
    · have hr' : Hid (mayI (0, 0) at_ 0 = false) := hid (by rw [hr.out]; simp)
      go_enter Tryz.func57, Tryz.ntmps57
      go_wp2
      go_ret
      exact ⟨by rw [hr'.out]; rfl, hfar _ _ _⟩
    · rcases dot_cases at_ with rfl | ⟨ha, ha1, ha2⟩ | ⟨ha, ha0, ha1, ha2⟩
      · have hr' : Hid (mayI id (0, 0) 0 = false) := hid (by rw [hr.out]; simp)
        clear hi hr
        go_enter Tryz.func57, Tryz.ntmps57
        go_wp2
        go_ret
        exact ⟨by rw [hr'.out]; rfl, hfar _ _ _⟩
      · have hr' : Hid (mayI id at_ 0 = true) := hid (by rw [hr.out]; simp [hi, ha])
        clear hi ha hr
        go_enter Tryz.func57, Tryz.ntmps57
        go_wp2
        go_ret
        exact ⟨by rw [hr'.out]; rfl, hfar _ _ _⟩
      · have hr' : Hid (mayI id at_ 0 = true) := hid (by rw [hr.out]; simp [hi, ha])
        clear hi ha hr
        go_enter Tryz.func57, Tryz.ntmps57
        go_wp2
        go_ret
        exact ⟨by rw [hr'.out]; rfl, hfar _ _ _⟩
    · rcases dot_cases at_ with rfl | ⟨ha, ha1, ha2⟩ | ⟨ha, ha0, ha1, ha2⟩
      · have hr' : Hid (mayI id (0, 0) 0 = false) := hid (by rw [hr.out]; simp)
        clear hi hr
        go_enter Tryz.func57, Tryz.ntmps57
        go_wp2
        go_ret
        exact ⟨by rw [hr'.out]; rfl, hfar _ _ _⟩
      · have hr' : Hid (mayI id at_ 0 = true) := hid (by rw [hr.out]; simp [hi, ha])
        clear hi ha hr
        go_enter Tryz.func57, Tryz.ntmps57
        go_wp2
        go_ret
        exact ⟨by rw [hr'.out]; rfl, hfar _ _ _⟩
      · have hr' : Hid (mayI id at_ 0 = true) := hid (by rw [hr.out]; simp [hi, ha])
        clear hi ha hr
        go_enter Tryz.func57, Tryz.ntmps57
        go_wp2
        go_ret
        exact ⟨by rw [hr'.out]; rfl, hfar _ _ _⟩
  · have hb0 : (side == 0) = false := by simp [h0]
    by_cases h1 : side = 1
    · subst h1
      have hr : Hid (mayI id at_ 1 = decide (id ≠ (0, 0))) := hid rfl
      rcases dot_cases id with rfl | ⟨hi, hi1, hi2⟩ | ⟨hi, hi0, hi1, hi2⟩
      · have hr' : Hid (mayI (0, 0) at_ 1 = false) := hid (by rw [hr.out]; simp)
        clear hr
        go_enter Tryz.func57, Tryz.ntmps57
        go_wp2
        go_ret
        exact ⟨by rw [hr'.out]; rfl, hfar _ _ _⟩
      · have hr' : Hid (mayI id at_ 1 = true) := hid (by rw [hr.out]; simp [hi])
        clear hi hr
        go_enter Tryz.func57, Tryz.ntmps57
        go_wp2
        go_ret
        exact ⟨by rw [hr'.out]; rfl, hfar _ _ _⟩
      · have hr' : Hid (mayI id at_ 1 = true) := hid (by rw [hr.out]; simp [hi])
        clear hi hr
        go_enter Tryz.func57, Tryz.ntmps57
        go_wp2
        go_ret
        exact ⟨by rw [hr'.out]; rfl, hfar _ _ _⟩
    · have hb1 : (side == 1) = false := by simp [h1]
      have hr' : Hid (mayI id at_ side = false) := hid (by unfold mayI; rw [if_neg h0, if_neg h1])
      go_enter Tryz.func57, Tryz.ntmps57
      go_wp2
      go_ret
      exact ⟨by rw [hr'.out]; rfl, hfar _ _ _⟩
end

section
open Go.RowKit
open Go.Sort (grow)

/-- What the map of a text tells, or no map. -/
theorem TX.found {w : World} {t : Nat} {T : List Cr} {G : Dt → Option Nat} {n : Nat} {R : Dt → Bool → Value} (h : TX w t T G G n R) : ∃ fm, w.cell? ⟨t, 0, none⟩ = some fm ∧ (∃ o, fm = .map o) ∧ ∀ (W : World), RowKit.Below w.heap.size w W → ∀ d, Dw d → (Instr.lookup 120 fm (.agg #[.int .i64 d.1, .int .i64 d.2]) false).run Tryz.prog W = .ok (pvoc (G d)) W := by
  obtain ⟨fm, h1, h2⟩ := h.tb
  refine ⟨fm, by simp [World.cell?, h1, txCells], ?_, fun W hb d hd => ?_⟩
  · rcases h2 with ⟨_, e⟩ | ⟨mb, e, _⟩
    · exact ⟨_, e⟩
    · exact ⟨_, e⟩
  · rcases h2 with ⟨hT, rfl⟩ | ⟨mb, rfl, _, hp⟩
    · have hn : G d = none := by
        cases e : G d with
        | none => rfl
        | some g =>
          obtain ⟨c, hc, _⟩ := (h.gd d hd).1 (by rw [e]; rfl)
          rw [hT] at hc
          simp at hc
      rw [hn]
      exact Maps.look_nil false law Tryz.underlying120 (zeroPtrc W) (keyOf_dot hd)
    · exact (hp.same (hb.block _ hp.lt)).look hd

/-- The root, or a character, or none. -/
def aboveV (t : Nat) (G : Dt → Option Nat) (d : Dt) : Value := if d = (0, 0) then .pointer (some ⟨t, 1, none⟩) else pvoc (G d)

set_option maxRecDepth 100000 in
set_option maxHeartbeats 4000000 in
theorem above_any (t : Nat) (T : List Cr) (G : Dt → Option Nat) (n : Nat) (R : Dt → Bool → Value) (d : Dt) (w : World) (h : TX w t T G G n R) (hd : Dw d) :
    Calls Tryz.prog 58 #[.pointer (some ⟨t, 0, none⟩), dv d] w fun e w' => e = .returned (aboveV t G d) ∧ RowKit.Below w.heap.size w w' := by
  have mixed := mixed
  obtain ⟨fm, hc, ⟨om, rfl⟩, hlk⟩ := h.found
  have htl := h.lt
  have hA : RowKit.Below w.heap.size w (w.alloc (.cells #[.int .i64 d.1, .int .i64 d.2] 24)) := ((Far.refl w).alloc _).below
  by_cases h0 : d = (0, 0)
  · subst h0
    have hr : Hid (aboveV t G (0, 0) = .pointer (some ⟨t, 1, none⟩)) := hid rfl
    clear hlk h hd
    go_enter Tryz.func58, Tryz.ntmps58
    go_wp2
    go_ret
    exact ⟨by rw [hr.out]; rfl, hA⟩
  · obtain ⟨d1, d2⟩ := d
    have hr : Hid (aboveV t G (d1, d2) = pvoc (G (d1, d2))) := hid (if_neg h0)
    have hx : ((d1 == 0) && (d2 == 0)) = false := by
      rcases dot_cases (d1, d2) with e | ⟨_, e, _⟩ | ⟨_, _, e, _⟩
      · exact absurd e h0
      · simp [e]
      · simp [e]
    obtain ⟨W, hW⟩ : ∃ W, W = w.alloc (.cells #[.int .i64 d1, .int .i64 d2] 24) := ⟨_, rfl⟩
    have k0 : W.cell? ⟨w.heap.size, 0, none⟩ = some (.int .i64 d1) := by rw [hW]; go_simp
    have k1 : W.cell? ⟨w.heap.size, 1, none⟩ = some (.int .i64 d2) := by rw [hW]; go_simp
    rw [← hW] at hA
    have hwl : w.heap.size < W.heap.size := by rw [hW]; simp
    haveI : Nonempty (Wb W) := ⟨⟨W, Below.refl _ _⟩⟩
    have y0 := fun p : Wb W => (p.h.cell (p := ⟨w.heap.size, 0, none⟩) hwl).trans k0
    have y1 := fun p : Wb W => (p.h.cell (p := ⟨w.heap.size, 1, none⟩) hwl).trans k1
    have yt := fun p : Wb W => ((below2 hA p.h).cell (p := ⟨t, 0, none⟩) htl).trans hc
    have yl := fun p : Wb W => hlk p.u (below2 hA p.h) (d1, d2) hd
    generalize pvoc (G (d1, d2)) = pr at *
    clear hlk h h0
    by_cases e0 : d1 = 0
    · have e1 : (d2 == 0) = false := by simpa [e0] using hx
      have e2 : (d2 != 0) = true := by simpa using e1
      subst e0
      go_enter Tryz.func58, Tryz.ntmps58
      go_upto_region 3 with fail
      rw [← hW]
      clear hW
      refine wp_region_below mixed (by kernel_rfl) ?_
      repeat (go_big_quiet_step (fail))
      refine wpQuiet_nil ?_
      intro _ hw'
      obtain ⟨p, hw''⟩ := hw'
      subst hw''
      go_wp2
      go_ret
      exact ⟨by rw [hr.out]; rfl, below2 hA p.h⟩
    · have e1 : (d1 == 0) = false := by simp [e0]
      have e2 : (d1 != 0) = true := by simp [e0]
      clear e0
      go_enter Tryz.func58, Tryz.ntmps58
      go_upto_region 3 with fail
      rw [← hW]
      clear hW
      refine wp_region_below mixed (by kernel_rfl) ?_
      repeat (go_big_quiet_step (fail))
      refine wpQuiet_nil ?_
      intro _ hw'
      obtain ⟨p, hw''⟩ := hw'
      subst hw''
      go_wp2
      go_ret
      exact ⟨by rw [hr.out]; rfl, below2 hA p.h⟩
end

section
set_option linter.unusedVariables false
open Go.RowKit
open Go.Sort (grow)

/-- What lies below block t, and what is of other types than a text's, is as it was. -/
structure FrW (t : Nat) (w w' : World) : Prop where
  os : w'.os = w.os
  tape : w'.tape = w.tape
  output : w'.output = w.output
  size : w.heap.size ≤ w'.heap.size
  block : ∀ k, k < w.heap.size → (k < t ∨ ∃ (cs : Array Value) (ty : TypeId), w.heap[k]? = some (.cells cs ty (0, 0)) ∧ ty ≠ 124 ∧ ty ≠ 126 ∧ ty ≠ 128) → w'.heap[k]? = w.heap[k]?

theorem FrW.of_below {t : Nat} {w w' : World} (h : RowKit.Below w.heap.size w w') : FrW t w w' := ⟨h.os, h.tape, h.output, h.size, fun k hk _ => h.block k hk⟩

theorem FrW.trans {t : Nat} {a b c : World} (h : FrW t a b) (k : FrW t b c) : FrW t a c :=
  ⟨k.os.trans h.os, k.tape.trans h.tape, k.output.trans h.output, Nat.le_trans h.size k.size, fun i hi hc => by
    have e := h.block i hi hc
    refine (k.block i (Nat.lt_of_lt_of_le hi h.size) ?_).trans e
    rcases hc with hc | ⟨cs, ty, h1, h2⟩
    · exact Or.inl hc
    · exact Or.inr ⟨cs, ty, e.trans h1, h2⟩⟩

/-- A block of a text's own may turn. -/
theorem FrW.of_grown {t : Nat} {w w' : World} {r : Option Nat} (h : w.grownBy w' r) (hr : ∀ k, r = some k → t ≤ k ∧ ∀ (cs : Array Value) (ty : TypeId), w.heap[k]? = some (.cells cs ty (0, 0)) → ty = 124 ∨ ty = 126 ∨ ty = 128) : FrW t w w' :=
  ⟨h.os, h.tape, h.output, h.size, fun k hk hc => h.block k hk (fun e => by
    obtain ⟨h1, h2⟩ := hr k e.symm
    rcases hc with hc | ⟨cs, ty, g1, g2, g3, g4⟩
    · omega
    · rcases h2 cs ty g1 with e | e | e
      · exact g2 e
      · exact g3 e
      · exact g4 e)⟩

theorem two_dots (w : World) (d e : Dt) : ((w.alloc (.cells #[.int .i64 d.1, .int .i64 d.2] 24)).alloc (.cells #[.int .i64 e.1, .int .i64 e.2] 24)).cell? ⟨w.heap.size, 0, none⟩ = some (.int .i64 d.1) ∧ ((w.alloc (.cells #[.int .i64 d.1, .int .i64 d.2] 24)).alloc (.cells #[.int .i64 e.1, .int .i64 e.2] 24)).cell? ⟨w.heap.size, 1, none⟩ = some (.int .i64 d.2) ∧
    ((w.alloc (.cells #[.int .i64 d.1, .int .i64 d.2] 24)).alloc (.cells #[.int .i64 e.1, .int .i64 e.2] 24)).cell? ⟨w.heap.size + 1, 0, none⟩ = some (.int .i64 e.1) ∧ ((w.alloc (.cells #[.int .i64 d.1, .int .i64 d.2] 24)).alloc (.cells #[.int .i64 e.1, .int .i64 e.2] 24)).cell? ⟨w.heap.size + 1, 1, none⟩ = some (.int .i64 e.2) ∧
    RowKit.Below w.heap.size w ((w.alloc (.cells #[.int .i64 d.1, .int .i64 d.2] 24)).alloc (.cells #[.int .i64 e.1, .int .i64 e.2] 24)) := by
  refine ⟨by go_simp, by go_simp, by go_simp, by go_simp, (((Far.refl w).alloc _).alloc _).below⟩

set_option maxRecDepth 100000 in
set_option maxHeartbeats 4000000 in
theorem ins_no (t : Nat) (T : List Cr) (G : Dt → Option Nat) (R : Dt → Bool → Value) (id at_ : Dt) (side ch : Int) (w : World) (h : TX w t T G G T.length R) (hid0 : Dw id) (hat : Dw at_) (hm : mayI id at_ side = false) :
    Calls Tryz.prog 26 #[.pointer (some ⟨t, 0, none⟩), dv id, dv at_, .int .i64 side, .int .i64 ch] w fun e w' => e = .returned (.int .i64 1) ∧ RowKit.Below w.heap.size w w' := by
  have mixed := mixed
  obtain ⟨k0, k1, k2, k3, hA⟩ := two_dots w id at_
  obtain ⟨W, hW⟩ : ∃ W, W = (w.alloc (.cells #[.int .i64 id.1, .int .i64 id.2] 24)).alloc (.cells #[.int .i64 at_.1, .int .i64 at_.2] 24) := ⟨_, rfl⟩
  rw [← hW] at k0 k1 k2 k3 hA
  have hWl : w.heap.size + 1 < W.heap.size := by rw [hW]; simp
  have hM := fgmay_any id at_ side W
  rw [hm] at hM
  clear h
  go_enter Tryz.func26, Tryz.ntmps26
  go_upto_region 1 with fail
  rw [← hW]
  clear hW
  go_wp2_with (first
    | (go_at_call 57; refine hM.mono ?_; rintro e w1 ⟨rfl, hF1⟩))
  go_ret
  exact ⟨rfl, below2 hA hF1.below⟩

set_option maxRecDepth 100000 in
set_option maxHeartbeats 4000000 in
theorem ins_twice (t : Nat) (T : List Cr) (G : Dt → Option Nat) (R : Dt → Bool → Value) (id at_ : Dt) (side ch : Int) (w : World) (h : TX w t T G G T.length R) (hid0 : Dw id) (hat : Dw at_) (hm : mayI id at_ side = true) (hf : ∃ c ∈ T, c.id = id) :
    Calls Tryz.prog 26 #[.pointer (some ⟨t, 0, none⟩), dv id, dv at_, .int .i64 side, .int .i64 ch] w fun e w' => e = .returned (.int .i64 32) ∧ RowKit.Below w.heap.size w w' := by
  have mixed := mixed
  obtain ⟨k0, k1, k2, k3, hA⟩ := two_dots w id at_
  obtain ⟨W, hW⟩ : ∃ W, W = (w.alloc (.cells #[.int .i64 id.1, .int .i64 id.2] 24)).alloc (.cells #[.int .i64 at_.1, .int .i64 at_.2] 24) := ⟨_, rfl⟩
  rw [← hW] at k0 k1 k2 k3 hA
  have hWl : w.heap.size + 1 < W.heap.size := by rw [hW]; simp
  obtain ⟨g, hg⟩ : ∃ g, G id = some g := by
    have := (h.gd id hid0).2 hf
    exact Option.isSome_iff_exists.1 this
  have hM := fgmay_any id at_ side W
  rw [hm] at hM
  have hX := hid h
  obtain ⟨fm, hc, ⟨om, rfl⟩, hlk⟩ := h.found
  have htl := h.lt
  have HLK := hid hlk
  clear h hlk
  go_enter Tryz.func26, Tryz.ntmps26
  go_upto_region 1 with fail
  rw [← hW]
  clear hW
  go_upto_region 3 with (first
    | (go_at_call 57; refine hM.mono ?_; rintro e w1 ⟨rfl, hF1⟩))
  have hA1 := below2 hA hF1.below
  have x0 := (hF1.below.cell (p := ⟨w.heap.size, 0, none⟩) (by show w.heap.size < W.heap.size; omega)).trans k0
  have x1 := (hF1.below.cell (p := ⟨w.heap.size, 1, none⟩) (by show w.heap.size < W.heap.size; omega)).trans k1
  have x2 := (hF1.below.cell (p := ⟨w.heap.size + 1, 0, none⟩) (by show w.heap.size + 1 < W.heap.size; omega)).trans k2
  have x3 := (hF1.below.cell (p := ⟨w.heap.size + 1, 1, none⟩) (by show w.heap.size + 1 < W.heap.size; omega)).trans k3
  have hw1l : w.heap.size + 1 < w1.heap.size := Nat.lt_of_lt_of_le hWl hF1.below.size
  clear k0 k1 k2 k3 hM hWl hA hF1
  haveI : Nonempty (Wb w1) := ⟨⟨w1, Below.refl _ _⟩⟩
  have y0 := fun p : Wb w1 => (p.h.cell (p := ⟨w.heap.size, 0, none⟩) (by show w.heap.size < w1.heap.size; omega)).trans x0
  have y1 := fun p : Wb w1 => (p.h.cell (p := ⟨w.heap.size, 1, none⟩) (by show w.heap.size < w1.heap.size; omega)).trans x1
  have yt := fun p : Wb w1 => ((below2 hA1 p.h).cell (p := ⟨t, 0, none⟩) htl).trans hc
  have yl := fun p : Wb w1 => HLK.out p.u (below2 hA1 p.h) id hid0
  rw [hg] at yl
  have yl' : ∀ p : Wb w1, (Instr.lookup 120 (.map om) (.agg #[.int .i64 id.1, .int .i64 id.2]) false).run Tryz.prog p.u = .ok (.pointer (some ⟨g, 0, none⟩)) p.u := yl
  clear yl hg hf
  refine wp_region_below mixed (by kernel_rfl) ?_
  repeat (go_big_quiet_step (fail))
  refine wpQuiet_nil ?_
  intro _ hw'
  obtain ⟨p, hw''⟩ := hw'
  subst hw''
  go_wp2
  go_ret
  exact ⟨rfl, below2 hA1 p.h⟩

set_option maxRecDepth 100000 in
set_option maxHeartbeats 4000000 in
theorem ins_index (t : Nat) (T : List Cr) (G : Dt → Option Nat) (R : Dt → Bool → Value) (id at_ : Dt) (side ch : Int) (w : World) (h : TX w t T G G T.length R) (hid0 : Dw id) (hat : Dw at_) (hm : mayI id at_ side = true) (hf : ¬ ∃ c ∈ T, c.id = id) (hnd : ¬ nodes T at_) :
    Calls Tryz.prog 26 #[.pointer (some ⟨t, 0, none⟩), dv id, dv at_, .int .i64 side, .int .i64 ch] w fun e w' => e = .returned (.int .i64 41) ∧ RowKit.Below w.heap.size w w' := by
  have mixed := mixed
  obtain ⟨k0, k1, k2, k3, hA⟩ := two_dots w id at_
  obtain ⟨W, hW⟩ : ∃ W, W = (w.alloc (.cells #[.int .i64 id.1, .int .i64 id.2] 24)).alloc (.cells #[.int .i64 at_.1, .int .i64 at_.2] 24) := ⟨_, rfl⟩
  rw [← hW] at k0 k1 k2 k3 hA
  have hWl : w.heap.size + 1 < W.heap.size := by rw [hW]; simp
  have hg : G id = none := by
    cases e : G id with
    | none => rfl
    | some g => exact absurd ((h.gd id hid0).1 (by rw [e]; rfl)) hf
  have hga : Hid (aboveV t G at_ = .pointer none) := hid (by
    unfold aboveV
    rw [if_neg (fun e => hnd (Or.inl e))]
    cases e : G at_ with
    | none => rfl
    | some g => exact absurd (Or.inr ((h.gd at_ hat).1 (by rw [e]; rfl))) hnd)
  have hM := fgmay_any id at_ side W
  rw [hm] at hM
  have hX := hid h
  obtain ⟨fm, hc, ⟨om, rfl⟩, hlk⟩ := h.found
  have htl := h.lt
  have HLK := hid hlk
  clear h hlk
  go_enter Tryz.func26, Tryz.ntmps26
  go_upto_region 1 with fail
  rw [← hW]
  clear hW
  go_upto_region 3 with (first
    | (go_at_call 57; refine hM.mono ?_; rintro e w1 ⟨rfl, hF1⟩))
  have hA1 := below2 hA hF1.below
  have x0 := (hF1.below.cell (p := ⟨w.heap.size, 0, none⟩) (by show w.heap.size < W.heap.size; omega)).trans k0
  have x1 := (hF1.below.cell (p := ⟨w.heap.size, 1, none⟩) (by show w.heap.size < W.heap.size; omega)).trans k1
  have x2 := (hF1.below.cell (p := ⟨w.heap.size + 1, 0, none⟩) (by show w.heap.size + 1 < W.heap.size; omega)).trans k2
  have x3 := (hF1.below.cell (p := ⟨w.heap.size + 1, 1, none⟩) (by show w.heap.size + 1 < W.heap.size; omega)).trans k3
  have hw1l : w.heap.size + 1 < w1.heap.size := Nat.lt_of_lt_of_le hWl hF1.below.size
  clear k0 k1 k2 k3 hM hWl hA hF1
  haveI : Nonempty (Wb w1) := ⟨⟨w1, Below.refl _ _⟩⟩
  have y0 := fun p : Wb w1 => (p.h.cell (p := ⟨w.heap.size, 0, none⟩) (by show w.heap.size < w1.heap.size; omega)).trans x0
  have y1 := fun p : Wb w1 => (p.h.cell (p := ⟨w.heap.size, 1, none⟩) (by show w.heap.size < w1.heap.size; omega)).trans x1
  have yt := fun p : Wb w1 => ((below2 hA1 p.h).cell (p := ⟨t, 0, none⟩) htl).trans hc
  have yl := fun p : Wb w1 => HLK.out p.u (below2 hA1 p.h) id hid0
  rw [hg] at yl
  have yl' : ∀ p : Wb w1, (Instr.lookup 120 (.map om) (.agg #[.int .i64 id.1, .int .i64 id.2]) false).run Tryz.prog p.u = .ok (.pointer none) p.u := yl
  clear yl hg hf
  refine wp_region_below mixed (by kernel_rfl) ?_
  repeat (go_big_quiet_step (fail))
  refine wpQuiet_nil ?_
  intro _ hw'
  obtain ⟨p, hw''⟩ := hw'
  subst hw''
  have hA2 := below2 hA1 p.h
  have z2 := (p.h.cell (p := ⟨w.heap.size + 1, 0, none⟩) (by show w.heap.size + 1 < w1.heap.size; omega)).trans x2
  have z3 := (p.h.cell (p := ⟨w.heap.size + 1, 1, none⟩) (by show w.heap.size + 1 < w1.heap.size; omega)).trans x3
  have hAb : Calls Tryz.prog 58 #[.pointer (some ⟨t, 0, none⟩), .agg #[.int .i64 at_.1, .int .i64 at_.2]] p.u fun e w' => e = .returned (.pointer none) ∧ RowKit.Below p.u.heap.size p.u w' := by
    have := above_any t T G T.length R at_ p.u (hX.out.below hA2) hat
    rw [hga.out] at this
    exact this
  clear yl' y0 y1 yt
  generalize p.u = w2 at *
  go_wp2_with (first
    | (go_at_call 58; refine hAb.mono ?_; rintro e w3 ⟨rfl, hB3⟩))
  go_ret
  exact ⟨rfl, below2 hA2 hB3⟩
end

section
set_option linter.unusedVariables false
open Go.RowKit Go.Maps
open Go.Sort (grow)

/-- A text's map is made. -/
theorem TX.mapped {w : World} {t : Nat} {G : Dt → Option Nat} {n : Nat} {R : Dt → Bool → Value} (h : TX w t [] G G n R) : TX ((w.alloc (.map #[] 0)).setCell ⟨t, 0, none⟩ (.map (some w.heap.size))) t [] G G 0 R ∧ FrW t w ((w.alloc (.map #[] 0)).setCell ⟨t, 0, none⟩ (.map (some w.heap.size))) ∧ ((w.alloc (.map #[] 0)).setCell ⟨t, 0, none⟩ (.map (some w.heap.size))).heap[t]? = some (.cells (txCells (.map (some w.heap.size)) (R (0, 0) false) (R (0, 0) true)) 126 (0, 0)) ∧ PMc ((w.alloc (.map #[] 0)).setCell ⟨t, 0, none⟩ (.map (some w.heap.size))) w.heap.size 0 G := by
  have hlt := h.lt
  have hb : RowKit.Below w.heap.size w (w.alloc (.map #[] 0)) := ((Far.refl w).alloc _).below
  have h1 := h.below hb
  obtain ⟨fm, h2, _⟩ := h1.tb
  have hblk : ((w.alloc (.map #[] 0)).setCell ⟨t, 0, none⟩ (.map (some w.heap.size))).heap[t]? = some (.cells (txCells (.map (some w.heap.size)) (R (0, 0) false) (R (0, 0) true)) 126 (0, 0)) := by
    rw [fset_block h2]
    simp [txCells]
  have hpm : PMc ((w.alloc (.map #[] 0)).setCell ⟨t, 0, none⟩ (.map (some w.heap.size))) w.heap.size 0 G := by
    have hp := (PMc.made w).same (w' := (w.alloc (.map #[] 0)).setCell ⟨t, 0, none⟩ (.map (some w.heap.size))) (fset_other (by omega) _)
    obtain ⟨D, ho, hT⟩ := hp
    refine ⟨D, ho, fun d hd => ?_⟩
    have hg : G d = none := by
      cases e : G d with
      | none => rfl
      | some g =>
        obtain ⟨c, hc, _⟩ := (h.gd d hd).1 (by rw [e]; rfl)
        simp at hc
    rw [hg]
    exact hT d hd
  refine ⟨⟨h.wt, ⟨_, hblk, Or.inr ⟨w.heap.size, rfl, hlt, hpm⟩⟩, h.gd, fun c hc => by simp at hc, fun d s hd => ?_, h.apart⟩, ?_, hblk, hpm⟩
  · obtain ⟨gs, k1, k2⟩ := h1.rows d s hd
    refine ⟨gs, k1, World.ownsRow.kept k2 (fgrown_set _ _ _ _) ?_⟩
    cases hb : (R d s).ownBlock with
    | none => exact Or.inl rfl
    | some b =>
      right
      intro e
      cases e
      obtain ⟨cur, hc⟩ := own_block k2 hb
      rw [h2] at hc
      simp at hc
  · refine (FrW.of_below hb).trans (FrW.of_grown (fgrown_set _ _ _ _) (fun k hk => ?_))
    cases hk
    refine ⟨Nat.le_refl _, fun cs ty hc => ?_⟩
    rw [h2] at hc
    simp at hc
    exact Or.inr (Or.inl hc.2.symm)

/-- The map tells of one more. -/
theorem TX.told {w w' : World} {t mb : Nat} {T : List Cr} {G M' : Dt → Option Nat} {n n' : Nat} {R : Dt → Bool → Value} (h : TX w t T G G n R) (hblk : w.heap[t]? = some (.cells (txCells (.map (some mb)) (R (0, 0) false) (R (0, 0) true)) 126 (0, 0))) (htm : t < mb) {m0 : Nat} {M0 : Dt → Option Nat} (hm : PMc w mb m0 M0) (hg : w.grownBy w' (some mb)) (hp : PMc w' mb n' M') :
    TX w' t T G M' n' R ∧ w'.heap[t]? = w.heap[t]? := by
  have hnc : ∀ (k : Nat) (cs : Array Value) (ty : TypeId), w.heap[k]? = some (Obj.cells cs ty (0, 0)) → w'.heap[k]? = w.heap[k]? := fun k cs ty hk => by
    refine hg.block k (Array.getElem?_eq_some_iff.1 hk).1 (fun e => ?_)
    cases e
    obtain ⟨D, ⟨es, clock, h1, _⟩, _⟩ := hm
    rw [h1] at hk
    cases hk
  have ht := hnc t _ _ hblk
  refine ⟨⟨h.wt, ⟨_, ht.trans hblk, Or.inr ⟨mb, rfl, htm, hp⟩⟩, h.gd, fun c hc => ?_, fun d s hd => ?_, h.apart⟩, ht⟩
  · obtain ⟨g, k1, k2, k3⟩ := h.ch c hc
    exact ⟨g, k1, k2, (hnc _ _ _ k3).trans k3⟩
  · obtain ⟨gs, k1, k2⟩ := h.rows d s hd
    refine ⟨gs, k1, World.ownsRow.kept k2 hg ?_⟩
    cases hb : (R d s).ownBlock with
    | none => exact Or.inl rfl
    | some b =>
      right
      intro e
      cases e
      obtain ⟨cur, hc⟩ := own_block k2 hb
      obtain ⟨D, ⟨es, clock, h1, _⟩, _⟩ := hm
      rw [h1] at hc
      cases hc
end

section
open Go.RowKit Go.Maps
theorem map_none (W : World) : (binOp .eql 120 (.map none) (.map none)).run Tryz.prog W = .ok (.bool true) W := by
  have hd : Op.maxDepth = (Op.maxDepth - 1) + 1 := by decide
  simp only [binOp, Op.equal]
  rw [hd]
  simp [Op.equalIn, run_underlying Tryz.underlying120]
theorem map_some (b : Nat) (W : World) : (binOp .eql 120 (.map (some b)) (.map none)).run Tryz.prog W = .ok (.bool false) W := by
  have hd : Op.maxDepth = (Op.maxDepth - 1) + 1 := by decide
  simp only [binOp, Op.equal]
  rw [hd]
  simp [Op.equalIn, run_underlying Tryz.underlying120]
end
end Go.Proofs.YtnmdcdphpcpojaaGreatDoor
