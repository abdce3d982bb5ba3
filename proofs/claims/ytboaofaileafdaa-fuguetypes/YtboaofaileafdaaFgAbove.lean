/- above. -/
import Derived.Test.YtboaofaileafdaaFgMay
namespace Go.Proofs.Ytboaofaileafdaa
open Go.RowKit
open Go.Sort (grow)

/-- What the map of a text tells, or no map. -/
theorem TX.found {w : World} {t : Nat} {T : List Cr} {G : Dt → Option Nat} {n : Nat} {R : Dt → Bool → Value} (h : TX w t T G G n R) : ∃ fm, w.cell? ⟨t, 0, none⟩ = some fm ∧ (∃ o, fm = .map o) ∧ ∀ (W : World), RowKit.Below w.heap.size w W → ∀ d, Dw d → (Instr.lookup 65 fm (.agg #[.int .i64 d.1, .int .i64 d.2]) false).run Try.prog W = .ok (pvo (G d)) W := by
  obtain ⟨fm, h1, h2⟩ := h.tb
  refine ⟨fm, by simp [World.cell?, h1, txCells], ?_, fun W hb d hd => ?_⟩
  · rcases h2 with ⟨_, e⟩ | ⟨mb, e, _⟩
    · exact ⟨_, e⟩
    · exact ⟨_, e⟩
  · rcases h2 with ⟨hT, rfl⟩ | ⟨mb, rfl, _, hp⟩
    · have hn : G d = none := by
        cases e : G d with
        | none => rfl
        | some g =>
          obtain ⟨c, hc, _⟩ := (h.gd d hd).1 (by rw [e]; rfl)
          rw [hT] at hc
          simp at hc
      rw [hn]
      exact Maps.look_nil false law Try.underlying65 (zeroPtr W) (keyOf_dot hd)
    · exact (hp.same (hb.block _ hp.lt)).look hd

/-- The root, or a character, or none. -/
def aboveV (t : Nat) (G : Dt → Option Nat) (d : Dt) : Value := if d = (0, 0) then .pointer (some ⟨t, 1, none⟩) else pvo (G d)

set_option maxRecDepth 100000 in
set_option maxHeartbeats 4000000 in
theorem above_any (t : Nat) (T : List Cr) (G : Dt → Option Nat) (n : Nat) (R : Dt → Bool → Value) (d : Dt) (w : World) (h : TX w t T G G n R) (hd : Dw d) :
    Calls Try.prog 32 #[.pointer (some ⟨t, 0, none⟩), dv d] w fun e w' => e = .returned (aboveV t G d) ∧ RowKit.Below w.heap.size w w' := by
  have mixed := mixed
  obtain ⟨fm, hc, ⟨om, rfl⟩, hlk⟩ := h.found
  have htl := h.lt
  have hA : RowKit.Below w.heap.size w (w.alloc (.cells #[.int .i64 d.1, .int .i64 d.2] 24)) := ((Far.refl w).alloc _).below
  by_cases h0 : d = (0, 0)
  · subst h0
    have hr : Hid (aboveV t G (0, 0) = .pointer (some ⟨t, 1, none⟩)) := hid rfl
    clear hlk h hd
    go_enter Try.func32, Try.ntmps32
    go_wp2
    go_ret
    exact ⟨by rw [hr.out]; rfl, hA⟩
  · obtain ⟨d1, d2⟩ := d
    have hr : Hid (aboveV t G (d1, d2) = pvo (G (d1, d2))) := hid (if_neg h0)
    have hx : ((d1 == 0) && (d2 == 0)) = false := by
      rcases dot_cases (d1, d2) with e | ⟨_, e, _⟩ | ⟨_, _, e, _⟩
      · exact absurd e h0
      · simp [e]
      · simp [e]
    obtain ⟨W, hW⟩ : ∃ W, W = w.alloc (.cells #[.int .i64 d1, .int .i64 d2] 24) := ⟨_, rfl⟩
    have k0 : W.cell? ⟨w.heap.size, 0, none⟩ = some (.int .i64 d1) := by rw [hW]; go_simp
    have k1 : W.cell? ⟨w.heap.size, 1, none⟩ = some (.int .i64 d2) := by rw [hW]; go_simp
    rw [← hW] at hA
    have hwl : w.heap.size < W.heap.size := by rw [hW]; simp
    haveI : Nonempty (Wb W) := ⟨⟨W, Below.refl _ _⟩⟩
    have y0 := fun p : Wb W => (p.h.cell (p := ⟨w.heap.size, 0, none⟩) hwl).trans k0
    have y1 := fun p : Wb W => (p.h.cell (p := ⟨w.heap.size, 1, none⟩) hwl).trans k1
    have yt := fun p : Wb W => ((below2 hA p.h).cell (p := ⟨t, 0, none⟩) htl).trans hc
    have yl := fun p : Wb W => hlk p.u (below2 hA p.h) (d1, d2) hd
    generalize pvo (G (d1, d2)) = pr at *
    clear hlk h h0
    by_cases e0 : d1 = 0
    · have e1 : (d2 == 0) = false := by simpa [e0] using hx
      have e2 : (d2 != 0) = true := by simpa using e1
      subst e0
      go_enter Try.func32, Try.ntmps32
      go_upto_region 3 with fail
      rw [← hW]
      clear hW
      refine wp_region_below mixed (by kernel_rfl) ?_
      repeat (go_big_quiet_step (fail))
      refine wpQuiet_nil ?_
      intro _ hw'
      obtain ⟨p, hw''⟩ := hw'
      subst hw''
      go_wp2
      go_ret
      exact ⟨by rw [hr.out]; rfl, below2 hA p.h⟩
    · have e1 : (d1 == 0) = false := by simp [e0]
      have e2 : (d1 != 0) = true := by simp [e0]
      clear e0
      go_enter Try.func32, Try.ntmps32
      go_upto_region 3 with fail
      rw [← hW]
      clear hW
      refine wp_region_below mixed (by kernel_rfl) ?_
      repeat (go_big_quiet_step (fail))
      refine wpQuiet_nil ?_
      intro _ hw'
      obtain ⟨p, hw''⟩ := hw'
      subst hw''
      go_wp2
      go_ret
      exact ⟨by rw [hr.out]; rfl, below2 hA p.h⟩
end Go.Proofs.Ytboaofaileafdaa
