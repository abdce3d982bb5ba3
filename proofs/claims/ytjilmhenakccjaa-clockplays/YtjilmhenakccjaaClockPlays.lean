/- For any numbers and any calls ClockPlays answers true: a clock does what the document says, call by call. No condition. -/
import Derived.Test.YtjilmhenakccjaaCArg
import Derived.Test.YtjilmhenakccjaaRows
import Derived.Test.YtjilmhenakccjaaCRef
import Derived.WalkKit
import Derived.BigQuiet
import Derived.Deep.RegionHeld
import Derived.Deep.RegionWith
import Derived.Deep.CutRange
import Derived.WalkSpells
import Derived.WalkLawsBesides
import Derived.ProofKit
import Derived.OpenShut
import Derived.ShutString
import Derived.ChangeOld
import Derived.Below
namespace Go.Proofs.Ytjilmhenakccjaa
open Go.RowKit

/-- The reference's clock lies in block r. -/
structure Rk (w : World) (r : Nat) (a s t : Int) : Prop where
  c0 : w.cell? ⟨r, 0, none⟩ = some (.int .i64 a)
  c1 : w.cell? ⟨r, 1, none⟩ = some (.int .i64 s)
  c2 : w.cell? ⟨r, 2, none⟩ = some (.int .i64 t)
  f0 : w.frozen? ⟨r, 0, none⟩ = false
  f1 : w.frozen? ⟨r, 1, none⟩ = false
  f2 : w.frozen? ⟨r, 2, none⟩ = false

theorem Rk.lt {w : World} {b : Nat} {a s t : Int} (h : Rk w b a s t) : b < w.heap.size := cell_in h.c0
theorem Rk.same {w w' : World} {b : Nat} {a s t : Int} (h : Rk w b a s t) (hb : w'.heap[b]? = w.heap[b]?) : Rk w' b a s t :=
  ⟨(World.cell?_of_block (w := w) hb).trans h.c0, (World.cell?_of_block (w := w) hb).trans h.c1, (World.cell?_of_block (w := w) hb).trans h.c2, (World.frozen?_of_block (w := w) hb).trans h.f0, (World.frozen?_of_block (w := w) hb).trans h.f1, (World.frozen?_of_block (w := w) hb).trans h.f2⟩
theorem Rk.below {w w' : World} {b : Nat} {a s t : Int} (h : Rk w b a s t) (hb : RowKit.Below w.heap.size w w') : Rk w' b a s t := h.same (hb.block b h.lt)
theorem Rk.upon {w w' : World} {b g : Nat} {a s t : Int} (h : Rk w b a s t) (hb : Upon g w w') (hne : b ≠ g) : Rk w' b a s t := h.same (hb.block b h.lt hne)
theorem Rk.set {w : World} {b : Nat} {a s t a' s' t' : Int} (h : Rk w b a s t) : Rk (((w.setCell ⟨b, 0, none⟩ (.int .i64 a')).setCell ⟨b, 1, none⟩ (.int .i64 s')).setCell ⟨b, 2, none⟩ (.int .i64 t')) b a' s' t' := by
  obtain ⟨h0, h1, h2, f0, f1, f2⟩ := h
  refine ⟨?_, ?_, ?_, ?_, ?_, ?_⟩ <;> go_simp

theorem dcell0 (w : World) (x y : Value) : (w.alloc (.cells #[x, y] 38)).cell? ⟨w.heap.size, 0, none⟩ = some x := by go_simp
theorem dcell1 (w : World) (x y : Value) : (w.alloc (.cells #[x, y] 38)).cell? ⟨w.heap.size, 1, none⟩ = some y := by go_simp

theorem odd_end {w wr w3 w4 : World} {q r : Nat} {A s t s' t' : Int} {o1 o2 o3 : Obj} (c3 : Ck w3 q A s' t') (u3 : Upon q wr w3) (b4 : RowKit.Below (w3.alloc o1).heap.size (w3.alloc o1) w4) (R4 : Rk w4 r A s t) (hB : RowKit.Below w.heap.size w wr) (hq : w.heap.size ≤ q) (hr : w.heap.size ≤ r) (hne : q ≠ r) :
    Ck ((((((w4.setCell ⟨r, 0, none⟩ (.int .i64 A)).setCell ⟨r, 1, none⟩ (.int .i64 s')).setCell ⟨r, 2, none⟩ (.int .i64 t')).alloc o2).alloc o3)) q A s' t' ∧
    Rk ((((((w4.setCell ⟨r, 0, none⟩ (.int .i64 A)).setCell ⟨r, 1, none⟩ (.int .i64 s')).setCell ⟨r, 2, none⟩ (.int .i64 t')).alloc o2).alloc o3)) r A s' t' ∧
    RowKit.Below w.heap.size w ((((((w4.setCell ⟨r, 0, none⟩ (.int .i64 A)).setCell ⟨r, 1, none⟩ (.int .i64 s')).setCell ⟨r, 2, none⟩ (.int .i64 t')).alloc o2).alloc o3)) := by
  have b3 : RowKit.Below w3.heap.size w3 (w3.alloc o1) := (Below.refl _ _).alloc (Nat.le_refl _) _
  have b34 := below2 b3 b4
  have c4 := c3.below b34
  have up := (((((Upon.refl r w4).set 0 (.int .i64 A)).set 1 (.int .i64 s')).set 2 (.int .i64 t')).alloc o2).alloc o3
  have R5 := R4.set (a' := A) (s' := s') (t' := t')
  have z3 := Nat.le_trans hB.size u3.size
  exact ⟨c4.upon up hne, (R5.below ((Below.refl _ _).alloc (Nat.le_refl _) o2)).below ((Below.refl _ _).alloc (Nat.le_refl _) o3),
    ((hB.trans (u3.below hq hB.size)).trans (b34.mono z3)).trans (up.below hr (Nat.le_trans z3 b34.size))⟩

theorem half_wrap (x : Int) (hx : -9223372036854775808 ≤ x ∧ x ≤ 9223372036854775807) : IntKind.i64.wrap (x.tdiv 2) = x.tdiv 2 := by
  rw [IntKind.wrap_i64]
  rcases Int.le_total 0 x with h | h
  · rw [Int.tdiv_eq_ediv_of_nonneg h]; omega
  · obtain ⟨y, rfl⟩ : ∃ y, x = -y := ⟨-x, by omega⟩
    rw [Int.neg_tdiv, Int.tdiv_eq_ediv_of_nonneg (by omega)]; omega

set_option maxRecDepth 100000 in
set_option maxHeartbeats 4000000 in
theorem plays_walk (A S T : Int) (a : Option Addr) (n c : Nat) (z : Nat → Int) (w : World) (hs : NS w a n c z) :
    Calls Try.prog 4 #[.int .i64 A, .int .i64 S, .int .i64 T, .slice a n c] w fun e w' => e = .returned (.bool true) ∧ RowKit.Below w.heap.size w w' := by
  by_cases hmay : (0 ≤ A ∧ A ≤ 16777215) ∧ (0 ≤ S ∧ S ≤ 1073741824) ∧ (0 ≤ T ∧ T ≤ 1099511627776)
  · obtain ⟨⟨hA0, hA1⟩, ⟨hS0, hS1⟩, ⟨hT0, hT1⟩⟩ := hmay
    have hcap := hs.cap
    have hmax := hs.max
    have hN := fun w => new_yes A S T w (by omega) (by omega) (by omega)
    have hcells := hid hs.cells
    have hfit := hid hs.fit
    clear hs
    go_enter Try.func4, Try.ntmps4
    go_wp2_with (first
      | (go_at_call 8; refine (awake_any _).mono ?_; rintro e w1 ⟨rfl, b1⟩)
      | (go_at_call 11; refine (hN _).mono ?_; rintro e w2 ⟨rfl, c2, b2⟩))
    have hq0 : w1.heap.size < w2.heap.size := c2.lt
    have B2 := hid ((below2 b1 b2).trans ((Below.refl _ w2).alloc (Nat.le_trans b1.size b2.size) (.cells #[.int .i64 A, .int .i64 S, .int .i64 T] 34)))
    have C2 : Hid (Ck (w2.alloc (.cells #[.int .i64 A, .int .i64 S, .int .i64 T] 34)) w1.heap.size A S T) := hid (c2.below ((Below.refl _ _).alloc (Nat.le_refl _) _))
    have R2 : Hid (Rk (w2.alloc (.cells #[.int .i64 A, .int .i64 S, .int .i64 T] 34)) w2.heap.size A S T) := hid (by refine ⟨?_, ?_, ?_, ?_, ?_, ?_⟩ <;> go_simp)
    have hq : Hid (w.heap.size ≤ w1.heap.size) := hid b1.size
    generalize hr : w2.heap.size = r at hq0 R2 ⊢
    have hne : w1.heap.size ≠ r := by omega
    have hqr : Hid (w.heap.size ≤ r) := hid (by have := hq.out; omega)
    generalize w1.heap.size = q at C2 hq hne ⊢
    clear b1 b2 c2 hN hr hq0
    go_loopw [14] (fun i8 wr => ∃ (k : Nat) (s t : Int), k ≤ n ∧ k ≤ 100 ∧ i8 = .int .i64 k ∧ 0 ≤ s ∧ s ≤ 1073741824 ∧ 0 ≤ t ∧ t ≤ 1099511627776 ∧ Hid (Ck wr q A s t) ∧ Hid (Rk wr r A s t) ∧ Hid (RowKit.Below w.heap.size w wr)) (fun i8 _ => n - (intOf i8).toNat)
    case atStart => exact ⟨0, S, T, by omega, by omega, rfl, by omega, by omega, by omega, by omega, C2, R2, B2⟩
    case round =>
      clear hS0 hS1 hT0 hT1 C2 R2 B2
      obtain ⟨k, s, t, hk, hk1, rfl, hs0, hs1, ht0, ht1, hC, hR, hB⟩ := hrel
      by_cases hkn : k < n
      · by_cases hk2 : k < 100
        · obtain ⟨g, o, rfl, hg, hcl⟩ := hcells.out (by omega)
          have hc := fun W (hW : RowKit.Below w.heap.size w W) => (hW.cell (p := ⟨g, o + k, none⟩) hg).trans (hcl k hkn)
          have hx := hfit.out k
          generalize z k = x at hc hx
          have h0 := hc wr hB.out
          have hH := hid hc
          clear hc hcl hcells hfit
          by_cases heven : x.tmod 2 = 0
          · have he : (x.tmod 2 == 0) = true := by simp [heven]
            clear heven
            have hwr : IntKind.i64.wrap (x.tdiv 2) = x.tdiv 2 := half_wrap x hx
            have hS := see_any wr q A s t (x.tdiv 2) hC.out
            have hRS := fun W => rsee_any A s t (x.tdiv 2) W
            have hv0 : 0 ≤ seen t (x.tdiv 2) := by unfold seen; split <;> omega
            have hv1 : seen t (x.tdiv 2) ≤ 1099511627776 := by unfold seen; split <;> omega
            generalize seen t (x.tdiv 2) = t' at hS hRS hv0 hv1
            go_wp2_with (first
              | (go_at_call 12; refine hS.mono ?_; rintro e w3 ⟨rfl, c3, u3⟩; have B3 := hid (hB.out.trans (u3.below hq.out hB.out.size)); have h3 := hH.out _ B3.out))
            have R3 := hid (hR.out.upon u3 (Ne.symm hne))
            have C3 := hid c3
            clear hS hR hC hB u3 c3 h0
            have R3d : Rk w3.drew r A s t := R3.out.same rfl
            have h3d := hid (fun W (hW : RowKit.Below w3.drew.heap.size w3.drew W) => hH.out W (B3.out.drew.trans (hW.mono B3.out.size)))
            obtain ⟨k0, k1, k2, g0, g1, g2⟩ := R3.out
            go_region_with
              (first
                | (go_at_call 13; (try rw [hwr]); refine (hRS _).mono ?_; rintro e w4 ⟨rfl, b4⟩; have R4 := R3d.below b4; obtain ⟨m0, m1, m2, n0, n1, n2⟩ := id R4; have h4 := h3d.out _ b4))
            all_goals
              (have R5 := hid (R4.set (a' := A) (s' := s) (t' := t'))
               have C5 := hid ((C3.out.below (Below.refl _ w3).drew).below b4 |>.upon ((((Upon.refl r w4).set 0 (.int .i64 A)).set 1 (.int .i64 s)).set 2 (.int .i64 t')) hne)
               have B5 := hid ((B3.out.drew.trans (b4.mono B3.out.size)).trans (((((Upon.refl r w4).set 0 (.int .i64 A)).set 1 (.int .i64 s)).set 2 (.int .i64 t')).below hqr.out (Nat.le_trans B3.out.size b4.size)))
               clear R3d h3d k0 k1 k2 g0 g1 g2 m0 m1 m2 n0 n1 n2 R4 h4 h3 R3 C3 B3 hRS b4 hwr he hH
               generalize (((w4.setCell ⟨r, 0, none⟩ (.int .i64 A)).setCell ⟨r, 1, none⟩ (.int .i64 s)).setCell ⟨r, 2, none⟩ (.int .i64 t')) = w5 at R5 C5 B5 ⊢
               go_wp2_with fail
               have q16 := fun p => Calls.quiet_of_same (w := w5) (n := p) ((cactor_any (w5.drewN p) q A (s) (t') (C5.out.same rfl)).mono (fun _ _ h => ⟨h.1, h.2.symm⟩))
               have q17 := fun p => Calls.quiet_of_same (w := w5) (n := p) ((cseq_any (w5.drewN p) q A (s) (t') (C5.out.same rfl)).mono (fun _ _ h => ⟨h.1, h.2.symm⟩))
               have q18 := fun p => Calls.quiet_of_same (w := w5) (n := p) ((ctime_any (w5.drewN p) q A (s) (t') (C5.out.same rfl)).mono (fun _ _ h => ⟨h.1, h.2.symm⟩))
               obtain ⟨k0, k1, k2, g0, g1, g2⟩ := R5.out
               go_quiet (first | (go_at_call 16; exact q16 _) | (go_at_call 17; exact q17 _) | (go_at_call 18; exact q18 _))
               go_wp2_with fail
               have B6 : Hid (RowKit.Below w.heap.size w (w5.drewN nq)) := hid ⟨B5.out.os, B5.out.tape, B5.out.output, B5.out.size, B5.out.block⟩
               go_roundw
               case rel => exact ⟨k + 1, s, t', by omega, by omega, by go_num, by omega, by omega, by omega, by omega, hid (C5.out.same rfl), hid (R5.out.same rfl), B6⟩
               case measure => simp [intOf]; omega)
          · have he : (x.tmod 2 == 0) = false := by simp [heven]
            clear heven
            by_cases hu : used s t = true
            · have hX := next_spent wr q A s t hC.out hu
              have hY := fun W => rnext_spent A s t W hs1 ht1 hu
              clear hu
              go_wp2_with (first
                | (go_at_call 15; have hz := R3a; refine (hY _).mono ?_; rintro e w4 ⟨rfl, b4⟩; have R4 := R3a.below b4; obtain ⟨m0, m1, m2, n0, n1, n2⟩ := id R4; have hl4 : r < w4.heap.size := R4.lt; have hsz3 : w3.heap.size < (w3.alloc (.cells #[.int .i64 0, .int .i64 0] 38)).heap.size := (by rw [World.size_alloc]; exact Nat.lt_succ_self _); have d40 := (b4.cell (p := ⟨w3.heap.size, 0, none⟩) hsz3).trans (dcell0 w3 _ _); have d41 := (b4.cell (p := ⟨w3.heap.size, 1, none⟩) hsz3).trans (dcell1 w3 _ _); clear hsz3; have r3 : r < w3.heap.size := R3.lt; have r3n : w3.heap.size ≠ r := Ne.symm (Nat.ne_of_lt r3); have l43 : w3.heap.size < w4.heap.size := Nat.lt_of_lt_of_le (by rw [World.size_alloc]; exact Nat.lt_succ_self _) b4.size)
                | (go_at_call 14; refine hX.mono ?_; rintro e w3 ⟨rfl, c3, u3⟩; have R3 := hR.out.upon u3 (Ne.symm hne); have R3a : Rk (w3.alloc (.cells #[.int .i64 0, .int .i64 0] 38)) r A s t := R3.below ((Below.refl _ _).alloc (Nat.le_refl _) _); obtain ⟨k0, k1, k2, g0, g1, g2⟩ := id R3a))
              obtain ⟨C5, R5, B5⟩ := odd_end (o2 := .cells #[.int .i64 0, .int .i64 0] 38) (o3 := .cells #[.int .i64 A, .int .i64 s, .int .i64 t] 34) c3 u3 b4 R4 hB.out hq.out hqr.out hne
              have C5 := hid C5
              have R5 := hid R5
              have B5 := hid B5
              clear hX hY R3 R3a k0 k1 k2 g0 g1 g2 m0 m1 m2 n0 n1 n2 R4 d40 d41 r3 r3n hl4 l43 c3 u3 b4 hB hR hC hH h0 he
              generalize (((((w4.setCell ⟨r, 0, none⟩ (.int .i64 A)).setCell ⟨r, 1, none⟩ (.int .i64 s)).setCell ⟨r, 2, none⟩ (.int .i64 t)).alloc (.cells #[.int .i64 0, .int .i64 0] 38)).alloc (.cells #[.int .i64 A, .int .i64 s, .int .i64 t] 34)) = w5 at C5 R5 B5 ⊢
              generalize w3.heap.size = q3
              generalize w4.heap.size = q4
              have q16 := fun p => Calls.quiet_of_same (w := w5) (n := p) ((cactor_any (w5.drewN p) q A (s) (t) (C5.out.same rfl)).mono (fun _ _ h => ⟨h.1, h.2.symm⟩))
              have q17 := fun p => Calls.quiet_of_same (w := w5) (n := p) ((cseq_any (w5.drewN p) q A (s) (t) (C5.out.same rfl)).mono (fun _ _ h => ⟨h.1, h.2.symm⟩))
              have q18 := fun p => Calls.quiet_of_same (w := w5) (n := p) ((ctime_any (w5.drewN p) q A (s) (t) (C5.out.same rfl)).mono (fun _ _ h => ⟨h.1, h.2.symm⟩))
              obtain ⟨k0, k1, k2, g0, g1, g2⟩ := R5.out
              go_quiet (first | (go_at_call 16; exact q16 _) | (go_at_call 17; exact q17 _) | (go_at_call 18; exact q18 _))
              go_wp2_with fail
              have B6 : Hid (RowKit.Below w.heap.size w (w5.drewN nq)) := hid ⟨B5.out.os, B5.out.tape, B5.out.output, B5.out.size, B5.out.block⟩
              go_roundw
              case rel => exact ⟨k + 1, s, t, by omega, by omega, by go_num, by omega, by omega, by omega, by omega, hid (C5.out.same rfl), hid (R5.out.same rfl), B6⟩
              case measure => simp [intOf]; omega
            · have hu' : s < 1073741824 ∧ t < 1099511627776 := by simp [used] at hu; omega
              have hX := next_any wr q A s t hC.out hs0 hu'.1 ht0 hu'.2
              have hY := fun W => rnext_any A s t W hs0 hu'.1 ht0 hu'.2
              clear hu
              go_wp2_with (first
                | (go_at_call 15; have hz := R3a; refine (hY _).mono ?_; rintro e w4 ⟨rfl, b4⟩; have R4 := R3a.below b4; obtain ⟨m0, m1, m2, n0, n1, n2⟩ := id R4; have hl4 : r < w4.heap.size := R4.lt; have hsz3 : w3.heap.size < (w3.alloc (.cells #[.int .i64 A, .int .i64 (s + 1)] 38)).heap.size := (by rw [World.size_alloc]; exact Nat.lt_succ_self _); have d40 := (b4.cell (p := ⟨w3.heap.size, 0, none⟩) hsz3).trans (dcell0 w3 _ _); have d41 := (b4.cell (p := ⟨w3.heap.size, 1, none⟩) hsz3).trans (dcell1 w3 _ _); clear hsz3; have r3 : r < w3.heap.size := R3.lt; have r3n : w3.heap.size ≠ r := Ne.symm (Nat.ne_of_lt r3); have l43 : w3.heap.size < w4.heap.size := Nat.lt_of_lt_of_le (by rw [World.size_alloc]; exact Nat.lt_succ_self _) b4.size)
                | (go_at_call 14; refine hX.mono ?_; rintro e w3 ⟨rfl, c3, u3⟩; have R3 := hR.out.upon u3 (Ne.symm hne); have R3a : Rk (w3.alloc (.cells #[.int .i64 A, .int .i64 (s + 1)] 38)) r A s t := R3.below ((Below.refl _ _).alloc (Nat.le_refl _) _); obtain ⟨k0, k1, k2, g0, g1, g2⟩ := id R3a))
              obtain ⟨C5, R5, B5⟩ := odd_end (o2 := .cells #[.int .i64 A, .int .i64 (s + 1)] 38) (o3 := .cells #[.int .i64 A, .int .i64 (s + 1), .int .i64 (t + 1)] 34) c3 u3 b4 R4 hB.out hq.out hqr.out hne
              have C5 := hid C5
              have R5 := hid R5
              have B5 := hid B5
              clear hX hY R3 R3a k0 k1 k2 g0 g1 g2 m0 m1 m2 n0 n1 n2 R4 d40 d41 r3 r3n hl4 l43 c3 u3 b4 hB hR hC hH h0 he
              generalize (((((w4.setCell ⟨r, 0, none⟩ (.int .i64 A)).setCell ⟨r, 1, none⟩ (.int .i64 (s + 1))).setCell ⟨r, 2, none⟩ (.int .i64 (t + 1))).alloc (.cells #[.int .i64 A, .int .i64 (s + 1)] 38)).alloc (.cells #[.int .i64 A, .int .i64 (s + 1), .int .i64 (t + 1)] 34)) = w5 at C5 R5 B5 ⊢
              generalize w3.heap.size = q3
              generalize w4.heap.size = q4
              have q16 := fun p => Calls.quiet_of_same (w := w5) (n := p) ((cactor_any (w5.drewN p) q A (s + 1) (t + 1) (C5.out.same rfl)).mono (fun _ _ h => ⟨h.1, h.2.symm⟩))
              have q17 := fun p => Calls.quiet_of_same (w := w5) (n := p) ((cseq_any (w5.drewN p) q A (s + 1) (t + 1) (C5.out.same rfl)).mono (fun _ _ h => ⟨h.1, h.2.symm⟩))
              have q18 := fun p => Calls.quiet_of_same (w := w5) (n := p) ((ctime_any (w5.drewN p) q A (s + 1) (t + 1) (C5.out.same rfl)).mono (fun _ _ h => ⟨h.1, h.2.symm⟩))
              obtain ⟨k0, k1, k2, g0, g1, g2⟩ := R5.out
              go_quiet (first | (go_at_call 16; exact q16 _) | (go_at_call 17; exact q17 _) | (go_at_call 18; exact q18 _))
              go_wp2_with fail
              have B6 : Hid (RowKit.Below w.heap.size w (w5.drewN nq)) := hid ⟨B5.out.os, B5.out.tape, B5.out.output, B5.out.size, B5.out.block⟩
              go_roundw
              case rel => exact ⟨k + 1, s + 1, t + 1, by omega, by omega, by go_num, by omega, by omega, by omega, by omega, hid (C5.out.same rfl), hid (R5.out.same rfl), B6⟩
              case measure => simp [intOf]; omega
        · go_wp2
          go_ret
          exact ⟨rfl, hB.out⟩
      · go_wp2
        go_ret
        exact ⟨rfl, hB.out⟩
  · have hN := fun w => new_no A S T w hmay
    have hor : A < 0 ∨ 16777216 ≤ A ∨ S < 0 ∨ 1073741824 < S ∨ T < 0 ∨ 1099511627776 < T := by omega
    clear hs hmay
    rcases hor with h | h | h | h | h | h
    · go_enter Try.func4, Try.ntmps4
      go_wp2_with (first
        | (go_at_call 8; refine (awake_any _).mono ?_; rintro e w1 ⟨rfl, b1⟩)
        | (go_at_call 11; refine (hN _).mono ?_; rintro e w2 ⟨rfl, rfl⟩))
      all_goals go_ret
      all_goals exact ⟨rfl, b1⟩
    · go_enter Try.func4, Try.ntmps4
      go_wp2_with (first
        | (go_at_call 8; refine (awake_any _).mono ?_; rintro e w1 ⟨rfl, b1⟩)
        | (go_at_call 11; refine (hN _).mono ?_; rintro e w2 ⟨rfl, rfl⟩))
      all_goals go_ret
      all_goals exact ⟨rfl, b1⟩
    · go_enter Try.func4, Try.ntmps4
      go_wp2_with (first
        | (go_at_call 8; refine (awake_any _).mono ?_; rintro e w1 ⟨rfl, b1⟩)
        | (go_at_call 11; refine (hN _).mono ?_; rintro e w2 ⟨rfl, rfl⟩))
      all_goals go_ret
      all_goals exact ⟨rfl, b1⟩
    · go_enter Try.func4, Try.ntmps4
      go_wp2_with (first
        | (go_at_call 8; refine (awake_any _).mono ?_; rintro e w1 ⟨rfl, b1⟩)
        | (go_at_call 11; refine (hN _).mono ?_; rintro e w2 ⟨rfl, rfl⟩))
      all_goals go_ret
      all_goals exact ⟨rfl, b1⟩
    · go_enter Try.func4, Try.ntmps4
      go_wp2_with (first
        | (go_at_call 8; refine (awake_any _).mono ?_; rintro e w1 ⟨rfl, b1⟩)
        | (go_at_call 11; refine (hN _).mono ?_; rintro e w2 ⟨rfl, rfl⟩))
      all_goals go_ret
      all_goals exact ⟨rfl, b1⟩
    · have hd : decide (T ≤ 1099511627776) = false := by simp; omega
      go_enter Try.func4, Try.ntmps4
      go_wp2_with (first
        | (go_at_call 8; refine (awake_any _).mono ?_; rintro e w1 ⟨rfl, b1⟩)
        | (go_at_call 11; refine (hN _).mono ?_; rintro e w2 ⟨rfl, rfl⟩))
      all_goals go_ret
      all_goals exact ⟨rfl, b1⟩

namespace clockPlays
open Go.ChangeShapes Go.WideShapes Go.ChangeAt Go.RowKit
open Go.ChangeMaps (open_string shut_string)
set_option linter.unusedVariables false

theorem own : ownKnob Try.prog.godebug = none := by kernel_rfl
theorem laidOut : laidOutB Try.prog = true := by kernel_rfl

set_option maxRecDepth 100000 in
theorem lifted (os : Os) (started : os.Started) (H : Type) (enc : TypeId × Value → H) :
    ReturnsInHanded {} Try.checked os 4 .any (Rows.clockPlaysSpec.pre6 enc Try.prog Try.f4 Rows.clockPlaysRow.domain false) (Rows.clockPlaysSpec.post enc Try.prog Try.f4 false true false false) := by
  refine returnsInHanded_of_change (C := Try.checked) own started (by kernel_rfl) Try.func4
    (ChangeSpec.witness6 (enc := enc) (C := Try.checked) false ⟨#[], #[.int .i64 0, .int .i64 0, .int .i64 0, .slice none 0 0], []⟩ 8 (by kernel_rfl) (by kernel_rfl) (by kernel_rfl) (by kernel_rfl)) ?_
  intro W base args ds gs before hval0 hW hcnd _
  have hval : ∀ (j : Nat) t v, Try.f4.params[j]? = some t → args[j]? = some v → Value.okWide Try.prog W .any base t v := hval0
  have hW' := hW
  obtain ⟨p, q, hA0, hV, rfl, hfz, hnd⟩ := hW
  have hA : DataW.TrodAll enc Try.prog W 0 (fun _ => true) true Try.f4.params.toList args.toList ds p := hA0
  rw [Try.params4] at hA hval
  obtain ⟨v0, vs0, d0, ds0, p0, q0, hargs, rfl, rfl, h0, r0⟩ := trodAll_cons hA
  obtain ⟨v1, vs1, d1, ds1, p1, q1, rfl, rfl, rfl, h1, r1⟩ := trodAll_cons r0
  obtain ⟨v2, vs2, d2, ds2, p2, q2, rfl, rfl, rfl, h2, r2⟩ := trodAll_cons r1
  obtain ⟨v3, vs3, d3, ds3, p3, q3, rfl, rfl, rfl, h3, r3⟩ := trodAll_cons r2
  obtain ⟨rfl, rfl, rfl⟩ := trodAll_nil r3
  obtain rfl : args = #[v0, v1, v2, v3] := by cases args; simp_all
  obtain ⟨rfl, rfl⟩ := trodVars_none hV
  obtain ⟨x0, rfl, w0⟩ : ∃ n, v0 = .int .i64 n ∧ (Lit.int .i64 n).wf = true := by
    obtain ⟨n, e, _, _, h⟩ := open_int Try.underlying3 (hval 0 3 v0 rfl rfl) h0
    exact ⟨n, e, h⟩
  obtain ⟨x1, rfl, w1⟩ : ∃ n, v1 = .int .i64 n ∧ (Lit.int .i64 n).wf = true := by
    obtain ⟨n, e, _, _, h⟩ := open_int Try.underlying3 (hval 1 3 v1 rfl rfl) h1
    exact ⟨n, e, h⟩
  obtain ⟨x2, rfl, w2⟩ : ∃ n, v2 = .int .i64 n ∧ (Lit.int .i64 n).wf = true := by
    obtain ⟨n, e, _, _, h⟩ := open_int Try.underlying3 (hval 2 3 v2 rfl rfl) h2
    exact ⟨n, e, h⟩
  obtain ⟨a3, len3, cap3, rfl⟩ := okWide_slice Try.underlying29 (hval 3 29 v3 rfl rfl)
  have k0 := h0
  have k1 := h1
  have k2 := h2
  have k3 := h3
  have lt0 : ∀ x ∈ p0, x.block < W.heap.size := by obtain ⟨m, hm⟩ := k0; exact DataW.trod_lt m _ _ _ hm
  have lt1 : ∀ x ∈ p1, x.block < W.heap.size := by obtain ⟨m, hm⟩ := k1; exact DataW.trod_lt m _ _ _ hm
  have lt2 : ∀ x ∈ p2, x.block < W.heap.size := by obtain ⟨m, hm⟩ := k2; exact DataW.trod_lt m _ _ _ hm
  have lt3 : ∀ x ∈ p3, x.block < W.heap.size := by obtain ⟨m, hm⟩ := k3; exact DataW.trod_lt m _ _ _ hm
  obtain ⟨z3, w3⟩ := open_nums h3
  clear hA0 hval0
  refine (plays_walk x0 x1 x2 a3 len3 cap3 z3 W w3).mono fun e W' ⟨he, bel⟩ => ?_
  subst he
  exact ⟨_, rfl, _, _, _, [], _, [], hW', trodAll_mk1 (shut_bool Try.underlying4 _),
    (trodAll_cons_mk (Below.trod laidOut (by kernel_rfl) (of_decide_eq_true (by kernel_rfl)) k0 bel lt0) (trodAll_cons_mk (Below.trod laidOut (by kernel_rfl) (of_decide_eq_true (by kernel_rfl)) k1 bel lt1) (trodAll_cons_mk (Below.trod laidOut (by kernel_rfl) (of_decide_eq_true (by kernel_rfl)) k2 bel lt2) (trodAll_cons_mk (Below.trod laidOut (by kernel_rfl) (of_decide_eq_true (by kernel_rfl)) k3 bel lt3) trodAll_mk0)))), rfl, bel.frame _, fun h => by cases h⟩

theorem over : Rows.clockPlaysRow.holds Try.pinned (OpenSpec.ofChange Rows.clockPlaysSpec) :=
  OpenClaim.holds_of_wide 4 Try.f4 rfl rfl rfl rfl rfl rfl rfl ⟨rfl, rfl, rfl, rfl, rfl⟩ rfl rfl rfl rfl rfl (by kernel_rfl) Try.func4 (by kernel_rfl)
    (of_decide_eq_true (by kernel_rfl)) (by unfold Func.isWrapper; first | (rw [if_pos (by decide +kernel)]; kernel_rfl) | (rw [if_neg (by decide +kernel)]; exact ⟨rfl, rfl⟩))
    (fun os started H enc _ => lifted os started H enc)

end clockPlays

/-- The statement. -/
theorem clockPlays_holds : Rows.ClockPlaysSaid := clockPlays.over
#print axioms clockPlays_holds
end Go.Proofs.Ytjilmhenakccjaa
