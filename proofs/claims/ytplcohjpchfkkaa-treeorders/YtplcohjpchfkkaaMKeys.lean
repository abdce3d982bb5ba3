/- Dots as the keys of a map: what a key reads as, and back; a map of dots as a function. -/
import Derived.Test.YtplcohjpchfkkaaOLess
import Derived.Test.YtplcohjpchfkkaaProg
import Derived.WalkKit
import Derived.Below
import Derived.DeepKeys4
import Derived.Maps.OwnSet
import Derived.Maps.RangeWalk
namespace Go.Proofs.Ytplcohjpchfkkaa
section
open Go.RowKit

theorem agg_eq (a b : Dt) : ((dv a) = (dv b)) ↔ a = b := by
  constructor
  · intro h
    simp at h
    exact Prod.ext h.1 h.2
  · rintro rfl
    rfl

/-- What order answers. -/
def cfd (a b : Dt) : Int := if a = b then 0 else if dl a b = true then -1 else 1

theorem dorder_any (a b : Dt) (w : World) : Tells 79 #[dv a, dv b] w (.int .i64 (cfd a b)) := by
  obtain ⟨a1, a2⟩ := a
  obtain ⟨b1, b2⟩ := b
  by_cases h : a1 = b1 ∧ a2 = b2
  · obtain ⟨rfl, rfl⟩ := h
    go_enter Try.func79, Try.ntmps79
    go_wp2
    go_ret
    exact ⟨by simp [cfd], ((Far.refl w).alloc _).alloc _⟩
  · have hne : ((a1, a2) : Dt) ≠ (b1, b2) := fun e => h (by simpa using e)
    by_cases h1 : a1 = b1
    · subst h1
      have h2 : ¬ a2 = b2 := fun e => h ⟨rfl, e⟩
      have hL := fun w => less_any (a1, a2) (a1, b2) w
      have hc : cfd (a1, a2) (a1, b2) = if dl (a1, a2) (a1, b2) = true then -1 else 1 := by simp [cfd, h2]
      generalize dl (a1, a2) (a1, b2) = r at hL hc
      rw [hc]
      clear h hne hc
      cases r
      all_goals
        go_enter Try.func79, Try.ntmps79
        go_wp2_with (go_at_call 83; refine (hL _).mono ?_; rintro e w1 ⟨rfl, hF1⟩)
        go_ret
        exact ⟨rfl, (((Far.refl w).alloc _).alloc _).trans hF1⟩
    · have hL := fun w => less_any (a1, a2) (b1, b2) w
      have hc : cfd (a1, a2) (b1, b2) = if dl (a1, a2) (b1, b2) = true then -1 else 1 := by simp [cfd, h1]
      generalize dl (a1, a2) (b1, b2) = r at hL hc
      rw [hc]
      clear h hne hc
      cases r
      all_goals
        go_enter Try.func79, Try.ntmps79
        go_wp2_with (go_at_call 83; refine (hL _).mono ?_; rintro e w1 ⟨rfl, hF1⟩)
        go_ret
        exact ⟨rfl, (((Far.refl w).alloc _).alloc _).trans hF1⟩

end

section
open Go.RowKit Go.Sort Go.Maps

theorem laidOut0 : laidOutB Try.prog = true := by kernel_rfl
theorem dotRow : (24 : TypeId) < Try.prog.types.size := of_decide_eq_true (by kernel_rfl)
theorem dotCells : Try.prog.cellsOf 24 = 2 := by kernel_rfl
theorem intCells : Try.prog.cellsOf 3 = 1 := by kernel_rfl
theorem dotKey : Try.prog.keyType 24 = true := by kernel_rfl
theorem dotWide : (match Try.prog.underlying 24 with | some (.array _ _) | some (.struct _) => true | _ => false) = true := by rw [Try.underlying24]
set_option maxRecDepth 100000 in
theorem law : Keyed Try.prog 24 := Keyed.of_law (deep_law_laid laidOut0 (m := 2) (by omega) dotRow (by kernel_rfl) dotWide)

/-- What a dot reads as, as a key. -/
def kl (d : Dt) : Lit := .string (keyBytes [.int .i64 d.1, .int .i64 d.2])

theorem dotFormed (a b : Value) : (Value.agg #[a, b]).formed Try.prog 24 = true := by simp [Value.formed, Try.underlying24, dotCells]

theorem typesNum : Try.prog.types.size = 174 := by kernel_rfl

theorem lits_int (n : Nat) {a : Int} (h : (Lit.int .i64 a).wf = true) : Try.prog.keyLits (n + 1) 3 [.int .i64 a] = some [.int .i64 a] := by
  unfold Program.keyLits
  rw [Try.underlying3]
  simp [h]

theorem lits_dot (n : Nat) {d : Dt} (h : Dw d) : Try.prog.keyLits (n + 2) 24 [.int .i64 d.1, .int .i64 d.2] = some [.int .i64 d.1, .int .i64 d.2] := by
  unfold Program.keyLits
  rw [Try.underlying24]
  simp [dotCells, intCells, lits_int n h.1, lits_int n h.2]

theorem keyOf_dot {d : Dt} (h : Dw d) : keyOf Try.prog 24 (dv d) = some (kl d) := by
  unfold keyOf
  rw [Try.underlying24]
  simp only [dotKey, dotFormed, Bool.and_self, if_true, typesNum]
  have : (dv d).cells.toList = [.int .i64 d.1, .int .i64 d.2] := rfl
  rw [this, lits_dot 173 h]
  rfl

set_option maxRecDepth 100000 in
theorem keyOf_dot_inv {v : Value} {l : Lit} (h : keyOf Try.prog 24 v = some l) : ∃ d : Dt, v = dv d ∧ Dw d ∧ l = kl d := by
  unfold keyOf at h
  rw [Try.underlying24] at h
  simp only [typesNum] at h
  split at h
  · rename_i hf
    obtain ⟨ls, hl, rfl⟩ := Option.map_eq_some_iff.1 h
    simp only [Bool.and_eq_true] at hf
    have hf2 := hf.2
    unfold Program.keyLits at hl
    rw [Try.underlying24] at hl
    cases v <;> simp [Value.formed, Try.underlying24, dotCells] at hf2
    rename_i cs
    obtain ⟨cs⟩ := cs
    match cs, hf2 with
    | [x, y], _ =>
      simp [dotCells, intCells, Value.cells] at hl
      obtain ⟨l0, h0⟩ : ∃ l0, Try.prog.keyLits 174 3 [x] = some l0 := by
        cases hh : Try.prog.keyLits 174 3 [x]
        · rw [hh] at hl; simp at hl
        · exact ⟨_, rfl⟩
      obtain ⟨l1, h1⟩ : ∃ l1, Try.prog.keyLits 174 3 [y] = some l1 := by
        cases hh : Try.prog.keyLits 174 3 [y]
        · rw [h0, hh] at hl; simp at hl
        · exact ⟨_, rfl⟩
      rw [h0, h1] at hl
      simp at hl
      subst hl
      obtain ⟨n0, e0, rfl⟩ := keyLits_int' Try.underlying3 h0
      obtain ⟨n1, e1, rfl⟩ := keyLits_int' Try.underlying3 h1
      simp at e0 e1
      subst e0
      subst e1
      refine ⟨(n0, n1), rfl, ⟨?_, ?_⟩, rfl⟩
      · unfold Program.keyLits at h0
        rw [Try.underlying3] at h0
        simpa using h0
      · unfold Program.keyLits at h1
        rw [Try.underlying3] at h1
        simpa using h1
  · cases h

theorem kl_inj {a b : Dt} (ha : Dw a) (hb : Dw b) (h : kl a = kl b) : a = b := by
  have := law.inj (keyOf_dot ha) (h ▸ keyOf_dot hb)
  exact (agg_eq a b).1 this

theorem kl_isKey (d : Dt) : WideAt.IsKeyLit (kl d) := trivial

theorem zero3 (w : World) : (zeroValue 3).run Try.prog w = .ok (.int .i64 0) w := Try.zeroValue3 w

end
end Go.Proofs.Ytplcohjpchfkkaa
