/- A clock in memory, and what its calls do to it: New, See, Actor, Seq, Time, Next. -/
import Derived.Test.YtjilmhenakccjaaCBase
import Derived.Deep.RegionHeld
namespace Go.Proofs.Ytjilmhenakccjaa
open Go.RowKit

theorem cell_in {w : World} {p : Addr} {v : Value} (h : w.cell? p = some v) : p.block < w.heap.size := by
  rcases Nat.lt_or_ge p.block w.heap.size with hlt | hge
  · exact hlt
  · simp [World.cell?, Array.getElem?_eq_none hge] at h

theorem below2 {w w1 w2 : World} (h : RowKit.Below w.heap.size w w1) (k : RowKit.Below w1.heap.size w1 w2) : RowKit.Below w.heap.size w w2 := h.trans (k.mono h.size)

/-- Of the blocks that were there block b alone may have turned; there may be new ones. -/
structure Upon (b : Nat) (w w' : World) : Prop where
  os : w'.os = w.os
  tape : w'.tape = w.tape
  output : w'.output = w.output
  size : w.heap.size ≤ w'.heap.size
  block : ∀ k, k < w.heap.size → k ≠ b → w'.heap[k]? = w.heap[k]?

theorem Upon.refl (b : Nat) (w : World) : Upon b w w := ⟨rfl, rfl, rfl, Nat.le_refl _, fun _ _ _ => rfl⟩
theorem Upon.trans {b : Nat} {w w1 w2 : World} (h : Upon b w w1) (k : Upon b w1 w2) : Upon b w w2 :=
  ⟨k.os.trans h.os, k.tape.trans h.tape, k.output.trans h.output, Nat.le_trans h.size k.size, fun i hi hne => (k.block i (Nat.lt_of_lt_of_le hi h.size) hne).trans (h.block i hi hne)⟩
theorem Upon.of_below {b : Nat} {w w' : World} (h : RowKit.Below w.heap.size w w') : Upon b w w' := ⟨h.os, h.tape, h.output, h.size, fun i hi _ => h.block i hi⟩
theorem Upon.below {b B : Nat} {w w' : World} (h : Upon b w w') (hb : B ≤ b) (hB : B ≤ w.heap.size) : RowKit.Below B w w' :=
  ⟨h.os, h.tape, h.output, h.size, fun i hi => h.block i (by omega) (by omega)⟩
theorem Upon.cell {b : Nat} {w w' : World} (h : Upon b w w') {p : Addr} (hp : p.block ≠ b) (hlt : p.block < w.heap.size) : w'.cell? p = w.cell? p := World.cell?_of_block (w := w) (h.block p.block hlt hp)
theorem Upon.frozen {b : Nat} {w w' : World} (h : Upon b w w') {p : Addr} (hp : p.block ≠ b) (hlt : p.block < w.heap.size) : w'.frozen? p = w.frozen? p := World.frozen?_of_block (w := w) (h.block p.block hlt hp)

theorem setCell_size (w : World) (g i : Nat) (v : Value) : (w.setCell ⟨g, i, none⟩ v).heap.size = w.heap.size := by simp
theorem setCell_other (w : World) (g i k : Nat) (v : Value) (h : k ≠ g) : (w.setCell ⟨g, i, none⟩ v).heap[k]? = w.heap[k]? := by
  simp [World.setCell, Array.getElem?_modify, Ne.symm h]

theorem Upon.set {b : Nat} {w w' : World} (h : Upon b w w') (i : Nat) (v : Value) : Upon b w (w'.setCell ⟨b, i, none⟩ v) :=
  h.trans ⟨rfl, rfl, rfl, by simp, fun k _ hk => setCell_other w' b i k v hk⟩
theorem Upon.setNew {b g : Nat} {w w' : World} (h : Upon b w w') (hg : w.heap.size ≤ g) (i : Nat) (v : Value) : Upon b w (w'.setCell ⟨g, i, none⟩ v) :=
  ⟨h.os, h.tape, h.output, by rw [setCell_size]; exact h.size, fun k hk hne => (setCell_other w' g i k v (by omega)).trans (h.block k hk hne)⟩
theorem Upon.alloc {b : Nat} {w w' : World} (h : Upon b w w') (o : Obj) : Upon b w (w'.alloc o) :=
  h.trans (Upon.of_below ((Below.refl _ _).alloc (Nat.le_refl _) o))
theorem Upon.drew {b : Nat} {w w' : World} (h : Upon b w w') : Upon b w w'.drew := ⟨h.os, h.tape, h.output, h.size, h.block⟩

/-- A clock lies in block b. -/
structure Ck (w : World) (b : Nat) (a s t : Int) : Prop where
  c0 : w.cell? ⟨b, 0, none⟩ = some (.int .i64 s)
  c1 : w.cell? ⟨b, 1, none⟩ = some (.int .i64 t)
  c2 : w.cell? ⟨b, 2, none⟩ = some (.int .i64 a)
  f0 : w.frozen? ⟨b, 0, none⟩ = false
  f1 : w.frozen? ⟨b, 1, none⟩ = false

theorem Ck.lt {w : World} {b : Nat} {a s t : Int} (h : Ck w b a s t) : b < w.heap.size := cell_in h.c0
theorem Ck.same {w w' : World} {b : Nat} {a s t : Int} (h : Ck w b a s t) (hb : w'.heap[b]? = w.heap[b]?) : Ck w' b a s t :=
  ⟨(World.cell?_of_block (w := w) hb).trans h.c0, (World.cell?_of_block (w := w) hb).trans h.c1, (World.cell?_of_block (w := w) hb).trans h.c2, (World.frozen?_of_block (w := w) hb).trans h.f0, (World.frozen?_of_block (w := w) hb).trans h.f1⟩
theorem Ck.below {w w' : World} {b : Nat} {a s t : Int} (h : Ck w b a s t) (hb : RowKit.Below w.heap.size w w') : Ck w' b a s t := h.same (hb.block b h.lt)
theorem Ck.upon {w w' : World} {b g : Nat} {a s t : Int} (h : Ck w b a s t) (hb : Upon g w w') (hne : b ≠ g) : Ck w' b a s t := h.same (hb.block b h.lt hne)

theorem new_yes (a s t : Int) (w : World) (ha : 0 ≤ a ∧ a ≤ 16777215) (hs : 0 ≤ s ∧ s ≤ 1073741824) (ht : 0 ≤ t ∧ t ≤ 1099511627776) :
    Calls Try.prog 11 #[.int .i64 a, .int .i64 s, .int .i64 t] w fun e w' => e = .returned (.tuple #[.pointer (some ⟨w.heap.size, 0, none⟩), .int .i64 0]) ∧ Ck w' w.heap.size a s t ∧ RowKit.Below w.heap.size w w' := by
  have h1 := fun w => within_yes a 16777215 w ha
  have h2 := fun w => within_yes s 1073741824 w hs
  have h3 := fun w => within_yes t 1099511627776 w ht
  go_enter Try.func11, Try.ntmps11
  go_wp2_with (first
    | (go_at_call_of 19 (Value.int .i64 16777215); refine (h1 _).mono ?_; rintro e w' ⟨rfl, rfl⟩)
    | (go_at_call_of 19 (Value.int .i64 1073741824); refine (h2 _).mono ?_; rintro e w' ⟨rfl, rfl⟩)
    | (go_at_call_of 19 (Value.int .i64 1099511627776); refine (h3 _).mono ?_; rintro e w' ⟨rfl, rfl⟩))
  go_ret2
  refine ⟨rfl, ⟨?_, ?_, ?_, ?_, ?_⟩, (Below.refl _ _).alloc (Nat.le_refl _) _⟩
  all_goals go_simp

theorem new_no (a s t : Int) (w : World) (h : ¬((0 ≤ a ∧ a ≤ 16777215) ∧ (0 ≤ s ∧ s ≤ 1073741824) ∧ (0 ≤ t ∧ t ≤ 1099511627776))) :
    Calls Try.prog 11 #[.int .i64 a, .int .i64 s, .int .i64 t] w fun e w' => e = .returned (.tuple #[.pointer none, .int .i64 1]) ∧ w = w' := by
  by_cases ha : 0 ≤ a ∧ a ≤ 16777215
  · have h1 := fun w => within_yes a 16777215 w ha
    by_cases hs : 0 ≤ s ∧ s ≤ 1073741824
    · have h2 := fun w => within_yes s 1073741824 w hs
      have h3 := fun w => within_no t 1099511627776 w (by omega)
      clear ha hs h
      go_enter Try.func11, Try.ntmps11
      go_wp2_with (first
        | (go_at_call_of 19 (Value.int .i64 16777215); refine (h1 _).mono ?_; rintro e w' ⟨rfl, rfl⟩)
        | (go_at_call_of 19 (Value.int .i64 1073741824); refine (h2 _).mono ?_; rintro e w' ⟨rfl, rfl⟩)
        | (go_at_call_of 19 (Value.int .i64 1099511627776); refine (h3 _).mono ?_; rintro e w' ⟨rfl, rfl⟩))
      go_ret2
      exact ⟨rfl, rfl⟩
    · have h2 := fun w => within_no s 1073741824 w hs
      clear ha hs h
      go_enter Try.func11, Try.ntmps11
      go_wp2_with (first
        | (go_at_call_of 19 (Value.int .i64 16777215); refine (h1 _).mono ?_; rintro e w' ⟨rfl, rfl⟩)
        | (go_at_call_of 19 (Value.int .i64 1073741824); refine (h2 _).mono ?_; rintro e w' ⟨rfl, rfl⟩))
      go_ret2
      exact ⟨rfl, rfl⟩
  · have h1 := fun w => within_no a 16777215 w ha
    clear ha h
    go_enter Try.func11, Try.ntmps11
    go_wp2_with (first
      | (go_at_call_of 19 (Value.int .i64 16777215); refine (h1 _).mono ?_; rintro e w' ⟨rfl, rfl⟩))
    go_ret2
    exact ⟨rfl, rfl⟩

/-- What a time that is seen makes of one's own. -/
def seen (t x : Int) : Int := if t < x ∧ x ≤ 1099511627776 then x else t

theorem raise_any (w : World) (b : Nat) (a s t x : Int) (h : Ck w b a s t) :
    Calls Try.prog 20 #[.pointer (some ⟨b, 0, none⟩), .int .i64 x] w fun e w' => e = .returned (.tuple #[]) ∧ Ck w' b a s (seen t x) ∧ Upon b w w' := by
  obtain ⟨h0, h1, h2, f0, f1⟩ := id h
  by_cases ht : t < x
  · by_cases hx : x ≤ 1099511627776
    · rw [show seen t x = x from if_pos ⟨ht, hx⟩]
      go_enter Try.func20, Try.ntmps20
      go_wp2
      go_end0
      refine ⟨rfl, ⟨?_, ?_, ?_, ?_, ?_⟩, (Upon.refl b w).set _ _⟩
      all_goals go_simp
    · rw [show seen t x = t from if_neg (by omega)]
      go_enter Try.func20, Try.ntmps20
      go_wp2
      go_end0
      exact ⟨rfl, h, Upon.refl b w⟩
  · rw [show seen t x = t from if_neg (by omega)]
    go_enter Try.func20, Try.ntmps20
    go_wp2
    go_end0
    exact ⟨rfl, h, Upon.refl b w⟩

theorem see_any (w : World) (b : Nat) (a s t x : Int) (h : Ck w b a s t) :
    Calls Try.prog 12 #[.pointer (some ⟨b, 0, none⟩), .int .i64 x] w fun e w' => e = .returned (.tuple #[]) ∧ Ck w' b a s (seen t x) ∧ Upon b w w' := by
  have hr := raise_any w b a s t x h
  go_enter Try.func12, Try.ntmps12
  go_wp2_with (first
    | (go_at_call 20; refine hr.mono ?_; rintro e w' ⟨rfl, c1, u1⟩))
  go_end0
  exact ⟨rfl, c1, u1⟩

theorem see_nil (w : World) (x : Int) : Calls Try.prog 12 #[.pointer none, .int .i64 x] w fun e w' => e = .returned (.tuple #[]) ∧ w = w' := by
  go_enter Try.func12, Try.ntmps12
  go_wp2
  go_end0
  exact ⟨rfl, rfl⟩

theorem cactor_any (w : World) (b : Nat) (a s t : Int) (h : Ck w b a s t) : Calls Try.prog 16 #[.pointer (some ⟨b, 0, none⟩)] w fun e w' => e = .returned (.int .i64 a) ∧ w = w' := by
  obtain ⟨h0, h1, h2, f0, f1⟩ := id h
  go_enter Try.func16, Try.ntmps16
  go_wp2
  go_ret
  exact ⟨rfl, rfl⟩
theorem cseq_any (w : World) (b : Nat) (a s t : Int) (h : Ck w b a s t) : Calls Try.prog 17 #[.pointer (some ⟨b, 0, none⟩)] w fun e w' => e = .returned (.int .i64 s) ∧ w = w' := by
  obtain ⟨h0, h1, h2, f0, f1⟩ := id h
  go_enter Try.func17, Try.ntmps17
  go_wp2
  go_ret
  exact ⟨rfl, rfl⟩
theorem ctime_any (w : World) (b : Nat) (a s t : Int) (h : Ck w b a s t) : Calls Try.prog 18 #[.pointer (some ⟨b, 0, none⟩)] w fun e w' => e = .returned (.int .i64 t) ∧ w = w' := by
  obtain ⟨h0, h1, h2, f0, f1⟩ := id h
  go_enter Try.func18, Try.ntmps18
  go_wp2
  go_ret
  exact ⟨rfl, rfl⟩
theorem cactor_nil (w : World) : Calls Try.prog 16 #[.pointer none] w fun e w' => e = .returned (.int .i64 0) ∧ w = w' := by
  go_enter Try.func16, Try.ntmps16
  go_wp2
  go_ret
  exact ⟨rfl, rfl⟩
theorem cseq_nil (w : World) : Calls Try.prog 17 #[.pointer none] w fun e w' => e = .returned (.int .i64 0) ∧ w = w' := by
  go_enter Try.func17, Try.ntmps17
  go_wp2
  go_ret
  exact ⟨rfl, rfl⟩
theorem ctime_nil (w : World) : Calls Try.prog 18 #[.pointer none] w fun e w' => e = .returned (.int .i64 0) ∧ w = w' := by
  go_enter Try.func18, Try.ntmps18
  go_wp2
  go_ret
  exact ⟨rfl, rfl⟩

/-- Whether one of both can't be one more. -/
def used (s t : Int) : Bool := decide (1073741824 ≤ s) || decide (1099511627776 ≤ t)

theorem spent_any (w : World) (b : Nat) (a s t : Int) (h : Ck w b a s t) : Calls Try.prog 21 #[.pointer (some ⟨b, 0, none⟩)] w fun e w' => e = .returned (.bool (used s t)) ∧ w = w' := by
  obtain ⟨h0, h1, h2, f0, f1⟩ := id h
  go_enter Try.func21, Try.ntmps21
  go_wp2
  all_goals (go_ret; refine ⟨?_, rfl⟩; simp [used]; try omega)

theorem step_any (w : World) (b : Nat) (a s t : Int) (h : Ck w b a s t) (hs0 : 0 ≤ s) (hs : s < 1073741824) (ht0 : 0 ≤ t) (ht : t < 1099511627776) :
    Calls Try.prog 22 #[.pointer (some ⟨b, 0, none⟩)] w fun e w' => e = .returned (.tuple #[]) ∧ Ck w' b a (s + 1) (t + 1) ∧ Upon b w w' := by
  obtain ⟨h0, h1, h2, f0, f1⟩ := id h
  go_enter Try.func22, Try.ntmps22
  go_wp2
  go_end0
  refine ⟨rfl, ⟨?_, ?_, ?_, ?_, ?_⟩, ((Upon.refl b w).set _ _).set _ _⟩
  all_goals go_simp

/-- What a call's own new cell of two numbers holds behind its stores. -/
theorem two_set (w : World) (g : Nat) (x y : Value) (c0 c1 : Value) (h0 : w.cell? ⟨g, 0, none⟩ = some c0) (h1 : w.cell? ⟨g, 1, none⟩ = some c1) :
    ((w.setCell ⟨g, 0, none⟩ x).setCell ⟨g, 1, none⟩ y).cell? ⟨g, 0, none⟩ = some x ∧ ((w.setCell ⟨g, 0, none⟩ x).setCell ⟨g, 1, none⟩ y).cell? ⟨g, 1, none⟩ = some y := by
  constructor <;> go_simp

theorem next_nil (w : World) : Calls Try.prog 14 #[.pointer none] w fun e w' => e = .returned (.tuple #[.agg #[.int .i64 0, .int .i64 0], .int .i64 0, .int .i64 1]) ∧ RowKit.Below w.heap.size w w' := by
  go_enter Try.func14, Try.ntmps14
  go_wp2
  refine bodyPost_ret (v := .tuple #[.agg #[.int .i64 0, .int .i64 0], .int .i64 0, .int .i64 1]) (by simp [results, Try.results14, go_sem]) rfl ⟨rfl, ?_⟩
  exact (Below.refl _ _).alloc (Nat.le_refl _) _

theorem next_spent (w : World) (b : Nat) (a s t : Int) (h : Ck w b a s t) (hu : used s t = true) :
    Calls Try.prog 14 #[.pointer (some ⟨b, 0, none⟩)] w fun e w' => e = .returned (.tuple #[.agg #[.int .i64 0, .int .i64 0], .int .i64 0, .int .i64 20]) ∧ Ck w' b a s t ∧ Upon b w w' := by
  have hlt := h.lt
  have hp := fun w h => spent_any w b a s t h
  rw [hu] at hp
  have h' := h.below (((Below.refl _ _).alloc (Nat.le_refl _) (.cells #[.int .i64 0, .int .i64 0] 38)))
  go_enter Try.func14, Try.ntmps14
  go_wp2_with (first
    | (go_at_call 21; refine (hp _ h').mono ?_; rintro e w' ⟨rfl, rfl⟩))
  refine bodyPost_ret (v := .tuple #[.agg #[.int .i64 0, .int .i64 0], .int .i64 0, .int .i64 20]) (by simp [results, Try.results14, go_sem]) rfl ⟨rfl, ?_⟩
  exact ⟨h', (Upon.refl b w).alloc _⟩

set_option maxHeartbeats 2000000 in
theorem next_any (w : World) (b : Nat) (a s t : Int) (h : Ck w b a s t) (hs0 : 0 ≤ s) (hs : s < 1073741824) (ht0 : 0 ≤ t) (ht : t < 1099511627776) :
    Calls Try.prog 14 #[.pointer (some ⟨b, 0, none⟩)] w fun e w' => e = .returned (.tuple #[.agg #[.int .i64 a, .int .i64 (s + 1)], .int .i64 (t + 1), .int .i64 0]) ∧ Ck w' b a (s + 1) (t + 1) ∧ Upon b w w' := by
  have hlt := h.lt
  have hne : b ≠ w.heap.size := by omega
  have hu : used s t = false := by simp [used]; omega
  have hp := fun w h => spent_any w b a s t h
  rw [hu] at hp
  have h' := h.below (((Below.refl _ _).alloc (Nat.le_refl _) (.cells #[.int .i64 0, .int .i64 0] 38)))
  have hst := step_any _ b a s t h' hs0 hs ht0 ht
  have k0 : (w.alloc (.cells #[.int .i64 0, .int .i64 0] 38)).cell? ⟨w.heap.size, 0, none⟩ = some (.int .i64 0) := by go_simp
  have k1 : (w.alloc (.cells #[.int .i64 0, .int .i64 0] 38)).cell? ⟨w.heap.size, 1, none⟩ = some (.int .i64 0) := by go_simp
  have g0 : (w.alloc (.cells #[.int .i64 0, .int .i64 0] 38)).frozen? ⟨w.heap.size, 0, none⟩ = false := by go_simp
  have g1 : (w.alloc (.cells #[.int .i64 0, .int .i64 0] 38)).frozen? ⟨w.heap.size, 1, none⟩ = false := by go_simp
  have ha := hid ((Upon.refl b w).alloc (.cells #[.int .i64 0, .int .i64 0] 38))
  go_enter Try.func14, Try.ntmps14
  go_wp2_with (first
    | (go_at_call 21; refine (hp _ h').mono ?_; rintro e w' ⟨rfl, rfl⟩)
    | (go_at_call 22; refine hst.mono ?_; rintro e w1 ⟨rfl, ck, up⟩))
  have hU := ha.out.trans up
  have hsz : w.heap.size < w1.heap.size := Nat.lt_of_lt_of_le (by rw [World.size_alloc]; omega) up.size
  have q0 := (up.cell (p := ⟨w.heap.size, 0, none⟩) (Ne.symm hne) (cell_in k0)).trans k0
  have q1 := (up.cell (p := ⟨w.heap.size, 1, none⟩) (Ne.symm hne) (cell_in k1)).trans k1
  have r0 := (up.frozen (p := ⟨w.heap.size, 0, none⟩) (Ne.symm hne) (cell_in k0)).trans g0
  have r1 := (up.frozen (p := ⟨w.heap.size, 1, none⟩) (Ne.symm hne) (cell_in k1)).trans g1
  have H := hid ck
  obtain ⟨h0, h1, h2, f0, f1⟩ := ck
  clear hp hst h' k0 k1 g0 g1 ha up h hlt
  go_region
  obtain ⟨t0, t1⟩ := two_set w1 w.heap.size (.int .i64 a) (.int .i64 (s + 1)) _ _ q0 q1
  have hV := ((hU.setNew (Nat.le_refl _) 0 (.int .i64 a)).setNew (Nat.le_refl _) 1 (.int .i64 (s + 1))).drew
  have hC := H.out.same (w' := ((w1.setCell ⟨w.heap.size, 0, none⟩ (.int .i64 a)).setCell ⟨w.heap.size, 1, none⟩ (.int .i64 (s + 1))).drew) (by
    show ((w1.setCell ⟨w.heap.size, 0, none⟩ (.int .i64 a)).setCell ⟨w.heap.size, 1, none⟩ (.int .i64 (s + 1))).heap[b]? = _
    rw [setCell_other _ _ _ _ _ hne, setCell_other _ _ _ _ _ hne])
  clear q0 q1 r0 r1 h0 h1 h2 f0 f1
  generalize ((w1.setCell ⟨w.heap.size, 0, none⟩ (.int .i64 a)).setCell ⟨w.heap.size, 1, none⟩ (.int .i64 (s + 1))) = w2 at t0 t1 hV hC ⊢
  go_wp2
  refine bodyPost_ret (v := .tuple #[.agg #[.int .i64 a, .int .i64 (s + 1)], .int .i64 (t + 1), .int .i64 0]) (by simp [results, Try.results14, go_sem, t0, t1]) rfl ⟨rfl, hC, hV⟩

end Go.Proofs.Ytjilmhenakccjaa
