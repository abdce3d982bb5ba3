/- New; disks that are none. -/
import Derived.Test.YtocglenkdjiknaaDkApp
namespace Go.Proofs.Ytocglenkdjiknaa
section
set_option linter.unusedVariables false
set_option linter.unusedSimpArgs false
open Go.RowKit Go.Sort Go.Maps Go.Shelf

theorem tear_dk {w : World} {d room o p k : Nat} {off : Bool} {F : List (Nm × Fl)} {P : Nat → Prop} (h : DK w d ⟨room, off, some (o, p, k), F⟩ P) :
    Calls Try.prog 46 #[.pointer (some ⟨d, 0, none⟩)] w fun e w' => e = .returned (.tuple #[]) ∧ DK w' d ⟨room, true, none, mp (Fl.torn k) F⟩ P ∧ KP w w' P := by
  obtain ⟨m, cv, S, A, hD, hc, hF, hP⟩ := h
  rcases hc with ⟨h0, _⟩ | ⟨o', p', k', c, h1, h2, h3, h4, h5, h6, h7, h8⟩
  · cases h0
  · obtain ⟨rfl, rfl, rfl⟩ : o = o' ∧ p = p' ∧ k = k' := by simpa using h1
    subst h2
    refine (tear_any d m c room o p k off S A w hD h3 h4 h8).mono ?_
    rintro e w' ⟨rfl, S', A', q1, q2, q3⟩
    refine ⟨rfl, DK.of (due := none) (A := A) (P := P) (Or.inl ⟨rfl, rfl⟩) hP q3 q1 ?_⟩
    simp only at hF
    rw [q2, ← hF, mp_mp]

/-- What a closure does. -/
def CloSays (k : Nat) (caps : Array Value) (ef : Ef) (d room : Nat) (P : Nat → Prop) (w : World) : Prop :=
  ∀ (w1 : World) (due : Option (Nat × Nat × Nat)) (F : List (Nm × Fl)) (pt : Option Nat), KP w w1 P → DK w1 d ⟨room, false, due, F⟩ P → (∀ p, pt = some p → p ≤ 9223372036854775807) →
    Calls Try.prog k (#[pv pt] ++ caps) w1 fun e w' => ∃ x : Nat, e = .returned (.int .i64 (x : Int)) ∧ x = (ef pt F).2 ∧ DK w' d ⟨room, false, due, (ef pt F).1⟩ P ∧ KP w1 w' P

theorem dk_due_blk {w : World} {d room o p k : Nat} {off : Bool} {F : List (Nm × Fl)} {P : Nat → Prop} (h : DK w d ⟨room, off, some (o, p, k), F⟩ P) : ∃ m c, w.heap[d]? = some (.cells #[.int .i64 (room : Int), .map (some m), .bool off, .pointer (some ⟨c, 0, none⟩)] 55 (0, 0)) ∧ w.heap[c]? = some (.cells #[.int .i64 (o : Int), .int .i64 (p : Int), .int .i64 (k : Int)] 71 (0, 0)) ∧ (o ≤ 9223372036854775807 ∧ p ≤ 9223372036854775807 ∧ k ≤ 9223372036854775807) ∧
    ∀ (o' : Nat), o' ≤ 9223372036854775807 → DK (w.setCell ⟨c, 0, none⟩ (.int .i64 (o' : Int))) d ⟨room, off, some (o', p, k), F⟩ P ∧ KP w (w.setCell ⟨c, 0, none⟩ (.int .i64 (o' : Int))) P := by
  obtain ⟨m, cv, S, A, hD, hc, hF, hP⟩ := h
  rcases hc with ⟨h0, _⟩ | ⟨o', p', k', c, h1, h2, h3, h4, h5, h6, h7, h8⟩
  · cases h0
  · obtain ⟨rfl, rfl, rfl⟩ : o = o' ∧ p = p' ∧ k = k' := by simpa using h1
    subst h2
    refine ⟨m, c, hD.blk, h3, ⟨h6, h7, h8⟩, fun o' ho' => ⟨⟨m, _, S, A, hD.same (fun j hj => Below.heap_setCell _ _ _ _ (fun e => h4 (by rw [show c = j from e.symm]; exact hj))) (by simp), Or.inr ⟨o', p, k, c, rfl, rfl, ?_, h4, h5, ho', h7, h8⟩, hF, fun j hj => ⟨by simp; exact (hP j hj).1, (hP j hj).2⟩⟩, ⟨by simp, fun j hj hPj => Below.heap_setCell _ _ _ _ (fun e => h5 (by rw [show c = j from e.symm]; exact hPj)), ⟨rfl, rfl, rfl⟩⟩⟩⟩
    rw [set_blk (i := 0) _ h3]
    simp

theorem dk_blk0 {w : World} {d room : Nat} {off : Bool} {F : List (Nm × Fl)} {P : Nat → Prop} (h : DK w d ⟨room, off, none, F⟩ P) : ∃ m, w.heap[d]? = some (.cells #[.int .i64 (room : Int), .map (some m), .bool off, .pointer none] 55 (0, 0)) := by
  obtain ⟨m, cv, S, A, hD, hc, hF, hP⟩ := h
  rcases hc with ⟨_, h0⟩ | ⟨o', p', k', c, h1, _⟩
  · subst h0
    exact ⟨m, hD.blk⟩
  · cases h1

set_option maxRecDepth 100000 in
set_option maxHeartbeats 4000000 in
theorem operate_any (k : Nat) (caps : Array Value) (ef : Ef) (d : Nat) (D : Dk) (P : Nat → Prop) (w : World) (h : DK w d D P) (hdo : CloSays k caps ef d D.room P w) (hen : Enters Try.prog k) :
    Calls Try.prog 29 #[.pointer (some ⟨d, 0, none⟩), .func (.func k) #[] caps] w fun e w' => ∃ x : Nat, e = .returned (.int .i64 (x : Int)) ∧ x = (operD ef D).2 ∧ DK w' d (operD ef D).1 P ∧ KP w w' P := by
  obtain ⟨room, off, due, F⟩ := D
  simp only at hdo
  have hk2 : ∀ (args : Array Value) (w : World), (callFunc k args).run Try.prog w = .ok (.enter k args) w := hen
  clear hen
  cases off with
  | true =>
    have hx : operD ef ⟨room, true, due, F⟩ = (⟨room, true, due, F⟩, 71) := by unfold operD; rw [if_pos rfl]
    rw [hx]
    obtain ⟨m, cv, S, A, hD, hr⟩ := h
    have b2 : w.cell? ⟨d, 2, none⟩ = some (.bool true) := cell_blk hD.blk rfl
    have R : Hid (DK w d ⟨room, true, due, F⟩ P) := hid ⟨m, cv, S, A, hD, hr⟩
    clear hD hr hdo
    go_enter Try.func29, Try.ntmps29
    go_wp2
    go_ret
    exact ⟨71, rfl, rfl, R.out, KP.refl _ _⟩
  | false =>
  cases due with
  | none =>
    have hx : operD ef ⟨room, false, none, F⟩ = (⟨room, false, none, (ef none F).1⟩, (ef none F).2) := rfl
    rw [hx]
    obtain ⟨m, hb⟩ := dk_blk0 h
    have b2 : w.cell? ⟨d, 2, none⟩ = some (.bool false) := cell_blk hb rfl
    have b3 : w.cell? ⟨d, 3, none⟩ = some (.pointer none) := cell_blk hb rfl
    have hcall := hid (hdo w none F none (KP.refl _ _) h (fun p hp => by cases hp))
    clear hb h hdo
    go_enter Try.func29, Try.ntmps29
    go_wp2_with (refine Calls.mono hcall.out ?_; rintro e w1 ⟨x, rfl, q1, q2, q3⟩; have R := hid (And.intro q1 (And.intro q2 q3)); clear q1 q2 q3)
    go_ret
    exact ⟨x, rfl, R.out⟩
  | some t =>
    obtain ⟨o, p, kk⟩ := t
    cases o with
    | succ o =>
      have hx : operD ef ⟨room, false, some (o + 1, p, kk), F⟩ = (⟨room, false, some (o, p, kk), (ef none F).1⟩, (ef none F).2) := rfl
      rw [hx]
      obtain ⟨m, c, hb, hc, hle, hset⟩ := dk_due_blk h
      have b2 : w.cell? ⟨d, 2, none⟩ = some (.bool false) := cell_blk hb rfl
      have b3 : w.cell? ⟨d, 3, none⟩ = some (.pointer (some ⟨c, 0, none⟩)) := cell_blk hb rfl
      have b4 : w.cell? ⟨c, 0, none⟩ = some (.int .i64 ((o + 1 : Nat) : Int)) := cell_blk hc rfl
      have f4 := frz_blk (i := 0) hc
      obtain ⟨s1, s2⟩ := hset o (by omega)
      have hcall := hid (hdo _ _ F none s2 s1 (fun p hp => by cases hp))
      have S2 := hid s2
      have hwr : IntKind.i64.wrap (((o + 1 : Nat) : Int) - 1) = (o : Int) := by rw [IntKind.wrap_i64]; omega
      have hw64 : wrap64 (o : Int) = (o : Int) := by unfold wrap64; omega
      have hpos : decide ((0 : Int) < ((o + 1 : Nat) : Int)) = true := decide_eq_true (by omega)
      clear hb hc h hdo hset s1 s2 hle
      go_enter Try.func29, Try.ntmps29
      go_wp2_with (refine Calls.mono hcall.out ?_; rintro e w1 ⟨x, rfl, q1, q2, q3⟩; have R := hid (And.intro q1 (And.intro q2 (S2.out.trans q3))); clear q1 q2 q3)
      go_ret
      exact ⟨x, rfl, R.out⟩
    | zero =>
      have hx : operD ef ⟨room, false, some (0, p, kk), F⟩ = (⟨room, true, none, mp (Fl.torn kk) (ef (some p) F).1⟩, 71) := rfl
      rw [hx]
      obtain ⟨m, c, hb, hc, hle, hset⟩ := dk_due_blk h
      have b2 : w.cell? ⟨d, 2, none⟩ = some (.bool false) := cell_blk hb rfl
      have b3 : w.cell? ⟨d, 3, none⟩ = some (.pointer (some ⟨c, 0, none⟩)) := cell_blk hb rfl
      have b4 : w.cell? ⟨c, 0, none⟩ = some (.int .i64 ((0 : Nat) : Int)) := cell_blk hc rfl
      have b5 : w.cell? ⟨c, 1, none⟩ = some (.int .i64 (p : Int)) := cell_blk hc rfl
      have hcall := hid (hdo _ _ F (some p) (KP.refl _ _) h (fun p' hp => by cases hp; exact hle.2.1))
      clear hb hc h hdo hset hle
      go_enter Try.func29, Try.ntmps29
      go_wp2_with (first
        | (go_at_call 46; have T1 := R.out; refine Calls.mono (tear_dk T1.1) ?_; rintro e w2 ⟨rfl, q1, q2⟩; have R9 := hid (And.intro q1 (T1.2.trans q2)); clear q1 q2 T1)
        | (refine Calls.mono hcall.out ?_; rintro e w1 ⟨x, rfl, q1, q2, q3⟩; have R := hid (And.intro q2 q3); clear q1 q2 q3))
      go_ret
      exact ⟨71, rfl, rfl, R9.out⟩
end

section
set_option linter.unusedVariables false
set_option linter.unusedSimpArgs false
open Go.RowKit Go.Sort Go.Maps Go.Shelf

/-- What an operation tells. -/
def Told (ef : Ef) (d : Nat) (D : Dk) (P : Nat → Prop) (w : World) (e : Ending) (w' : World) : Prop :=
  ∃ x : Nat, e = .returned (.int .i64 (x : Int)) ∧ x = (operD ef D).2 ∧ DK w' d (operD ef D).1 P ∧ KP w w' P
theorem heap_new2 (w : World) (o p : Obj) : ((w.alloc o).alloc p).heap[w.heap.size]? = some o ∧ ((w.alloc o).alloc p).heap[w.heap.size + 1]? = some p := by
  have hz : (w.alloc o).heap.size = w.heap.size + 1 := by simp
  have h := heap_new (w.alloc o) p
  rw [hz] at h
  exact ⟨(Below.heap_alloc _ _ _ (by omega)).trans (heap_new w o), h⟩
theorem heap_new3 (w : World) (o p q : Obj) : (((w.alloc o).alloc p).alloc q).heap[w.heap.size]? = some o ∧ (((w.alloc o).alloc p).alloc q).heap[w.heap.size + 1]? = some p ∧ (((w.alloc o).alloc p).alloc q).heap[w.heap.size + 2]? = some q := by
  obtain ⟨h1, h2⟩ := heap_new2 w o p
  have hz : ((w.alloc o).alloc p).heap.size = w.heap.size + 2 := by simp
  have h := heap_new ((w.alloc o).alloc p) q
  rw [hz] at h
  exact ⟨(Below.heap_alloc _ _ _ (by omega)).trans h1, (Below.heap_alloc _ _ _ (by omega)).trans h2, h⟩

set_option maxRecDepth 100000 in
set_option maxHeartbeats 4000000 in
theorem sync_any (d : Nat) (n : Nm) (D : Dk) (P : Nat → Prop) (w : World) (h : DK w d D P) (hn : n.length ≤ maxLen) : Calls Try.prog 14 #[.pointer (some ⟨d, 0, none⟩), encStr n] w (Told (eSync n) d D P w) := by
  have hb : Below w.heap.size w ((w.alloc (.cells #[.pointer (some ⟨d, 0, none⟩)] 24)).alloc (.cells #[encStr n] 9)) := ((Below.refl _ w).alloc (Nat.le_refl _) _).alloc (by simp <;> omega) _
  have h1 := h.more hb
  have hx := heap_new2 w (.cells #[.pointer (some ⟨d, 0, none⟩)] 24) (.cells #[encStr n] 9)
  have hsz : ((w.alloc (.cells #[.pointer (some ⟨d, 0, none⟩)] 24)).alloc (.cells #[encStr n] 9)).heap.size = w.heap.size + 2 := by simp
  have hbx : ∀ (w1 : World), KP ((w.alloc (.cells #[.pointer (some ⟨d, 0, none⟩)] 24)).alloc (.cells #[encStr n] 9)) w1 (fun j => P j ∨ (w.heap.size ≤ j ∧ j < ((w.alloc (.cells #[.pointer (some ⟨d, 0, none⟩)] 24)).alloc (.cells #[encStr n] 9)).heap.size)) → w1.heap[w.heap.size]? = some (.cells #[.pointer (some ⟨d, 0, none⟩)] 24 (0, 0)) ∧ w1.heap[w.heap.size + 1]? = some (.cells #[encStr n] 9 (0, 0)) := fun w1 k1 =>
    ⟨(k1.keep _ (by omega) (Or.inr (by omega))).trans hx.1, (k1.keep _ (by omega) (Or.inr (by omega))).trans hx.2⟩
  have hdo : CloSays 33 #[.pointer (some ⟨w.heap.size, 0, none⟩), .pointer (some ⟨w.heap.size + 1, 0, none⟩)] (eSync n) d D.room (fun j => P j ∨ (w.heap.size ≤ j ∧ j < ((w.alloc (.cells #[.pointer (some ⟨d, 0, none⟩)] 24)).alloc (.cells #[encStr n] 9)).heap.size)) ((w.alloc (.cells #[.pointer (some ⟨d, 0, none⟩)] 24)).alloc (.cells #[encStr n] 9)) := fun w1 due F pt k1 hD hp => by
    have hb1 := hbx w1 k1
    rw [show #[pv pt] ++ #[.pointer (some ⟨w.heap.size, 0, none⟩), .pointer (some ⟨w.heap.size + 1, 0, none⟩)] = #[pv pt, .pointer (some ⟨w.heap.size, 0, none⟩), .pointer (some ⟨w.heap.size + 1, 0, none⟩)] from rfl]
    exact sync1_any d n pt _ _ w1 hD rfl _ _ hb1.1 hb1.2 hp hn
  have hop := hid (operate_any _ _ _ d D _ _ h1 hdo (enters_of Try.func33 (by kernel_rfl) rfl))
  have HB := hid hb
  clear h h1 hdo hb hbx hx hsz
  go_enter Try.func14, Try.ntmps14
  go_wp2_with (go_at_call 29; refine hop.out.mono ?_; rintro e w2 ⟨x, rfl, q1, q2, q3⟩; have R := hid (And.intro q1 (And.intro (q2.less (Q := P) (fun j hj => Or.inl hj)) ((KP.below HB.out).trans (q3.less (Q := P) (fun j hj => Or.inl hj))))); clear q1 q2 q3)
  go_ret
  exact ⟨x, rfl, R.out⟩

set_option maxRecDepth 100000 in
set_option maxHeartbeats 4000000 in
theorem remove_any (d : Nat) (n : Nm) (D : Dk) (P : Nat → Prop) (w : World) (h : DK w d D P) (hn : n.length ≤ maxLen) : Calls Try.prog 20 #[.pointer (some ⟨d, 0, none⟩), encStr n] w (Told (eRem n) d D P w) := by
  have hb : Below w.heap.size w ((w.alloc (.cells #[.pointer (some ⟨d, 0, none⟩)] 24)).alloc (.cells #[encStr n] 9)) := ((Below.refl _ w).alloc (Nat.le_refl _) _).alloc (by simp <;> omega) _
  have h1 := h.more hb
  have hx := heap_new2 w (.cells #[.pointer (some ⟨d, 0, none⟩)] 24) (.cells #[encStr n] 9)
  have hsz : ((w.alloc (.cells #[.pointer (some ⟨d, 0, none⟩)] 24)).alloc (.cells #[encStr n] 9)).heap.size = w.heap.size + 2 := by simp
  have hbx : ∀ (w1 : World), KP ((w.alloc (.cells #[.pointer (some ⟨d, 0, none⟩)] 24)).alloc (.cells #[encStr n] 9)) w1 (fun j => P j ∨ (w.heap.size ≤ j ∧ j < ((w.alloc (.cells #[.pointer (some ⟨d, 0, none⟩)] 24)).alloc (.cells #[encStr n] 9)).heap.size)) → w1.heap[w.heap.size]? = some (.cells #[.pointer (some ⟨d, 0, none⟩)] 24 (0, 0)) ∧ w1.heap[w.heap.size + 1]? = some (.cells #[encStr n] 9 (0, 0)) := fun w1 k1 =>
    ⟨(k1.keep _ (by omega) (Or.inr (by omega))).trans hx.1, (k1.keep _ (by omega) (Or.inr (by omega))).trans hx.2⟩
  have hdo : CloSays 37 #[.pointer (some ⟨w.heap.size, 0, none⟩), .pointer (some ⟨w.heap.size + 1, 0, none⟩)] (eRem n) d D.room (fun j => P j ∨ (w.heap.size ≤ j ∧ j < ((w.alloc (.cells #[.pointer (some ⟨d, 0, none⟩)] 24)).alloc (.cells #[encStr n] 9)).heap.size)) ((w.alloc (.cells #[.pointer (some ⟨d, 0, none⟩)] 24)).alloc (.cells #[encStr n] 9)) := fun w1 due F pt k1 hD hp => by
    have hb1 := hbx w1 k1
    rw [show #[pv pt] ++ #[.pointer (some ⟨w.heap.size, 0, none⟩), .pointer (some ⟨w.heap.size + 1, 0, none⟩)] = #[pv pt, .pointer (some ⟨w.heap.size, 0, none⟩), .pointer (some ⟨w.heap.size + 1, 0, none⟩)] from rfl]
    exact remove1_any d n pt _ _ w1 hD rfl _ _ hb1.1 hb1.2 hp hn
  have hop := hid (operate_any _ _ _ d D _ _ h1 hdo (enters_of Try.func37 (by kernel_rfl) rfl))
  have HB := hid hb
  clear h h1 hdo hb hbx hx hsz
  go_enter Try.func20, Try.ntmps20
  go_wp2_with (go_at_call 29; refine hop.out.mono ?_; rintro e w2 ⟨x, rfl, q1, q2, q3⟩; have R := hid (And.intro q1 (And.intro (q2.less (Q := P) (fun j hj => Or.inl hj)) ((KP.below HB.out).trans (q3.less (Q := P) (fun j hj => Or.inl hj))))); clear q1 q2 q3)
  go_ret
  exact ⟨x, rfl, R.out⟩

set_option maxRecDepth 100000 in
set_option maxHeartbeats 4000000 in
theorem shorten_op (d : Nat) (n : Nm) (k : Int) (D : Dk) (P : Nat → Prop) (w : World) (h : DK w d D P) (hn : n.length ≤ maxLen) (hk : k ≤ 9223372036854775807) : Calls Try.prog 21 #[.pointer (some ⟨d, 0, none⟩), encStr n, .int .i64 k] w (Told (eSho n k) d D P w) := by
  have hb : Below w.heap.size w (((w.alloc (.cells #[.pointer (some ⟨d, 0, none⟩)] 24)).alloc (.cells #[encStr n] 9)).alloc (.cells #[.int .i64 k] 3)) := (((Below.refl _ w).alloc (Nat.le_refl _) _).alloc (by simp <;> omega) _).alloc (by simp <;> omega) _
  have h1 := h.more hb
  have hx := heap_new3 w (.cells #[.pointer (some ⟨d, 0, none⟩)] 24) (.cells #[encStr n] 9) (.cells #[.int .i64 k] 3)
  have hsz : (((w.alloc (.cells #[.pointer (some ⟨d, 0, none⟩)] 24)).alloc (.cells #[encStr n] 9)).alloc (.cells #[.int .i64 k] 3)).heap.size = w.heap.size + 3 := by simp
  have hbx : ∀ (w1 : World), KP (((w.alloc (.cells #[.pointer (some ⟨d, 0, none⟩)] 24)).alloc (.cells #[encStr n] 9)).alloc (.cells #[.int .i64 k] 3)) w1 (fun j => P j ∨ (w.heap.size ≤ j ∧ j < (((w.alloc (.cells #[.pointer (some ⟨d, 0, none⟩)] 24)).alloc (.cells #[encStr n] 9)).alloc (.cells #[.int .i64 k] 3)).heap.size)) → w1.heap[w.heap.size]? = some (.cells #[.pointer (some ⟨d, 0, none⟩)] 24 (0, 0)) ∧ w1.heap[w.heap.size + 1]? = some (.cells #[encStr n] 9 (0, 0)) ∧ w1.heap[w.heap.size + 2]? = some (.cells #[.int .i64 k] 3 (0, 0)) := fun w1 k1 =>
    ⟨(k1.keep _ (by omega) (Or.inr (by omega))).trans hx.1, (k1.keep _ (by omega) (Or.inr (by omega))).trans hx.2.1, (k1.keep _ (by omega) (Or.inr (by omega))).trans hx.2.2⟩
  have hdo : CloSays 38 #[.pointer (some ⟨w.heap.size, 0, none⟩), .pointer (some ⟨w.heap.size + 1, 0, none⟩), .pointer (some ⟨w.heap.size + 2, 0, none⟩)] (eSho n k) d D.room (fun j => P j ∨ (w.heap.size ≤ j ∧ j < (((w.alloc (.cells #[.pointer (some ⟨d, 0, none⟩)] 24)).alloc (.cells #[encStr n] 9)).alloc (.cells #[.int .i64 k] 3)).heap.size)) (((w.alloc (.cells #[.pointer (some ⟨d, 0, none⟩)] 24)).alloc (.cells #[encStr n] 9)).alloc (.cells #[.int .i64 k] 3)) := fun w1 due F pt k1 hD hp => by
    have hb1 := hbx w1 k1
    rw [show #[pv pt] ++ #[.pointer (some ⟨w.heap.size, 0, none⟩), .pointer (some ⟨w.heap.size + 1, 0, none⟩), .pointer (some ⟨w.heap.size + 2, 0, none⟩)] = #[pv pt, .pointer (some ⟨w.heap.size, 0, none⟩), .pointer (some ⟨w.heap.size + 1, 0, none⟩), .pointer (some ⟨w.heap.size + 2, 0, none⟩)] from rfl]
    exact shorten1_any d n pt k _ _ w1 hD rfl _ _ _ hb1.1 hb1.2.1 hb1.2.2 hp hn hk
  have hop := hid (operate_any _ _ _ d D _ _ h1 hdo (enters_of Try.func38 (by kernel_rfl) rfl))
  have HB := hid hb
  clear h h1 hdo hb hbx hx hsz
  go_enter Try.func21, Try.ntmps21
  go_wp2_with (go_at_call 29; refine hop.out.mono ?_; rintro e w2 ⟨x, rfl, q1, q2, q3⟩; have R := hid (And.intro q1 (And.intro (q2.less (Q := P) (fun j hj => Or.inl hj)) ((KP.below HB.out).trans (q3.less (Q := P) (fun j hj => Or.inl hj))))); clear q1 q2 q3)
  go_ret
  exact ⟨x, rfl, R.out⟩

set_option maxRecDepth 100000 in
set_option maxHeartbeats 4000000 in
theorem rename_any (d : Nat) (n t : Nm) (D : Dk) (P : Nat → Prop) (w : World) (h : DK w d D P) (hn : n.length ≤ maxLen) (ht : t.length ≤ maxLen) : Calls Try.prog 19 #[.pointer (some ⟨d, 0, none⟩), encStr n, encStr t] w (Told (eRen n t) d D P w) := by
  have hb : Below w.heap.size w (((w.alloc (.cells #[.pointer (some ⟨d, 0, none⟩)] 24)).alloc (.cells #[encStr n] 9)).alloc (.cells #[encStr t] 9)) := (((Below.refl _ w).alloc (Nat.le_refl _) _).alloc (by simp <;> omega) _).alloc (by simp <;> omega) _
  have h1 := h.more hb
  have hx := heap_new3 w (.cells #[.pointer (some ⟨d, 0, none⟩)] 24) (.cells #[encStr n] 9) (.cells #[encStr t] 9)
  have hsz : (((w.alloc (.cells #[.pointer (some ⟨d, 0, none⟩)] 24)).alloc (.cells #[encStr n] 9)).alloc (.cells #[encStr t] 9)).heap.size = w.heap.size + 3 := by simp
  have hbx : ∀ (w1 : World), KP (((w.alloc (.cells #[.pointer (some ⟨d, 0, none⟩)] 24)).alloc (.cells #[encStr n] 9)).alloc (.cells #[encStr t] 9)) w1 (fun j => P j ∨ (w.heap.size ≤ j ∧ j < (((w.alloc (.cells #[.pointer (some ⟨d, 0, none⟩)] 24)).alloc (.cells #[encStr n] 9)).alloc (.cells #[encStr t] 9)).heap.size)) → w1.heap[w.heap.size]? = some (.cells #[.pointer (some ⟨d, 0, none⟩)] 24 (0, 0)) ∧ w1.heap[w.heap.size + 1]? = some (.cells #[encStr n] 9 (0, 0)) ∧ w1.heap[w.heap.size + 2]? = some (.cells #[encStr t] 9 (0, 0)) := fun w1 k1 =>
    ⟨(k1.keep _ (by omega) (Or.inr (by omega))).trans hx.1, (k1.keep _ (by omega) (Or.inr (by omega))).trans hx.2.1, (k1.keep _ (by omega) (Or.inr (by omega))).trans hx.2.2⟩
  have hdo : CloSays 35 #[.pointer (some ⟨w.heap.size + 2, 0, none⟩), .pointer (some ⟨w.heap.size, 0, none⟩), .pointer (some ⟨w.heap.size + 1, 0, none⟩)] (eRen n t) d D.room (fun j => P j ∨ (w.heap.size ≤ j ∧ j < (((w.alloc (.cells #[.pointer (some ⟨d, 0, none⟩)] 24)).alloc (.cells #[encStr n] 9)).alloc (.cells #[encStr t] 9)).heap.size)) (((w.alloc (.cells #[.pointer (some ⟨d, 0, none⟩)] 24)).alloc (.cells #[encStr n] 9)).alloc (.cells #[encStr t] 9)) := fun w1 due F pt k1 hD hp => by
    have hb1 := hbx w1 k1
    rw [show #[pv pt] ++ #[.pointer (some ⟨w.heap.size + 2, 0, none⟩), .pointer (some ⟨w.heap.size, 0, none⟩), .pointer (some ⟨w.heap.size + 1, 0, none⟩)] = #[pv pt, .pointer (some ⟨w.heap.size + 2, 0, none⟩), .pointer (some ⟨w.heap.size, 0, none⟩), .pointer (some ⟨w.heap.size + 1, 0, none⟩)] from rfl]
    exact rename1_any d n pt t _ _ w1 hD rfl _ _ _ hb1.1 hb1.2.1 hb1.2.2 hp hn (Or.inr (by omega)) ht
  have hop := hid (operate_any _ _ _ d D _ _ h1 hdo (enters_of Try.func35 (by kernel_rfl) rfl))
  have HB := hid hb
  clear h h1 hdo hb hbx hx hsz
  go_enter Try.func19, Try.ntmps19
  go_wp2_with (go_at_call 29; refine hop.out.mono ?_; rintro e w2 ⟨x, rfl, q1, q2, q3⟩; have R := hid (And.intro q1 (And.intro (q2.less (Q := P) (fun j hj => Or.inl hj)) ((KP.below HB.out).trans (q3.less (Q := P) (fun j hj => Or.inl hj))))); clear q1 q2 q3)
  go_ret
  exact ⟨x, rfl, R.out⟩

theorem src_kp {w w' : World} {P : Nat → Prop} {ao : Option Addr} {n : Nat} {L : List Int} (k : KP w w' P) (hP : ∀ j, P j → j < w.heap.size) (h : Src w ao n L) (hb : 0 < n → ∀ ad, ao = some ad → P ad.block) : Src w' ao n L := by
  refine ⟨h.1, fun hp => ?_⟩
  obtain ⟨ad, e, hc⟩ := h.2 hp
  exact ⟨ad, e, fun j x hj => (cell_same (k.keep ad.block (hP _ (hb hp ad e)) (hb hp ad e))).trans (hc j x hj)⟩
theorem DK.plt {w : World} {d : Nat} {D : Dk} {P : Nat → Prop} (h : DK w d D P) : ∀ j, P j → j < w.heap.size := by
  obtain ⟨m, cv, S, A, hD, hc, hF, hP⟩ := h
  exact fun j hj => (hP j hj).1

set_option maxRecDepth 100000 in
set_option maxHeartbeats 4000000 in
theorem append_any (d : Nat) (n : Nm) (L : List Int) (ao : Option Addr) (cc : Nat) (D : Dk) (P : Nat → Prop) (w : World) (h : DK w d D P) (hn : n.length ≤ maxLen) (hsr : Src w ao L.length L) (hsb : 0 < L.length → ∀ ad, ao = some ad → P ad.block) (hao : ao = none → cc = 0) (hlc : L.length ≤ cc ∧ cc ≤ maxLen) (hL : Bts L) : Calls Try.prog 13 #[.pointer (some ⟨d, 0, none⟩), encStr n, .slice ao L.length cc] w (Told (eApp D.room n L) d D P w) := by
  have hb : Below w.heap.size w (((w.alloc (.cells #[.pointer (some ⟨d, 0, none⟩)] 24)).alloc (.cells #[encStr n] 9)).alloc (.cells #[.slice ao L.length cc] 31)) := (((Below.refl _ w).alloc (Nat.le_refl _) _).alloc (by simp <;> omega) _).alloc (by simp <;> omega) _
  have h1 := h.more hb
  have hPl := h.plt
  have hx := heap_new3 w (.cells #[.pointer (some ⟨d, 0, none⟩)] 24) (.cells #[encStr n] 9) (.cells #[.slice ao L.length cc] 31)
  have hsz : (((w.alloc (.cells #[.pointer (some ⟨d, 0, none⟩)] 24)).alloc (.cells #[encStr n] 9)).alloc (.cells #[.slice ao L.length cc] 31)).heap.size = w.heap.size + 3 := by simp
  have hbx : ∀ (w1 : World), KP (((w.alloc (.cells #[.pointer (some ⟨d, 0, none⟩)] 24)).alloc (.cells #[encStr n] 9)).alloc (.cells #[.slice ao L.length cc] 31)) w1 (fun j => P j ∨ (w.heap.size ≤ j ∧ j < (((w.alloc (.cells #[.pointer (some ⟨d, 0, none⟩)] 24)).alloc (.cells #[encStr n] 9)).alloc (.cells #[.slice ao L.length cc] 31)).heap.size)) → w1.heap[w.heap.size]? = some (.cells #[.pointer (some ⟨d, 0, none⟩)] 24 (0, 0)) ∧ w1.heap[w.heap.size + 1]? = some (.cells #[encStr n] 9 (0, 0)) ∧ w1.heap[w.heap.size + 2]? = some (.cells #[.slice ao L.length cc] 31 (0, 0)) := fun w1 k1 =>
    ⟨(k1.keep _ (by omega) (Or.inr (by omega))).trans hx.1, (k1.keep _ (by omega) (Or.inr (by omega))).trans hx.2.1, (k1.keep _ (by omega) (Or.inr (by omega))).trans hx.2.2⟩
  have hdo : CloSays 30 #[.pointer (some ⟨w.heap.size + 1, 0, none⟩), .pointer (some ⟨w.heap.size, 0, none⟩), .pointer (some ⟨w.heap.size + 2, 0, none⟩)] (eApp D.room n L) d D.room (fun j => P j ∨ (w.heap.size ≤ j ∧ j < (((w.alloc (.cells #[.pointer (some ⟨d, 0, none⟩)] 24)).alloc (.cells #[encStr n] 9)).alloc (.cells #[.slice ao L.length cc] 31)).heap.size)) (((w.alloc (.cells #[.pointer (some ⟨d, 0, none⟩)] 24)).alloc (.cells #[encStr n] 9)).alloc (.cells #[.slice ao L.length cc] 31)) := fun w1 due F pt k1 hD hp => by
    have hb1 := hbx w1 k1
    rw [show #[pv pt] ++ #[.pointer (some ⟨w.heap.size + 1, 0, none⟩), .pointer (some ⟨w.heap.size, 0, none⟩), .pointer (some ⟨w.heap.size + 2, 0, none⟩)] = #[pv pt, .pointer (some ⟨w.heap.size + 1, 0, none⟩), .pointer (some ⟨w.heap.size, 0, none⟩), .pointer (some ⟨w.heap.size + 2, 0, none⟩)] from rfl]
    exact append1_any d n pt L ao cc _ _ w1 hD rfl _ _ _ hb1.1 hb1.2.1 hb1.2.2 hp hn ⟨Or.inr (by omega), Or.inr (by omega), Or.inr (by omega)⟩ (src_kp ((KP.below (P := P) hb).trans (k1.less (Q := P) (fun j hj => Or.inl hj))) hPl hsr hsb) (fun hp ad e => Or.inl (hsb hp ad e)) hao hlc hL
  have hop := hid (operate_any _ _ _ d D _ _ h1 hdo (enters_of Try.func30 (by kernel_rfl) rfl))
  have HB := hid hb
  clear h h1 hdo hb hbx hx hsz
  go_enter Try.func13, Try.ntmps13
  go_wp2_with (go_at_call 29; refine hop.out.mono ?_; rintro e w2 ⟨x, rfl, q1, q2, q3⟩; have R := hid (And.intro q1 (And.intro (q2.less (Q := P) (fun j hj => Or.inl hj)) ((KP.below HB.out).trans (q3.less (Q := P) (fun j hj => Or.inl hj))))); clear q1 q2 q3)
  go_ret
  exact ⟨x, rfl, R.out⟩
end

section
set_option linter.unusedVariables false
set_option linter.unusedSimpArgs false
open Go.RowKit Go.Sort Go.Maps Go.Shelf

set_option maxRecDepth 100000 in
set_option maxHeartbeats 4000000 in
theorem off_any (d : Nat) (D : Dk) (P : Nat → Prop) (w : World) (h : DK w d D P) : Calls Try.prog 16 #[.pointer (some ⟨d, 0, none⟩)] w fun e w' => e = .returned (.bool D.off) ∧ w' = w := by
  obtain ⟨m, cv, S, A, hD, _⟩ := h
  have b2 : w.cell? ⟨d, 2, none⟩ = some (.bool D.off) := cell_blk hD.blk rfl
  clear hD
  obtain ⟨room, off, due, F⟩ := D
  simp only at b2 ⊢
  cases off with
  | true =>
    go_enter Try.func16, Try.ntmps16
    go_wp2
    go_ret
    exact ⟨rfl, rfl⟩
  | false =>
    go_enter Try.func16, Try.ntmps16
    go_wp2
    go_ret
    exact ⟨rfl, rfl⟩

theorem DK.cell {w w' : World} {d : Nat} {D : Dk} {P : Nat → Prop} (h : DK w d D P) (off : Bool) (due : Option (Nat × Nat × Nat)) (cv' : Value) (hct : ∀ A : Nat → Prop, (∀ j, A j → j < w.heap.size) → CT w' cv' due A P) (hd : ∀ cs ty, w.heap[d]? = some (.cells cs ty (0, 0)) → w'.heap[d]? = some (.cells ((cs.setIfInBounds 2 (.bool off)).setIfInBounds 3 cv') ty (0, 0))) (hk : ∀ j, j < w.heap.size → j ≠ d → w'.heap[j]? = w.heap[j]?) (hz : w.heap.size ≤ w'.heap.size) (hs : Sm w w') : DK w' d ⟨D.room, off, due, D.F⟩ P ∧ KP w w' P := by
  obtain ⟨m, cv, S, A, hD, hc, hF, hP⟩ := h
  refine ⟨⟨m, cv', S, A, hD.cell (cv' := cv') (off' := off) ?_ hk hz, hct A hD.lt, hF, fun j hj => ⟨Nat.lt_of_lt_of_le (hP j hj).1 hz, (hP j hj).2⟩⟩, ⟨hz, fun j hj hPj => hk j hj (fun e => (hP j hPj).2 (by rw [e]; exact hD.own.1)), hs⟩⟩
  rw [hd _ _ hD.blk]
  simp

set_option maxRecDepth 100000 in
set_option maxHeartbeats 4000000 in
theorem on_any (d : Nat) (D : Dk) (P : Nat → Prop) (w : World) (h : DK w d D P) : Calls Try.prog 17 #[.pointer (some ⟨d, 0, none⟩)] w fun e w' => e = .returned (.tuple #[]) ∧ DK w' d ⟨D.room, false, none, D.F⟩ P ∧ KP w w' P := by
  have h0 := h
  obtain ⟨m, cv, S, A, hD, _⟩ := h
  have b2 : w.cell? ⟨d, 2, none⟩ = some (.bool D.off) := cell_blk hD.blk rfl
  have b3 : w.cell? ⟨d, 3, none⟩ = some cv := cell_blk hD.blk rfl
  have f2 := frz_blk (i := 2) hD.blk
  have f3 := frz_blk (i := 3) hD.blk
  have R := hid (h0.cell (w' := (w.setCell ⟨d, 2, Option.none⟩ (.bool false)).setCell ⟨d, 3, Option.none⟩ (.pointer Option.none)) false Option.none (.pointer Option.none) (fun _ _ => Or.inl ⟨rfl, rfl⟩) (fun cs ty hd => set_blk (i := 3) _ (set_blk (i := 2) _ hd)) (fun j hj hn => by rw [Below.heap_setCell _ _ _ _ hn, Below.heap_setCell _ _ _ _ hn]) (by simp) ⟨rfl, rfl, rfl⟩)
  clear hD h0
  go_enter Try.func17, Try.ntmps17
  go_wp2
  all_goals go_end0
  exact ⟨rfl, R.out⟩

/-- Cut. -/
def cutD (D : Dk) (o p k : Int) : Dk × Nat :=
  if o < 0 ∨ p < 0 ∨ k < 0 then (D, 1) else if D.off = true then (D, 71) else (⟨D.room, false, some (o.toNat, p.toNat, k.toNat), D.F⟩, 0)

set_option maxRecDepth 100000 in
set_option maxHeartbeats 4000000 in
theorem cut_any (d : Nat) (o p k : Int) (D : Dk) (P : Nat → Prop) (w : World) (h : DK w d D P) (ho : o ≤ 9223372036854775807) (hp : p ≤ 9223372036854775807) (hk : k ≤ 9223372036854775807) : Calls Try.prog 15 #[.pointer (some ⟨d, 0, none⟩), .int .i64 o, .int .i64 p, .int .i64 k] w fun e w' => ∃ x : Nat, e = .returned (.int .i64 (x : Int)) ∧ x = (cutD D o p k).2 ∧ DK w' d (cutD D o p k).1 P ∧ KP w w' P := by
  have h0 := h
  obtain ⟨m, cv, S, A, hD, _⟩ := h
  have b2 : w.cell? ⟨d, 2, none⟩ = some (.bool D.off) := cell_blk hD.blk rfl
  by_cases hneg : o < 0 ∨ p < 0 ∨ k < 0
  · have hx : cutD D o p k = (D, 1) := by unfold cutD; rw [if_pos hneg]
    rw [hx]
    have R := hid (And.intro h0 (KP.refl w P))
    clear hD h0 hx
    rcases (show o < 0 ∨ (¬ o < 0 ∧ p < 0) ∨ (¬ o < 0 ∧ ¬ p < 0 ∧ k < 0) by omega) with h1 | h1 | h1
    · clear hneg
      have e1 : decide (o < 0) = true := decide_eq_true h1
      clear h1
      go_enter Try.func15, Try.ntmps15
      go_wp2
      go_ret
      exact ⟨1, rfl, rfl, R.out⟩
    · clear hneg
      have e1 : decide (o < 0) = false := decide_eq_false h1.1
      have e2 : decide (p < 0) = true := decide_eq_true h1.2
      clear h1
      go_enter Try.func15, Try.ntmps15
      go_wp2
      go_ret
      exact ⟨1, rfl, rfl, R.out⟩
    · clear hneg
      have e1 : decide (o < 0) = false := decide_eq_false h1.1
      have e2 : decide (p < 0) = false := decide_eq_false h1.2.1
      have e3 : decide (k < 0) = true := decide_eq_true h1.2.2
      clear h1
      go_enter Try.func15, Try.ntmps15
      go_wp2
      go_ret
      exact ⟨1, rfl, rfl, R.out⟩
  · have e1 : decide (o < 0) = false := decide_eq_false (by omega)
    have e2 : decide (p < 0) = false := decide_eq_false (by omega)
    have e3 : decide (k < 0) = false := decide_eq_false (by omega)
    obtain ⟨room, off, due, F⟩ := D
    simp only at b2
    cases off with
    | true =>
      have hx : cutD ⟨room, true, due, F⟩ o p k = (⟨room, true, due, F⟩, 71) := by unfold cutD; rw [if_neg hneg]; rfl
      rw [hx]
      have R := hid (And.intro h0 (KP.refl w P))
      clear hD h0 hx hneg
      go_enter Try.func15, Try.ntmps15
      go_wp2
      go_ret
      exact ⟨71, rfl, rfl, R.out⟩
    | false =>
      have hx : cutD ⟨room, false, due, F⟩ o p k = (⟨room, false, some (o.toNat, p.toNat, k.toNat), F⟩, 0) := by unfold cutD; rw [if_neg hneg]; rfl
      rw [hx]
      have hdl := h0.lt.1
      have hPlt := h0.plt
      have hdb := hD.blk
      have b3 : w.cell? ⟨d, 3, none⟩ = some cv := cell_blk hdb rfl
      have f3 := frz_blk (i := 3) hdb
      have hzz : (w.setCell ⟨d, 3, none⟩ (.pointer (some ⟨w.heap.size, 0, none⟩))).heap.size = w.heap.size := by simp
      have hset := heap_new (w.setCell ⟨d, 3, none⟩ (.pointer (some ⟨w.heap.size, 0, none⟩))) (.cells #[.int .i64 o, .int .i64 p, .int .i64 k] 71)
      rw [hzz] at hset
      have R := hid (h0.cell (w' := (w.setCell ⟨d, 3, none⟩ (.pointer (some ⟨w.heap.size, 0, none⟩))).alloc (.cells #[.int .i64 o, .int .i64 p, .int .i64 k] 71)) false (some (o.toNat, p.toNat, k.toNat)) (.pointer (some ⟨w.heap.size, 0, none⟩)) (fun A hA => Or.inr ⟨_, _, _, w.heap.size, rfl, rfl, by
          rw [show ((o.toNat : Nat) : Int) = o by omega, show ((p.toNat : Nat) : Int) = p by omega, show ((k.toNat : Nat) : Int) = k by omega]
          exact hset, fun e => by have := hA _ e; omega, fun e => by have := hPlt _ e; omega, by omega, by omega, by omega⟩)
        (fun cs ty hd => by
          rw [hdb] at hd
          obtain ⟨rfl, rfl⟩ : #[.int .i64 (room : Int), .map (some m), .bool false, cv] = cs ∧ 55 = ty := by simpa using hd
          rw [Below.heap_alloc _ _ _ (by omega), set_blk (i := 3) _ hdb]
          simp) (fun j hj hn => (Below.heap_alloc _ _ _ (by omega)).trans (Below.heap_setCell _ _ _ _ hn)) (by simp) ⟨rfl, rfl, rfl⟩)
      clear hD h0 hx hneg hset hdb hPlt
      go_enter Try.func15, Try.ntmps15
      go_wp2
      go_ret
      exact ⟨0, rfl, rfl, R.out⟩

theorem room_dk (d : Nat) (D : Dk) (P : Nat → Prop) (w : World) (h : DK w d D P) : Calls Try.prog 23 #[.pointer (some ⟨d, 0, none⟩)] w fun e w' => e = .returned (.int .i64 ((D.room - sm Fl.n D.F : Nat) : Int)) ∧ Below w.heap.size w w' := by
  obtain ⟨m, cv, S, A, hD, hc, hF, hP⟩ := h
  have := room_any d m cv D.room D.off S A w hD
  have hs : sm (fun f : Fi => f.b.length) S = sm Fl.n D.F := by rw [← hF, sm_mp]; rfl
  rw [hs] at this
  exact this

/-- Read. -/
def readD (D : Dk) (n : Nm) : List Int × Nat :=
  if D.off = true then ([], 71) else
  match lk D.F n with
  | none => ([], 70)
  | some f => (f.b, 0)

set_option maxRecDepth 100000 in
set_option maxHeartbeats 4000000 in
theorem read_any (d : Nat) (n : Nm) (D : Dk) (P : Nat → Prop) (w : World) (h : DK w d D P) (hn : n.length ≤ maxLen) : Calls Try.prog 18 #[.pointer (some ⟨d, 0, none⟩), encStr n] w fun e w' => ∃ (a : Option Addr) (c : Nat) (x : Nat), e = .returned (.tuple #[.slice a (readD D n).1.length c, .int .i64 (x : Int)]) ∧ x = (readD D n).2 ∧ w'.ownsRow w.heap.size 5 1 (.slice a (readD D n).1.length c) (readD D n).1.length ((readD D n).1.map (Value.int .u8)) ∧ Below w.heap.size w w' := by
  obtain ⟨m, cv, S, A, hD, hc, hF, hP⟩ := h
  have b2 : w.cell? ⟨d, 2, none⟩ = some (.bool D.off) := cell_blk hD.blk rfl
  have b1 : w.cell? ⟨d, 1, none⟩ = some (.map (some m)) := cell_blk hD.blk rfl
  obtain ⟨room, off, due, F⟩ := D
  simp only at b2 hD hF
  cases off with
  | true =>
    have hx : readD ⟨room, true, due, F⟩ n = ([], 71) := rfl
    rw [hx]
    clear hD hc hF hP
    go_enter Try.func18, Try.ntmps18
    go_wp2
    go_ret2
    exact ⟨none, 0, 71, rfl, rfl, World.ownsRow_nil _ _ _ _, Below.refl _ _⟩
  | false =>
  cases hl : lk S n with
  | none =>
    have hlF := lk_F (D := ⟨room, false, due, F⟩) hF n hl
    have hx : readD ⟨room, false, due, F⟩ n = ([], 70) := by unfold readD; rw [hlF]; rfl
    rw [hx]
    have hlk := look_run hD.map hn hl
    simp only [Option.map_none, pvo] at hlk
    clear hD hc hF hP hlF hl hx
    go_enter Try.func18, Try.ntmps18
    go_wp2
    go_ret2
    exact ⟨none, 0, 70, rfl, rfl, World.ownsRow_nil _ _ _ _, Below.refl _ _⟩
  | some f =>
    have hlF := lk_F (D := ⟨room, false, due, F⟩) hF n hl
    have hx : readD ⟨room, false, due, F⟩ n = (f.b, 0) := by unfold readD; rw [hlF]; rfl
    rw [hx]
    have hlk := look_run hD.map hn hl
    simp only [Option.map_some, pvo] at hlk
    obtain ⟨a, cc, hav, hsrc, h0, hcc⟩ := own_src (hD.files.row n f hl)
    have c0 : w.cell? ⟨f.g, 0, none⟩ = some (.slice a f.b.length cc) := by rw [cell_blk (hD.files.file n f hl) rfl, hav]; rfl
    have hfl : f.b.length ≤ 1000000 := Nat.le_trans (sm_at (fun f : Fi => f.b.length) hl) (Nat.le_trans hD.fits hD.small)
    have hz0 : a = none → f.b.length = 0 ∧ cc = 0 := fun e => by
      refine ⟨?_, h0 e⟩
      rcases Nat.eq_zero_or_pos f.b.length with h | h
      · exact h
      · obtain ⟨ad, e', _⟩ := hsrc.2 h
        rw [e] at e'
        cases e'
    have hcl := hid (clone_any (w := w) hsrc (c := cc) hfl hz0)
    clear hD hc hF hP hlF hl hx hav hsrc h0 hcc hz0
    go_enter Try.func18, Try.ntmps18
    go_wp2_with (go_at_call 34; refine hcl.out.mono ?_; rintro e w1 ⟨a1, c1, rfl, q1, q2⟩)
    go_ret2
    exact ⟨a1, c1, 0, rfl, rfl, q1, q2⟩

set_option maxRecDepth 100000 in
set_option maxHeartbeats 4000000 in
theorem names_any (d : Nat) (D : Dk) (P : Nat → Prop) (w : World) (h : DK w d D P) : Calls Try.prog 22 #[.pointer (some ⟨d, 0, none⟩)] w fun e w' => ∃ v, e = .returned v ∧ w'.ownsRow w.heap.size 9 1 v (nms D.F).length ((nms D.F).map encStr) ∧ Below w.heap.size w w' := by
  obtain ⟨m, cv, S, A, hD, hc, hF, hP⟩ := h
  have b1 : w.cell? ⟨d, 1, none⟩ = some (.map (some m)) := cell_blk hD.blk rfl
  obtain ⟨DD, ho, hsz, hpm, hT⟩ := hD.map.full hD.asc
  have hfew := hD.few
  have hK := hid (Try.maps_Keys_41 (some m) w)
  have hS := hid (Try.slices_Sorted_keys_40_41 m S.length DD pR w ho (by unfold maxLen; omega) (by omega))
  have hb : Below w.heap.size w (w.alloc (.cells #[.map (some m)] 52)) := (Below.refl _ w).alloc (Nat.le_refl _) _
  have hend : ∀ (ss : List Nm) (v : Value) (w2 : World), ss.Perm (strKeys DD) → w2.ownsRow (w.alloc (.cells #[.map (some m)] 52)).heap.size 9 1 v ss.length ((ss.mergeSort (fun x y => decide (x ≤ y))).map encStr) → Below (w.alloc (.cells #[.map (some m)] 52)).heap.size (w.alloc (.cells #[.map (some m)] 52)) w2 → w2.ownsRow w.heap.size 9 1 v (nms D.F).length ((nms D.F).map encStr) ∧ Below w.heap.size w w2 := fun ss v w2 hp hr hb2 => by
    have hp2 := hp.trans hpm
    rw [nms_sorted hD.asc hp2, hp2.length_eq] at hr
    rw [← hF, nms_mp]
    exact ⟨ownsRow_base_a hr hb.size, hb.trans (hb2.mono hb.size)⟩
  have HE := hid hend
  clear hD hc hF hP ho hpm hT hend hsz
  refine (callsIn_wide (n := 6)).1 ?_
  have hfK : Fence.wide.fn 41 := trivial
  have hfS : Fence.wide.fn 40 := trivial
  refine callsIn_of_wp Try.func22 rfl trivial ?_ rfl
  simp only [Try.ntmps22, List.size_toArray, List.length_cons, List.length_nil, Nat.reduceAdd, Nat.reduceSub, Array.replicate_succ, Array.replicate_zero, List.push_toArray, List.append_toArray, List.nil_append, List.cons_append]
  gi_wp2_with (first
    | (gi_at_call 41; refine hK.out.mono ?_; rintro e w' ⟨rfl, rfl⟩)
    | (gi_at_call 40; refine hS.out.mono ?_; rintro e w2 ⟨v, ss, rfl, q1, q2, q3, q4⟩; have R := hid (HE.out ss v w2 q1 q2 q4); clear q1 q2 q3 q4))
  go_ret
  exact ⟨v, rfl, R.out⟩
end

section
set_option linter.unusedVariables false
set_option linter.unusedSimpArgs false
open Go.RowKit Go.Sort Go.Maps

set_option maxRecDepth 100000 in
set_option maxHeartbeats 4000000 in
theorem new_any (r : Int) (hr : r ≤ 1000000) (w : World) : Calls Try.prog 9 #[.int .i64 r] w fun e w' => ∃ d, e = .returned (.pointer (some ⟨d, 0, none⟩)) ∧ Below w.heap.size w w' ∧ DK w' d ⟨r.toNat, false, none, []⟩ (fun j => j < w.heap.size) := by
  have hM := MP.made w
  have hend : ∀ rr : Int, rr = ((r.toNat : Nat) : Int) → Below w.heap.size w ((w.alloc (.map #[] 0)).alloc (.cells #[.int .i64 rr, .map (some w.heap.size), .bool false, .pointer none] 55)) ∧ DK ((w.alloc (.map #[] 0)).alloc (.cells #[.int .i64 rr, .map (some w.heap.size), .bool false, .pointer none] 55)) (w.heap.size + 1) ⟨r.toNat, false, none, []⟩ (fun j => j < w.heap.size) := fun rr hrr => by
    have h2 := heap_new2 w (.map #[] 0) (.cells #[.int .i64 rr, .map (some w.heap.size), .bool false, .pointer none] 55)
    refine ⟨((Below.refl _ w).alloc (Nat.le_refl _) _).alloc (by simp) _, w.heap.size, .pointer none, [], (fun j => j = w.heap.size ∨ j = w.heap.size + 1), ⟨by rw [h2.2, hrr], hM.same (h2.1.trans (heap_new w _).symm), ⟨fun n f e => by simp [lk] at e, fun n f e => by simp [lk] at e, fun n f e => by simp [lk] at e, fun n f e => by simp [lk] at e, fun n n' f f' e => by simp [lk] at e, fun n n' f f' k e => by simp [lk] at e⟩, trivial, by simp, by simp [sm], by simp only; omega, fun n f e => by simp [lk] at e, ⟨Or.inr rfl, Or.inl rfl⟩, fun j hj => by
      rcases hj with hj | hj
      · simp; omega
      · simp; omega⟩, Or.inl ⟨rfl, rfl⟩, rfl, fun j hj => ⟨by simp; omega, fun e => by
      rcases e with e | e
      · omega
      · omega⟩⟩
  have HE := hid hend
  have hmk := @run_makeMap Try.prog
  clear hend hM
  by_cases h0 : 0 ≤ r
  · have R := hid (HE.out r (by omega))
    have e1 : decide (r < 0) = false := decide_eq_false (by omega)
    have e2 : decide ((0 : Int) < r) = decide (0 < r) := rfl
    have e3 : (if r < 0 then (0 : Int) else r) = r := if_neg (by omega)
    have e4 : (if (0 : Int) < r then r else 0) = r := by split <;> omega
    have e5 : max r 0 = r := by omega
    clear HE
    go_enter Try.func9, Try.ntmps9
    go_wp2
    go_ret
    exact ⟨_, rfl, R.out⟩
  · have R := hid (HE.out 0 (by omega))
    have e1 : decide (r < 0) = true := decide_eq_true (by omega)
    have e3 : (if r < 0 then (0 : Int) else r) = 0 := if_pos (by omega)
    have e4 : (if (0 : Int) < r then r else 0) = 0 := by split <;> omega
    have e5 : max r 0 = 0 := by omega
    clear HE
    go_enter Try.func9, Try.ntmps9
    go_wp2
    go_ret
    exact ⟨_, rfl, R.out⟩

set_option maxRecDepth 100000 in
set_option maxHeartbeats 4000000 in
theorem operate_nil (f : Value) (w : World) : Calls Try.prog 29 #[.pointer none, f] w fun e w' => e = .returned (.int .i64 1) ∧ w' = w := by
  go_enter Try.func29, Try.ntmps29
  go_wp2
  go_ret
  exact ⟨rfl, rfl⟩

set_option maxRecDepth 100000 in
set_option maxHeartbeats 4000000 in
theorem append_nil (n : Nm) (ao : Option Addr) (l cc : Nat) (w : World) : Calls Try.prog 13 #[.pointer none, encStr n, .slice ao l cc] w fun e w' => e = .returned (.int .i64 1) ∧ Below w.heap.size w w' := by
  have hb : Below w.heap.size w (((w.alloc (.cells #[.pointer none] 24)).alloc (.cells #[encStr n] 9)).alloc (.cells #[.slice ao l cc] 31)) := (((Below.refl _ w).alloc (Nat.le_refl _) _).alloc (by simp <;> omega) _).alloc (by simp <;> omega) _
  have HB := hid hb
  clear hb
  go_enter Try.func13, Try.ntmps13
  go_wp2_with (go_at_call 29; refine (operate_nil _ _).mono ?_; rintro e w2 ⟨rfl, rfl⟩)
  go_ret
  exact ⟨rfl, HB.out⟩
end
end Go.Proofs.Ytocglenkdjiknaa
