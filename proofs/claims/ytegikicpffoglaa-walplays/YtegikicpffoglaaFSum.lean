/- The program's sum is the document's. -/
import Derived.Test.YtegikicpffoglaaDkApp
import Derived.Below
import Derived.Laws.BitsLemmas
import Derived.Test.YtegikicpffoglaaDkMay
namespace Go.Proofs.Ytegikicpffoglaa
section
set_option linter.unusedVariables false
set_option linter.unusedSimpArgs false
open Go.RowKit Go.Sort Go.Maps Go.Shelf

theorem tear_dk {w : World} {d room o p k : Nat} {off : Bool} {F : List (Nm × Fl)} {P : Nat → Prop} (h : DK w d ⟨room, off, some (o, p, k), F⟩ P) :
    Calls Try.prog 37 #[.pointer (some ⟨d, 0, none⟩)] w fun e w' => e = .returned (.tuple #[]) ∧ DK w' d ⟨room, true, none, mp (Fl.torn k) F⟩ P ∧ KP w w' P := by
  obtain ⟨m, cv, S, A, hD, hc, hF, hP⟩ := h
  rcases hc with ⟨h0, _⟩ | ⟨o', p', k', c, h1, h2, h3, h4, h5, h6, h7, h8⟩
  · cases h0
  · obtain ⟨rfl, rfl, rfl⟩ : o = o' ∧ p = p' ∧ k = k' := by simpa using h1
    subst h2
    refine (tear_any d m c room o p k off S A w hD h3 h4 h8).mono ?_
    rintro e w' ⟨rfl, S', A', q1, q2, q3⟩
    refine ⟨rfl, DK.of (due := none) (A := A) (P := P) (Or.inl ⟨rfl, rfl⟩) hP q3 q1 ?_⟩
    simp only at hF
    rw [q2, ← hF, mp_mp]

/-- What a closure does. -/
def CloSays (k : Nat) (caps : Array Value) (ef : Ef) (d room : Nat) (P : Nat → Prop) (w : World) : Prop :=
  ∀ (w1 : World) (due : Option (Nat × Nat × Nat)) (F : List (Nm × Fl)) (pt : Option Nat), KP w w1 P → DK w1 d ⟨room, false, due, F⟩ P → (∀ p, pt = some p → p ≤ 9223372036854775807) →
    Calls Try.prog k (#[pv pt] ++ caps) w1 fun e w' => ∃ x : Nat, e = .returned (.int .i64 (x : Int)) ∧ x = (ef pt F).2 ∧ DK w' d ⟨room, false, due, (ef pt F).1⟩ P ∧ KP w1 w' P

theorem dk_due_blk {w : World} {d room o p k : Nat} {off : Bool} {F : List (Nm × Fl)} {P : Nat → Prop} (h : DK w d ⟨room, off, some (o, p, k), F⟩ P) : ∃ m c, w.heap[d]? = some (.cells #[.int .i64 (room : Int), .map (some m), .bool off, .pointer (some ⟨c, 0, none⟩)] 54 (0, 0)) ∧ w.heap[c]? = some (.cells #[.int .i64 (o : Int), .int .i64 (p : Int), .int .i64 (k : Int)] 76 (0, 0)) ∧ (o ≤ 9223372036854775807 ∧ p ≤ 9223372036854775807 ∧ k ≤ 9223372036854775807) ∧
    ∀ (o' : Nat), o' ≤ 9223372036854775807 → DK (w.setCell ⟨c, 0, none⟩ (.int .i64 (o' : Int))) d ⟨room, off, some (o', p, k), F⟩ P ∧ KP w (w.setCell ⟨c, 0, none⟩ (.int .i64 (o' : Int))) P := by
  obtain ⟨m, cv, S, A, hD, hc, hF, hP⟩ := h
  rcases hc with ⟨h0, _⟩ | ⟨o', p', k', c, h1, h2, h3, h4, h5, h6, h7, h8⟩
  · cases h0
  · obtain ⟨rfl, rfl, rfl⟩ : o = o' ∧ p = p' ∧ k = k' := by simpa using h1
    subst h2
    refine ⟨m, c, hD.blk, h3, ⟨h6, h7, h8⟩, fun o' ho' => ⟨⟨m, _, S, A, hD.same (fun j hj => Below.heap_setCell _ _ _ _ (fun e => h4 (by rw [show c = j from e.symm]; exact hj))) (by simp), Or.inr ⟨o', p, k, c, rfl, rfl, ?_, h4, h5, ho', h7, h8⟩, hF, fun j hj => ⟨by simp; exact (hP j hj).1, (hP j hj).2⟩⟩, ⟨by simp, fun j hj hPj => Below.heap_setCell _ _ _ _ (fun e => h5 (by rw [show c = j from e.symm]; exact hPj)), ⟨rfl, rfl, rfl⟩⟩⟩⟩
    rw [set_blk (i := 0) _ h3]
    simp

theorem dk_blk0 {w : World} {d room : Nat} {off : Bool} {F : List (Nm × Fl)} {P : Nat → Prop} (h : DK w d ⟨room, off, none, F⟩ P) : ∃ m, w.heap[d]? = some (.cells #[.int .i64 (room : Int), .map (some m), .bool off, .pointer none] 54 (0, 0)) := by
  obtain ⟨m, cv, S, A, hD, hc, hF, hP⟩ := h
  rcases hc with ⟨_, h0⟩ | ⟨o', p', k', c, h1, _⟩
  · subst h0
    exact ⟨m, hD.blk⟩
  · cases h1

set_option maxRecDepth 100000 in
set_option maxHeartbeats 4000000 in
theorem operate_any (k : Nat) (caps : Array Value) (ef : Ef) (d : Nat) (D : Dk) (P : Nat → Prop) (w : World) (h : DK w d D P) (hdo : CloSays k caps ef d D.room P w) (hen : Enters Try.prog k) :
    Calls Try.prog 24 #[.pointer (some ⟨d, 0, none⟩), .func (.func k) #[] caps] w fun e w' => ∃ x : Nat, e = .returned (.int .i64 (x : Int)) ∧ x = (operD ef D).2 ∧ DK w' d (operD ef D).1 P ∧ KP w w' P := by
  obtain ⟨room, off, due, F⟩ := D
  simp only at hdo
  have hk2 : ∀ (args : Array Value) (w : World), (callFunc k args).run Try.prog w = .ok (.enter k args) w := hen
  clear hen
  cases off with
  | true =>
    have hx : operD ef ⟨room, true, due, F⟩ = (⟨room, true, due, F⟩, 71) := by unfold operD; rw [if_pos rfl]
    rw [hx]
    obtain ⟨m, cv, S, A, hD, hr⟩ := h
    have b2 : w.cell? ⟨d, 2, none⟩ = some (.bool true) := cell_blk hD.blk rfl
    have R : Hid (DK w d ⟨room, true, due, F⟩ P) := hid ⟨m, cv, S, A, hD, hr⟩
    clear hD hr hdo
    go_enter Try.func24, Try.ntmps24
    go_wp2
    go_ret
    exact ⟨71, rfl, rfl, R.out, KP.refl _ _⟩
  | false =>
  cases due with
  | none =>
    have hx : operD ef ⟨room, false, none, F⟩ = (⟨room, false, none, (ef none F).1⟩, (ef none F).2) := rfl
    rw [hx]
    obtain ⟨m, hb⟩ := dk_blk0 h
    have b2 : w.cell? ⟨d, 2, none⟩ = some (.bool false) := cell_blk hb rfl
    have b3 : w.cell? ⟨d, 3, none⟩ = some (.pointer none) := cell_blk hb rfl
    have hcall := hid (hdo w none F none (KP.refl _ _) h (fun p hp => by cases hp))
    clear hb h hdo
    go_enter Try.func24, Try.ntmps24
    go_wp2_with (refine Calls.mono hcall.out ?_; rintro e w1 ⟨x, rfl, q1, q2, q3⟩; have R := hid (And.intro q1 (And.intro q2 q3)); clear q1 q2 q3)
    go_ret
    exact ⟨x, rfl, R.out⟩
  | some t =>
    obtain ⟨o, p, kk⟩ := t
    cases o with
    | succ o =>
      have hx : operD ef ⟨room, false, some (o + 1, p, kk), F⟩ = (⟨room, false, some (o, p, kk), (ef none F).1⟩, (ef none F).2) := rfl
      rw [hx]
      obtain ⟨m, c, hb, hc, hle, hset⟩ := dk_due_blk h
      have b2 : w.cell? ⟨d, 2, none⟩ = some (.bool false) := cell_blk hb rfl
      have b3 : w.cell? ⟨d, 3, none⟩ = some (.pointer (some ⟨c, 0, none⟩)) := cell_blk hb rfl
      have b4 : w.cell? ⟨c, 0, none⟩ = some (.int .i64 ((o + 1 : Nat) : Int)) := cell_blk hc rfl
      have f4 := frz_blk (i := 0) hc
      obtain ⟨s1, s2⟩ := hset o (by omega)
      have hcall := hid (hdo _ _ F none s2 s1 (fun p hp => by cases hp))
      have S2 := hid s2
      have hwr : IntKind.i64.wrap (((o + 1 : Nat) : Int) - 1) = (o : Int) := by rw [IntKind.wrap_i64]; omega
      have hw64 : wrap64 (o : Int) = (o : Int) := by unfold wrap64; omega
      have hpos : decide ((0 : Int) < ((o + 1 : Nat) : Int)) = true := decide_eq_true (by omega)
      clear hb hc h hdo hset s1 s2 hle
      go_enter Try.func24, Try.ntmps24
      go_wp2_with (refine Calls.mono hcall.out ?_; rintro e w1 ⟨x, rfl, q1, q2, q3⟩; have R := hid (And.intro q1 (And.intro q2 (S2.out.trans q3))); clear q1 q2 q3)
      go_ret
      exact ⟨x, rfl, R.out⟩
    | zero =>
      have hx : operD ef ⟨room, false, some (0, p, kk), F⟩ = (⟨room, true, none, mp (Fl.torn kk) (ef (some p) F).1⟩, 71) := rfl
      rw [hx]
      obtain ⟨m, c, hb, hc, hle, hset⟩ := dk_due_blk h
      have b2 : w.cell? ⟨d, 2, none⟩ = some (.bool false) := cell_blk hb rfl
      have b3 : w.cell? ⟨d, 3, none⟩ = some (.pointer (some ⟨c, 0, none⟩)) := cell_blk hb rfl
      have b4 : w.cell? ⟨c, 0, none⟩ = some (.int .i64 ((0 : Nat) : Int)) := cell_blk hc rfl
      have b5 : w.cell? ⟨c, 1, none⟩ = some (.int .i64 (p : Int)) := cell_blk hc rfl
      have hcall := hid (hdo _ _ F (some p) (KP.refl _ _) h (fun p' hp => by cases hp; exact hle.2.1))
      clear hb hc h hdo hset hle
      go_enter Try.func24, Try.ntmps24
      go_wp2_with (first
        | (go_at_call 37; have T1 := R.out; refine Calls.mono (tear_dk T1.1) ?_; rintro e w2 ⟨rfl, q1, q2⟩; have R9 := hid (And.intro q1 (T1.2.trans q2)); clear q1 q2 T1)
        | (refine Calls.mono hcall.out ?_; rintro e w1 ⟨x, rfl, q1, q2, q3⟩; have R := hid (And.intro q2 q3); clear q1 q2 q3))
      go_ret
      exact ⟨71, rfl, rfl, R9.out⟩
end

section
set_option linter.unusedVariables false
set_option linter.unusedSimpArgs false
open Go.RowKit Go.Sort Go.Maps Go.Shelf

/-- What an operation tells. -/
def Told (ef : Ef) (d : Nat) (D : Dk) (P : Nat → Prop) (w : World) (e : Ending) (w' : World) : Prop :=
  ∃ x : Nat, e = .returned (.int .i64 (x : Int)) ∧ x = (operD ef D).2 ∧ DK w' d (operD ef D).1 P ∧ KP w w' P
theorem heap_new2 (w : World) (o p : Obj) : ((w.alloc o).alloc p).heap[w.heap.size]? = some o ∧ ((w.alloc o).alloc p).heap[w.heap.size + 1]? = some p := by
  have hz : (w.alloc o).heap.size = w.heap.size + 1 := by simp
  have h := heap_new (w.alloc o) p
  rw [hz] at h
  exact ⟨(Below.heap_alloc _ _ _ (by omega)).trans (heap_new w o), h⟩
theorem heap_new3 (w : World) (o p q : Obj) : (((w.alloc o).alloc p).alloc q).heap[w.heap.size]? = some o ∧ (((w.alloc o).alloc p).alloc q).heap[w.heap.size + 1]? = some p ∧ (((w.alloc o).alloc p).alloc q).heap[w.heap.size + 2]? = some q := by
  obtain ⟨h1, h2⟩ := heap_new2 w o p
  have hz : ((w.alloc o).alloc p).heap.size = w.heap.size + 2 := by simp
  have h := heap_new ((w.alloc o).alloc p) q
  rw [hz] at h
  exact ⟨(Below.heap_alloc _ _ _ (by omega)).trans h1, (Below.heap_alloc _ _ _ (by omega)).trans h2, h⟩

set_option maxRecDepth 100000 in
set_option maxHeartbeats 4000000 in
theorem sync_any (d : Nat) (n : Nm) (D : Dk) (P : Nat → Prop) (w : World) (h : DK w d D P) (hn : n.length ≤ maxLen) : Calls Try.prog 35 #[.pointer (some ⟨d, 0, none⟩), encStr n] w (Told (eSync n) d D P w) := by
  have hb : Below w.heap.size w ((w.alloc (.cells #[.pointer (some ⟨d, 0, none⟩)] 24)).alloc (.cells #[encStr n] 9)) := ((Below.refl _ w).alloc (Nat.le_refl _) _).alloc (by simp <;> omega) _
  have h1 := h.more hb
  have hx := heap_new2 w (.cells #[.pointer (some ⟨d, 0, none⟩)] 24) (.cells #[encStr n] 9)
  have hsz : ((w.alloc (.cells #[.pointer (some ⟨d, 0, none⟩)] 24)).alloc (.cells #[encStr n] 9)).heap.size = w.heap.size + 2 := by simp
  have hbx : ∀ (w1 : World), KP ((w.alloc (.cells #[.pointer (some ⟨d, 0, none⟩)] 24)).alloc (.cells #[encStr n] 9)) w1 (fun j => P j ∨ (w.heap.size ≤ j ∧ j < ((w.alloc (.cells #[.pointer (some ⟨d, 0, none⟩)] 24)).alloc (.cells #[encStr n] 9)).heap.size)) → w1.heap[w.heap.size]? = some (.cells #[.pointer (some ⟨d, 0, none⟩)] 24 (0, 0)) ∧ w1.heap[w.heap.size + 1]? = some (.cells #[encStr n] 9 (0, 0)) := fun w1 k1 =>
    ⟨(k1.keep _ (by omega) (Or.inr (by omega))).trans hx.1, (k1.keep _ (by omega) (Or.inr (by omega))).trans hx.2⟩
  have hdo : CloSays 48 #[.pointer (some ⟨w.heap.size, 0, none⟩), .pointer (some ⟨w.heap.size + 1, 0, none⟩)] (eSync n) d D.room (fun j => P j ∨ (w.heap.size ≤ j ∧ j < ((w.alloc (.cells #[.pointer (some ⟨d, 0, none⟩)] 24)).alloc (.cells #[encStr n] 9)).heap.size)) ((w.alloc (.cells #[.pointer (some ⟨d, 0, none⟩)] 24)).alloc (.cells #[encStr n] 9)) := fun w1 due F pt k1 hD hp => by
    have hb1 := hbx w1 k1
    rw [show #[pv pt] ++ #[.pointer (some ⟨w.heap.size, 0, none⟩), .pointer (some ⟨w.heap.size + 1, 0, none⟩)] = #[pv pt, .pointer (some ⟨w.heap.size, 0, none⟩), .pointer (some ⟨w.heap.size + 1, 0, none⟩)] from rfl]
    exact sync1_any d n pt _ _ w1 hD rfl _ _ hb1.1 hb1.2 hp hn
  have hop := hid (operate_any _ _ _ d D _ _ h1 hdo (enters_of Try.func48 (by kernel_rfl) rfl))
  have HB := hid hb
  clear h h1 hdo hb hbx hx hsz
  go_enter Try.func35, Try.ntmps35
  go_wp2_with (go_at_call 24; refine hop.out.mono ?_; rintro e w2 ⟨x, rfl, q1, q2, q3⟩; have R := hid (And.intro q1 (And.intro (q2.less (Q := P) (fun j hj => Or.inl hj)) ((KP.below HB.out).trans (q3.less (Q := P) (fun j hj => Or.inl hj))))); clear q1 q2 q3)
  go_ret
  exact ⟨x, rfl, R.out⟩

set_option maxRecDepth 100000 in
set_option maxHeartbeats 4000000 in
theorem shorten_op (d : Nat) (n : Nm) (k : Int) (D : Dk) (P : Nat → Prop) (w : World) (h : DK w d D P) (hn : n.length ≤ maxLen) (hk : k ≤ 9223372036854775807) : Calls Try.prog 30 #[.pointer (some ⟨d, 0, none⟩), encStr n, .int .i64 k] w (Told (eSho n k) d D P w) := by
  have hb : Below w.heap.size w (((w.alloc (.cells #[.pointer (some ⟨d, 0, none⟩)] 24)).alloc (.cells #[encStr n] 9)).alloc (.cells #[.int .i64 k] 3)) := (((Below.refl _ w).alloc (Nat.le_refl _) _).alloc (by simp <;> omega) _).alloc (by simp <;> omega) _
  have h1 := h.more hb
  have hx := heap_new3 w (.cells #[.pointer (some ⟨d, 0, none⟩)] 24) (.cells #[encStr n] 9) (.cells #[.int .i64 k] 3)
  have hsz : (((w.alloc (.cells #[.pointer (some ⟨d, 0, none⟩)] 24)).alloc (.cells #[encStr n] 9)).alloc (.cells #[.int .i64 k] 3)).heap.size = w.heap.size + 3 := by simp
  have hbx : ∀ (w1 : World), KP (((w.alloc (.cells #[.pointer (some ⟨d, 0, none⟩)] 24)).alloc (.cells #[encStr n] 9)).alloc (.cells #[.int .i64 k] 3)) w1 (fun j => P j ∨ (w.heap.size ≤ j ∧ j < (((w.alloc (.cells #[.pointer (some ⟨d, 0, none⟩)] 24)).alloc (.cells #[encStr n] 9)).alloc (.cells #[.int .i64 k] 3)).heap.size)) → w1.heap[w.heap.size]? = some (.cells #[.pointer (some ⟨d, 0, none⟩)] 24 (0, 0)) ∧ w1.heap[w.heap.size + 1]? = some (.cells #[encStr n] 9 (0, 0)) ∧ w1.heap[w.heap.size + 2]? = some (.cells #[.int .i64 k] 3 (0, 0)) := fun w1 k1 =>
    ⟨(k1.keep _ (by omega) (Or.inr (by omega))).trans hx.1, (k1.keep _ (by omega) (Or.inr (by omega))).trans hx.2.1, (k1.keep _ (by omega) (Or.inr (by omega))).trans hx.2.2⟩
  have hdo : CloSays 43 #[.pointer (some ⟨w.heap.size, 0, none⟩), .pointer (some ⟨w.heap.size + 1, 0, none⟩), .pointer (some ⟨w.heap.size + 2, 0, none⟩)] (eSho n k) d D.room (fun j => P j ∨ (w.heap.size ≤ j ∧ j < (((w.alloc (.cells #[.pointer (some ⟨d, 0, none⟩)] 24)).alloc (.cells #[encStr n] 9)).alloc (.cells #[.int .i64 k] 3)).heap.size)) (((w.alloc (.cells #[.pointer (some ⟨d, 0, none⟩)] 24)).alloc (.cells #[encStr n] 9)).alloc (.cells #[.int .i64 k] 3)) := fun w1 due F pt k1 hD hp => by
    have hb1 := hbx w1 k1
    rw [show #[pv pt] ++ #[.pointer (some ⟨w.heap.size, 0, none⟩), .pointer (some ⟨w.heap.size + 1, 0, none⟩), .pointer (some ⟨w.heap.size + 2, 0, none⟩)] = #[pv pt, .pointer (some ⟨w.heap.size, 0, none⟩), .pointer (some ⟨w.heap.size + 1, 0, none⟩), .pointer (some ⟨w.heap.size + 2, 0, none⟩)] from rfl]
    exact shorten1_any d n pt k _ _ w1 hD rfl _ _ _ hb1.1 hb1.2.1 hb1.2.2 hp hn hk
  have hop := hid (operate_any _ _ _ d D _ _ h1 hdo (enters_of Try.func43 (by kernel_rfl) rfl))
  have HB := hid hb
  clear h h1 hdo hb hbx hx hsz
  go_enter Try.func30, Try.ntmps30
  go_wp2_with (go_at_call 24; refine hop.out.mono ?_; rintro e w2 ⟨x, rfl, q1, q2, q3⟩; have R := hid (And.intro q1 (And.intro (q2.less (Q := P) (fun j hj => Or.inl hj)) ((KP.below HB.out).trans (q3.less (Q := P) (fun j hj => Or.inl hj))))); clear q1 q2 q3)
  go_ret
  exact ⟨x, rfl, R.out⟩

theorem src_kp {w w' : World} {P : Nat → Prop} {ao : Option Addr} {n : Nat} {L : List Int} (k : KP w w' P) (hP : ∀ j, P j → j < w.heap.size) (h : Src w ao n L) (hb : 0 < n → ∀ ad, ao = some ad → P ad.block) : Src w' ao n L := by
  refine ⟨h.1, fun hp => ?_⟩
  obtain ⟨ad, e, hc⟩ := h.2 hp
  exact ⟨ad, e, fun j x hj => (cell_same (k.keep ad.block (hP _ (hb hp ad e)) (hb hp ad e))).trans (hc j x hj)⟩
theorem DK.plt {w : World} {d : Nat} {D : Dk} {P : Nat → Prop} (h : DK w d D P) : ∀ j, P j → j < w.heap.size := by
  obtain ⟨m, cv, S, A, hD, hc, hF, hP⟩ := h
  exact fun j hj => (hP j hj).1

set_option maxRecDepth 100000 in
set_option maxHeartbeats 4000000 in
theorem append_any (d : Nat) (n : Nm) (L : List Int) (ao : Option Addr) (cc : Nat) (D : Dk) (P : Nat → Prop) (w : World) (h : DK w d D P) (hn : n.length ≤ maxLen) (hsr : Src w ao L.length L) (hsb : 0 < L.length → ∀ ad, ao = some ad → P ad.block) (hao : ao = none → cc = 0) (hlc : L.length ≤ cc ∧ cc ≤ maxLen) (hL : Bts L) : Calls Try.prog 10 #[.pointer (some ⟨d, 0, none⟩), encStr n, .slice ao L.length cc] w (Told (eApp D.room n L) d D P w) := by
  have hb : Below w.heap.size w (((w.alloc (.cells #[.pointer (some ⟨d, 0, none⟩)] 24)).alloc (.cells #[encStr n] 9)).alloc (.cells #[.slice ao L.length cc] 22)) := (((Below.refl _ w).alloc (Nat.le_refl _) _).alloc (by simp <;> omega) _).alloc (by simp <;> omega) _
  have h1 := h.more hb
  have hPl := h.plt
  have hx := heap_new3 w (.cells #[.pointer (some ⟨d, 0, none⟩)] 24) (.cells #[encStr n] 9) (.cells #[.slice ao L.length cc] 22)
  have hsz : (((w.alloc (.cells #[.pointer (some ⟨d, 0, none⟩)] 24)).alloc (.cells #[encStr n] 9)).alloc (.cells #[.slice ao L.length cc] 22)).heap.size = w.heap.size + 3 := by simp
  have hbx : ∀ (w1 : World), KP (((w.alloc (.cells #[.pointer (some ⟨d, 0, none⟩)] 24)).alloc (.cells #[encStr n] 9)).alloc (.cells #[.slice ao L.length cc] 22)) w1 (fun j => P j ∨ (w.heap.size ≤ j ∧ j < (((w.alloc (.cells #[.pointer (some ⟨d, 0, none⟩)] 24)).alloc (.cells #[encStr n] 9)).alloc (.cells #[.slice ao L.length cc] 22)).heap.size)) → w1.heap[w.heap.size]? = some (.cells #[.pointer (some ⟨d, 0, none⟩)] 24 (0, 0)) ∧ w1.heap[w.heap.size + 1]? = some (.cells #[encStr n] 9 (0, 0)) ∧ w1.heap[w.heap.size + 2]? = some (.cells #[.slice ao L.length cc] 22 (0, 0)) := fun w1 k1 =>
    ⟨(k1.keep _ (by omega) (Or.inr (by omega))).trans hx.1, (k1.keep _ (by omega) (Or.inr (by omega))).trans hx.2.1, (k1.keep _ (by omega) (Or.inr (by omega))).trans hx.2.2⟩
  have hdo : CloSays 25 #[.pointer (some ⟨w.heap.size + 1, 0, none⟩), .pointer (some ⟨w.heap.size, 0, none⟩), .pointer (some ⟨w.heap.size + 2, 0, none⟩)] (eApp D.room n L) d D.room (fun j => P j ∨ (w.heap.size ≤ j ∧ j < (((w.alloc (.cells #[.pointer (some ⟨d, 0, none⟩)] 24)).alloc (.cells #[encStr n] 9)).alloc (.cells #[.slice ao L.length cc] 22)).heap.size)) (((w.alloc (.cells #[.pointer (some ⟨d, 0, none⟩)] 24)).alloc (.cells #[encStr n] 9)).alloc (.cells #[.slice ao L.length cc] 22)) := fun w1 due F pt k1 hD hp => by
    have hb1 := hbx w1 k1
    rw [show #[pv pt] ++ #[.pointer (some ⟨w.heap.size + 1, 0, none⟩), .pointer (some ⟨w.heap.size, 0, none⟩), .pointer (some ⟨w.heap.size + 2, 0, none⟩)] = #[pv pt, .pointer (some ⟨w.heap.size + 1, 0, none⟩), .pointer (some ⟨w.heap.size, 0, none⟩), .pointer (some ⟨w.heap.size + 2, 0, none⟩)] from rfl]
    exact append1_any d n pt L ao cc _ _ w1 hD rfl _ _ _ hb1.1 hb1.2.1 hb1.2.2 hp hn ⟨Or.inr (by omega), Or.inr (by omega), Or.inr (by omega)⟩ (src_kp ((KP.below (P := P) hb).trans (k1.less (Q := P) (fun j hj => Or.inl hj))) hPl hsr hsb) (fun hp ad e => Or.inl (hsb hp ad e)) hao hlc hL
  have hop := hid (operate_any _ _ _ d D _ _ h1 hdo (enters_of Try.func25 (by kernel_rfl) rfl))
  have HB := hid hb
  clear h h1 hdo hb hbx hx hsz
  go_enter Try.func10, Try.ntmps10
  go_wp2_with (go_at_call 24; refine hop.out.mono ?_; rintro e w2 ⟨x, rfl, q1, q2, q3⟩; have R := hid (And.intro q1 (And.intro (q2.less (Q := P) (fun j hj => Or.inl hj)) ((KP.below HB.out).trans (q3.less (Q := P) (fun j hj => Or.inl hj))))); clear q1 q2 q3)
  go_ret
  exact ⟨x, rfl, R.out⟩
end

section
set_option linter.unusedVariables false
set_option linter.unusedSimpArgs false
open Go.RowKit Go.Sort Go.Maps Go.Shelf

theorem DK.cell {w w' : World} {d : Nat} {D : Dk} {P : Nat → Prop} (h : DK w d D P) (off : Bool) (due : Option (Nat × Nat × Nat)) (cv' : Value) (hct : ∀ A : Nat → Prop, (∀ j, A j → j < w.heap.size) → CT w' cv' due A P) (hd : ∀ cs ty, w.heap[d]? = some (.cells cs ty (0, 0)) → w'.heap[d]? = some (.cells ((cs.setIfInBounds 2 (.bool off)).setIfInBounds 3 cv') ty (0, 0))) (hk : ∀ j, j < w.heap.size → j ≠ d → w'.heap[j]? = w.heap[j]?) (hz : w.heap.size ≤ w'.heap.size) (hs : Sm w w') : DK w' d ⟨D.room, off, due, D.F⟩ P ∧ KP w w' P := by
  obtain ⟨m, cv, S, A, hD, hc, hF, hP⟩ := h
  refine ⟨⟨m, cv', S, A, hD.cell (cv' := cv') (off' := off) ?_ hk hz, hct A hD.lt, hF, fun j hj => ⟨Nat.lt_of_lt_of_le (hP j hj).1 hz, (hP j hj).2⟩⟩, ⟨hz, fun j hj hPj => hk j hj (fun e => (hP j hPj).2 (by rw [e]; exact hD.own.1)), hs⟩⟩
  rw [hd _ _ hD.blk]
  simp

theorem room_dk (d : Nat) (D : Dk) (P : Nat → Prop) (w : World) (h : DK w d D P) : Calls Try.prog 18 #[.pointer (some ⟨d, 0, none⟩)] w fun e w' => e = .returned (.int .i64 ((D.room - sm Fl.n D.F : Nat) : Int)) ∧ Below w.heap.size w w' := by
  obtain ⟨m, cv, S, A, hD, hc, hF, hP⟩ := h
  have := room_any d m cv D.room D.off S A w hD
  have hs : sm (fun f : Fi => f.b.length) S = sm Fl.n D.F := by rw [← hF, sm_mp]; rfl
  rw [hs] at this
  exact this

/-- Read. -/
def readD (D : Dk) (n : Nm) : List Int × Nat :=
  if D.off = true then ([], 71) else
  match lk D.F n with
  | none => ([], 70)
  | some f => (f.b, 0)

set_option maxRecDepth 100000 in
set_option maxHeartbeats 4000000 in
theorem read_any (d : Nat) (n : Nm) (D : Dk) (P : Nat → Prop) (w : World) (h : DK w d D P) (hn : n.length ≤ maxLen) : Calls Try.prog 13 #[.pointer (some ⟨d, 0, none⟩), encStr n] w fun e w' => ∃ (a : Option Addr) (c : Nat) (x : Nat), e = .returned (.tuple #[.slice a (readD D n).1.length c, .int .i64 (x : Int)]) ∧ x = (readD D n).2 ∧ w'.ownsRow w.heap.size 5 1 (.slice a (readD D n).1.length c) (readD D n).1.length ((readD D n).1.map (Value.int .u8)) ∧ Below w.heap.size w w' := by
  obtain ⟨m, cv, S, A, hD, hc, hF, hP⟩ := h
  have b2 : w.cell? ⟨d, 2, none⟩ = some (.bool D.off) := cell_blk hD.blk rfl
  have b1 : w.cell? ⟨d, 1, none⟩ = some (.map (some m)) := cell_blk hD.blk rfl
  obtain ⟨room, off, due, F⟩ := D
  simp only at b2 hD hF
  cases off with
  | true =>
    have hx : readD ⟨room, true, due, F⟩ n = ([], 71) := rfl
    rw [hx]
    clear hD hc hF hP
    go_enter Try.func13, Try.ntmps13
    go_wp2
    go_ret2
    exact ⟨none, 0, 71, rfl, rfl, World.ownsRow_nil _ _ _ _, Below.refl _ _⟩
  | false =>
  cases hl : lk S n with
  | none =>
    have hlF := lk_F (D := ⟨room, false, due, F⟩) hF n hl
    have hx : readD ⟨room, false, due, F⟩ n = ([], 70) := by unfold readD; rw [hlF]; rfl
    rw [hx]
    have hlk := look_run hD.map hn hl
    simp only [Option.map_none, pvo] at hlk
    clear hD hc hF hP hlF hl hx
    go_enter Try.func13, Try.ntmps13
    go_wp2
    go_ret2
    exact ⟨none, 0, 70, rfl, rfl, World.ownsRow_nil _ _ _ _, Below.refl _ _⟩
  | some f =>
    have hlF := lk_F (D := ⟨room, false, due, F⟩) hF n hl
    have hx : readD ⟨room, false, due, F⟩ n = (f.b, 0) := by unfold readD; rw [hlF]; rfl
    rw [hx]
    have hlk := look_run hD.map hn hl
    simp only [Option.map_some, pvo] at hlk
    obtain ⟨a, cc, hav, hsrc, h0, hcc⟩ := own_src (hD.files.row n f hl)
    have c0 : w.cell? ⟨f.g, 0, none⟩ = some (.slice a f.b.length cc) := by rw [cell_blk (hD.files.file n f hl) rfl, hav]; rfl
    have hfl : f.b.length ≤ 16777216 := Nat.le_trans (sm_at (fun f : Fi => f.b.length) hl) (Nat.le_trans hD.fits hD.small)
    have hz0 : a = none → f.b.length = 0 ∧ cc = 0 := fun e => by
      refine ⟨?_, h0 e⟩
      rcases Nat.eq_zero_or_pos f.b.length with h | h
      · exact h
      · obtain ⟨ad, e', _⟩ := hsrc.2 h
        rw [e] at e'
        cases e'
    have hcl := hid (clone_any (w := w) hsrc (c := cc) hfl hz0)
    clear hD hc hF hP hlF hl hx hav hsrc h0 hcc hz0
    go_enter Try.func13, Try.ntmps13
    go_wp2_with (go_at_call 33; refine hcl.out.mono ?_; rintro e w1 ⟨a1, c1, rfl, q1, q2⟩)
    go_ret2
    exact ⟨a1, c1, 0, rfl, rfl, q1, q2⟩
end

section
set_option linter.unusedVariables false
set_option linter.unusedSimpArgs false
open Go.RowKit Go.Sort Go.Maps

set_option maxRecDepth 100000 in
set_option maxHeartbeats 4000000 in
theorem new_any (r : Int) (hr : r ≤ 16777216) (w : World) : Calls Try.prog 9 #[.int .i64 r] w fun e w' => ∃ d, e = .returned (.pointer (some ⟨d, 0, none⟩)) ∧ Below w.heap.size w w' ∧ DK w' d ⟨r.toNat, false, none, []⟩ (fun j => j < w.heap.size) := by
  have hM := MP.made w
  have hend : ∀ rr : Int, rr = ((r.toNat : Nat) : Int) → Below w.heap.size w ((w.alloc (.map #[] 0)).alloc (.cells #[.int .i64 rr, .map (some w.heap.size), .bool false, .pointer none] 54)) ∧ DK ((w.alloc (.map #[] 0)).alloc (.cells #[.int .i64 rr, .map (some w.heap.size), .bool false, .pointer none] 54)) (w.heap.size + 1) ⟨r.toNat, false, none, []⟩ (fun j => j < w.heap.size) := fun rr hrr => by
    have h2 := heap_new2 w (.map #[] 0) (.cells #[.int .i64 rr, .map (some w.heap.size), .bool false, .pointer none] 54)
    refine ⟨((Below.refl _ w).alloc (Nat.le_refl _) _).alloc (by simp) _, w.heap.size, .pointer none, [], (fun j => j = w.heap.size ∨ j = w.heap.size + 1), ⟨by rw [h2.2, hrr], hM.same (h2.1.trans (heap_new w _).symm), ⟨fun n f e => by simp [lk] at e, fun n f e => by simp [lk] at e, fun n f e => by simp [lk] at e, fun n f e => by simp [lk] at e, fun n n' f f' e => by simp [lk] at e, fun n n' f f' k e => by simp [lk] at e⟩, trivial, by simp, by simp [sm], by simp only; omega, fun n f e => by simp [lk] at e, ⟨Or.inr rfl, Or.inl rfl⟩, fun j hj => by
      rcases hj with hj | hj
      · simp; omega
      · simp; omega⟩, Or.inl ⟨rfl, rfl⟩, rfl, fun j hj => ⟨by simp; omega, fun e => by
      rcases e with e | e
      · omega
      · omega⟩⟩
  have HE := hid hend
  have hmk := @run_makeMap Try.prog
  clear hend hM
  by_cases h0 : 0 ≤ r
  · have R := hid (HE.out r (by omega))
    have e1 : decide (r < 0) = false := decide_eq_false (by omega)
    have e2 : decide ((0 : Int) < r) = decide (0 < r) := rfl
    have e3 : (if r < 0 then (0 : Int) else r) = r := if_neg (by omega)
    have e4 : (if (0 : Int) < r then r else 0) = r := by split <;> omega
    have e5 : max r 0 = r := by omega
    clear HE
    go_enter Try.func9, Try.ntmps9
    go_wp2
    go_ret
    exact ⟨_, rfl, R.out⟩
  · have R := hid (HE.out 0 (by omega))
    have e1 : decide (r < 0) = true := decide_eq_true (by omega)
    have e3 : (if r < 0 then (0 : Int) else r) = 0 := if_pos (by omega)
    have e4 : (if (0 : Int) < r then r else 0) = 0 := by split <;> omega
    have e5 : max r 0 = 0 := by omega
    clear HE
    go_enter Try.func9, Try.ntmps9
    go_wp2
    go_ret
    exact ⟨_, rfl, R.out⟩

set_option maxRecDepth 100000 in
set_option maxHeartbeats 4000000 in
theorem operate_nil (f : Value) (w : World) : Calls Try.prog 24 #[.pointer none, f] w fun e w' => e = .returned (.int .i64 1) ∧ w' = w := by
  go_enter Try.func24, Try.ntmps24
  go_wp2
  go_ret
  exact ⟨rfl, rfl⟩

set_option maxRecDepth 100000 in
set_option maxHeartbeats 4000000 in
theorem append_nil (n : Nm) (ao : Option Addr) (l cc : Nat) (w : World) : Calls Try.prog 10 #[.pointer none, encStr n, .slice ao l cc] w fun e w' => e = .returned (.int .i64 1) ∧ Below w.heap.size w w' := by
  have hb : Below w.heap.size w (((w.alloc (.cells #[.pointer none] 24)).alloc (.cells #[encStr n] 9)).alloc (.cells #[.slice ao l cc] 22)) := (((Below.refl _ w).alloc (Nat.le_refl _) _).alloc (by simp <;> omega) _).alloc (by simp <;> omega) _
  have HB := hid hb
  clear hb
  go_enter Try.func10, Try.ntmps10
  go_wp2_with (go_at_call 24; refine (operate_nil _ _).mono ?_; rintro e w2 ⟨rfl, rfl⟩)
  go_ret
  exact ⟨rfl, HB.out⟩
end

section

/-- One bit of the sum: the register r, the bit b. -/
def cbit (r b : Nat) : Nat := if r % 2 ≠ b % 2 then (r / 2) ^^^ 2197175160 else r / 2
/-- So many bits of c, the lowest first. -/
def cbits : Nat → Nat → Nat → Nat
  | 0, r, _ => r
  | k + 1, r, c => cbits k (cbit r c) (c / 2)
/-- One byte. -/
def cbyte (r c : Nat) : Nat := cbits 8 r c
/-- The register behind some bytes. -/
def creg (r : Nat) (L : List Nat) : Nat := L.foldl cbyte r
/-- The sum of some bytes. -/
def csum (L : List Nat) : Nat := 4294967295 - creg 4294967295 L

theorem xor_lt32 {a b : Nat} (ha : a < 4294967296) (hb : b < 4294967296) : a ^^^ b < 4294967296 := Nat.xor_lt_two_pow (n := 32) ha hb
theorem csum_lt (L : List Nat) : csum L < 4294967296 := by unfold csum; omega

theorem creg_cons (r c : Nat) (L : List Nat) : creg r (c :: L) = creg (cbyte r c) L := by unfold creg; rw [List.foldl_cons]

/-- The other way: the byte is added to the register first. -/
def cshift (r : Nat) : Nat := if r % 2 = 1 then (r / 2) ^^^ 2197175160 else r / 2
def cshifts : Nat → Nat → Nat
  | 0, r => r
  | k + 1, r => cshifts k (cshift r)

theorem xor_half (a b : Nat) : (a ^^^ b) / 2 = a / 2 ^^^ b / 2 := by
  have := Nat.shiftRight_xor_distrib (a := a) (b := b) (i := 1)
  simpa [Nat.shiftRight_succ] using this
theorem xor_odd (a b : Nat) : (a ^^^ b) % 2 = 1 ↔ a % 2 ≠ b % 2 := by
  have := Nat.xor_mod_two_eq_one (a := a) (b := b)
  omega
theorem cshift_xor (r c : Nat) : cshift (r ^^^ c) = cbit r c ^^^ c / 2 := by
  unfold cshift cbit
  rw [xor_half]
  by_cases h : r % 2 ≠ c % 2
  · rw [if_pos ((xor_odd r c).2 h), if_pos h, Nat.xor_assoc, Nat.xor_comm (c / 2), ← Nat.xor_assoc]
  · rw [if_neg (fun h' => h ((xor_odd r c).1 h')), if_neg h]
theorem cshifts_xor (k r c : Nat) (hc : c < 2 ^ k) : cshifts k (r ^^^ c) = cbits k r c := by
  induction k generalizing r c with
  | zero => obtain rfl : c = 0 := by simpa using hc
            simp [cshifts, cbits]
  | succ k ih =>
    show cshifts k (cshift (r ^^^ c)) = cbits k (cbit r c) (c / 2)
    rw [cshift_xor, ih _ _ (by rw [Nat.pow_succ] at hc; omega)]
theorem cshifts_byte (r c : Nat) (hc : c < 256) : cshifts 8 (r ^^^ c) = cbyte r c := cshifts_xor 8 r c hc

/-- The exclusive or of two registers, as the program's numbers have it. -/
theorem bits_xor32 (a b : Nat) (ha : a < 4294967296) (hb : b < 4294967296) : bits .xor .u32 (a : Int) (b : Int) = ((a ^^^ b : Nat) : Int) := by
  show IntKind.u32.wrap ((BitVec.ofInt 32 (a : Int) ^^^ BitVec.ofInt 32 (b : Int)).toNat : Int) = _
  rw [BitVec.ofInt_natCast, BitVec.ofInt_natCast, BitVec.toNat_xor, BitVec.toNat_ofNat, BitVec.toNat_ofNat, Nat.mod_eq_of_lt (by omega : a < 2 ^ 32), Nat.mod_eq_of_lt (by omega : b < 2 ^ 32)]
  have h := xor_lt32 ha hb
  generalize a ^^^ b = t at h ⊢
  simp [IntKind.wrap, IntKind.bits, IntKind.signed]
  omega
end

section

/-- A number as four bytes, the lowest first. -/
def le4 (n : Int) : List Int := [n % 256, n / 256 % 256, n / 65536 % 256, n / 16777216 % 256]
/-- The number that the first four bytes say. -/
def num4 (L : List Int) : Int := L[0]?.getD 0 + 256 * L[1]?.getD 0 + 65536 * L[2]?.getD 0 + 16777216 * L[3]?.getD 0
/-- The sum of some bytes. -/
def sumI (L : List Int) : Int := csum (L.map Int.toNat)
/-- The frame of a body. -/
def fr (B : List Int) : List Int := (le4 B.length ++ B) ++ le4 (sumI (le4 B.length ++ B))
/-- The first frame: the error, the body, where it ends. -/
def nx (L : List Int) : Int × List Int × Nat :=
  if L.length < 4 then (10, [], 0)
  else if 4194304 < num4 L then (11, [], 0)
  else if (L.length : Int) < num4 L + 8 then (10, [], 0)
  else if num4 (L.drop ((num4 L).toNat + 4)) ≠ sumI (L.take ((num4 L).toNat + 4)) then (12, [], 0)
  else (0, (L.drop 4).take (num4 L).toNat, (num4 L).toNat + 8)

theorem le4_length (n : Int) : (le4 n).length = 4 := rfl
theorem le4_bts (n : Int) : Bts (le4 n) := by
  intro x hx
  simp only [le4, List.mem_cons, List.not_mem_nil, or_false] at hx
  rcases hx with rfl | rfl | rfl | rfl <;> omega
theorem sumI_range (L : List Int) : 0 ≤ sumI L ∧ sumI L < 4294967296 := by
  have := csum_lt (L.map Int.toNat)
  unfold sumI; omega
theorem num4_le4 (n : Int) (M : List Int) (h0 : 0 ≤ n) (h1 : n < 4294967296) : num4 (le4 n ++ M) = n := by
  simp [num4, le4]; omega
theorem num4_bounds {L : List Int} (h : Bts L) : 0 ≤ num4 L ∧ num4 L < 4294967296 := by
  have a0 := h.at 0
  have a1 := h.at 1
  have a2 := h.at 2
  have a3 := h.at 3
  unfold num4; omega
theorem fr_length (B : List Int) : (fr B).length = B.length + 8 := by simp [fr, le4_length]; omega
theorem fr_bts {B : List Int} (h : Bts B) : Bts (fr B) := ((le4_bts _).app h).app (le4_bts _)
theorem num4_fr (B M : List Int) (h : B.length ≤ 4194304) : num4 (fr B ++ M) = B.length := by
  unfold fr
  rw [List.append_assoc, List.append_assoc]
  exact num4_le4 _ _ (by omega) (by omega)

theorem nx_ok {L : List Int} (hb : Bts L) (h : (nx L).1 = 0) : (nx L).2.2 = (nx L).2.1.length + 8 ∧ (nx L).2.2 ≤ L.length := by
  have hq := num4_bounds hb
  unfold nx at *
  split at h
  · simp at h
  · rename_i h1
    rw [if_neg h1] at *
    split at h
    · simp at h
    · rename_i h2
      rw [if_neg h2] at *
      split at h
      · simp at h
      · rename_i h3
        rw [if_neg h3] at *
        split at h
        · simp at h
        · rename_i h4
          rw [if_neg h4] at *
          simp only [List.length_take, List.length_drop]
          omega
theorem nx_bts {L : List Int} (h : Bts L) : Bts (nx L).2.1 := by
  unfold nx
  (repeat' split) <;> first | exact Bts.nil | exact (h.drop 4).take _

/-- A frame is read as its body, whatever lies behind it. -/
theorem nx_fr (B M : List Int) (h : B.length ≤ 4194304) : nx (fr B ++ M) = (0, B, B.length + 8) := by
  have hl : (fr B ++ M).length = B.length + 8 + M.length := by rw [List.length_append, fr_length]
  have hn := num4_fr B M h
  have hs := sumI_range (le4 B.length ++ B)
  have hpre : (le4 (B.length : Int) ++ B).length = B.length + 4 := by rw [List.length_append, le4_length]; omega
  have ht : (fr B ++ M).take (B.length + 4) = le4 B.length ++ B := by
    unfold fr; rw [List.append_assoc, List.take_left' hpre]
  have hd : (fr B ++ M).drop (B.length + 4) = le4 (sumI (le4 B.length ++ B)) ++ M := by
    unfold fr; rw [List.append_assoc, List.drop_left' hpre]
  have hb : ((fr B ++ M).drop 4).take B.length = B := by
    unfold fr
    rw [List.append_assoc, List.append_assoc, List.drop_left' (le4_length _), List.take_left' rfl]
  unfold nx
  rw [hn, Int.toNat_natCast, if_neg (by omega), if_neg (by omega), if_neg (by omega), ht, hd, num4_le4 _ _ hs.1 hs.2, if_neg (by simp), hb]

/-- The bodies of the frames that lie one behind the other, and where that ends; at most so many. -/
def sps : Nat → List Int → List (List Int) × Nat
  | 0, _ => ([], 0)
  | f + 1, L => if (nx L).1 = 0 then ((nx L).2.1 :: (sps f (L.drop (nx L).2.2)).1, (nx L).2.2 + (sps f (L.drop (nx L).2.2)).2) else ([], 0)
def spl (L : List Int) : List (List Int) × Nat := sps (L.length + 1) L

theorem sps_same (f g : Nat) (L : List Int) (hb : Bts L) (hf : L.length < f) (hg : L.length < g) : sps f L = sps g L := by
  induction f generalizing g L with
  | zero => omega
  | succ f ih =>
    cases g with
    | zero => omega
    | succ g =>
      unfold sps
      by_cases h : (nx L).1 = 0
      · have hk := nx_ok hb h
        have hl : (L.drop (nx L).2.2).length < L.length := by rw [List.length_drop]; omega
        rw [if_pos h, if_pos h, ih g _ (hb.drop _) (by omega) (by omega)]
      · rw [if_neg h, if_neg h]
theorem spl_ok {L : List Int} (hb : Bts L) (h : (nx L).1 = 0) : spl L = ((nx L).2.1 :: (spl (L.drop (nx L).2.2)).1, (nx L).2.2 + (spl (L.drop (nx L).2.2)).2) := by
  have hk := nx_ok hb h
  have hl : (L.drop (nx L).2.2).length < L.length := by rw [List.length_drop]; omega
  have e := sps_same L.length ((L.drop (nx L).2.2).length + 1) (L.drop (nx L).2.2) (hb.drop _) (by omega) (by omega)
  show (if (nx L).1 = 0 then _ else _) = _
  rw [if_pos h, e]
  rfl
theorem spl_bad {L : List Int} (h : (nx L).1 ≠ 0) : spl L = ([], 0) := by
  show (if (nx L).1 = 0 then _ else _) = _
  rw [if_neg h]
theorem spl_le (n : Nat) (L : List Int) (hn : L.length ≤ n) (hb : Bts L) : (spl L).2 ≤ L.length := by
  induction n generalizing L with
  | zero =>
    have : L = [] := List.eq_nil_of_length_eq_zero (by omega)
    subst this
    exact Nat.le_of_eq (by decide)
  | succ n ih =>
    by_cases h : (nx L).1 = 0
    · have hk := nx_ok hb h
      rw [spl_ok hb h]
      have hl : (L.drop (nx L).2.2).length = L.length - (nx L).2.2 := List.length_drop
      have := ih (L.drop (nx L).2.2) (by omega) (hb.drop _)
      show (nx L).2.2 + _ ≤ _
      omega
    · rw [spl_bad h]; exact Nat.zero_le _

/-- Frames one behind the other. -/
def frs : List (List Int) → List Int
  | [] => []
  | B :: R => fr B ++ frs R
theorem frs_append (A C : List (List Int)) : frs (A ++ C) = frs A ++ frs C := by
  induction A with
  | nil => rfl
  | cons B A ih => show fr B ++ frs (A ++ C) = _; rw [ih, ← List.append_assoc]; rfl
theorem frs_bts {R : List (List Int)} (h : ∀ B ∈ R, Bts B) : Bts (frs R) := by
  induction R with
  | nil => exact Bts.nil
  | cons B R ih => exact (fr_bts (h B (by simp))).app (ih (fun C hC => h C (by simp [hC])))

theorem spl_frs (R : List (List Int)) (M : List Int) (hR : ∀ B ∈ R, Bts B ∧ B.length ≤ 4194304) (hM : Bts M) : spl (frs R ++ M) = (R ++ (spl M).1, (frs R).length + (spl M).2) := by
  induction R with
  | nil => simp [frs]
  | cons B R ih =>
    have hB := hR B (by simp)
    have hR' : ∀ C ∈ R, Bts C ∧ C.length ≤ 4194304 := fun C hC => hR C (by simp [hC])
    have ih' := ih hR'
    have hb : Bts (frs R ++ M) := (frs_bts (fun C hC => (hR' C hC).1)).app hM
    have e := nx_fr B (frs R ++ M) hB.2
    have hall : Bts (fr B ++ (frs R ++ M)) := (fr_bts hB.1).app hb
    show spl ((fr B ++ frs R) ++ M) = _
    rw [List.append_assoc, spl_ok hall (by rw [e]), e]
    simp only []
    rw [List.drop_left' (fr_length B), ih']
    simp only [frs, List.length_append, fr_length, List.cons_append, Prod.mk.injEq, true_and]
    omega
end

section
open Go.RowKit

theorem bits_low32 (S : Nat) (hS : S < 4294967296) : bits .and .u32 (S : Int) 1 = ((S % 2 : Nat) : Int) := by
  show IntKind.u32.wrap ((BitVec.ofInt 32 (S : Int) &&& BitVec.ofInt 32 ((1 : Nat) : Int)).toNat : Int) = _
  rw [BitVec.ofInt_natCast, BitVec.ofInt_natCast, BitVec.toNat_and, BitVec.toNat_ofNat, BitVec.toNat_ofNat, Nat.mod_eq_of_lt (by omega : S < 2 ^ 32), Nat.mod_eq_of_lt (by omega : 1 < 2 ^ 32), Nat.and_one_is_mod]
  simp [IntKind.wrap, IntKind.bits, IntKind.signed]
  omega
theorem bits_step32 (S : Nat) (hS : S < 4294967296) : bits .xor .u32 ((S : Int) / 2) (2197175160 * bits .and .u32 (S : Int) 1 % 4294967296) = ((cshift S : Nat) : Int) := by
  rw [bits_low32 S hS]
  have e2 : ((S : Int) / 2) = ((S / 2 : Nat) : Int) := by omega
  rw [e2]
  unfold cshift
  by_cases h : S % 2 = 1
  · rw [if_pos h, h]
    exact bits_xor32 (S / 2) 2197175160 (by omega) (by omega)
  · have h0 : S % 2 = 0 := by omega
    rw [if_neg h, h0]
    have := bits_xor32 (S / 2) 0 (by omega) (by omega)
    rw [Nat.xor_zero] at this
    exact this
theorem bits_flip32 (R : Nat) (hR : R < 4294967296) : bits .xor .u32 IntKind.u32.max (R : Int) = ((4294967295 - R : Nat) : Int) := by
  have e : IntKind.u32.max = ((4294967295 : Nat) : Int) := by rfl
  rw [e, bits_xor32 _ _ (by omega) hR]
  congr 1
  have h := BitVec.toNat_not (x := BitVec.ofNat 32 R)
  rw [BitVec.toNat_ofNat, Nat.mod_eq_of_lt (by omega : R < 2 ^ 32), BitVec.not_def, BitVec.toNat_xor, BitVec.toNat_allOnes, BitVec.toNat_ofNat, Nat.mod_eq_of_lt (by omega : R < 2 ^ 32)] at h
  have e2 : (2 : Nat) ^ 32 - 1 = 4294967295 := by decide
  rw [e2] at h
  exact h
theorem cshift_lt {S : Nat} (hS : S < 4294967296) : cshift S < 4294967296 := by
  unfold cshift
  split
  · exact xor_lt32 (by omega) (by omega)
  · omega

set_option maxHeartbeats 400000 in
theorem sum_any (a : Option Addr) (len cap : Nat) (L : List Int) (w : World) (hs : Src w a len L) (hb : Bts L) (hm : len ≤ 9223372036854775807) :
    Calls Try.prog 50 #[.slice a len cap] w fun e w' => e = .returned (.int .u32 (sumI L)) ∧ w = w' := by
  go_enter Try.func50, Try.ntmps50
  go_wp2
  go_loop [8, 3] (fun i r => ∃ (j R : Nat), j ≤ len ∧ i = .int .i64 j ∧ r = .int .u32 R ∧ R < 4294967296 ∧ Hid (creg R ((L.drop j).map Int.toNat) = creg 4294967295 (L.map Int.toNat))) (fun i _ => len - (intOf i).toNat)
  case atStart => exact ⟨0, 4294967295, by omega, rfl, rfl, by omega, rfl⟩
  case round =>
    obtain ⟨j, R, hj, rfl, rfl, hR, hreg⟩ := hrel
    by_cases hlt : j < len
    · obtain ⟨g, off, rfl, hc⟩ := hs.flat (by omega)
      have hcj := hc j hlt
      have hv := hb.at j
      obtain ⟨x, hx⟩ : ∃ x : Nat, L[j]?.getD 0 = (x : Int) := ⟨(L[j]?.getD 0).toNat, by omega⟩
      rw [hx] at hcj hv
      have hxx := bits_xor32 R x hR (by omega)
      go_wp2
      go_loop [16, 3] (fun i r => ∃ (k S : Nat), k ≤ 8 ∧ i = .int .i64 k ∧ r = .int .u32 S ∧ S < 4294967296 ∧ Hid (cshifts (8 - k) S = cbyte R x)) (fun i _ => 8 - (intOf i).toNat)
      case atStart => exact ⟨0, R ^^^ x, by omega, rfl, rfl, xor_lt32 hR (by omega), cshifts_byte R x (by omega)⟩
      case round =>
        obtain ⟨k, S, hk, rfl, rfl, hS, hsh⟩ := hrel
        by_cases hk8 : k < 8
        · go_wp2
          go_round
          case rel =>
            refine ⟨k + 1, cshift S, by omega, by go_num, by rw [bits_step32 S hS], cshift_lt hS, ?_⟩
            have e : 8 - k = (8 - (k + 1)) + 1 := by omega
            have h := hsh.out
            rw [e] at h
            exact h
          case measure => simp [intOf]; omega
        · obtain rfl : k = 8 := by omega
          go_wp2
          go_round
          case rel =>
            refine ⟨j + 1, S, by omega, by go_num, rfl, hS, ?_⟩
            have h1 : S = cbyte R x := hsh.out
            have h := hreg.out
            have hl : j < L.length := by rw [hs.1]; exact hlt
            rw [List.drop_eq_getElem_cons hl, List.map_cons, creg_cons] at h
            rw [List.getElem?_eq_getElem hl, Option.getD_some] at hx
            rw [hx, Int.toNat_natCast] at h
            rw [h1]
            exact h
          case measure => simp [intOf]; omega
    · obtain rfl : j = len := by omega
      go_wp2
      go_ret
      refine ⟨ret_int ?_, rfl⟩
      have h := hreg.out
      rw [List.drop_eq_nil_of_le (by rw [hs.1]; exact Nat.le_refl _)] at h
      have h' : R = creg 4294967295 (L.map Int.toNat) := h
      rw [bits_flip32 R hR]
      unfold sumI csum
      rw [h']
end
end Go.Proofs.Ytegikicpffoglaa
