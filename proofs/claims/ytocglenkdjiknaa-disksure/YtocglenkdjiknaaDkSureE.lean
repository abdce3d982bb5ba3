/- DiskSure: what each call makes of the disk. Pure. -/
import Derived.Test.YtocglenkdjiknaaDkApp
import Derived.Lib.SlBytesConst
namespace Go.Proofs.Ytocglenkdjiknaa
section
set_option linter.unusedVariables false
set_option linter.unusedSimpArgs false
open Go.RowKit Go.Sort Go.Maps Go.Shelf

theorem tear_dk {w : World} {d room o p k : Nat} {off : Bool} {F : List (Nm × Fl)} {P : Nat → Prop} (h : DK w d ⟨room, off, some (o, p, k), F⟩ P) :
    Calls Try.prog 46 #[.pointer (some ⟨d, 0, none⟩)] w fun e w' => e = .returned (.tuple #[]) ∧ DK w' d ⟨room, true, none, mp (Fl.torn k) F⟩ P ∧ KP w w' P := by
  obtain ⟨m, cv, S, A, hD, hc, hF, hP⟩ := h
  rcases hc with ⟨h0, _⟩ | ⟨o', p', k', c, h1, h2, h3, h4, h5, h6, h7, h8⟩
  · cases h0
  · obtain ⟨rfl, rfl, rfl⟩ : o = o' ∧ p = p' ∧ k = k' := by simpa using h1
    subst h2
    refine (tear_any d m c room o p k off S A w hD h3 h4 h8).mono ?_
    rintro e w' ⟨rfl, S', A', q1, q2, q3⟩
    refine ⟨rfl, DK.of (due := none) (A := A) (P := P) (Or.inl ⟨rfl, rfl⟩) hP q3 q1 ?_⟩
    simp only at hF
    rw [q2, ← hF, mp_mp]

/-- What a closure does. -/
def CloSays (k : Nat) (caps : Array Value) (ef : Ef) (d room : Nat) (P : Nat → Prop) (w : World) : Prop :=
  ∀ (w1 : World) (due : Option (Nat × Nat × Nat)) (F : List (Nm × Fl)) (pt : Option Nat), KP w w1 P → DK w1 d ⟨room, false, due, F⟩ P → (∀ p, pt = some p → p ≤ 9223372036854775807) →
    Calls Try.prog k (#[pv pt] ++ caps) w1 fun e w' => ∃ x : Nat, e = .returned (.int .i64 (x : Int)) ∧ x = (ef pt F).2 ∧ DK w' d ⟨room, false, due, (ef pt F).1⟩ P ∧ KP w1 w' P

theorem dk_due_blk {w : World} {d room o p k : Nat} {off : Bool} {F : List (Nm × Fl)} {P : Nat → Prop} (h : DK w d ⟨room, off, some (o, p, k), F⟩ P) : ∃ m c, w.heap[d]? = some (.cells #[.int .i64 (room : Int), .map (some m), .bool off, .pointer (some ⟨c, 0, none⟩)] 55 (0, 0)) ∧ w.heap[c]? = some (.cells #[.int .i64 (o : Int), .int .i64 (p : Int), .int .i64 (k : Int)] 71 (0, 0)) ∧ (o ≤ 9223372036854775807 ∧ p ≤ 9223372036854775807 ∧ k ≤ 9223372036854775807) ∧
    ∀ (o' : Nat), o' ≤ 9223372036854775807 → DK (w.setCell ⟨c, 0, none⟩ (.int .i64 (o' : Int))) d ⟨room, off, some (o', p, k), F⟩ P ∧ KP w (w.setCell ⟨c, 0, none⟩ (.int .i64 (o' : Int))) P := by
  obtain ⟨m, cv, S, A, hD, hc, hF, hP⟩ := h
  rcases hc with ⟨h0, _⟩ | ⟨o', p', k', c, h1, h2, h3, h4, h5, h6, h7, h8⟩
  · cases h0
  · obtain ⟨rfl, rfl, rfl⟩ : o = o' ∧ p = p' ∧ k = k' := by simpa using h1
    subst h2
    refine ⟨m, c, hD.blk, h3, ⟨h6, h7, h8⟩, fun o' ho' => ⟨⟨m, _, S, A, hD.same (fun j hj => Below.heap_setCell _ _ _ _ (fun e => h4 (by rw [show c = j from e.symm]; exact hj))) (by simp), Or.inr ⟨o', p, k, c, rfl, rfl, ?_, h4, h5, ho', h7, h8⟩, hF, fun j hj => ⟨by simp; exact (hP j hj).1, (hP j hj).2⟩⟩, ⟨by simp, fun j hj hPj => Below.heap_setCell _ _ _ _ (fun e => h5 (by rw [show c = j from e.symm]; exact hPj)), ⟨rfl, rfl, rfl⟩⟩⟩⟩
    rw [set_blk (i := 0) _ h3]
    simp

theorem dk_blk0 {w : World} {d room : Nat} {off : Bool} {F : List (Nm × Fl)} {P : Nat → Prop} (h : DK w d ⟨room, off, none, F⟩ P) : ∃ m, w.heap[d]? = some (.cells #[.int .i64 (room : Int), .map (some m), .bool off, .pointer none] 55 (0, 0)) := by
  obtain ⟨m, cv, S, A, hD, hc, hF, hP⟩ := h
  rcases hc with ⟨_, h0⟩ | ⟨o', p', k', c, h1, _⟩
  · subst h0
    exact ⟨m, hD.blk⟩
  · cases h1

set_option maxRecDepth 100000 in
set_option maxHeartbeats 4000000 in
theorem operate_any (k : Nat) (caps : Array Value) (ef : Ef) (d : Nat) (D : Dk) (P : Nat → Prop) (w : World) (h : DK w d D P) (hdo : CloSays k caps ef d D.room P w) (hen : Enters Try.prog k) :
    Calls Try.prog 29 #[.pointer (some ⟨d, 0, none⟩), .func (.func k) #[] caps] w fun e w' => ∃ x : Nat, e = .returned (.int .i64 (x : Int)) ∧ x = (operD ef D).2 ∧ DK w' d (operD ef D).1 P ∧ KP w w' P := by
  obtain ⟨room, off, due, F⟩ := D
  simp only at hdo
  have hk2 : ∀ (args : Array Value) (w : World), (callFunc k args).run Try.prog w = .ok (.enter k args) w := hen
  clear hen
  cases off with
  | true =>
    have hx : operD ef ⟨room, true, due, F⟩ = (⟨room, true, due, F⟩, 71) := by unfold operD; rw [if_pos rfl]
    rw [hx]
    obtain ⟨m, cv, S, A, hD, hr⟩ := h
    have b2 : w.cell? ⟨d, 2, none⟩ = some (.bool true) := cell_blk hD.blk rfl
    have R : Hid (DK w d ⟨room, true, due, F⟩ P) := hid ⟨m, cv, S, A, hD, hr⟩
    clear hD hr hdo
    go_enter Try.func29, Try.ntmps29
    go_wp2
    go_ret
    exact ⟨71, rfl, rfl, R.out, KP.refl _ _⟩
  | false =>
  cases due with
  | none =>
    have hx : operD ef ⟨room, false, none, F⟩ = (⟨room, false, none, (ef none F).1⟩, (ef none F).2) := rfl
    rw [hx]
    obtain ⟨m, hb⟩ := dk_blk0 h
    have b2 : w.cell? ⟨d, 2, none⟩ = some (.bool false) := cell_blk hb rfl
    have b3 : w.cell? ⟨d, 3, none⟩ = some (.pointer none) := cell_blk hb rfl
    have hcall := hid (hdo w none F none (KP.refl _ _) h (fun p hp => by cases hp))
    clear hb h hdo
    go_enter Try.func29, Try.ntmps29
    go_wp2_with (refine Calls.mono hcall.out ?_; rintro e w1 ⟨x, rfl, q1, q2, q3⟩; have R := hid (And.intro q1 (And.intro q2 q3)); clear q1 q2 q3)
    go_ret
    exact ⟨x, rfl, R.out⟩
  | some t =>
    obtain ⟨o, p, kk⟩ := t
    cases o with
    | succ o =>
      have hx : operD ef ⟨room, false, some (o + 1, p, kk), F⟩ = (⟨room, false, some (o, p, kk), (ef none F).1⟩, (ef none F).2) := rfl
      rw [hx]
      obtain ⟨m, c, hb, hc, hle, hset⟩ := dk_due_blk h
      have b2 : w.cell? ⟨d, 2, none⟩ = some (.bool false) := cell_blk hb rfl
      have b3 : w.cell? ⟨d, 3, none⟩ = some (.pointer (some ⟨c, 0, none⟩)) := cell_blk hb rfl
      have b4 : w.cell? ⟨c, 0, none⟩ = some (.int .i64 ((o + 1 : Nat) : Int)) := cell_blk hc rfl
      have f4 := frz_blk (i := 0) hc
      obtain ⟨s1, s2⟩ := hset o (by omega)
      have hcall := hid (hdo _ _ F none s2 s1 (fun p hp => by cases hp))
      have S2 := hid s2
      have hwr : IntKind.i64.wrap (((o + 1 : Nat) : Int) - 1) = (o : Int) := by rw [IntKind.wrap_i64]; omega
      have hw64 : wrap64 (o : Int) = (o : Int) := by unfold wrap64; omega
      have hpos : decide ((0 : Int) < ((o + 1 : Nat) : Int)) = true := decide_eq_true (by omega)
      clear hb hc h hdo hset s1 s2 hle
      go_enter Try.func29, Try.ntmps29
      go_wp2_with (refine Calls.mono hcall.out ?_; rintro e w1 ⟨x, rfl, q1, q2, q3⟩; have R := hid (And.intro q1 (And.intro q2 (S2.out.trans q3))); clear q1 q2 q3)
      go_ret
      exact ⟨x, rfl, R.out⟩
    | zero =>
      have hx : operD ef ⟨room, false, some (0, p, kk), F⟩ = (⟨room, true, none, mp (Fl.torn kk) (ef (some p) F).1⟩, 71) := rfl
      rw [hx]
      obtain ⟨m, c, hb, hc, hle, hset⟩ := dk_due_blk h
      have b2 : w.cell? ⟨d, 2, none⟩ = some (.bool false) := cell_blk hb rfl
      have b3 : w.cell? ⟨d, 3, none⟩ = some (.pointer (some ⟨c, 0, none⟩)) := cell_blk hb rfl
      have b4 : w.cell? ⟨c, 0, none⟩ = some (.int .i64 ((0 : Nat) : Int)) := cell_blk hc rfl
      have b5 : w.cell? ⟨c, 1, none⟩ = some (.int .i64 (p : Int)) := cell_blk hc rfl
      have hcall := hid (hdo _ _ F (some p) (KP.refl _ _) h (fun p' hp => by cases hp; exact hle.2.1))
      clear hb hc h hdo hset hle
      go_enter Try.func29, Try.ntmps29
      go_wp2_with (first
        | (go_at_call 46; have T1 := R.out; refine Calls.mono (tear_dk T1.1) ?_; rintro e w2 ⟨rfl, q1, q2⟩; have R9 := hid (And.intro q1 (T1.2.trans q2)); clear q1 q2 T1)
        | (refine Calls.mono hcall.out ?_; rintro e w1 ⟨x, rfl, q1, q2, q3⟩; have R := hid (And.intro q2 q3); clear q1 q2 q3))
      go_ret
      exact ⟨71, rfl, rfl, R9.out⟩
end

section
set_option linter.unusedVariables false
set_option linter.unusedSimpArgs false
open Go.RowKit Go.Sort Go.Maps Go.Shelf

/-- What an operation tells. -/
def Told (ef : Ef) (d : Nat) (D : Dk) (P : Nat → Prop) (w : World) (e : Ending) (w' : World) : Prop :=
  ∃ x : Nat, e = .returned (.int .i64 (x : Int)) ∧ x = (operD ef D).2 ∧ DK w' d (operD ef D).1 P ∧ KP w w' P
theorem heap_new2 (w : World) (o p : Obj) : ((w.alloc o).alloc p).heap[w.heap.size]? = some o ∧ ((w.alloc o).alloc p).heap[w.heap.size + 1]? = some p := by
  have hz : (w.alloc o).heap.size = w.heap.size + 1 := by simp
  have h := heap_new (w.alloc o) p
  rw [hz] at h
  exact ⟨(Below.heap_alloc _ _ _ (by omega)).trans (heap_new w o), h⟩
theorem heap_new3 (w : World) (o p q : Obj) : (((w.alloc o).alloc p).alloc q).heap[w.heap.size]? = some o ∧ (((w.alloc o).alloc p).alloc q).heap[w.heap.size + 1]? = some p ∧ (((w.alloc o).alloc p).alloc q).heap[w.heap.size + 2]? = some q := by
  obtain ⟨h1, h2⟩ := heap_new2 w o p
  have hz : ((w.alloc o).alloc p).heap.size = w.heap.size + 2 := by simp
  have h := heap_new ((w.alloc o).alloc p) q
  rw [hz] at h
  exact ⟨(Below.heap_alloc _ _ _ (by omega)).trans h1, (Below.heap_alloc _ _ _ (by omega)).trans h2, h⟩

set_option maxRecDepth 100000 in
set_option maxHeartbeats 4000000 in
theorem sync_any (d : Nat) (n : Nm) (D : Dk) (P : Nat → Prop) (w : World) (h : DK w d D P) (hn : n.length ≤ 1000000) : Calls Try.prog 14 #[.pointer (some ⟨d, 0, none⟩), encStr n] w (Told (eSync n) d D P w) := by
  have hb : Below w.heap.size w ((w.alloc (.cells #[.pointer (some ⟨d, 0, none⟩)] 24)).alloc (.cells #[encStr n] 9)) := ((Below.refl _ w).alloc (Nat.le_refl _) _).alloc (by simp <;> omega) _
  have h1 := h.more hb
  have hx := heap_new2 w (.cells #[.pointer (some ⟨d, 0, none⟩)] 24) (.cells #[encStr n] 9)
  have hsz : ((w.alloc (.cells #[.pointer (some ⟨d, 0, none⟩)] 24)).alloc (.cells #[encStr n] 9)).heap.size = w.heap.size + 2 := by simp
  have hbx : ∀ (w1 : World), KP ((w.alloc (.cells #[.pointer (some ⟨d, 0, none⟩)] 24)).alloc (.cells #[encStr n] 9)) w1 (fun j => P j ∨ (w.heap.size ≤ j ∧ j < ((w.alloc (.cells #[.pointer (some ⟨d, 0, none⟩)] 24)).alloc (.cells #[encStr n] 9)).heap.size)) → w1.heap[w.heap.size]? = some (.cells #[.pointer (some ⟨d, 0, none⟩)] 24 (0, 0)) ∧ w1.heap[w.heap.size + 1]? = some (.cells #[encStr n] 9 (0, 0)) := fun w1 k1 =>
    ⟨(k1.keep _ (by omega) (Or.inr (by omega))).trans hx.1, (k1.keep _ (by omega) (Or.inr (by omega))).trans hx.2⟩
  have hdo : CloSays 33 #[.pointer (some ⟨w.heap.size, 0, none⟩), .pointer (some ⟨w.heap.size + 1, 0, none⟩)] (eSync n) d D.room (fun j => P j ∨ (w.heap.size ≤ j ∧ j < ((w.alloc (.cells #[.pointer (some ⟨d, 0, none⟩)] 24)).alloc (.cells #[encStr n] 9)).heap.size)) ((w.alloc (.cells #[.pointer (some ⟨d, 0, none⟩)] 24)).alloc (.cells #[encStr n] 9)) := fun w1 due F pt k1 hD hp => by
    have hb1 := hbx w1 k1
    rw [show #[pv pt] ++ #[.pointer (some ⟨w.heap.size, 0, none⟩), .pointer (some ⟨w.heap.size + 1, 0, none⟩)] = #[pv pt, .pointer (some ⟨w.heap.size, 0, none⟩), .pointer (some ⟨w.heap.size + 1, 0, none⟩)] from rfl]
    exact sync1_any d n pt _ _ w1 hD rfl _ _ hb1.1 hb1.2 hp hn
  have hop := hid (operate_any _ _ _ d D _ _ h1 hdo (enters_of Try.func33 (by kernel_rfl) rfl))
  have HB := hid hb
  clear h h1 hdo hb hbx hx hsz
  go_enter Try.func14, Try.ntmps14
  go_wp2_with (go_at_call 29; refine hop.out.mono ?_; rintro e w2 ⟨x, rfl, q1, q2, q3⟩; have R := hid (And.intro q1 (And.intro (q2.less (Q := P) (fun j hj => Or.inl hj)) ((KP.below HB.out).trans (q3.less (Q := P) (fun j hj => Or.inl hj))))); clear q1 q2 q3)
  go_ret
  exact ⟨x, rfl, R.out⟩

theorem src_kp {w w' : World} {P : Nat → Prop} {ao : Option Addr} {n : Nat} {L : List Int} (k : KP w w' P) (hP : ∀ j, P j → j < w.heap.size) (h : Src w ao n L) (hb : 0 < n → ∀ ad, ao = some ad → P ad.block) : Src w' ao n L := by
  refine ⟨h.1, fun hp => ?_⟩
  obtain ⟨ad, e, hc⟩ := h.2 hp
  exact ⟨ad, e, fun j x hj => (cell_same (k.keep ad.block (hP _ (hb hp ad e)) (hb hp ad e))).trans (hc j x hj)⟩
theorem DK.plt {w : World} {d : Nat} {D : Dk} {P : Nat → Prop} (h : DK w d D P) : ∀ j, P j → j < w.heap.size := by
  obtain ⟨m, cv, S, A, hD, hc, hF, hP⟩ := h
  exact fun j hj => (hP j hj).1

set_option maxRecDepth 100000 in
set_option maxHeartbeats 4000000 in
theorem append_any (d : Nat) (n : Nm) (L : List Int) (ao : Option Addr) (cc : Nat) (D : Dk) (P : Nat → Prop) (w : World) (h : DK w d D P) (hn : n.length ≤ 1000000) (hsr : Src w ao L.length L) (hsb : 0 < L.length → ∀ ad, ao = some ad → P ad.block) (hao : ao = none → cc = 0) (hlc : L.length ≤ cc ∧ cc ≤ maxLen) (hL : Bts L) : Calls Try.prog 13 #[.pointer (some ⟨d, 0, none⟩), encStr n, .slice ao L.length cc] w (Told (eApp D.room n L) d D P w) := by
  have hb : Below w.heap.size w (((w.alloc (.cells #[.pointer (some ⟨d, 0, none⟩)] 24)).alloc (.cells #[encStr n] 9)).alloc (.cells #[.slice ao L.length cc] 31)) := (((Below.refl _ w).alloc (Nat.le_refl _) _).alloc (by simp <;> omega) _).alloc (by simp <;> omega) _
  have h1 := h.more hb
  have hPl := h.plt
  have hx := heap_new3 w (.cells #[.pointer (some ⟨d, 0, none⟩)] 24) (.cells #[encStr n] 9) (.cells #[.slice ao L.length cc] 31)
  have hsz : (((w.alloc (.cells #[.pointer (some ⟨d, 0, none⟩)] 24)).alloc (.cells #[encStr n] 9)).alloc (.cells #[.slice ao L.length cc] 31)).heap.size = w.heap.size + 3 := by simp
  have hbx : ∀ (w1 : World), KP (((w.alloc (.cells #[.pointer (some ⟨d, 0, none⟩)] 24)).alloc (.cells #[encStr n] 9)).alloc (.cells #[.slice ao L.length cc] 31)) w1 (fun j => P j ∨ (w.heap.size ≤ j ∧ j < (((w.alloc (.cells #[.pointer (some ⟨d, 0, none⟩)] 24)).alloc (.cells #[encStr n] 9)).alloc (.cells #[.slice ao L.length cc] 31)).heap.size)) → w1.heap[w.heap.size]? = some (.cells #[.pointer (some ⟨d, 0, none⟩)] 24 (0, 0)) ∧ w1.heap[w.heap.size + 1]? = some (.cells #[encStr n] 9 (0, 0)) ∧ w1.heap[w.heap.size + 2]? = some (.cells #[.slice ao L.length cc] 31 (0, 0)) := fun w1 k1 =>
    ⟨(k1.keep _ (by omega) (Or.inr (by omega))).trans hx.1, (k1.keep _ (by omega) (Or.inr (by omega))).trans hx.2.1, (k1.keep _ (by omega) (Or.inr (by omega))).trans hx.2.2⟩
  have hdo : CloSays 30 #[.pointer (some ⟨w.heap.size + 1, 0, none⟩), .pointer (some ⟨w.heap.size, 0, none⟩), .pointer (some ⟨w.heap.size + 2, 0, none⟩)] (eApp D.room n L) d D.room (fun j => P j ∨ (w.heap.size ≤ j ∧ j < (((w.alloc (.cells #[.pointer (some ⟨d, 0, none⟩)] 24)).alloc (.cells #[encStr n] 9)).alloc (.cells #[.slice ao L.length cc] 31)).heap.size)) (((w.alloc (.cells #[.pointer (some ⟨d, 0, none⟩)] 24)).alloc (.cells #[encStr n] 9)).alloc (.cells #[.slice ao L.length cc] 31)) := fun w1 due F pt k1 hD hp => by
    have hb1 := hbx w1 k1
    rw [show #[pv pt] ++ #[.pointer (some ⟨w.heap.size + 1, 0, none⟩), .pointer (some ⟨w.heap.size, 0, none⟩), .pointer (some ⟨w.heap.size + 2, 0, none⟩)] = #[pv pt, .pointer (some ⟨w.heap.size + 1, 0, none⟩), .pointer (some ⟨w.heap.size, 0, none⟩), .pointer (some ⟨w.heap.size + 2, 0, none⟩)] from rfl]
    exact append1_any d n pt L ao cc _ _ w1 hD rfl _ _ _ hb1.1 hb1.2.1 hb1.2.2 hp hn ⟨Or.inr (by omega), Or.inr (by omega), Or.inr (by omega)⟩ (src_kp ((KP.below (P := P) hb).trans (k1.less (Q := P) (fun j hj => Or.inl hj))) hPl hsr hsb) (fun hp ad e => Or.inl (hsb hp ad e)) hao hlc hL
  have hop := hid (operate_any _ _ _ d D _ _ h1 hdo (enters_of Try.func30 (by kernel_rfl) rfl))
  have HB := hid hb
  clear h h1 hdo hb hbx hx hsz
  go_enter Try.func13, Try.ntmps13
  go_wp2_with (go_at_call 29; refine hop.out.mono ?_; rintro e w2 ⟨x, rfl, q1, q2, q3⟩; have R := hid (And.intro q1 (And.intro (q2.less (Q := P) (fun j hj => Or.inl hj)) ((KP.below HB.out).trans (q3.less (Q := P) (fun j hj => Or.inl hj))))); clear q1 q2 q3)
  go_ret
  exact ⟨x, rfl, R.out⟩
end

section
set_option linter.unusedVariables false
set_option linter.unusedSimpArgs false
open Go.RowKit Go.Sort Go.Maps Go.Shelf

set_option maxRecDepth 100000 in
set_option maxHeartbeats 4000000 in
theorem off_any (d : Nat) (D : Dk) (P : Nat → Prop) (w : World) (h : DK w d D P) : Calls Try.prog 16 #[.pointer (some ⟨d, 0, none⟩)] w fun e w' => e = .returned (.bool D.off) ∧ w' = w := by
  obtain ⟨m, cv, S, A, hD, _⟩ := h
  have b2 : w.cell? ⟨d, 2, none⟩ = some (.bool D.off) := cell_blk hD.blk rfl
  clear hD
  obtain ⟨room, off, due, F⟩ := D
  simp only at b2 ⊢
  cases off with
  | true =>
    go_enter Try.func16, Try.ntmps16
    go_wp2
    go_ret
    exact ⟨rfl, rfl⟩
  | false =>
    go_enter Try.func16, Try.ntmps16
    go_wp2
    go_ret
    exact ⟨rfl, rfl⟩

theorem DK.cell {w w' : World} {d : Nat} {D : Dk} {P : Nat → Prop} (h : DK w d D P) (off : Bool) (due : Option (Nat × Nat × Nat)) (cv' : Value) (hct : ∀ A : Nat → Prop, (∀ j, A j → j < w.heap.size) → CT w' cv' due A P) (hd : ∀ cs ty, w.heap[d]? = some (.cells cs ty (0, 0)) → w'.heap[d]? = some (.cells ((cs.setIfInBounds 2 (.bool off)).setIfInBounds 3 cv') ty (0, 0))) (hk : ∀ j, j < w.heap.size → j ≠ d → w'.heap[j]? = w.heap[j]?) (hz : w.heap.size ≤ w'.heap.size) (hs : Sm w w') : DK w' d ⟨D.room, off, due, D.F⟩ P ∧ KP w w' P := by
  obtain ⟨m, cv, S, A, hD, hc, hF, hP⟩ := h
  refine ⟨⟨m, cv', S, A, hD.cell (cv' := cv') (off' := off) ?_ hk hz, hct A hD.lt, hF, fun j hj => ⟨Nat.lt_of_lt_of_le (hP j hj).1 hz, (hP j hj).2⟩⟩, ⟨hz, fun j hj hPj => hk j hj (fun e => (hP j hPj).2 (by rw [e]; exact hD.own.1)), hs⟩⟩
  rw [hd _ _ hD.blk]
  simp

set_option maxRecDepth 100000 in
set_option maxHeartbeats 4000000 in
theorem on_any (d : Nat) (D : Dk) (P : Nat → Prop) (w : World) (h : DK w d D P) : Calls Try.prog 17 #[.pointer (some ⟨d, 0, none⟩)] w fun e w' => e = .returned (.tuple #[]) ∧ DK w' d ⟨D.room, false, none, D.F⟩ P ∧ KP w w' P := by
  have h0 := h
  obtain ⟨m, cv, S, A, hD, _⟩ := h
  have b2 : w.cell? ⟨d, 2, none⟩ = some (.bool D.off) := cell_blk hD.blk rfl
  have b3 : w.cell? ⟨d, 3, none⟩ = some cv := cell_blk hD.blk rfl
  have f2 := frz_blk (i := 2) hD.blk
  have f3 := frz_blk (i := 3) hD.blk
  have R := hid (h0.cell (w' := (w.setCell ⟨d, 2, Option.none⟩ (.bool false)).setCell ⟨d, 3, Option.none⟩ (.pointer Option.none)) false Option.none (.pointer Option.none) (fun _ _ => Or.inl ⟨rfl, rfl⟩) (fun cs ty hd => set_blk (i := 3) _ (set_blk (i := 2) _ hd)) (fun j hj hn => by rw [Below.heap_setCell _ _ _ _ hn, Below.heap_setCell _ _ _ _ hn]) (by simp) ⟨rfl, rfl, rfl⟩)
  clear hD h0
  go_enter Try.func17, Try.ntmps17
  go_wp2
  all_goals go_end0
  exact ⟨rfl, R.out⟩

/-- Cut. -/
def cutD (D : Dk) (o p k : Int) : Dk × Nat :=
  if o < 0 ∨ p < 0 ∨ k < 0 then (D, 1) else if D.off = true then (D, 71) else (⟨D.room, false, some (o.toNat, p.toNat, k.toNat), D.F⟩, 0)

set_option maxRecDepth 100000 in
set_option maxHeartbeats 4000000 in
theorem cut_any (d : Nat) (o p k : Int) (D : Dk) (P : Nat → Prop) (w : World) (h : DK w d D P) (ho : o ≤ 9223372036854775807) (hp : p ≤ 9223372036854775807) (hk : k ≤ 9223372036854775807) : Calls Try.prog 15 #[.pointer (some ⟨d, 0, none⟩), .int .i64 o, .int .i64 p, .int .i64 k] w fun e w' => ∃ x : Nat, e = .returned (.int .i64 (x : Int)) ∧ x = (cutD D o p k).2 ∧ DK w' d (cutD D o p k).1 P ∧ KP w w' P := by
  have h0 := h
  obtain ⟨m, cv, S, A, hD, _⟩ := h
  have b2 : w.cell? ⟨d, 2, none⟩ = some (.bool D.off) := cell_blk hD.blk rfl
  by_cases hneg : o < 0 ∨ p < 0 ∨ k < 0
  · have hx : cutD D o p k = (D, 1) := by unfold cutD; rw [if_pos hneg]
    rw [hx]
    have R := hid (And.intro h0 (KP.refl w P))
    clear hD h0 hx
    rcases (show o < 0 ∨ (¬ o < 0 ∧ p < 0) ∨ (¬ o < 0 ∧ ¬ p < 0 ∧ k < 0) by omega) with h1 | h1 | h1
    · clear hneg
      have e1 : decide (o < 0) = true := decide_eq_true h1
      clear h1
      go_enter Try.func15, Try.ntmps15
      go_wp2
      go_ret
      exact ⟨1, rfl, rfl, R.out⟩
    · clear hneg
      have e1 : decide (o < 0) = false := decide_eq_false h1.1
      have e2 : decide (p < 0) = true := decide_eq_true h1.2
      clear h1
      go_enter Try.func15, Try.ntmps15
      go_wp2
      go_ret
      exact ⟨1, rfl, rfl, R.out⟩
    · clear hneg
      have e1 : decide (o < 0) = false := decide_eq_false h1.1
      have e2 : decide (p < 0) = false := decide_eq_false h1.2.1
      have e3 : decide (k < 0) = true := decide_eq_true h1.2.2
      clear h1
      go_enter Try.func15, Try.ntmps15
      go_wp2
      go_ret
      exact ⟨1, rfl, rfl, R.out⟩
  · have e1 : decide (o < 0) = false := decide_eq_false (by omega)
    have e2 : decide (p < 0) = false := decide_eq_false (by omega)
    have e3 : decide (k < 0) = false := decide_eq_false (by omega)
    obtain ⟨room, off, due, F⟩ := D
    simp only at b2
    cases off with
    | true =>
      have hx : cutD ⟨room, true, due, F⟩ o p k = (⟨room, true, due, F⟩, 71) := by unfold cutD; rw [if_neg hneg]; rfl
      rw [hx]
      have R := hid (And.intro h0 (KP.refl w P))
      clear hD h0 hx hneg
      go_enter Try.func15, Try.ntmps15
      go_wp2
      go_ret
      exact ⟨71, rfl, rfl, R.out⟩
    | false =>
      have hx : cutD ⟨room, false, due, F⟩ o p k = (⟨room, false, some (o.toNat, p.toNat, k.toNat), F⟩, 0) := by unfold cutD; rw [if_neg hneg]; rfl
      rw [hx]
      have hdl := h0.lt.1
      have hPlt := h0.plt
      have hdb := hD.blk
      have b3 : w.cell? ⟨d, 3, none⟩ = some cv := cell_blk hdb rfl
      have f3 := frz_blk (i := 3) hdb
      have hzz : (w.setCell ⟨d, 3, none⟩ (.pointer (some ⟨w.heap.size, 0, none⟩))).heap.size = w.heap.size := by simp
      have hset := heap_new (w.setCell ⟨d, 3, none⟩ (.pointer (some ⟨w.heap.size, 0, none⟩))) (.cells #[.int .i64 o, .int .i64 p, .int .i64 k] 71)
      rw [hzz] at hset
      have R := hid (h0.cell (w' := (w.setCell ⟨d, 3, none⟩ (.pointer (some ⟨w.heap.size, 0, none⟩))).alloc (.cells #[.int .i64 o, .int .i64 p, .int .i64 k] 71)) false (some (o.toNat, p.toNat, k.toNat)) (.pointer (some ⟨w.heap.size, 0, none⟩)) (fun A hA => Or.inr ⟨_, _, _, w.heap.size, rfl, rfl, by
          rw [show ((o.toNat : Nat) : Int) = o by omega, show ((p.toNat : Nat) : Int) = p by omega, show ((k.toNat : Nat) : Int) = k by omega]
          exact hset, fun e => by have := hA _ e; omega, fun e => by have := hPlt _ e; omega, by omega, by omega, by omega⟩)
        (fun cs ty hd => by
          rw [hdb] at hd
          obtain ⟨rfl, rfl⟩ : #[.int .i64 (room : Int), .map (some m), .bool false, cv] = cs ∧ 55 = ty := by simpa using hd
          rw [Below.heap_alloc _ _ _ (by omega), set_blk (i := 3) _ hdb]
          simp) (fun j hj hn => (Below.heap_alloc _ _ _ (by omega)).trans (Below.heap_setCell _ _ _ _ hn)) (by simp) ⟨rfl, rfl, rfl⟩)
      clear hD h0 hx hneg hset hdb hPlt
      go_enter Try.func15, Try.ntmps15
      go_wp2
      go_ret
      exact ⟨0, rfl, rfl, R.out⟩

theorem room_dk (d : Nat) (D : Dk) (P : Nat → Prop) (w : World) (h : DK w d D P) : Calls Try.prog 23 #[.pointer (some ⟨d, 0, none⟩)] w fun e w' => e = .returned (.int .i64 ((D.room - sm Fl.n D.F : Nat) : Int)) ∧ Below w.heap.size w w' := by
  obtain ⟨m, cv, S, A, hD, hc, hF, hP⟩ := h
  have := room_any d m cv D.room D.off S A w hD
  have hs : sm (fun f : Fi => f.b.length) S = sm Fl.n D.F := by rw [← hF, sm_mp]; rfl
  rw [hs] at this
  exact this

/-- Read. -/
def readD (D : Dk) (n : Nm) : List Int × Nat :=
  if D.off = true then ([], 71) else
  match lk D.F n with
  | none => ([], 70)
  | some f => (f.b, 0)

set_option maxRecDepth 100000 in
set_option maxHeartbeats 4000000 in
theorem read_any (d : Nat) (n : Nm) (D : Dk) (P : Nat → Prop) (w : World) (h : DK w d D P) (hn : n.length ≤ 1000000) : Calls Try.prog 18 #[.pointer (some ⟨d, 0, none⟩), encStr n] w fun e w' => ∃ (a : Option Addr) (c : Nat) (x : Nat), e = .returned (.tuple #[.slice a (readD D n).1.length c, .int .i64 (x : Int)]) ∧ x = (readD D n).2 ∧ w'.ownsRow w.heap.size 5 1 (.slice a (readD D n).1.length c) (readD D n).1.length ((readD D n).1.map (Value.int .u8)) ∧ Below w.heap.size w w' := by
  obtain ⟨m, cv, S, A, hD, hc, hF, hP⟩ := h
  have b2 : w.cell? ⟨d, 2, none⟩ = some (.bool D.off) := cell_blk hD.blk rfl
  have b1 : w.cell? ⟨d, 1, none⟩ = some (.map (some m)) := cell_blk hD.blk rfl
  obtain ⟨room, off, due, F⟩ := D
  simp only at b2 hD hF
  cases off with
  | true =>
    have hx : readD ⟨room, true, due, F⟩ n = ([], 71) := rfl
    rw [hx]
    clear hD hc hF hP
    go_enter Try.func18, Try.ntmps18
    go_wp2
    go_ret2
    exact ⟨none, 0, 71, rfl, rfl, World.ownsRow_nil _ _ _ _, Below.refl _ _⟩
  | false =>
  cases hl : lk S n with
  | none =>
    have hlF := lk_F (D := ⟨room, false, due, F⟩) hF n hl
    have hx : readD ⟨room, false, due, F⟩ n = ([], 70) := by unfold readD; rw [hlF]; rfl
    rw [hx]
    have hlk := look_run hD.map hn hl
    simp only [Option.map_none, pvo] at hlk
    clear hD hc hF hP hlF hl hx
    go_enter Try.func18, Try.ntmps18
    go_wp2
    go_ret2
    exact ⟨none, 0, 70, rfl, rfl, World.ownsRow_nil _ _ _ _, Below.refl _ _⟩
  | some f =>
    have hlF := lk_F (D := ⟨room, false, due, F⟩) hF n hl
    have hx : readD ⟨room, false, due, F⟩ n = (f.b, 0) := by unfold readD; rw [hlF]; rfl
    rw [hx]
    have hlk := look_run hD.map hn hl
    simp only [Option.map_some, pvo] at hlk
    obtain ⟨a, cc, hav, hsrc, h0, hcc⟩ := own_src (hD.files.row n f hl)
    have c0 : w.cell? ⟨f.g, 0, none⟩ = some (.slice a f.b.length cc) := by rw [cell_blk (hD.files.file n f hl) rfl, hav]; rfl
    have hfl : f.b.length ≤ 1000000 := Nat.le_trans (sm_at (fun f : Fi => f.b.length) hl) (Nat.le_trans hD.fits hD.small)
    have hz0 : a = none → f.b.length = 0 ∧ cc = 0 := fun e => by
      refine ⟨?_, h0 e⟩
      rcases Nat.eq_zero_or_pos f.b.length with h | h
      · exact h
      · obtain ⟨ad, e', _⟩ := hsrc.2 h
        rw [e] at e'
        cases e'
    have hcl := hid (clone_any (w := w) hsrc (c := cc) hfl hz0)
    clear hD hc hF hP hlF hl hx hav hsrc h0 hcc hz0
    go_enter Try.func18, Try.ntmps18
    go_wp2_with (go_at_call 34; refine hcl.out.mono ?_; rintro e w1 ⟨a1, c1, rfl, q1, q2⟩)
    go_ret2
    exact ⟨a1, c1, 0, rfl, rfl, q1, q2⟩
end

section
set_option linter.unusedVariables false
set_option linter.unusedSimpArgs false
open Go.RowKit Go.Sort Go.Maps

set_option maxRecDepth 100000 in
set_option maxHeartbeats 4000000 in
theorem new_any (r : Int) (hr : r ≤ 1000000) (w : World) : Calls Try.prog 9 #[.int .i64 r] w fun e w' => ∃ d, e = .returned (.pointer (some ⟨d, 0, none⟩)) ∧ Below w.heap.size w w' ∧ DK w' d ⟨r.toNat, false, none, []⟩ (fun j => j < w.heap.size) := by
  have hM := MP.made w
  have hend : ∀ rr : Int, rr = ((r.toNat : Nat) : Int) → Below w.heap.size w ((w.alloc (.map #[] 0)).alloc (.cells #[.int .i64 rr, .map (some w.heap.size), .bool false, .pointer none] 55)) ∧ DK ((w.alloc (.map #[] 0)).alloc (.cells #[.int .i64 rr, .map (some w.heap.size), .bool false, .pointer none] 55)) (w.heap.size + 1) ⟨r.toNat, false, none, []⟩ (fun j => j < w.heap.size) := fun rr hrr => by
    have h2 := heap_new2 w (.map #[] 0) (.cells #[.int .i64 rr, .map (some w.heap.size), .bool false, .pointer none] 55)
    refine ⟨((Below.refl _ w).alloc (Nat.le_refl _) _).alloc (by simp) _, w.heap.size, .pointer none, [], (fun j => j = w.heap.size ∨ j = w.heap.size + 1), ⟨by rw [h2.2, hrr], hM.same (h2.1.trans (heap_new w _).symm), ⟨fun n f e => by simp [lk] at e, fun n f e => by simp [lk] at e, fun n f e => by simp [lk] at e, fun n f e => by simp [lk] at e, fun n n' f f' e => by simp [lk] at e, fun n n' f f' k e => by simp [lk] at e⟩, trivial, by simp, by simp [sm], by simp only; omega, fun n f e => by simp [lk] at e, ⟨Or.inr rfl, Or.inl rfl⟩, fun j hj => by
      rcases hj with hj | hj
      · simp; omega
      · simp; omega⟩, Or.inl ⟨rfl, rfl⟩, rfl, fun j hj => ⟨by simp; omega, fun e => by
      rcases e with e | e
      · omega
      · omega⟩⟩
  have HE := hid hend
  have hmk := @run_makeMap Try.prog
  clear hend hM
  by_cases h0 : 0 ≤ r
  · have R := hid (HE.out r (by omega))
    have e1 : decide (r < 0) = false := decide_eq_false (by omega)
    have e2 : decide ((0 : Int) < r) = decide (0 < r) := rfl
    have e3 : (if r < 0 then (0 : Int) else r) = r := if_neg (by omega)
    have e4 : (if (0 : Int) < r then r else 0) = r := by split <;> omega
    have e5 : max r 0 = r := by omega
    clear HE
    go_enter Try.func9, Try.ntmps9
    go_wp2
    go_ret
    exact ⟨_, rfl, R.out⟩
  · have R := hid (HE.out 0 (by omega))
    have e1 : decide (r < 0) = true := decide_eq_true (by omega)
    have e3 : (if r < 0 then (0 : Int) else r) = 0 := if_pos (by omega)
    have e4 : (if (0 : Int) < r then r else 0) = 0 := by split <;> omega
    have e5 : max r 0 = 0 := by omega
    clear HE
    go_enter Try.func9, Try.ntmps9
    go_wp2
    go_ret
    exact ⟨_, rfl, R.out⟩
end

section
set_option linter.unusedVariables false
set_option linter.unusedSimpArgs false
open Go.RowKit Go.Sort Go.Maps Go.Shelf

theorem src_new (w : World) (C : Array Value) (fr : Nat × Nat) (L : List Int) (hC : C = (L.map (Value.int .u8)).toArray) : Src (w.alloc (.cells C 5 fr)) (some ⟨w.heap.size, 0, none⟩) L.length L := by
  refine ⟨rfl, fun hp => ⟨_, rfl, fun j x hj => ?_⟩⟩
  have h := heap_new w (.cells C 5 fr)
  have e : (⟨w.heap.size, 0, none⟩ : Addr).add j = ⟨w.heap.size, j, none⟩ := by
    unfold Addr.add
    split
    · rename_i h0
      rw [h0]
    · simp
  rw [e]
  exact cell_blk h (by rw [hC]; simp [hj])
/-- Bytes that were just made are appended. -/
theorem append_new {w : World} {d : Nat} {D : Dk} {P : Nat → Prop} (h : DK w d D P) (n : Nm) (L : List Int) (C : Array Value) (fr : Nat × Nat) (hC : C = (L.map (Value.int .u8)).toArray) (hn : n.length ≤ 1000000) (hL : Bts L) (hl : L.length ≤ 1000) :
    Calls Try.prog 13 #[.pointer (some ⟨d, 0, none⟩), encStr n, .slice (some ⟨w.heap.size, 0, none⟩) L.length L.length] (w.alloc (.cells C 5 fr)) fun e w' => ∃ x : Nat, e = .returned (.int .i64 (x : Int)) ∧ x = (operD (eApp D.room n L) D).2 ∧ DK w' d (operD (eApp D.room n L) D).1 P ∧ KP w w' P := by
  have hb := new_below w (.cells C 5 fr)
  have h1 := h.more hb
  refine (append_any d n L (some ⟨w.heap.size, 0, none⟩) L.length D _ _ h1 hn (src_new w C fr L hC) (fun _ ad e => ?_) (fun e => by cases e) ⟨Nat.le_refl _, by unfold maxLen; omega⟩ hL).mono ?_
  · obtain rfl := Option.some.inj e
    exact Or.inr ⟨Nat.le_refl _, by simp⟩
  · rintro e w' ⟨x, rfl, q1, q2, q3⟩
    exact ⟨x, rfl, q1, q2.less (fun j hj => Or.inl hj), (KP.below hb).trans (q3.less (fun j hj => Or.inl hj))⟩

def aw1 : Dk := ⟨100, false, none, []⟩
def aw2 : Dk := ⟨100, false, none, [([97], ⟨[97, 98], 0⟩)]⟩
def aw3 : Dk := ⟨100, false, none, [([97], ⟨[97, 98], 2⟩)]⟩
def aw4 : Dk := ⟨100, false, none, [([97], ⟨[97, 98, 99, 100], 2⟩)]⟩
def aw5 : Dk := ⟨100, false, some (0, 1, 1), [([97], ⟨[97, 98, 99, 100], 2⟩)]⟩
def aw6 : Dk := ⟨100, true, none, [([97], ⟨[97, 98, 99], 3⟩)]⟩
def aw7 : Dk := ⟨100, false, none, [([97], ⟨[97, 98, 99], 3⟩)]⟩
theorem as2 : operD (eApp aw1.room [97] [97, 98]) aw1 = (aw2, 0) := by kernel_rfl
theorem as3 : operD (eSync [97]) aw2 = (aw3, 0) := by kernel_rfl
theorem as4 : operD (eApp aw3.room [97] [99, 100]) aw3 = (aw4, 0) := by kernel_rfl
theorem as5 : cutD aw4 0 1 1 = (aw5, 0) := by kernel_rfl
theorem as6 : operD (eApp aw5.room [97] [101, 102]) aw5 = (aw6, 71) := by kernel_rfl
theorem as7 : readD aw7 [97] = ([97, 98, 99], 0) := by kernel_rfl

theorem kp_below {w w' : World} (h : KP w w' (fun j => j < w.heap.size)) : Below w.heap.size w w' := ⟨h.sm.1, h.sm.2.1, h.sm.2.2, h.size, fun j hj => h.keep j hj hj⟩

theorem bts2 (a b : Int) (h : (0 ≤ a ∧ a < 256) ∧ 0 ≤ b ∧ b < 256) : Bts [a, b] := fun x hx => by
  simp at hx
  rcases hx with rfl | rfl
  · exact h.1
  · exact h.2

set_option maxRecDepth 100000 in
set_option maxHeartbeats 4000000 in
theorem awake_any (w : World) : Calls Try.prog 8 #[] w fun e w' => e = .returned (.bool true) ∧ Below w.heap.size w w' := by
  have hst : strOfNums [97, 98, 99] = ⟨#[97, 98, 99]⟩ := by kernel_rfl
  have kc := fun (w : World) (C : Array Value) (n c : Nat) => Lib.run_convert_bytes_const (P := Try.prog) w 31 5 C n c Try.underlying31 Try.underlying5
  go_enter Try.func8, Try.ntmps8
  go_wp2_with (first
    | (go_at_call 23; have hq := K8.out; refine (room_dk _ _ _ _ hq.1).mono ?_; rintro e w9 ⟨rfl, hb9⟩; have K9 := hid (hq.2.trans (KP.below hb9)); clear hq hb9)
    | (go_at_call 18; have hq := K7.out; refine (read_any _ [97] _ _ _ hq.1 (by simp)).mono ?_; rintro e w8 ⟨a8, c8, x8, rfl, hx8, hr8, hb8⟩; rw [as7] at hx8 hr8 ⊢; subst hx8; obtain ⟨_, _, e8, hs8, _⟩ := own_src hr8; cases e8; have hcv : (convert 31 9 (.slice a8 3 c8)).run Try.prog w8 = .ok (.string ⟨#[97, 98, 99]⟩) w8 := (conv_src hs8 c8).trans (by rw [hst]); have K8 := hid (And.intro (hq.1.below hb8) (hq.2.trans (KP.below hb8))); clear hq hb8 hr8 hs8)
    | (go_at_call 17; have hq := K6.out; refine (on_any _ _ _ _ hq.1).mono ?_; rintro e w7 ⟨rfl, q1, q2⟩; have K7 : Hid (DK w7 _ aw7 (fun j => j < w.heap.size) ∧ KP w w7 (fun j => j < w.heap.size)) := hid (And.intro q1 (hq.2.trans q2)); clear hq q1 q2)
    | (go_at_call 16; have hq := K6.out; refine (off_any _ _ _ _ hq.1).mono ?_; rintro e w6' ⟨rfl, rfl⟩; clear hq)
    | (go_at_call 13; have hq := K5.out; refine (append_new hq.1 [97] [101, 102] _ _ rfl (by simp) (bts2 _ _ (by decide)) (by simp)).mono ?_; rintro e w6 ⟨x, rfl, hx, q1, q2⟩; rw [as6] at hx q1; subst hx; have K6 := hid (And.intro q1 (hq.2.trans q2)); clear hq q1 q2)
    | (go_at_call 15; have hq := K4.out; refine (cut_any _ 0 1 1 _ _ _ hq.1 (by omega) (by omega) (by omega)).mono ?_; rintro e w5 ⟨x, rfl, hx, q1, q2⟩; rw [as5] at hx q1; subst hx; have K5 := hid (And.intro q1 (hq.2.trans q2)); clear hq q1 q2)
    | (go_at_call 13; have hq := K3.out; refine (append_new hq.1 [97] [99, 100] _ _ rfl (by simp) (bts2 _ _ (by decide)) (by simp)).mono ?_; rintro e w4 ⟨x, rfl, hx, q1, q2⟩; rw [as4] at hx q1; subst hx; have K4 := hid (And.intro q1 (hq.2.trans q2)); clear hq q1 q2)
    | (go_at_call 14; have hq := K2.out; refine (sync_any _ [97] _ _ _ hq.1 (by simp)).mono ?_; rintro e w3 ⟨x, rfl, hx, q1, q2⟩; rw [as3] at hx q1; subst hx; have K3 := hid (And.intro q1 (hq.2.trans q2)); clear hq q1 q2)
    | (go_at_call 13; have hq := K1.out; refine (append_new hq.1 [97] [97, 98] _ _ rfl (by simp) (bts2 _ _ (by decide)) (by simp)).mono ?_; rintro e w2 ⟨x, rfl, hx, q1, q2⟩; rw [as2] at hx q1; subst hx; have K2 := hid (And.intro q1 (hq.2.trans q2)); clear hq q1 q2)
    | (go_at_call 9; refine (new_any 100 (by omega) _).mono ?_; rintro e w1 ⟨d, rfl, hb1, q1⟩; have K1 : Hid (DK w1 d aw1 (fun j => j < w.heap.size) ∧ KP w w1 (fun j => j < w.heap.size)) := hid (And.intro q1 (KP.below hb1)); clear hb1 q1))
  go_ret
  exact ⟨rfl, kp_below K9.out⟩
end

section
set_option linter.unusedSimpArgs false
set_option linter.unusedVariables false

/-- No file is too long, no room too small. -/
theorem eApp_ok {room : Nat} {n : Nm} {L : List Int} {F : List (Nm × Fl)} (hm : mayB n = true) (h1 : sm Fl.n F + L.length ≤ room) (h2 : F.length < 100) (p : Option Nat) : eApp room n L p F = (put F n ⟨(fz (lk F n)).b ++ L.take (p.getD L.length), (fz (lk F n)).s⟩, 0) := by
  unfold eApp
  rw [if_neg (by rw [hm]; decide), if_neg (by omega)]
theorem operD_go (e : Ef) (room : Nat) (F : List (Nm × Fl)) : operD e ⟨room, false, none, F⟩ = (⟨room, false, none, (e none F).1⟩, (e none F).2) := rfl
theorem operD_cut (e : Ef) (room p k : Nat) (F : List (Nm × Fl)) : operD e ⟨room, false, some (0, p, k), F⟩ = (⟨room, true, none, mp (Fl.torn k) (e (some p) F).1⟩, 71) := rfl
end

section
set_option linter.unusedVariables false
set_option linter.unusedSimpArgs false
open Go.RowKit Go.Sort Go.Maps

theorem row_none {k : IntKind} {w : World} {a : Option Addr} {len cap : Nat} {zs : List Int} (h : IsRow k w a len cap zs) : a = none → cap = 0 := by
  rcases h with ⟨_, _, h, _⟩ | ⟨x, h, _⟩
  · exact fun _ => h
  · exact fun e => by rw [h] at e; cases e
theorem own_src_at {w : World} {B n c : Nat} {a : Option Addr} {L : List Int} (h : w.ownsRow B 5 1 (.slice a n c) L.length (L.map (Value.int .u8))) (hn : n = L.length) : Src w a L.length L := by
  obtain ⟨a', c', e, hs, _⟩ := own_src h
  subst hn
  cases e
  exact hs
end

section
set_option linter.unusedSimpArgs false
set_option linter.unusedVariables false
open Go.RowKit

/-- What was appended, till the k-th. -/
def tk (R : List (List Int)) (k : Nat) : List Int := (R.take k).flatten
theorem tk_succ (R : List (List Int)) (k : Nat) (h : k < R.length) : tk R (k + 1) = tk R k ++ R[k]?.getD [] := by
  unfold tk
  rw [List.take_add_one, List.flatten_append]
  simp [h]
theorem tk_len {R : List (List Int)} : ∀ {k : Nat}, (∀ j, j < k → (R[j]?.getD []).length ≤ 1000) → (tk R k).length ≤ k * 1000
  | 0, _ => by simp [tk]
  | k + 1, h => by
    have ih := tk_len (R := R) (k := k) (fun j hj => h j (by omega))
    by_cases hk : k < R.length
    · rw [tk_succ R k hk, List.length_append]
      have h3 := h k (Nat.lt_succ_self k)
      have e9 : (k + 1) * 1000 = k * 1000 + 1000 := Nat.succ_mul k 1000
      rw [e9]
      exact Nat.add_le_add ih h3
    · have : tk R (k + 1) = tk R k := by
        unfold tk
        rw [List.take_of_length_le (by omega), List.take_of_length_le (by omega)]
      rw [this]
      exact Nat.le_trans ih (Nat.mul_le_mul_right _ (Nat.le_succ k))

/-- The disk behind k appends. -/
def sx (b : List Int) (s q : Nat) : Fl := Fl.torn q ⟨b, s⟩
def sD (L : List Int) (R : List (List Int)) (s n p q k : Nat) : Dk :=
  if k ≤ n then ⟨1000000, false, some (n - k, p, q), [([97], ⟨L ++ tk R k, s⟩)]⟩ else ⟨1000000, true, none, [([97], sx (L ++ tk R n ++ (R[n]?.getD []).take p) s q)]⟩
/-- All that was appended. -/
def sA (L : List Int) (R : List (List Int)) (n k : Nat) : List Int := if k ≤ n then L ++ tk R k else L ++ tk R (n + 1)

def su0 : Dk := ⟨1000000, false, none, []⟩
def su1 (L : List Int) (s : Nat) : Dk := ⟨1000000, false, none, [([97], ⟨L, s⟩)]⟩
theorem se1 (a : List Int) (h : a.length ≤ 1000) : operD (eApp su0.room [97] a) su0 = (su1 a 0, 0) := by
  have := eApp_ok (room := 1000000) (n := [97]) (L := a) (F := []) (by kernel_rfl) (by simp [sm]; omega) (by simp) none
  show operD (eApp 1000000 [97] a) ⟨1000000, false, none, []⟩ = _
  rw [operD_go, this]
  simp [lk, fz, put, su1]
theorem se2 (a : List Int) : operD (eSync [97]) (su1 a 0) = (su1 a a.length, 0) := by
  show operD (eSync [97]) ⟨1000000, false, none, _⟩ = _
  rw [operD_go]
  simp [eSync, lk, put, su1]
theorem se3 (L : List Int) (R : List (List Int)) (s : Nat) (n p q : Int) (hn : 0 ≤ n) (hp : 0 ≤ p) (hq : 0 ≤ q) : cutD (su1 L s) n p q = (sD L R s n.toNat p.toNat q.toNat 0, 0) := by
  unfold cutD
  rw [if_neg (by omega)]
  simp [su1, sD, tk]

/-- An append. -/
theorem se4 (L : List Int) (R : List (List Int)) (s n p q k : Nat) (hk : k < R.length) (h20 : R.length ≤ 20) (hL : L.length ≤ 1000) (hR : ∀ j, j < k + 1 → (R[j]?.getD []).length ≤ 1000) :
    operD (eApp (sD L R s n p q k).room [97] (R[k]?.getD [])) (sD L R s n p q k) = (sD L R s n p q (k + 1), if k < n then 0 else 71) := by
  have hroom : (sD L R s n p q k).room = 1000000 := by unfold sD; split <;> rfl
  rw [hroom]
  have h1 := tk_len (R := R) (k := k) (fun j hj => hR j (by omega))
  have h2 := hR k (by omega)
  have happ : ∀ pt, eApp 1000000 [97] (R[k]?.getD []) pt [([97], ⟨L ++ tk R k, s⟩)] = ([([97], ⟨L ++ tk R k ++ (R[k]?.getD []).take (pt.getD (R[k]?.getD []).length), s⟩)], 0) := fun pt => by
    rw [eApp_ok (by kernel_rfl) (by simp [sm, Fl.n]; omega) (by simp)]
    simp [lk, fz, put]
  rcases Nat.lt_trichotomy k n with h | h | h
  · rw [if_pos h]
    have e1 : sD L R s n p q k = ⟨1000000, false, some ((n - (k + 1)) + 1, p, q), [([97], ⟨L ++ tk R k, s⟩)]⟩ := by
      unfold sD
      rw [if_pos (by omega), show n - (k + 1) + 1 = n - k by omega]
    have e2 : sD L R s n p q (k + 1) = ⟨1000000, false, some (n - (k + 1), p, q), [([97], ⟨L ++ tk R (k + 1), s⟩)]⟩ := by
      unfold sD
      rw [if_pos (by omega)]
    rw [e1, e2]
    show (Dk.mk 1000000 false (some (n - (k + 1), p, q)) (eApp 1000000 [97] (R[k]?.getD []) none [([97], ⟨L ++ tk R k, s⟩)]).1, (eApp 1000000 [97] (R[k]?.getD []) none [([97], ⟨L ++ tk R k, s⟩)]).2) = _
    rw [happ, tk_succ R k hk]
    simp
  · subst h
    rw [if_neg (by omega)]
    have e1 : sD L R s k p q k = ⟨1000000, false, some (0, p, q), [([97], ⟨L ++ tk R k, s⟩)]⟩ := by
      unfold sD
      rw [if_pos (by omega), Nat.sub_self]
    have e2 : sD L R s k p q (k + 1) = ⟨1000000, true, none, [([97], sx (L ++ tk R k ++ (R[k]?.getD []).take p) s q)]⟩ := by
      unfold sD
      rw [if_neg (by omega)]
    rw [e1, e2, operD_cut, happ]
    rfl
  · rw [if_neg (by omega)]
    have e1 : ∀ j, n < j → sD L R s n p q j = ⟨1000000, true, none, [([97], sx (L ++ tk R n ++ (R[n]?.getD []).take p) s q)]⟩ := fun j hj => by
      unfold sD
      rw [if_neg (by omega)]
    rw [e1 k h, e1 (k + 1) (by omega)]
    rfl
theorem sD_off (L : List Int) (R : List (List Int)) (s n p q k : Nat) : (sD L R s n p q k).off = decide (n < k) := by
  unfold sD
  split
  · simp; omega
  · simp; omega
theorem sA_succ (L : List Int) (R : List (List Int)) (n k : Nat) (hk : k < R.length) : sA L R n (k + 1) = if n < k then sA L R n k else sA L R n k ++ R[k]?.getD [] := by
  unfold sA
  rcases Nat.lt_trichotomy k n with h | h | h
  · rw [if_pos (show k + 1 ≤ n by omega), if_neg (show ¬ n < k by omega), if_pos (show k ≤ n by omega), tk_succ R k hk, List.append_assoc]
  · subst h
    rw [if_neg (show ¬ k + 1 ≤ k by omega), if_neg (show ¬ k < k by omega), if_pos (Nat.le_refl k), tk_succ R k hk, List.append_assoc]
  · rw [if_neg (show ¬ k + 1 ≤ n by omega), if_pos h, if_neg (show ¬ k ≤ n by omega)]

/-- What is there in the end. -/
def sF (L : List Int) (R : List (List Int)) (s n p q k : Nat) : List Int := if k ≤ n then L ++ tk R k else (sx (L ++ tk R n ++ (R[n]?.getD []).take p) s q).b
theorem sr (L : List Int) (R : List (List Int)) (s n p q k : Nat) : readD ⟨(sD L R s n p q k).room, false, none, (sD L R s n p q k).F⟩ [97] = (sF L R s n p q k, 0) := by
  unfold readD sD sF
  split <;> simp [lk, sx]
theorem sF_pre (L : List Int) (R : List (List Int)) (s n p q k : Nat) (hs : s ≤ L.length) (hk : k ≤ R.length) : s ≤ (sF L R s n p q k).length ∧ (sF L R s n p q k).length ≤ (sA L R n k).length ∧ (sA L R n k).take (sF L R s n p q k).length = sF L R s n p q k ∧ (k ≤ n → (sF L R s n p q k).length = (sA L R n k).length) := by
  unfold sF sA
  by_cases h : k ≤ n
  · rw [if_pos h, if_pos h]
    exact ⟨by simp; omega, Nat.le_refl _, List.take_of_length_le (Nat.le_refl _), fun _ => rfl⟩
  · rw [if_neg h, if_neg h]
    have hn : n < R.length := by omega
    rw [tk_succ R n hn]
    have e : L ++ (tk R n ++ R[n]?.getD []) = (L ++ tk R n ++ (R[n]?.getD []).take p) ++ (R[n]?.getD []).drop p := by
      rw [List.append_assoc, List.append_assoc, List.take_append_drop]
    rw [e]
    generalize hX : L ++ tk R n ++ (R[n]?.getD []).take p = X
    have hsX : s ≤ X.length := by rw [← hX]; simp; omega
    have hle := lft_le (k := q) hsX
    have hl : (sx X s q).b.length = lft q s X.length := by
      simp only [sx, Fl.torn, List.length_take]
      omega
    refine ⟨by rw [hl]; unfold lft; omega, by rw [hl, List.length_append]; omega, ?_, fun h' => absurd h' h⟩
    rw [hl]
    show _ = X.take (lft q s X.length)
    rw [List.take_append_of_le_length hle]
theorem str_app (A B : List Int) : strOfNums (A ++ B) = strOfNums A ++ strOfNums B := by
  apply ByteArray.ext
  simp [strOfNums]
end
end Go.Proofs.Ytocglenkdjiknaa
