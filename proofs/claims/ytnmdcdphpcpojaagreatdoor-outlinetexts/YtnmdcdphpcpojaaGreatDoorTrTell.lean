/- New, There, Parent, Took, Kids. -/
import Derived.Test.YtnmdcdphpcpojaaGreatDoorTrPut
import Derived.Test.YtnmdcdphpcpojaaGreatDoorMKeys
namespace Go.Proofs.YtnmdcdphpcpojaaGreatDoor
section
set_option linter.unusedVariables false
open Go.RowKit

/-- A tree of these moves; A: its blocks. -/
def TT (w : World) (t : Nat) (l : List Mv) (A : Nat → Prop) : Prop :=
  ∃ k gs S lg fd pl kd fl B, TR w t l k gs S lg fd pl kd fl B A ∧ fl.length = l.length ∧ (∀ (i g : Nat) (m : Mv), gs[i]? = some g → l[i]? = some m → (m, g) ∈ fl) ∧ (∀ x ∈ fl, ∃ i : Nat, gs[i]? = some x.2 ∧ l[i]? = some x.1)

theorem TT.same {w w' : World} {t : Nat} {l : List Mv} {A : Nat → Prop} (h : TT w t l A) (hz : w.heap.size ≤ w'.heap.size) (hk : ∀ j, A j → w'.heap[j]? = w.heap[j]?) : TT w' t l A := by
  obtain ⟨k, gs, S, lg, fd, pl, kd, fl, B, h1, h2⟩ := h
  exact ⟨k, gs, S, lg, fd, pl, kd, fl, B, h1.same hz hk, h2⟩

theorem TT.lt {w : World} {t : Nat} {l : List Mv} {A : Nat → Prop} (h : TT w t l A) : ∀ j, A j → j < w.heap.size := by
  obtain ⟨k, gs, S, lg, fd, pl, kd, fl, B, h1, h2⟩ := h
  exact h1.as_

theorem TT.at_ {w : World} {t : Nat} {l : List Mv} {A : Nat → Prop} (h : TT w t l A) : A t := by
  obtain ⟨k, gs, S, lg, fd, pl, kd, fl, B, h1, h2⟩ := h
  exact h1.at_

theorem TT.log {w : World} {t : Nat} {l : List Mv} {A : Nat → Prop} (h : TT w t l A) : Lg l ∧ (∀ m ∈ l, Dw m.id ∧ Dw m.block ∧ Dw m.parent) ∧ l.length ≤ 1000 := by
  obtain ⟨k, gs, S, lg, fd, pl, kd, fl, B, h1, h2⟩ := h
  exact ⟨h1.log, h1.dw, h1.small⟩

/-- One more at its place: what is found goes along. -/
theorem fl_ins {l : List Mv} {gs : List Nat} {fl : List (Mv × Nat)} {m : Mv} {ge : Nat} (hl : gs.length = l.length) (h2 : ∀ (i g : Nat) (x : Mv), gs[i]? = some g → l[i]? = some x → (x, g) ∈ fl) (h3 : ∀ x ∈ fl, ∃ i : Nat, gs[i]? = some x.2 ∧ l[i]? = some x.1) :
    (∀ (i g : Nat) (x : Mv), (insG l gs m ge)[i]? = some g → (insL mvl l m)[i]? = some x → (x, g) ∈ fl ++ [(m, ge)]) ∧ (∀ x ∈ fl ++ [(m, ge)], ∃ i : Nat, (insG l gs m ge)[i]? = some x.2 ∧ (insL mvl l m)[i]? = some x.1) := by
  have hrl := rk_le mvl l m
  refine ⟨fun i g x h4 h5 => ?_, fun x hx => ?_⟩
  · unfold insG at h4
    unfold insL at h5
    rw [ins_get gs ge _ (by rw [hl]; exact hrl)] at h4
    rw [ins_get l m _ hrl] at h5
    by_cases c1 : i < rkL mvl l m
    · rw [if_pos c1] at h4 h5
      exact List.mem_append_left _ (h2 i g x h4 h5)
    · rw [if_neg c1] at h4 h5
      by_cases c2 : i = rkL mvl l m
      · rw [if_pos c2] at h4 h5
        cases h4
        cases h5
        simp
      · rw [if_neg c2] at h4 h5
        exact List.mem_append_left _ (h2 _ g x h4 h5)
  · unfold insG insL
    rcases List.mem_append.1 hx with hx | hx
    · obtain ⟨i, h4, h5⟩ := h3 x hx
      by_cases c1 : i < rkL mvl l m
      · refine ⟨i, ?_, ?_⟩
        · rw [ins_get gs ge _ (by rw [hl]; exact hrl), if_pos c1]; exact h4
        · rw [ins_get l m _ hrl, if_pos c1]; exact h5
      · refine ⟨i + 1, ?_, ?_⟩
        · rw [ins_get gs ge _ (by rw [hl]; exact hrl), if_neg (by omega), if_neg (by omega)]; exact h4
        · rw [ins_get l m _ hrl, if_neg (by omega), if_neg (by omega)]; exact h5
    · rw [List.mem_singleton] at hx
      subst hx
      refine ⟨rkL mvl l m, ?_, ?_⟩
      · rw [ins_get gs ge _ (by rw [hl]; exact hrl), if_neg (by omega), if_pos rfl]
      · rw [ins_get l m _ hrl, if_neg (by omega), if_pos rfl]

theorem TT.ids {w : World} {t : Nat} {l : List Mv} {k : Nat} {gs : List Nat} {S : List Sp} {lg fd pl kd : Value} {fl : List (Mv × Nat)} {B A : Nat → Prop} (h : TR w t l k gs S lg fd pl kd fl B A) (h2 : ∀ (i g : Nat) (m : Mv), gs[i]? = some g → l[i]? = some m → (m, g) ∈ fl) {m : Mv} (hm : m ∈ l) : ∃ g, (m, g) ∈ fl := by
  obtain ⟨i, hi⟩ := List.mem_iff_getElem?.1 hm
  have hl := (List.getElem?_eq_some_iff.1 hi).1
  exact ⟨gs[i]'(by rw [h.len]; exact hl), h2 i _ m (List.getElem?_eq_getElem (by rw [h.len]; exact hl)) hi⟩

/-- An empty map of entries. -/
theorem en_nil (w : World) {d : Dt} (hd : Dw d) : (Instr.lookup 132 (.map none) (dv d) false).run Tryz.prog w = .ok (pvo none) w := by
  have := Maps.look_nil (w := w) false law Tryz.underlying132 (zeroPtr w) (keyOf_dot hd)
  simpa using this

/-- What is found of an identity: nothing, or the entry of the move that bears it. -/
theorem TT.look {w : World} {t : Nat} {l : List Mv} {k : Nat} {gs : List Nat} {S : List Sp} {lg fd pl kd : Value} {fl : List (Mv × Nat)} {B A : Nat → Prop} (h : TR w t l k gs S lg fd pl kd fl B A) (h2 : ∀ (i g : Nat) (m : Mv), gs[i]? = some g → l[i]? = some m → (m, g) ∈ fl) (h3 : ∀ x ∈ fl, ∃ i : Nat, gs[i]? = some x.2 ∧ l[i]? = some x.1) {d : Dt} (hd : Dw d) :
    ((∀ m ∈ l, m.id ≠ d) ∧ ∀ V : World, (∀ j, A j → V.heap[j]? = w.heap[j]?) → (Instr.lookup 132 fd (dv d) false).run Tryz.prog V = .ok (.pointer none) V) ∨
    ∃ (i g : Nat) (m : Mv), gs[i]? = some g ∧ l[i]? = some m ∧ m.id = d ∧ ∀ V : World, (∀ j, A j → V.heap[j]? = w.heap[j]?) → (Instr.lookup 132 fd (dv d) false).run Tryz.prog V = .ok (.pointer (some ⟨g, 0, none⟩)) V := by
  rcases h.fnd with ⟨e1, e2⟩ | ⟨fm, G, e1, _, hA, hP, h5, h6⟩
  · subst e1 e2
    refine Or.inl ⟨fun m hm => ?_, fun V _ => en_nil V hd⟩
    obtain ⟨g, hg⟩ := TT.ids h h2 hm
    simp at hg
  · subst e1
    cases hG : G d with
    | none =>
      refine Or.inl ⟨fun m hm e => ?_, fun V hV => ?_⟩
      · obtain ⟨g, hg⟩ := TT.ids h h2 hm
        have := h5 _ hg
        simp only [e] at this
        rw [hG] at this
        cases this
      · have := (hP.same (hV fm hA)).look hd
        rw [hG] at this
        exact this
    | some g =>
      obtain ⟨x, hx, e⟩ := h6 d (by rw [hG]; rfl)
      obtain ⟨i, e1, e2⟩ := h3 x hx
      have h7 := h5 x hx
      rw [e, hG] at h7
      cases h7
      refine Or.inr ⟨i, x.2, x.1, e1, e2, e, fun V hV => ?_⟩
      have := (hP.same (hV fm hA)).look hd
      rw [hG] at this
      exact this

/-- What Move answers. -/
def mvE (l : List Mv) (m : Mv) : Int := if mayT m.id && mayT m.block then (if l.any (fun x => decide (x.id = m.id)) then 32 else 0) else 1

/-- What the moves are behind it. -/
def mvL (l : List Mv) (m : Mv) : List Mv := if mvE l m = 0 then insL mvl l m else l

theorem mayT_yes {d : Dt} (h : mayT d = true) : d ≠ (0, 0) ∧ ¬ isEnd d := by
  unfold mayT at h
  simp only [Bool.and_eq_true, decide_eq_true_eq] at h
  exact ⟨h.1.1, fun e => e.elim h.1.2 h.2⟩

theorem mvE_no {l : List Mv} {m : Mv} (h : mayT m.id = false ∨ mayT m.block = false) : mvE l m = 1 := by
  unfold mvE
  rcases h with h | h <;> simp [h]
theorem mvE_twice {l : List Mv} {m x : Mv} (h1 : mayT m.id = true) (h2 : mayT m.block = true) (hx : x ∈ l) (e : x.id = m.id) : mvE l m = 32 := by
  unfold mvE
  rw [h1, h2]
  have : l.any (fun x => decide (x.id = m.id)) = true := List.any_eq_true.2 ⟨x, hx, by simpa using e⟩
  simp [this]
theorem mvE_ok {l : List Mv} {m : Mv} (h1 : mayT m.id = true) (h2 : mayT m.block = true) (hx : ∀ x ∈ l, x.id ≠ m.id) : mvE l m = 0 := by
  unfold mvE
  rw [h1, h2]
  have : l.any (fun x => decide (x.id = m.id)) = false := by
    rw [List.any_eq_false]
    intro x hx'
    simpa using hx x hx'
  simp [this]

theorem KA.refl {w w' : World} {A : Nat → Prop} (hz : w.heap.size ≤ w'.heap.size) (hk : ∀ j, j < w.heap.size → w'.heap[j]? = w.heap[j]?) (hs : Sm w w') : KA w w' A A := ⟨hz, fun j hj _ => hk j hj, fun j hj => Or.inl hj, hs⟩
theorem KA.below {w w' : World} {A : Nat → Prop} (h : Below w.heap.size w w') : KA w w' A A := KA.refl h.size (fun j hj => h.block j hj) (Sm.b h)
theorem TT.below {w w' : World} {t : Nat} {l : List Mv} {A : Nat → Prop} (h : TT w t l A) (hb : Below w.heap.size w w') : TT w' t l A := h.same hb.size (fun j hj => hb.block j (h.lt j hj))
end

section
set_option linter.unusedVariables false
set_option linter.unusedSimpArgs false
open Go.RowKit

set_option maxRecDepth 100000 in
set_option maxHeartbeats 4000000 in
/-- The identity may not be. -/
theorem move_no1 (w : World) (l : List Mv) (k : Nat) (gs : List Nat) (S : List Sp) (lg fd pl kd : Value) (fl : List (Mv × Nat)) (B A : Nat → Prop) (t : Nat) (i1 i2 tm b1 b2 p1 p2 : Int) (ky : ByteArray) (h : TR w t l k gs S lg fd pl kd fl B A) (h1 : mayT (i1, i2) = false) :
    Calls Tryz.prog 28 #[.pointer (some ⟨t, 0, none⟩), .agg #[.int .i64 i1, .int .i64 i2], .int .i64 tm, .agg #[.int .i64 b1, .int .i64 b2], .agg #[.int .i64 p1, .int .i64 p2], .string ky] w fun e w' => e = .returned (.int .i64 1) ∧ Below w.heap.size w w' := by
  have hmxo : Tryz.prog.follows .mixedOrders = true := by kernel_rfl
  obtain ⟨W0, hW0⟩ : ∃ W0, W0 = ((w.alloc (.cells #[.int .i64 i1, .int .i64 i2] 24)).alloc (.cells #[.int .i64 b1, .int .i64 b2] 24)).alloc (.cells #[.int .i64 p1, .int .i64 p2] 24) := ⟨_, rfl⟩
  have hB0 : Below w.heap.size w W0 := by rw [hW0]; exact ((((Below.refl _ w).alloc (Nat.le_refl _) _).alloc (by simp) _).alloc (by simp; omega) _)
  have hsz : W0.heap.size = w.heap.size + 3 := by rw [hW0]; simp
  have q0 : W0.heap[w.heap.size]? = some (.cells #[.int .i64 i1, .int .i64 i2] 24 (0, 0)) := by
    rw [hW0]
    exact (Below.heap_alloc _ _ _ (by simp; omega)).trans ((Below.heap_alloc _ _ _ (by simp)).trans (World.alloc_heap_new w _))
  have q1 : W0.heap[w.heap.size + 1]? = some (.cells #[.int .i64 b1, .int .i64 b2] 24 (0, 0)) := by
    rw [hW0]
    have := World.alloc_heap_new (w.alloc (.cells #[.int .i64 i1, .int .i64 i2] 24)) (.cells #[.int .i64 b1, .int .i64 b2] 24)
    rw [World.size_alloc] at this
    exact (Below.heap_alloc _ _ _ (by simp)).trans this
  have q2 : W0.heap[w.heap.size + 2]? = some (.cells #[.int .i64 p1, .int .i64 p2] 24 (0, 0)) := by
    rw [hW0]
    have := World.alloc_heap_new ((w.alloc (.cells #[.int .i64 i1, .int .i64 i2] 24)).alloc (.cells #[.int .i64 b1, .int .i64 b2] 24)) (.cells #[.int .i64 p1, .int .i64 p2] 24)
    rw [World.size_alloc, World.size_alloc] at this
    exact this
  have htb := h.tb
  unfold TB at htb
  have htw := (Array.getElem?_eq_some_iff.1 htb).1
  have HC : Hid (∀ V, Below W0.heap.size W0 V → V.cell? ⟨t, 1, none⟩ = some fd ∧ V.cell? ⟨w.heap.size, 0, none⟩ = some (.int .i64 i1) ∧ V.cell? ⟨w.heap.size, 1, none⟩ = some (.int .i64 i2) ∧ V.cell? ⟨w.heap.size + 1, 0, none⟩ = some (.int .i64 b1) ∧ V.cell? ⟨w.heap.size + 1, 1, none⟩ = some (.int .i64 b2) ∧ V.cell? ⟨w.heap.size + 2, 0, none⟩ = some (.int .i64 p1) ∧ V.cell? ⟨w.heap.size + 2, 1, none⟩ = some (.int .i64 p2)) := hid (fun V hV => by
    have e0 := (hV.block _ (by omega)).trans q0
    have e1 := (hV.block _ (by omega)).trans q1
    have e2 := (hV.block _ (by omega)).trans q2
    have e3 := (hV.block t (by omega)).trans ((hB0.block t htw).trans htb)
    exact ⟨by simp [World.cell?, e3], by simp [World.cell?, e0], by simp [World.cell?, e0], by simp [World.cell?, e1], by simp [World.cell?, e1], by simp [World.cell?, e2], by simp [World.cell?, e2]⟩)
  have HM1 : Calls Tryz.prog 60 #[.agg #[.int .i64 i1, .int .i64 i2]] W0 fun e w' => e = .returned (.bool false) ∧ Hid (Below W0.heap.size W0 w') := by
    have := may10_any (i1, i2) W0
    rw [h1] at this
    exact this.mono (fun e w' h => ⟨h.1, hid h.2⟩)
  have HW := hid hW0
  have HB0 := hid hB0
  have hsz' := hid hsz
  clear hW0 hB0 hsz q0 q1 q2 htb htw h h1
  go_enter Tryz.func28, Tryz.ntmps28
  go_wp2_with (go_at_call 60; rw [← HW.out]; refine HM1.mono ?_; rintro e W1 ⟨rfl, HB1⟩; obtain ⟨j0, j1, j2, j3, j4, j5, j6⟩ := HC.out _ HB1.out)
  go_ret
  exact ⟨rfl, HB0.out.trans (HB1.out.mono HB0.out.size)⟩

set_option maxRecDepth 100000 in
set_option maxHeartbeats 4000000 in
/-- The block may not be. -/
theorem move_no2 (w : World) (l : List Mv) (k : Nat) (gs : List Nat) (S : List Sp) (lg fd pl kd : Value) (fl : List (Mv × Nat)) (B A : Nat → Prop) (t : Nat) (i1 i2 tm b1 b2 p1 p2 : Int) (ky : ByteArray) (h : TR w t l k gs S lg fd pl kd fl B A) (h1 : mayT (i1, i2) = true) (h2 : mayT (b1, b2) = false) :
    Calls Tryz.prog 28 #[.pointer (some ⟨t, 0, none⟩), .agg #[.int .i64 i1, .int .i64 i2], .int .i64 tm, .agg #[.int .i64 b1, .int .i64 b2], .agg #[.int .i64 p1, .int .i64 p2], .string ky] w fun e w' => e = .returned (.int .i64 1) ∧ Below w.heap.size w w' := by
  have hmxo : Tryz.prog.follows .mixedOrders = true := by kernel_rfl
  obtain ⟨W0, hW0⟩ : ∃ W0, W0 = ((w.alloc (.cells #[.int .i64 i1, .int .i64 i2] 24)).alloc (.cells #[.int .i64 b1, .int .i64 b2] 24)).alloc (.cells #[.int .i64 p1, .int .i64 p2] 24) := ⟨_, rfl⟩
  have hB0 : Below w.heap.size w W0 := by rw [hW0]; exact ((((Below.refl _ w).alloc (Nat.le_refl _) _).alloc (by simp) _).alloc (by simp; omega) _)
  have hsz : W0.heap.size = w.heap.size + 3 := by rw [hW0]; simp
  have q0 : W0.heap[w.heap.size]? = some (.cells #[.int .i64 i1, .int .i64 i2] 24 (0, 0)) := by
    rw [hW0]
    exact (Below.heap_alloc _ _ _ (by simp; omega)).trans ((Below.heap_alloc _ _ _ (by simp)).trans (World.alloc_heap_new w _))
  have q1 : W0.heap[w.heap.size + 1]? = some (.cells #[.int .i64 b1, .int .i64 b2] 24 (0, 0)) := by
    rw [hW0]
    have := World.alloc_heap_new (w.alloc (.cells #[.int .i64 i1, .int .i64 i2] 24)) (.cells #[.int .i64 b1, .int .i64 b2] 24)
    rw [World.size_alloc] at this
    exact (Below.heap_alloc _ _ _ (by simp)).trans this
  have q2 : W0.heap[w.heap.size + 2]? = some (.cells #[.int .i64 p1, .int .i64 p2] 24 (0, 0)) := by
    rw [hW0]
    have := World.alloc_heap_new ((w.alloc (.cells #[.int .i64 i1, .int .i64 i2] 24)).alloc (.cells #[.int .i64 b1, .int .i64 b2] 24)) (.cells #[.int .i64 p1, .int .i64 p2] 24)
    rw [World.size_alloc, World.size_alloc] at this
    exact this
  have htb := h.tb
  unfold TB at htb
  have htw := (Array.getElem?_eq_some_iff.1 htb).1
  have HC : Hid (∀ V, Below W0.heap.size W0 V → V.cell? ⟨t, 1, none⟩ = some fd ∧ V.cell? ⟨w.heap.size, 0, none⟩ = some (.int .i64 i1) ∧ V.cell? ⟨w.heap.size, 1, none⟩ = some (.int .i64 i2) ∧ V.cell? ⟨w.heap.size + 1, 0, none⟩ = some (.int .i64 b1) ∧ V.cell? ⟨w.heap.size + 1, 1, none⟩ = some (.int .i64 b2) ∧ V.cell? ⟨w.heap.size + 2, 0, none⟩ = some (.int .i64 p1) ∧ V.cell? ⟨w.heap.size + 2, 1, none⟩ = some (.int .i64 p2)) := hid (fun V hV => by
    have e0 := (hV.block _ (by omega)).trans q0
    have e1 := (hV.block _ (by omega)).trans q1
    have e2 := (hV.block _ (by omega)).trans q2
    have e3 := (hV.block t (by omega)).trans ((hB0.block t htw).trans htb)
    exact ⟨by simp [World.cell?, e3], by simp [World.cell?, e0], by simp [World.cell?, e0], by simp [World.cell?, e1], by simp [World.cell?, e1], by simp [World.cell?, e2], by simp [World.cell?, e2]⟩)
  have HM1 : Calls Tryz.prog 60 #[.agg #[.int .i64 i1, .int .i64 i2]] W0 fun e w' => e = .returned (.bool true) ∧ Hid (Below W0.heap.size W0 w') := by
    have := may10_any (i1, i2) W0
    rw [h1] at this
    exact this.mono (fun e w' h => ⟨h.1, hid h.2⟩)
  have HM2 : Hid (∀ V, Below W0.heap.size W0 V → Calls Tryz.prog 60 #[.agg #[.int .i64 b1, .int .i64 b2]] V fun e w' => e = .returned (.bool false) ∧ Hid (Below W0.heap.size W0 w')) := hid (fun V hV => by
    have := may10_any (b1, b2) V
    rw [h2] at this
    exact this.mono (fun e w' h => ⟨h.1, hid (hV.trans (h.2.mono hV.size))⟩))
  have HW := hid hW0
  have HB0 := hid hB0
  have hsz' := hid hsz
  clear hW0 hB0 hsz q0 q1 q2 htb htw h h1 h2
  go_enter Tryz.func28, Tryz.ntmps28
  go_wp2_with (first | (have hq := HB1; go_at_call 60; refine (HM2.out _ HB1.out).mono ?_; rintro e W2 ⟨rfl, HB2⟩; obtain ⟨k0, k1, k2, k3, k4, k5, k6⟩ := HC.out _ HB2.out) | (go_at_call 60; rw [← HW.out]; refine HM1.mono ?_; rintro e W1 ⟨rfl, HB1⟩; obtain ⟨j0, j1, j2, j3, j4, j5, j6⟩ := HC.out _ HB1.out))
  go_ret
  exact ⟨rfl, HB0.out.trans (HB2.out.mono HB0.out.size)⟩

set_option maxRecDepth 100000 in
set_option maxHeartbeats 4000000 in
/-- The identity was there. -/
theorem move_twice (w : World) (l : List Mv) (k : Nat) (gs : List Nat) (S : List Sp) (lg fd pl kd : Value) (fl : List (Mv × Nat)) (B A : Nat → Prop) (t : Nat) (i1 i2 tm b1 b2 p1 p2 : Int) (ky : ByteArray) (h : TR w t l k gs S lg fd pl kd fl B A) (h1 : mayT (i1, i2) = true) (h2 : mayT (b1, b2) = true) (g : Nat) (hlk : ∀ V : World, (∀ j, A j → V.heap[j]? = w.heap[j]?) → (Instr.lookup 132 fd (dv (i1, i2)) false).run Tryz.prog V = .ok (.pointer (some ⟨g, 0, none⟩)) V) :
    Calls Tryz.prog 28 #[.pointer (some ⟨t, 0, none⟩), .agg #[.int .i64 i1, .int .i64 i2], .int .i64 tm, .agg #[.int .i64 b1, .int .i64 b2], .agg #[.int .i64 p1, .int .i64 p2], .string ky] w fun e w' => e = .returned (.int .i64 32) ∧ Below w.heap.size w w' := by
  have hmxo : Tryz.prog.follows .mixedOrders = true := by kernel_rfl
  obtain ⟨W0, hW0⟩ : ∃ W0, W0 = ((w.alloc (.cells #[.int .i64 i1, .int .i64 i2] 24)).alloc (.cells #[.int .i64 b1, .int .i64 b2] 24)).alloc (.cells #[.int .i64 p1, .int .i64 p2] 24) := ⟨_, rfl⟩
  have hB0 : Below w.heap.size w W0 := by rw [hW0]; exact ((((Below.refl _ w).alloc (Nat.le_refl _) _).alloc (by simp) _).alloc (by simp; omega) _)
  have hsz : W0.heap.size = w.heap.size + 3 := by rw [hW0]; simp
  have q0 : W0.heap[w.heap.size]? = some (.cells #[.int .i64 i1, .int .i64 i2] 24 (0, 0)) := by
    rw [hW0]
    exact (Below.heap_alloc _ _ _ (by simp; omega)).trans ((Below.heap_alloc _ _ _ (by simp)).trans (World.alloc_heap_new w _))
  have q1 : W0.heap[w.heap.size + 1]? = some (.cells #[.int .i64 b1, .int .i64 b2] 24 (0, 0)) := by
    rw [hW0]
    have := World.alloc_heap_new (w.alloc (.cells #[.int .i64 i1, .int .i64 i2] 24)) (.cells #[.int .i64 b1, .int .i64 b2] 24)
    rw [World.size_alloc] at this
    exact (Below.heap_alloc _ _ _ (by simp)).trans this
  have q2 : W0.heap[w.heap.size + 2]? = some (.cells #[.int .i64 p1, .int .i64 p2] 24 (0, 0)) := by
    rw [hW0]
    have := World.alloc_heap_new ((w.alloc (.cells #[.int .i64 i1, .int .i64 i2] 24)).alloc (.cells #[.int .i64 b1, .int .i64 b2] 24)) (.cells #[.int .i64 p1, .int .i64 p2] 24)
    rw [World.size_alloc, World.size_alloc] at this
    exact this
  have htb := h.tb
  unfold TB at htb
  have htw := (Array.getElem?_eq_some_iff.1 htb).1
  have HC : Hid (∀ V, Below W0.heap.size W0 V → V.cell? ⟨t, 1, none⟩ = some fd ∧ V.cell? ⟨w.heap.size, 0, none⟩ = some (.int .i64 i1) ∧ V.cell? ⟨w.heap.size, 1, none⟩ = some (.int .i64 i2) ∧ V.cell? ⟨w.heap.size + 1, 0, none⟩ = some (.int .i64 b1) ∧ V.cell? ⟨w.heap.size + 1, 1, none⟩ = some (.int .i64 b2) ∧ V.cell? ⟨w.heap.size + 2, 0, none⟩ = some (.int .i64 p1) ∧ V.cell? ⟨w.heap.size + 2, 1, none⟩ = some (.int .i64 p2)) := hid (fun V hV => by
    have e0 := (hV.block _ (by omega)).trans q0
    have e1 := (hV.block _ (by omega)).trans q1
    have e2 := (hV.block _ (by omega)).trans q2
    have e3 := (hV.block t (by omega)).trans ((hB0.block t htw).trans htb)
    exact ⟨by simp [World.cell?, e3], by simp [World.cell?, e0], by simp [World.cell?, e0], by simp [World.cell?, e1], by simp [World.cell?, e1], by simp [World.cell?, e2], by simp [World.cell?, e2]⟩)
  have HM1 : Calls Tryz.prog 60 #[.agg #[.int .i64 i1, .int .i64 i2]] W0 fun e w' => e = .returned (.bool true) ∧ Hid (Below W0.heap.size W0 w') := by
    have := may10_any (i1, i2) W0
    rw [h1] at this
    exact this.mono (fun e w' h => ⟨h.1, hid h.2⟩)
  have HM2 : Hid (∀ V, Below W0.heap.size W0 V → Calls Tryz.prog 60 #[.agg #[.int .i64 b1, .int .i64 b2]] V fun e w' => e = .returned (.bool true) ∧ Hid (Below W0.heap.size W0 w')) := hid (fun V hV => by
    have := may10_any (b1, b2) V
    rw [h2] at this
    exact this.mono (fun e w' h => ⟨h.1, hid (hV.trans (h.2.mono hV.size))⟩))
  have HL : Hid (∀ V, Below W0.heap.size W0 V → (Instr.lookup 132 fd (.agg #[.int .i64 i1, .int .i64 i2]) false).run Tryz.prog V.drew = .ok (.pointer (some ⟨g, 0, none⟩)) V.drew) := hid (fun V hV => hlk V.drew (fun j hj => (hV.block j (by have := h.as_ j hj; omega)).trans (hB0.block j (h.as_ j hj))))
  have HW := hid hW0
  have HB0 := hid hB0
  have hsz' := hid hsz
  clear hW0 hB0 hsz q0 q1 q2 htb htw h h1 h2 hlk
  go_enter Tryz.func28, Tryz.ntmps28
  go_wp2_with (first | (have hq := HB1; go_at_call 60; refine (HM2.out _ HB1.out).mono ?_; rintro e W2 ⟨rfl, HB2⟩; obtain ⟨k0, k1, k2, k3, k4, k5, k6⟩ := HC.out _ HB2.out) | (go_at_call 60; rw [← HW.out]; refine HM1.mono ?_; rintro e W1 ⟨rfl, HB1⟩; obtain ⟨j0, j1, j2, j3, j4, j5, j6⟩ := HC.out _ HB1.out))
  have hS3 : W2.drew.cell? ⟨t, 1, none⟩ = some fd ∧ W2.drew.cell? ⟨w.heap.size, 0, none⟩ = some (.int .i64 i1) ∧ W2.drew.cell? ⟨w.heap.size, 1, none⟩ = some (.int .i64 i2) ∧ (Instr.lookup 132 fd (.agg #[.int .i64 i1, .int .i64 i2]) false).run Tryz.prog W2.drew = .ok (.pointer (some ⟨g, 0, none⟩)) W2.drew := ⟨k0, k1, k2, HL.out _ HB2.out⟩
  refine wp_region_held_drew (S := fun w' => w'.cell? ⟨t, 1, none⟩ = some fd ∧ w'.cell? ⟨w.heap.size, 0, none⟩ = some (.int .i64 i1) ∧ w'.cell? ⟨w.heap.size, 1, none⟩ = some (.int .i64 i2) ∧ (Instr.lookup 132 fd (.agg #[.int .i64 i1, .int .i64 i2]) false).run Tryz.prog w' = .ok (.pointer (some ⟨g, 0, none⟩)) w') hmxo hS3 ?_
  intro _
  refine wpAnyH_take (i := 0) (v := .pointer (some ⟨t, 0, none⟩)) rfl (by kernel_rfl) (by kernel_rfl) (by kernel_rfl) (fun _ _ _ h => h) (Or.inl ⟨by kernel_rfl, fun w hSw => ?_⟩) hS3 ?_
  · obtain ⟨e1, e2, e3, e4⟩ := hSw; go_simp
  simp only [Act.put, List.getElem_toArray, List.getElem_cons_succ, List.getElem_cons_zero, List.setIfInBounds_toArray, List.set_cons_zero, List.set_cons_succ]
  refine wpAnyH_take (i := 1) (v := .pointer (some ⟨t, 0, none⟩)) rfl (by kernel_rfl) (by kernel_rfl) (by kernel_rfl) (fun _ _ _ h => h) (Or.inl ⟨by kernel_rfl, fun w hSw => ?_⟩) hS3 ?_
  · obtain ⟨e1, e2, e3, e4⟩ := hSw; go_simp
  simp only [Act.put, List.getElem_toArray, List.getElem_cons_succ, List.getElem_cons_zero, List.setIfInBounds_toArray, List.set_cons_zero, List.set_cons_succ]
  refine wpAnyH_take (i := 2) (v := .pointer (some ⟨t, 1, none⟩)) rfl (by kernel_rfl) (by kernel_rfl) (by kernel_rfl) (fun _ _ _ h => h) (Or.inl ⟨by kernel_rfl, fun w hSw => ?_⟩) hS3 ?_
  · obtain ⟨e1, e2, e3, e4⟩ := hSw; go_simp
  simp only [Act.put, List.getElem_toArray, List.getElem_cons_succ, List.getElem_cons_zero, List.setIfInBounds_toArray, List.set_cons_zero, List.set_cons_succ]
  refine wpAnyH_take (i := 3) (v := fd) rfl (by kernel_rfl) (by kernel_rfl) (by kernel_rfl) (fun _ _ _ h => h) (Or.inl ⟨by kernel_rfl, fun w hSw => ?_⟩) hS3 ?_
  · obtain ⟨e1, e2, e3, e4⟩ := hSw; go_simp
  simp only [Act.put, List.getElem_toArray, List.getElem_cons_succ, List.getElem_cons_zero, List.setIfInBounds_toArray, List.set_cons_zero, List.set_cons_succ]
  refine wpAnyH_take (i := 4) (v := .agg #[.int .i64 i1, .int .i64 i2]) rfl (by kernel_rfl) (by kernel_rfl) (by kernel_rfl) (fun _ _ _ h => h) (Or.inl ⟨by kernel_rfl, fun w hSw => ?_⟩) hS3 ?_
  · obtain ⟨e1, e2, e3, e4⟩ := hSw; go_simp
  simp only [Act.put, List.getElem_toArray, List.getElem_cons_succ, List.getElem_cons_zero, List.setIfInBounds_toArray, List.set_cons_zero, List.set_cons_succ]
  refine wpAnyH_take (i := 5) (v := .pointer (some ⟨g, 0, none⟩)) rfl (by kernel_rfl) (by kernel_rfl) (by kernel_rfl) (fun _ _ _ h => h) (Or.inl ⟨by kernel_rfl, fun w hSw => ?_⟩) hS3 ?_
  · obtain ⟨e1, e2, e3, e4⟩ := hSw; go_simp
  simp only [Act.put, List.getElem_toArray, List.getElem_cons_succ, List.getElem_cons_zero, List.setIfInBounds_toArray, List.set_cons_zero, List.set_cons_succ]
  refine wpAnyH_take (i := 6) (v := .bool true) rfl (by kernel_rfl) (by kernel_rfl) (by kernel_rfl) (fun _ _ _ h => h) (Or.inl ⟨by kernel_rfl, fun w hSw => ?_⟩) hS3 ?_
  · obtain ⟨e1, e2, e3, e4⟩ := hSw; go_simp
  simp only [Act.put, List.getElem_toArray, List.getElem_cons_succ, List.getElem_cons_zero, List.setIfInBounds_toArray, List.set_cons_zero, List.set_cons_succ]
  refine wpAnyH_done (by kernel_rfl) ?_ _
  clear hS3
  go_wp2
  go_ret
  exact ⟨rfl, HB0.out.trans ((HB2.out.mono HB0.out.size).drew)⟩

set_option maxRecDepth 100000 in
set_option maxHeartbeats 4000000 in
/-- It is put into the log. -/
theorem move_ok (w : World) (l : List Mv) (k : Nat) (gs : List Nat) (S : List Sp) (lg fd pl kd : Value) (fl : List (Mv × Nat)) (B A : Nat → Prop) (t : Nat) (i1 i2 tm b1 b2 p1 p2 : Int) (ky : ByteArray) (h : TR w t l k gs S lg fd pl kd fl B A) (h1 : mayT (i1, i2) = true) (h2 : mayT (b1, b2) = true) (hlk : ∀ V : World, (∀ j, A j → V.heap[j]? = w.heap[j]?) → (Instr.lookup 132 fd (dv (i1, i2)) false).run Tryz.prog V = .ok (.pointer none) V) (hf : ∀ x ∈ l, x.id ≠ (i1, i2)) (hfl : ∀ x ∈ fl, x.1.id ≠ (i1, i2)) (hd : Dw (i1, i2) ∧ Dw (b1, b2) ∧ Dw (p1, p2)) (hs : l.length + 1 ≤ 1000) (hs' : fl.length ≤ 1000) :
    Calls Tryz.prog 28 #[.pointer (some ⟨t, 0, none⟩), .agg #[.int .i64 i1, .int .i64 i2], .int .i64 tm, .agg #[.int .i64 b1, .int .i64 b2], .agg #[.int .i64 p1, .int .i64 p2], .string ky] w fun e w' => e = .returned (.int .i64 0) ∧ ∃ ge k S lg fd pl kd B A', TR w' t (insL mvl l (⟨(i1, i2), tm, (b1, b2), (p1, p2), ky⟩ : Mv)) k (insG l gs (⟨(i1, i2), tm, (b1, b2), (p1, p2), ky⟩ : Mv) ge) S lg fd pl kd (fl ++ [((⟨(i1, i2), tm, (b1, b2), (p1, p2), ky⟩ : Mv), ge)]) B A' ∧ KA w w' A A' := by
  have hmxo : Tryz.prog.follows .mixedOrders = true := by kernel_rfl
  obtain ⟨W0, hW0⟩ : ∃ W0, W0 = ((w.alloc (.cells #[.int .i64 i1, .int .i64 i2] 24)).alloc (.cells #[.int .i64 b1, .int .i64 b2] 24)).alloc (.cells #[.int .i64 p1, .int .i64 p2] 24) := ⟨_, rfl⟩
  have hB0 : Below w.heap.size w W0 := by rw [hW0]; exact ((((Below.refl _ w).alloc (Nat.le_refl _) _).alloc (by simp) _).alloc (by simp; omega) _)
  have hsz : W0.heap.size = w.heap.size + 3 := by rw [hW0]; simp
  have q0 : W0.heap[w.heap.size]? = some (.cells #[.int .i64 i1, .int .i64 i2] 24 (0, 0)) := by
    rw [hW0]
    exact (Below.heap_alloc _ _ _ (by simp; omega)).trans ((Below.heap_alloc _ _ _ (by simp)).trans (World.alloc_heap_new w _))
  have q1 : W0.heap[w.heap.size + 1]? = some (.cells #[.int .i64 b1, .int .i64 b2] 24 (0, 0)) := by
    rw [hW0]
    have := World.alloc_heap_new (w.alloc (.cells #[.int .i64 i1, .int .i64 i2] 24)) (.cells #[.int .i64 b1, .int .i64 b2] 24)
    rw [World.size_alloc] at this
    exact (Below.heap_alloc _ _ _ (by simp)).trans this
  have q2 : W0.heap[w.heap.size + 2]? = some (.cells #[.int .i64 p1, .int .i64 p2] 24 (0, 0)) := by
    rw [hW0]
    have := World.alloc_heap_new ((w.alloc (.cells #[.int .i64 i1, .int .i64 i2] 24)).alloc (.cells #[.int .i64 b1, .int .i64 b2] 24)) (.cells #[.int .i64 p1, .int .i64 p2] 24)
    rw [World.size_alloc, World.size_alloc] at this
    exact this
  have htb := h.tb
  unfold TB at htb
  have htw := (Array.getElem?_eq_some_iff.1 htb).1
  have HC : Hid (∀ V, Below W0.heap.size W0 V → V.cell? ⟨t, 1, none⟩ = some fd ∧ V.cell? ⟨w.heap.size, 0, none⟩ = some (.int .i64 i1) ∧ V.cell? ⟨w.heap.size, 1, none⟩ = some (.int .i64 i2) ∧ V.cell? ⟨w.heap.size + 1, 0, none⟩ = some (.int .i64 b1) ∧ V.cell? ⟨w.heap.size + 1, 1, none⟩ = some (.int .i64 b2) ∧ V.cell? ⟨w.heap.size + 2, 0, none⟩ = some (.int .i64 p1) ∧ V.cell? ⟨w.heap.size + 2, 1, none⟩ = some (.int .i64 p2)) := hid (fun V hV => by
    have e0 := (hV.block _ (by omega)).trans q0
    have e1 := (hV.block _ (by omega)).trans q1
    have e2 := (hV.block _ (by omega)).trans q2
    have e3 := (hV.block t (by omega)).trans ((hB0.block t htw).trans htb)
    exact ⟨by simp [World.cell?, e3], by simp [World.cell?, e0], by simp [World.cell?, e0], by simp [World.cell?, e1], by simp [World.cell?, e1], by simp [World.cell?, e2], by simp [World.cell?, e2]⟩)
  have HM1 : Calls Tryz.prog 60 #[.agg #[.int .i64 i1, .int .i64 i2]] W0 fun e w' => e = .returned (.bool true) ∧ Hid (Below W0.heap.size W0 w') := by
    have := may10_any (i1, i2) W0
    rw [h1] at this
    exact this.mono (fun e w' h => ⟨h.1, hid h.2⟩)
  have HM2 : Hid (∀ V, Below W0.heap.size W0 V → Calls Tryz.prog 60 #[.agg #[.int .i64 b1, .int .i64 b2]] V fun e w' => e = .returned (.bool true) ∧ Hid (Below W0.heap.size W0 w')) := hid (fun V hV => by
    have := may10_any (b1, b2) V
    rw [h2] at this
    exact this.mono (fun e w' h => ⟨h.1, hid (hV.trans (h.2.mono hV.size))⟩))
  have HL : Hid (∀ V, Below W0.heap.size W0 V → (Instr.lookup 132 fd (.agg #[.int .i64 i1, .int .i64 i2]) false).run Tryz.prog V.drew = .ok (.pointer none) V.drew) := hid (fun V hV => hlk V.drew (fun j hj => (hV.block j (by have := h.as_ j hj; omega)).trans (hB0.block j (h.as_ j hj))))
  have HP : Hid (∀ V, Below W0.heap.size W0 V → Calls Tryz.prog 61 #[.pointer (some ⟨t, 0, none⟩), .pointer (some ⟨V.heap.size, 0, none⟩)] (V.alloc (.cells #[.int .i64 i1, .int .i64 i2, .int .i64 tm, .int .i64 b1, .int .i64 b2, .int .i64 p1, .int .i64 p2, .string ky, .bool false, .int .i64 0, .int .i64 0, .string ⟨#[]⟩] 141)).drew fun e w' => e = .returned (.tuple #[]) ∧ Hid (∃ ge k S lg fd pl kd B A', TR w' t (insL mvl l (⟨(i1, i2), tm, (b1, b2), (p1, p2), ky⟩ : Mv)) k (insG l gs (⟨(i1, i2), tm, (b1, b2), (p1, p2), ky⟩ : Mv) ge) S lg fd pl kd (fl ++ [((⟨(i1, i2), tm, (b1, b2), (p1, p2), ky⟩ : Mv), ge)]) B A' ∧ KA w w' A A')) := hid (fun V hV => by
    obtain ⟨W3, hW3⟩ : ∃ W3, W3 = (V.alloc (.cells #[.int .i64 i1, .int .i64 i2, .int .i64 tm, .int .i64 b1, .int .i64 b2, .int .i64 p1, .int .i64 p2, .string ky, .bool false, .int .i64 0, .int .i64 0, .string ⟨#[]⟩] 141)).drew := ⟨_, rfl⟩
    have hk3 : ∀ j, j < w.heap.size → W3.heap[j]? = w.heap[j]? := fun j hj => by
      rw [hW3]
      exact (Below.heap_alloc V _ j (by have := hV.size; omega)).trans ((hV.block j (by omega)).trans (hB0.block j hj))
    have hz3 : w.heap.size ≤ W3.heap.size := by rw [hW3]; show _ ≤ (V.alloc _).heap.size; rw [World.size_alloc]; have := hV.size; omega
    have hE3 : EN W3 V.heap.size (⟨(i1, i2), tm, (b1, b2), (p1, p2), ky⟩ : Mv) false pl0 := by rw [hW3]; exact World.alloc_heap_new V _
    have hT3 := h.same (w' := W3) hz3 (fun j hj => hk3 j (h.as_ j hj))
    have hn3 : ¬ A V.heap.size := fun e => by have := h.as_ _ e; have := hV.size; omega
    rw [← hW3]
    refine (put_any t l k gs S lg fd pl kd fl B A V.heap.size (⟨(i1, i2), tm, (b1, b2), (p1, p2), ky⟩ : Mv) W3 hT3 hE3 hn3 hf hfl (mayT_yes h2) (mayT_yes h1) hd hs hs').mono ?_
    rintro e w' ⟨e1, k', S', lg', fd', pl', kd', B', A', h5, h6⟩
    refine ⟨e1, hid ⟨V.heap.size, k', S', lg', fd', pl', kd', B', A', h5, Nat.le_trans hz3 h6.size, fun j hj hA => (h6.keep j (by omega) (fun e => ?_)).trans (hk3 j hj), fun j hj => ?_, (Sm.b hB0).trans ((Sm.b hV).trans (Sm.trans (by rw [hW3]; exact ⟨rfl, rfl, rfl⟩) h6.sm))⟩⟩
    · rcases e with e | e
      · exact hA e
      · have := hV.size; omega
    · rcases h6.new j hj with (e | e) | e
      · exact Or.inl e
      · exact Or.inr (by have := hV.size; omega)
      · exact Or.inr (by omega))
  have HW := hid hW0
  have hsz' := hid hsz
  clear hW0 hB0 hsz q0 q1 q2 htb htw h h1 h2 hlk hf hfl hd hs hs'
  go_enter Tryz.func28, Tryz.ntmps28
  go_wp2_with (first | (have hq := HB1; go_at_call 60; refine (HM2.out _ HB1.out).mono ?_; rintro e W2 ⟨rfl, HB2⟩; obtain ⟨k0, k1, k2, k3, k4, k5, k6⟩ := HC.out _ HB2.out) | (go_at_call 60; rw [← HW.out]; refine HM1.mono ?_; rintro e W1 ⟨rfl, HB1⟩; obtain ⟨j0, j1, j2, j3, j4, j5, j6⟩ := HC.out _ HB1.out))
  have hS3 : W2.drew.cell? ⟨t, 1, none⟩ = some fd ∧ W2.drew.cell? ⟨w.heap.size, 0, none⟩ = some (.int .i64 i1) ∧ W2.drew.cell? ⟨w.heap.size, 1, none⟩ = some (.int .i64 i2) ∧ (Instr.lookup 132 fd (.agg #[.int .i64 i1, .int .i64 i2]) false).run Tryz.prog W2.drew = .ok (.pointer none) W2.drew := ⟨k0, k1, k2, HL.out _ HB2.out⟩
  refine wp_region_held_drew (S := fun w' => w'.cell? ⟨t, 1, none⟩ = some fd ∧ w'.cell? ⟨w.heap.size, 0, none⟩ = some (.int .i64 i1) ∧ w'.cell? ⟨w.heap.size, 1, none⟩ = some (.int .i64 i2) ∧ (Instr.lookup 132 fd (.agg #[.int .i64 i1, .int .i64 i2]) false).run Tryz.prog w' = .ok (.pointer none) w') hmxo hS3 ?_
  intro _
  refine wpAnyH_take (i := 0) (v := .pointer (some ⟨t, 0, none⟩)) rfl (by kernel_rfl) (by kernel_rfl) (by kernel_rfl) (fun _ _ _ h => h) (Or.inl ⟨by kernel_rfl, fun w hSw => ?_⟩) hS3 ?_
  · obtain ⟨e1, e2, e3, e4⟩ := hSw; go_simp
  simp only [Act.put, List.getElem_toArray, List.getElem_cons_succ, List.getElem_cons_zero, List.setIfInBounds_toArray, List.set_cons_zero, List.set_cons_succ]
  refine wpAnyH_take (i := 1) (v := .pointer (some ⟨t, 0, none⟩)) rfl (by kernel_rfl) (by kernel_rfl) (by kernel_rfl) (fun _ _ _ h => h) (Or.inl ⟨by kernel_rfl, fun w hSw => ?_⟩) hS3 ?_
  · obtain ⟨e1, e2, e3, e4⟩ := hSw; go_simp
  simp only [Act.put, List.getElem_toArray, List.getElem_cons_succ, List.getElem_cons_zero, List.setIfInBounds_toArray, List.set_cons_zero, List.set_cons_succ]
  refine wpAnyH_take (i := 2) (v := .pointer (some ⟨t, 1, none⟩)) rfl (by kernel_rfl) (by kernel_rfl) (by kernel_rfl) (fun _ _ _ h => h) (Or.inl ⟨by kernel_rfl, fun w hSw => ?_⟩) hS3 ?_
  · obtain ⟨e1, e2, e3, e4⟩ := hSw; go_simp
  simp only [Act.put, List.getElem_toArray, List.getElem_cons_succ, List.getElem_cons_zero, List.setIfInBounds_toArray, List.set_cons_zero, List.set_cons_succ]
  refine wpAnyH_take (i := 3) (v := fd) rfl (by kernel_rfl) (by kernel_rfl) (by kernel_rfl) (fun _ _ _ h => h) (Or.inl ⟨by kernel_rfl, fun w hSw => ?_⟩) hS3 ?_
  · obtain ⟨e1, e2, e3, e4⟩ := hSw; go_simp
  simp only [Act.put, List.getElem_toArray, List.getElem_cons_succ, List.getElem_cons_zero, List.setIfInBounds_toArray, List.set_cons_zero, List.set_cons_succ]
  refine wpAnyH_take (i := 4) (v := .agg #[.int .i64 i1, .int .i64 i2]) rfl (by kernel_rfl) (by kernel_rfl) (by kernel_rfl) (fun _ _ _ h => h) (Or.inl ⟨by kernel_rfl, fun w hSw => ?_⟩) hS3 ?_
  · obtain ⟨e1, e2, e3, e4⟩ := hSw; go_simp
  simp only [Act.put, List.getElem_toArray, List.getElem_cons_succ, List.getElem_cons_zero, List.setIfInBounds_toArray, List.set_cons_zero, List.set_cons_succ]
  refine wpAnyH_take (i := 5) (v := .pointer none) rfl (by kernel_rfl) (by kernel_rfl) (by kernel_rfl) (fun _ _ _ h => h) (Or.inl ⟨by kernel_rfl, fun w hSw => ?_⟩) hS3 ?_
  · obtain ⟨e1, e2, e3, e4⟩ := hSw; go_simp
  simp only [Act.put, List.getElem_toArray, List.getElem_cons_succ, List.getElem_cons_zero, List.setIfInBounds_toArray, List.set_cons_zero, List.set_cons_succ]
  refine wpAnyH_take (i := 6) (v := .bool false) rfl (by kernel_rfl) (by kernel_rfl) (by kernel_rfl) (fun _ _ _ h => h) (Or.inl ⟨by kernel_rfl, fun w hSw => ?_⟩) hS3 ?_
  · obtain ⟨e1, e2, e3, e4⟩ := hSw; go_simp
  simp only [Act.put, List.getElem_toArray, List.getElem_cons_succ, List.getElem_cons_zero, List.setIfInBounds_toArray, List.set_cons_zero, List.set_cons_succ]
  refine wpAnyH_done (by kernel_rfl) ?_ _
  clear hS3
  go_wp2_with (go_at_call 61; refine (HP.out _ HB2.out).mono ?_; rintro e W3 ⟨rfl, HF⟩)
  go_ret
  exact ⟨rfl, HF.out⟩

/-- Move, in one form. -/
theorem move_any (t : Nat) (l : List Mv) (A : Nat → Prop) (m : Mv) (w : World) (h : TT w t l A) (hd : Dw m.id ∧ Dw m.block ∧ Dw m.parent) (hs : l.length + 1 ≤ 1000) :
    Calls Tryz.prog 28 #[.pointer (some ⟨t, 0, none⟩), dv m.id, .int .i64 m.time, dv m.block, dv m.parent, .string m.key] w fun e w' => e = .returned (.int .i64 (mvE l m)) ∧ ∃ A', TT w' t (mvL l m) A' ∧ KA w w' A A' := by
  obtain ⟨⟨i1, i2⟩, tm, ⟨b1, b2⟩, ⟨p1, p2⟩, ky⟩ := m
  have hTT := h
  obtain ⟨k, gs, S, lg, fd, pl, kd, fl, B, h1, h2, h3, h4⟩ := h
  have no : ∀ w', mvE l (⟨(i1, i2), tm, (b1, b2), (p1, p2), ky⟩ : Mv) ≠ 0 → Below w.heap.size w w' → ∃ A', TT w' t (mvL l (⟨(i1, i2), tm, (b1, b2), (p1, p2), ky⟩ : Mv)) A' ∧ KA w w' A A' := fun w' hne hb => by
    unfold mvL
    rw [if_neg hne]
    exact ⟨A, hTT.below hb, KA.below hb⟩
  by_cases hi : mayT (i1, i2) = true
  · by_cases hb : mayT (b1, b2) = true
    · rcases TT.look h1 h3 h4 hd.1 with ⟨hn, hlk⟩ | ⟨i, g, x, e1, e2, e3, hlk⟩
      · have hE : mvE l (⟨(i1, i2), tm, (b1, b2), (p1, p2), ky⟩ : Mv) = 0 := mvE_ok hi hb hn
        have hL : mvL l (⟨(i1, i2), tm, (b1, b2), (p1, p2), ky⟩ : Mv) = insL mvl l (⟨(i1, i2), tm, (b1, b2), (p1, p2), ky⟩ : Mv) := by unfold mvL; rw [if_pos hE]
        rw [hE, hL]
        refine (move_ok w l k gs S lg fd pl kd fl B A t i1 i2 tm b1 b2 p1 p2 ky h1 hi hb hlk hn (fun x hx => ?_) hd hs (by omega)).mono ?_
        · obtain ⟨i, _, e2⟩ := h4 x hx
          exact hn _ (List.mem_of_getElem? e2)
        · rintro e w' ⟨e1, ge, k', S', lg', fd', pl', kd', B', A', h5, h6⟩
          obtain ⟨h7, h8⟩ := fl_ins (m := (⟨(i1, i2), tm, (b1, b2), (p1, p2), ky⟩ : Mv)) (ge := ge) h1.len h3 h4
          exact ⟨e1, A', ⟨k', _, S', lg', fd', pl', kd', _, B', h5, by rw [List.length_append, ins_len, h2]; rfl, h7, h8⟩, h6⟩
      · have hE : mvE l (⟨(i1, i2), tm, (b1, b2), (p1, p2), ky⟩ : Mv) = 32 := mvE_twice hi hb (List.mem_of_getElem? e2) e3
        refine (move_twice w l k gs S lg fd pl kd fl B A t i1 i2 tm b1 b2 p1 p2 ky h1 hi hb g hlk).mono ?_
        rintro e w' ⟨e1, e2⟩
        exact ⟨by rw [hE]; exact e1, no w' (by omega) e2⟩
    · have hb' : mayT (b1, b2) = false := by simpa using hb
      have hE : mvE l (⟨(i1, i2), tm, (b1, b2), (p1, p2), ky⟩ : Mv) = 1 := mvE_no (Or.inr hb')
      refine (move_no2 w l k gs S lg fd pl kd fl B A t i1 i2 tm b1 b2 p1 p2 ky h1 hi hb').mono ?_
      rintro e w' ⟨e1, e2⟩
      exact ⟨by rw [hE]; exact e1, no w' (by omega) e2⟩
  · have hi' : mayT (i1, i2) = false := by simpa using hi
    have hE : mvE l (⟨(i1, i2), tm, (b1, b2), (p1, p2), ky⟩ : Mv) = 1 := mvE_no (Or.inl hi')
    refine (move_no1 w l k gs S lg fd pl kd fl B A t i1 i2 tm b1 b2 p1 p2 ky h1 hi').mono ?_
    rintro e w' ⟨e1, e2⟩
    exact ⟨by rw [hE]; exact e1, no w' (by omega) e2⟩
end

section
set_option linter.unusedVariables false
set_option linter.unusedSimpArgs false
open Go.RowKit

/-- now, of a tree as its users see it. -/
theorem now_tt {t : Nat} {l : List Mv} {A : Nat → Prop} {w : World} (h : TT w t l A) :
    Calls Tryz.prog 55 #[.pointer (some ⟨t, 0, none⟩)] w fun e w' => e = .returned (.pointer (some ⟨t, 3, none⟩)) ∧ ∃ gs S lg fd pl kd fl B A', TR w' t l l.length gs S lg fd pl kd fl B A' ∧ fl.length = l.length ∧ (∀ (i g : Nat) (m : Mv), gs[i]? = some g → l[i]? = some m → (m, g) ∈ fl) ∧ (∀ x ∈ fl, ∃ i : Nat, gs[i]? = some x.2 ∧ l[i]? = some x.1) ∧ KA w w' A A' := by
  obtain ⟨k, gs, S, lg, fd, pl, kd, fl, B, h1, h2, h3, h4⟩ := h
  refine (now_any t l k gs S lg fd pl kd fl B A w h1).mono ?_
  rintro e w' ⟨e1, S', pl', kd', B', A', h5, h6⟩
  exact ⟨e1, gs, S', lg, fd, pl', kd', fl, B', A', h5, h2, h3, h4, h6⟩

theorem TR.tt {w : World} {t : Nat} {l : List Mv} {k : Nat} {gs : List Nat} {S : List Sp} {lg fd pl kd : Value} {fl : List (Mv × Nat)} {B A : Nat → Prop} (h : TR w t l k gs S lg fd pl kd fl B A) (h2 : fl.length = l.length) (h3 : ∀ (i g : Nat) (m : Mv), gs[i]? = some g → l[i]? = some m → (m, g) ∈ fl) (h4 : ∀ x ∈ fl, ∃ i : Nat, gs[i]? = some x.2 ∧ l[i]? = some x.1) : TT w t l A := ⟨k, gs, S, lg, fd, pl, kd, fl, B, h, h2, h3, h4⟩

theorem TR.lk_run {w : World} {t : Nat} {l : List Mv} {gs : List Nat} {S : List Sp} {lg fd pl kd : Value} {fl : List (Mv × Nat)} {B A : Nat → Prop} (h : TR w t l l.length gs S lg fd pl kd fl B A) : S.Perm (run l) ∧ (∀ d, lk S d = lk (run l) d) ∧ (∀ p, kidB S p = kidB (run l) p) ∧ (∀ d, pth S d = pth (run l) d) := by
  have hp := h.perm
  rw [List.take_length] at hp
  obtain ⟨r, hr⟩ := h.tk
  exact ⟨hp, lk_perm hr.nd hp, fun p => by unfold kidB; rw [kidS_perm hr.nd hp p], hr.pth_perm hp⟩

theorem KA.pre {w V X : World} {A A' : Nat → Prop} (hA : ∀ j, A j → j < w.heap.size) (hb : Below w.heap.size w V) (h : KA V X A A') : KA w X A A' :=
  (KA.below (A := A) hb).trans h
theorem KA.post {w V X : World} {A A' : Nat → Prop} (h : KA w V A A') (hb : Below V.heap.size V X) : KA w X A A' := h.trans (KA.below (A := A') hb)

theorem new_tt (w : World) : Calls Tryz.prog 27 #[] w fun e w' => e = .returned (.pointer (some ⟨w.heap.size, 0, none⟩)) ∧ TT w' w.heap.size [] (fun j => j = w.heap.size) ∧ Below w.heap.size w w' := by
  have hb : Below w.heap.size w (w.alloc (.cells #[.slice none 0 0, .map none, .int .i64 0, .map none, .map none] 134)) := (Below.refl _ w).alloc (Nat.le_refl _) _
  have hn : (w.alloc (.cells #[.slice none 0 0, .map none, .int .i64 0, .map none, .map none] 134)).heap[w.heap.size]? = some (.cells #[.slice none 0 0, .map none, .int .i64 0, .map none, .map none] 134 (0, 0)) := World.alloc_heap_new w _
  have HF : Hid (TT (w.alloc (.cells #[.slice none 0 0, .map none, .int .i64 0, .map none, .map none] 134)) w.heap.size [] (fun j => j = w.heap.size)) := hid
    ⟨0, [], [], .slice none 0 0, .map none, .map none, .map none, [], fun _ => False, ⟨hn, World.ownsRow_nil _ _ _ _, rfl, List.nodup_nil, fun i g m h1 h2 => by simp at h1, Nat.le_refl _, Or.inl ⟨rfl, rfl, rfl⟩, List.Perm.refl _, Lg.nil, by simp, fun j hj => hj.elim, fun hj => hj, fun g hg => by simp at hg, fun j hj => by simp [Value.ownBlock] at hj, Or.inl ⟨rfl, rfl⟩, by simp, fun j hj => hj.elim, rfl, fun g hg => by simp at hg, fun j hj => by simp [Value.ownBlock] at hj, fun j hj => by subst hj; simp⟩, rfl, fun i g m h1 h2 => by simp at h1, by simp⟩
  have HB := hid hb
  clear hb hn
  go_enter Tryz.func27, Tryz.ntmps27
  go_wp2
  go_ret
  exact ⟨rfl, HF.out, HB.out⟩
end
end Go.Proofs.YtnmdcdphpcpojaaGreatDoor
