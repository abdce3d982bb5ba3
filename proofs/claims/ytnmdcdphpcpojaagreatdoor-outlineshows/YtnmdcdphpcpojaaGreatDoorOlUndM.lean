/- Under: what is kept while lines come. -/
import Derived.Test.YtnmdcdphpcpojaaGreatDoorOlShelfP
import Derived.Test.YtnmdcdphpcpojaaGreatDoorTrDoM
import Derived.Test.YtnmdcdphpcpojaaGreatDoorMMap
import Derived.Sort.MapsRangeIn
import Derived.Laws.IdiomRangeMap
import Derived.WalkKit
import Derived.WalkSpells
import Derived.WalkLawsBesides
import Derived.Sort.OwnSorted
import Derived.Shelf.SlSortCmp.WholeK
import Derived.Test.YtnmdcdphpcpojaaGreatDoorProg
import Derived.Test.YtnmdcdphpcpojaaGreatDoorOParts
import Derived.Test.YtnmdcdphpcpojaaGreatDoorOlSmall
namespace Go.Proofs.YtnmdcdphpcpojaaGreatDoor
section
set_option linter.unusedVariables false
open Go.RowKit

/-- A tree of these moves; the blocks of which P holds are none of its own. -/
def TP (W : World) (t : Nat) (l : List Mv) (P : Nat → Prop) : Prop := ∃ A, TT W t l A ∧ ∀ j, P j → ¬ A j ∧ j < W.heap.size

/-- Blocks of which P holds are as they were. -/
structure KP (P : Nat → Prop) (W W' : World) : Prop where
  size : W.heap.size ≤ W'.heap.size
  keep : ∀ j, P j → W'.heap[j]? = W.heap[j]?
  sm : Sm W W'

theorem KP.refl (P : Nat → Prop) (W : World) : KP P W W := ⟨Nat.le_refl _, fun _ _ => rfl, Sm.refl _⟩
theorem KP.trans {P : Nat → Prop} {a b c : World} (h : KP P a b) (k : KP P b c) : KP P a c := ⟨Nat.le_trans h.size k.size, fun j hj => (k.keep j hj).trans (h.keep j hj), h.sm.trans k.sm⟩
theorem KP.mono {P Q : Nat → Prop} {a b : World} (h : KP P a b) (hq : ∀ j, Q j → P j) : KP Q a b := ⟨h.size, fun j hj => h.keep j (hq j hj), h.sm⟩
theorem KP.below {P : Nat → Prop} {a b : World} (h : Below a.heap.size a b) (hp : ∀ j, P j → j < a.heap.size) : KP P a b := ⟨h.size, fun j hj => h.block j (hp j hj), Sm.b h⟩
theorem KP.bel {a b : World} {n : Nat} (h : KP (fun j => j < n) a b) : Below n a b := ⟨h.sm.1, h.sm.2.1, h.sm.2.2, h.size, fun j hj => h.keep j hj⟩
theorem KP.drew {P : Nat → Prop} {a b : World} (h : KP P a b) : KP P a b.drew := ⟨h.size, h.keep, h.sm⟩

theorem TP.lt {W : World} {t : Nat} {l : List Mv} {P : Nat → Prop} (h : TP W t l P) : ∀ j, P j → j < W.heap.size := by
  obtain ⟨A, _, hA⟩ := h
  exact fun j hj => (hA j hj).2
theorem TP.log {W : World} {t : Nat} {l : List Mv} {P : Nat → Prop} (h : TP W t l P) : Lg l ∧ (∀ m ∈ l, Dw m.id ∧ Dw m.block ∧ Dw m.parent) ∧ l.length ≤ 1000 := by
  obtain ⟨A, h, _⟩ := h
  exact h.log
theorem TP.mono {W : World} {t : Nat} {l : List Mv} {P Q : Nat → Prop} (h : TP W t l P) (hq : ∀ j, Q j → P j) : TP W t l Q := by
  obtain ⟨A, h1, h2⟩ := h
  exact ⟨A, h1, fun j hj => h2 j (hq j hj)⟩

/-- Blocks that are none of the tree's may turn, and there may be new ones. -/
theorem TP.turn {W V : World} {t : Nat} {l : List Mv} {P Q : Nat → Prop} (h : TP W t l P) (hz : W.heap.size ≤ V.heap.size) (hk : ∀ j, j < W.heap.size → ¬ P j → V.heap[j]? = W.heap[j]?) (hq : ∀ j, Q j → P j ∨ (W.heap.size ≤ j ∧ j < V.heap.size)) : TP V t l Q := by
  obtain ⟨A, h1, h2⟩ := h
  refine ⟨A, h1.same hz (fun j hj => hk j (h1.lt j hj) (fun e => (h2 j e).1 hj)), fun j hj => ?_⟩
  rcases hq j hj with e | e
  · exact ⟨(h2 j e).1, Nat.lt_of_lt_of_le (h2 j e).2 hz⟩
  · exact ⟨fun e' => absurd (h1.lt j e') (by omega), e.2⟩
theorem TP.below {W V : World} {t : Nat} {l : List Mv} {P : Nat → Prop} (h : TP W t l P) (hb : Below W.heap.size W V) : TP V t l P := h.turn hb.size (fun j hj _ => hb.block j hj) (fun j hj => Or.inl hj)
theorem TP.alloc {W : World} {t : Nat} {l : List Mv} {P : Nat → Prop} (h : TP W t l P) (o : Obj) : TP (W.alloc o) t l (fun j => P j ∨ j = W.heap.size) :=
  h.turn (by simp) (fun j hj _ => Below.heap_alloc W o j hj) (fun j hj => hj.imp id (fun e => by subst e; simp))
theorem TP.drew {W : World} {t : Nat} {l : List Mv} {P : Nat → Prop} (h : TP W t l P) : TP W.drew t l P := h.turn (Nat.le_refl _) (fun j _ _ => rfl) (fun j hj => Or.inl hj)

theorem foreign {W W' : World} {A A' : Nat → Prop} (h : KA W W' A A') {j : Nat} (hj : ¬ A j ∧ j < W.heap.size) : ¬ A' j ∧ j < W'.heap.size :=
  ⟨fun e => by
    rcases h.new j e with e | e
    · exact hj.1 e
    · omega, Nat.lt_of_lt_of_le hj.2 h.size⟩

theorem TP.next {W W' : World} {t : Nat} {l' : List Mv} {A A' P : Nat → Prop} (hA : ∀ j, P j → ¬ A j ∧ j < W.heap.size) (h2 : TT W' t l' A') (h3 : KA W W' A A') : TP W' t l' P ∧ KP P W W' :=
  ⟨⟨A', h2, fun j hj => foreign h3 (hA j hj)⟩, ⟨h3.size, fun j hj => h3.keep j (hA j hj).2 (hA j hj).1, h3.sm⟩⟩

theorem new_tp (w : World) : Calls Tryz.prog 27 #[] w fun e w' => e = .returned (.pointer (some ⟨w.heap.size, 0, none⟩)) ∧ TP w' w.heap.size [] (fun j => j < w.heap.size) ∧ Below w.heap.size w w' :=
  (new_tt w).mono (fun e w' h => ⟨h.1, ⟨_, h.2.1, fun j hj => ⟨by omega, Nat.lt_of_lt_of_le hj h.2.2.size⟩⟩, h.2.2⟩)

theorem move_tp {t : Nat} {l : List Mv} {P : Nat → Prop} (m : Mv) {W : World} (h : TP W t l P) (hd : Dw m.id ∧ Dw m.block ∧ Dw m.parent) (hs : l.length + 1 ≤ 1000) : Calls Tryz.prog 28 #[.pointer (some ⟨t, 0, none⟩), dv m.id, .int .i64 m.time, dv m.block, dv m.parent, .string m.key] W fun e W' => e = .returned (.int .i64 (mvE l m)) ∧ TP W' t (mvL l m) P ∧ KP P W W' := by
  obtain ⟨A, hT, hA⟩ := h
  refine (move_any t l A m W hT hd hs).mono ?_
  rintro e W' ⟨e1, A', h2, h3⟩
  exact ⟨e1, TP.next hA h2 h3⟩
end

section
set_option linter.unusedVariables false

/-- The blocks under one, in their order. -/
def kidD (S : List Sp) (p : Dt) : List Dt := (kidS S p).map Sp.b

/-- The lines under a block: which, how deep, its text. -/
def undF (S : List Sp) (σ : Dt → List UInt8) : Nat → Dt → Nat → List (Dt × Nat × List UInt8)
  | 0, _, _ => []
  | f + 1, p, d => (kidD S p).flatMap (fun b => (b, d, σ b) :: undF S σ f b (d + 1))

/-- How many blocks are deeper. -/
def bel (S : List Sp) (r : Dt → Nat) (p : Dt) : Nat := S.countP (fun s => decide (r p < r s.b))

theorem bel_le (S : List Sp) (r : Dt → Nat) (p : Dt) : bel S r p ≤ S.length := List.countP_le_length

theorem count_lt {α : Type} (P Q : α → Bool) : ∀ (l : List α), (∀ x ∈ l, P x = true → Q x = true) → ∀ s ∈ l, Q s = true → P s = false → l.countP P < l.countP Q
  | [], _, s, hs, _, _ => by simp at hs
  | a :: l, h, s, hs, hq, hp => by
    have hle : l.countP P ≤ l.countP Q := by
      have : ∀ l : List α, (∀ x ∈ l, P x = true → Q x = true) → l.countP P ≤ l.countP Q := by
        intro l
        induction l with
        | nil => intro _; simp
        | cons b l ih =>
          intro h
          have h1 := ih (fun x hx => h x (by simp [hx]))
          have h2 := h b (by simp)
          rw [List.countP_cons, List.countP_cons]
          by_cases e : P b = true
          · simp [e, h2 e]; exact h1
          · simp [e]; omega
      exact this l (fun x hx => h x (by simp [hx]))
    rw [List.countP_cons, List.countP_cons]
    rcases List.mem_cons.1 hs with rfl | hs
    · simp [hq, hp]; omega
    · have ih := count_lt P Q l (fun x hx => h x (by simp [hx])) s hs hq hp
      have h2 := h a (by simp)
      by_cases e : P a = true
      · simp [e, h2 e]; exact ih
      · simp [e]; omega

theorem bel_lt {S : List Sp} {r : Dt → Nat} (h : Tk S r) {s : Sp} (hs : s ∈ S) : bel S r s.b < bel S r s.p := by
  have hr := h.rk s hs
  refine count_lt _ _ S (fun x _ hx => ?_) s hs (by simpa using hr) (by simp)
  simp at hx ⊢
  omega

theorem kidD_mem {S : List Sp} (h : (S.map Sp.b).Nodup) {p b : Dt} : b ∈ kidD S p ↔ ∃ k, lk S b = some (p, k) := by
  unfold kidD
  rw [List.mem_map]
  constructor
  · rintro ⟨s, hs, rfl⟩
    obtain ⟨h1, rfl⟩ := (kidS_mem h).1 hs
    exact ⟨s.k, lk_mem h h1⟩
  · rintro ⟨k, hk⟩
    obtain ⟨s, hs, rfl, e⟩ := lk_some hk
    exact ⟨s, (kidS_mem h).2 ⟨hs, congrArg Prod.fst e⟩, rfl⟩

theorem kidD_bel {S : List Sp} {r : Dt → Nat} (h : Tk S r) {p b : Dt} (hb : b ∈ kidD S p) : bel S r b < bel S r p ∧ r p < r b ∧ b ∈ S.map Sp.b := by
  obtain ⟨k, hk⟩ := (kidD_mem h.nd).1 hb
  obtain ⟨s, hs, rfl, e⟩ := lk_some hk
  have e1 : s.p = p := congrArg Prod.fst e
  subst e1
  exact ⟨bel_lt h hs, h.rk s hs, List.mem_map.2 ⟨s, hs, rfl⟩⟩

theorem kidD_pth {S : List Sp} {r : Dt → Nat} (h : Tk S r) {p b : Dt} (hb : b ∈ kidD S p) : pth S b = p :: pth S p := by
  obtain ⟨k, hk⟩ := (kidD_mem h.nd).1 hb
  exact h.pth_some hk

theorem kidD_nodup {S : List Sp} (h : (S.map Sp.b).Nodup) (p : Dt) : (kidD S p).Nodup := kidS_nodup h p

theorem pth_cases {S : List Sp} {r : Dt → Nat} (h : Tk S r) (x : Dt) : pth S x = [] ∨ ∃ q k, lk S x = some (q, k) ∧ pth S x = q :: pth S q ∧ r q < r x := by
  cases e : lk S x with
  | none => exact Or.inl (Tk.pth_none e)
  | some q =>
    obtain ⟨s, hs, rfl, rfl⟩ := lk_some e
    exact Or.inr ⟨s.p, s.k, rfl, h.pth_some e, h.rk s hs⟩

theorem pth_sub {S : List Sp} {r : Dt → Nat} (h : Tk S r) : ∀ (n : Nat) (x b : Dt), r x ≤ n → b ∈ pth S x → ∀ y ∈ pth S b, y ∈ pth S x := by
  intro n
  induction n with
  | zero =>
    intro x b hn hb y hy
    rcases pth_cases h x with e | ⟨q, k, _, e, hr⟩
    · rw [e] at hb; simp at hb
    · omega
  | succ n ih =>
    intro x b hn hb y hy
    rcases pth_cases h x with e | ⟨q, k, _, e, hr⟩
    · rw [e] at hb; simp at hb
    · rw [e] at hb ⊢
      rcases List.mem_cons.1 hb with rfl | hb
      · exact List.mem_cons_of_mem _ hy
      · exact List.mem_cons_of_mem _ (ih q b (by omega) hb y hy)

theorem pth_lt {S : List Sp} {r : Dt → Nat} (h : Tk S r) {x y : Dt} (hy : y ∈ pth S x) : r y < r x := h.pth_rk _ _ y hy

/-- Of two that lie under one, at most one is above a third one. -/
theorem one_kid {S : List Sp} {r : Dt → Nat} (h : Tk S r) {p : Dt} {b c : Dt} (hb : b ∈ kidD S p) (hc : c ∈ kidD S p) : ∀ (n : Nat) (x : Dt), r x ≤ n → (x = b ∨ b ∈ pth S x) → (x = c ∨ c ∈ pth S x) → b = c := by
  have key : ∀ x y, x ∈ kidD S p → y ∈ kidD S p → y ∉ pth S x := by
    intro x y hx hy e
    rw [kidD_pth h hx] at e
    have h1 := (kidD_bel h hy).2.1
    rcases List.mem_cons.1 e with rfl | e
    · omega
    · have := pth_lt h e
      omega
  intro n
  induction n with
  | zero =>
    intro x hn h1 h2
    have hno : ∀ y, y ∉ pth S x := fun y hy => by have := pth_lt h hy; omega
    rcases h1 with rfl | h1
    · rcases h2 with rfl | h2
      · rfl
      · exact absurd h2 (hno _)
    · exact absurd h1 (hno _)
  | succ n ih =>
    intro x hn h1 h2
    rcases h1 with rfl | h1
    · rcases h2 with rfl | h2
      · rfl
      · exact absurd h2 (key _ _ hb hc)
    · rcases h2 with rfl | h2
      · exact absurd h1 (key _ _ hc hb)
      · rcases pth_cases h x with e | ⟨q, k, _, e, hr⟩
        · rw [e] at h1; simp at h1
        · rw [e] at h1 h2
          exact ih q (by omega) ((List.mem_cons.1 h1).imp Eq.symm id) ((List.mem_cons.1 h2).imp Eq.symm id)

theorem und_mem_succ {S : List Sp} {σ : Dt → List UInt8} {f : Nat} {p : Dt} {d : Nat} {y : Dt × Nat × List UInt8} : y ∈ undF S σ (f + 1) p d ↔ ∃ b ∈ kidD S p, y = (b, d, σ b) ∨ y ∈ undF S σ f b (d + 1) := by
  show y ∈ (kidD S p).flatMap _ ↔ _
  rw [List.mem_flatMap]
  constructor
  · rintro ⟨b, hb, hy⟩
    exact ⟨b, hb, List.mem_cons.1 hy⟩
  · rintro ⟨b, hb, hy⟩
    exact ⟨b, hb, List.mem_cons.2 hy⟩

/-- What is told of a line: its text, that it lies under p, how deep. -/
theorem und_facts {S : List Sp} {r : Dt → Nat} (h : Tk S r) (σ : Dt → List UInt8) : ∀ (f : Nat) (p : Dt) (d : Nat), ∀ y ∈ undF S σ f p d, y.2.2 = σ y.1 ∧ p ∈ pth S y.1 ∧ y.1 ∈ S.map Sp.b ∧ d ≤ y.2.1 ∧ (pth S y.1).length = (pth S p).length + (y.2.1 - d) + 1
  | 0, _, _, y, hy => by simp [undF] at hy
  | f + 1, p, d, y, hy => by
    obtain ⟨b, hb, hy⟩ := und_mem_succ.1 hy
    have hp := kidD_pth h hb
    rcases hy with rfl | hy
    · refine ⟨rfl, ?_, (kidD_bel h hb).2.2, Nat.le_refl _, ?_⟩
      · show p ∈ pth S b; rw [hp]; simp
      · show (pth S b).length = _; rw [hp]; simp
    · obtain ⟨h1, h2, h3, h4, h5⟩ := und_facts h σ f b (d + 1) y hy
      refine ⟨h1, pth_sub h _ _ _ (Nat.le_refl _) h2 p (by rw [hp]; simp), h3, by omega, ?_⟩
      rw [h5, hp, List.length_cons]
      omega

theorem und_nodup {S : List Sp} {r : Dt → Nat} (h : Tk S r) (σ : Dt → List UInt8) : ∀ (f : Nat) (p : Dt) (d : Nat), ((undF S σ f p d).map (·.1)).Nodup
  | 0, _, _ => List.nodup_nil
  | f + 1, p, d => by
    show (((kidD S p).flatMap _).map _).Nodup
    rw [List.map_flatMap]
    unfold List.Nodup
    rw [List.pairwise_flatMap]
    refine ⟨fun b hb => ?_, ?_⟩
    · rw [List.map_cons]
      show List.Nodup _
      rw [List.nodup_cons]
      refine ⟨fun hm => ?_, und_nodup h σ f b (d + 1)⟩
      obtain ⟨y, hy, e⟩ := List.mem_map.1 hm
      have h2 := pth_lt h (und_facts h σ f b (d + 1) y hy).2.1
      rw [e] at h2
      exact Nat.lt_irrefl _ h2
    · have hsib : ∀ b ∈ kidD S p, ∀ c ∈ kidD S p, b ≠ c → ∀ x ∈ List.map (·.1) ((b, d, σ b) :: undF S σ f b (d + 1)), ∀ y ∈ List.map (·.1) ((c, d, σ c) :: undF S σ f c (d + 1)), x ≠ y := by
        intro b hb c hc hne x hx y hy e
        subst e
        have up : ∀ b ∈ kidD S p, x ∈ List.map (·.1) ((b, d, σ b) :: undF S σ f b (d + 1)) → x = b ∨ b ∈ pth S x := by
          intro b hb hx
          obtain ⟨z, hz, rfl⟩ := List.mem_map.1 hx
          rcases List.mem_cons.1 hz with rfl | hz
          · exact Or.inl rfl
          · exact Or.inr (und_facts h σ f b (d + 1) z hz).2.1
        exact hne (one_kid h hb hc _ x (Nat.le_refl _) (up b hb hx) (up c hc hy))
      have hnd := kidD_nodup h.nd p
      unfold List.Nodup at hnd
      exact hnd.imp_of_mem (fun {a b} ha hb hne => hsib a ha b hb hne)

theorem und_len {S : List Sp} {r : Dt → Nat} (h : Tk S r) (σ : Dt → List UInt8) (f : Nat) (p : Dt) (d : Nat) : (undF S σ f p d).length ≤ S.length := by
  have := List.Nodup.length_le_of_subset (und_nodup h σ f p d) (l₂ := S.map Sp.b) (fun x hx => by
    obtain ⟨y, hy, rfl⟩ := List.mem_map.1 hx
    exact (und_facts h σ f p d y hy).2.2.1)
  simpa using this
end

section
set_option linter.unusedVariables false
open Go.RowKit Go.Shelf

attribute [local go_sem] Oper.semAt_some

/-- A char as a rune. -/
def codeI (c : Int) : Int := if c < 0 ∨ 1114111 < c then 65533 else c

theorem codeI_lo (c : Int) : -2147483648 ≤ codeI c ∧ codeI c ≤ 2147483647 := by
  unfold codeI
  split <;> omega

set_option maxHeartbeats 1000000 in
theorem code_any (c : Int) (w : World) (hc : -9223372036854775808 ≤ c ∧ c ≤ 9223372036854775807) : Calls Tryz.prog 77 #[.int .i64 c] w fun e w' => e = .returned (.int .i32 (codeI c)) ∧ w = w' := by
  by_cases h1 : c < 0
  · have b1 : decide (c < 0) = true := by simp [h1]
    have he : codeI c = 65533 := by unfold codeI; rw [if_pos (Or.inl h1)]
    rw [he]
    go_enter Tryz.func77, Tryz.ntmps77
    go_wp2
    go_ret
    exact ⟨rfl, rfl⟩
  · have b1 : decide (c < 0) = false := by simp; omega
    by_cases h2 : 1114111 < c
    · have b2 : decide (1114111 < c) = true := by simp [h2]
      have he : codeI c = 65533 := by unfold codeI; rw [if_pos (Or.inr h2)]
      rw [he]
      go_enter Tryz.func77, Tryz.ntmps77
      go_wp2
      go_ret
      exact ⟨rfl, rfl⟩
    · have b2 : decide (1114111 < c) = false := by simp; omega
      have he : codeI c = c := by unfold codeI; rw [if_neg (by omega)]
      have hw : IntKind.i32.wrap c = c := by simp [IntKind.wrap, IntKind.bits, IntKind.signed]; omega
      rw [he]
      clear he
      go_enter Tryz.func77, Tryz.ntmps77
      go_wp2
      go_ret
      exact ⟨rfl, rfl⟩

/-- A text's bytes. -/
def strB (L : List Cr) : List UInt8 := L.flatMap (fun c => Lib.encodeRune (codeI c.ch))

theorem byteCells_app (a b : List UInt8) : Lib.byteCells (a ++ b) = Lib.byteCells a ++ Lib.byteCells b := by simp [Lib.byteCells]

theorem strB_snoc (L : List Cr) (c : Cr) : Lib.byteCells (strB (L ++ [c])) = Lib.byteCells (strB L) ++ Lib.runeCells (codeI c.ch) := by
  unfold strB
  rw [List.flatMap_append, byteCells_app, ← Lib.byteCells_encodeRune]
  simp

theorem encodeRune_le (r : Int) : (Lib.encodeRune r).length ≤ 4 := by
  have h := Lib.runeCells_le r
  have : (Lib.runeCells r).length = (Lib.encodeRune r).length := by simp [Lib.runeCells, Lib.encodeRune]
  omega

theorem strB_len (L : List Cr) : (strB L).length ≤ 4 * L.length := by
  unfold strB
  induction L with
  | nil => simp
  | cons a r ih =>
    have := encodeRune_le (codeI a.ch)
    simp only [List.flatMap_cons, List.length_append, List.length_cons]
    omega

theorem bld_own {X Y : World} {row : Option Nat} {B b B₀ : Nat} {bs : List Value} (h : Bld B b bs X) (hg : X.grownBy Y row) (hr : ∀ r, row = some r → B₀ ≤ r ∧ ∃ o : Obj, X.heap[r]? = some o ∧ o.isCells = false) : Bld B b bs Y := by
  have one : ∀ p, Lib.BuilderAtF 93 5 B b p bs X → Lib.BuilderAtF 93 5 B b p bs Y := fun p ⟨h1, v, h2, h3, h4⟩ => by
    refine ⟨h1, v, ?_, ?_, h4⟩
    · refine (hg.block b (Array.getElem?_eq_some_iff.1 h2).1 (fun e => ?_)).trans h2
      obtain ⟨_, o, ho, hc⟩ := hr b e.symm
      rw [h2] at ho
      cases ho
      cases hc
    · refine h3.kept hg ?_
      cases hb : v.ownBlock with
      | none => exact Or.inl rfl
      | some g =>
        right
        intro e
        obtain ⟨c, fz, hk⟩ := Lib.ownsRowF_kind h3 g hb
        obtain ⟨_, o, ho, hc⟩ := hr g e.symm
        rw [hk] at ho
        cases ho
        cases hc
  rcases h with h | h
  · exact Or.inl (one _ h)
  · exact Or.inr (one _ h)

theorem others_kt {n₀ b : Nat} {W W' : World} {cs : Array Value} (hb : W.heap[b]? = some (.cells cs 93 (0, 0))) (ho : Lib.OthersKept 5 (some b) W W') (hl : Below n₀ W W') : KT n₀ W W' :=
  ⟨hl.size, fun k hk => hl.block k hk, fun k c ty fz hty hk => ho k _ hk (fun e => by
    cases e
    rw [hb] at hk
    cases hk
    rcases hty with h | h <;> exact absurd h (by decide)) (fun c' fz' e => by
    cases e
    rcases hty with h | h <;> exact absurd h (by decide))⟩

theorem others_keeps {B₀ b : Nat} {n₀ : Nat} {W W' : World} {cs : Array Value} (hb : W.heap[b]? = some (.cells cs 93 (0, 0))) (ho : Lib.OthersKept 5 (some b) W W') (hl : Below n₀ W W') : KeepsFrom B₀ W W' :=
  ⟨hl.size, fun k o _ hk hc => ho k o hk (fun e => by
    cases e
    rw [hb] at hk
    cases hk
    cases hc) (fun c fz e => by
    subst e
    cases hc)⟩

theorem Bld.block {B b : Nat} {bs : List Value} {w : World} (h : Bld B b bs w) : ∃ cs, w.heap[b]? = some (.cells cs 93 (0, 0)) := by
  rcases h with ⟨_, v, h, _⟩ | ⟨_, v, h, _⟩
  · exact ⟨_, h⟩
  · exact ⟨_, h⟩

set_option maxRecDepth 100000 in
set_option maxHeartbeats 4000000 in
theorem string_of {w : World} {v : Value} {L : List Cr} {G : Dt → Option Nat} {N : Nat} (hs : SeqL 75 v L G N w) (hr : RdC w L G) (hch : ∀ c ∈ L, -9223372036854775808 ≤ c.ch ∧ c.ch ≤ 9223372036854775807) (hN : N ≤ 1000000) : Calls Tryz.prog 42 #[v] w fun e w' => e = .returned (.string ⟨(strB L).toArray⟩) ∧ Below w.heap.size w w' := by
  refine (callsIn_wide (n := 3)).1 ?_
  refine callsIn_of_wp_marks Tryz.func42 rfl trivial ?_ rfl
  simp only [Tryz.ntmps42, List.size_toArray, List.length_cons, List.length_nil, Nat.reduceAdd, Nat.reduceSub, Array.replicate_succ, Array.replicate_zero, List.push_toArray, List.append_toArray, List.nil_append, List.cons_append]
  gi_wp2
  obtain ⟨W0, hW0⟩ : ∃ W0, W0 = w.alloc (.cells #[.pointer none, .slice none 0 0] 93) := ⟨_, rfl⟩
  have hsz : W0.heap.size = w.heap.size + 1 := by rw [hW0]; simp
  have hbox : Bld w.heap.size w.heap.size [] W0 := by
    rw [hW0]
    exact Or.inl ⟨Nat.le_refl _, .slice none 0 0, World.alloc_heap_new _ _, World.ownsRowF_nil _ _ _ _, by simp [Value.ownBlock]⟩
  have hB0 : Below w.heap.size w W0 := by rw [hW0]; exact (Below.refl _ w).alloc (Nat.le_refl _) _
  rw [← hW0]
  clear hW0
  refine range_method (α := El L) (gf := 75) (fs := #[v]) rfl (enters_of Tryz.func75 (by kernel_rfl) rfl) (hs _) (fun h k => h.trans k) (fun W l o o' hl ho hc _ => KT.put W l o o' (by omega) ho hc) hB0 (fun _ => rfl)
    (fun pre W => Bld w.heap.size w.heap.size (Lib.byteCells (strB (pre.map (·.1)))) W ∧ Below w.heap.size w W)
    (fun _ _ _ => False) ?own (fun _ _ _ _ _ h _ _ => h) ⟨hbox, hB0⟩
    (fun x => { tmps := #[v, undef, .string ⟨#[]⟩, .pointer (some ⟨w.heap.size, 0, none⟩), pvFc ((G x.1.id).getD 0), v, .func (.func 75) #[v] #[], pvFc ((G x.1.id).getD 0), undef, undef, undef, undef, undef, undef, undef], defers := [] }) ?assign ?body ?done (fun _ _ _ _ _ _ h _ => h.elim)
  case own =>
    rintro s A B row ⟨h1, h2⟩ hg hrow
    exact ⟨bld_own h1 hg hrow, below_own h2 (by omega) hg hrow⟩
  case assign =>
    intro l x W K hK
    unfold encC
    gi_wp2
    first | exact hK | simpa using hK
  case body =>
    rintro l' pre x W1 ⟨h1, h2⟩ hlen
    obtain ⟨g, lv, rv, hG, hg, hblk⟩ := hr x.1 x.2
    have hgW : W1.heap[g]? = _ := (h2.block g hg).trans hblk
    have hgd : pvFc ((G x.1.id).getD 0) = .pointer (some ⟨g, 0, none⟩) := by rw [hG]; rfl
    rw [hgd]
    have c2 : W1.cell? ⟨g, 2, none⟩ = some (.int .i64 x.1.ch) := by simp [World.cell?, hgW, Cr.cells]
    have hcode := code_any x.1.ch W1 (hch x.1 x.2)
    have hsl := strB_len (pre.map (·.1))
    rw [List.length_map] at hsl
    have hcr := codeI_lo x.1.ch
    have hwr := write_rune w.heap.size w.heap.size _ (codeI x.1.ch) hcr.1 hcr.2 W1 h1 (by rw [Lib.byteCells_length]; omega) h2.size
    obtain ⟨cs, hbb⟩ := Bld.block h1
    have hwr' : Calls Tryz.prog 76 #[.pointer (some ⟨w.heap.size, 0, none⟩), .int .i32 (codeI x.1.ch)] W1 fun e w' => ∃ k, e = .returned (.tuple #[.int .i64 k, .nilIface]) ∧ Hid (KeepsFrom W0.heap.size W1 w' ∧ KT w.heap.size W1 w' ∧ Bld w.heap.size w.heap.size (Lib.byteCells (strB ((pre ++ [x]).map (·.1)))) w' ∧ Below w.heap.size w w') := hwr.mono (fun e w' ⟨he, ha, hb, ho⟩ => by
      refine ⟨_, he, hid ⟨others_keeps hbb ho hb, others_kt hbb ho hb, Or.inr ?_, h2.trans hb⟩⟩
      rw [List.map_append, List.map_cons, List.map_nil, strB_snoc]
      exact ha)
    clear hwr h1 h2 hbb hsl hcr
    obtain ⟨cr, hcrn⟩ : ∃ cr, cr = codeI x.1.ch := ⟨_, rfl⟩
    rw [← hcrn] at hcode hwr'
    clear hcrn
    gi_wp2_with (first
      | (refine ⟨trivial, ?_⟩; gi_at_call 77; refine (CallsIn.inRound l' (callsIn_wide.2 hcode)).mono ?_; rintro e w' ⟨rfl, rfl⟩)
      | (refine ⟨trivial, ?_⟩; gi_at_call 76; refine (CallsIn.inRound l' (callsIn_wide.2 hwr')).mono ?_; rintro e w' ⟨k, rfl, hend⟩))
    exact hend.out
  case done =>
    rintro D ys W1 hD hS ⟨h1, h2⟩ hK
    have hstr := bld_string w.heap.size w.heap.size _ W1 h1 h2.size
    have hys : strB (ys.map (·.1)) = strB L := by rw [hS]
    rw [hys] at hstr
    have hDb : D ≠ w.heap.size := by omega
    have hstr' : Calls Tryz.prog 49 #[.pointer (some ⟨w.heap.size, 0, none⟩)] W1 fun e w' => e = .returned (.string ⟨(strB L).toArray⟩) ∧ w'.heap[D]? = some (.deferred (some [])) ∧ Hid (Below w.heap.size w w') := hstr.mono (fun e w' ⟨he, _, hb, ho⟩ => ⟨he, ho D _ hK (fun e => hDb (by simpa using e)) (fun c fz e => by cases e), hid (h2.trans hb)⟩)
    clear h1 h2 hstr hys hK
    gi_wp2_with (refine ⟨trivial, ?_⟩; gi_at_call 49; refine (callsIn_wide.2 hstr').mono ?_; rintro e w' ⟨rfl, hK, hbH⟩)
    refine ⟨by simp, .inl ⟨_, _, rfl, run_takeDeferred hK, ?_⟩⟩
    exact ⟨_, results_tmp rfl _ _ _, rfl, below_put hbH.out (by omega) hK rfl _⟩
end

section
set_option linter.unusedVariables false
open Go.RowKit Go.Shelf

/-- A line of a tree's. -/
def undLn (x : Dt × Nat × List UInt8) : Ln := ⟨x.1, x.2.1, x.2.2⟩

/-- A map of texts: what each text tells; it lies in blocks of which P holds. -/
def XP (P : Nat → Prop) (W : World) (mv : Value) (σ : Dt → List UInt8) : Prop := ∀ d, Dw d → ∃ pv, ∀ V, KP P W V → (Instr.lookup 29 mv (dv d) false).run Tryz.prog V = .ok pv V ∧ Calls Tryz.prog 42 #[pv] V fun e w' => e = .returned (.string ⟨(σ d).toArray⟩) ∧ Below V.heap.size V w'

theorem XP.next {P P' : Nat → Prop} {W W' : World} {mv : Value} {σ : Dt → List UInt8} (h : XP P W mv σ) (hk : KP P W W') (hp : ∀ j, P j → P' j) : XP P' W' mv σ := fun d hd => by
  obtain ⟨pv, hpv⟩ := h d hd
  exact ⟨pv, fun V hV => hpv V (hk.trans (hV.mono hp))⟩

/-- The function that goes down. -/
def dnV (bt bo bx bd : Nat) : Value := .func (.func 40) #[] #[.pointer (some ⟨bt, 0, none⟩), .pointer (some ⟨bo, 0, none⟩), .pointer (some ⟨bx, 0, none⟩), .pointer (some ⟨bd, 0, none⟩)]

/-- The four boxes, the lines that came; P: blocks that are neither the tree's nor the lines'. -/
structure UI (P : Nat → Prop) (t : Nat) (l : List Mv) (mv : Value) (bt bo bx bd n0 : Nat) (L : List Ln) (V : World) : Prop where
  row : ∃ vo Q, TP V t l Q ∧ (∀ j, P j → Q j ∧ j ≠ bo ∧ vo.ownBlock ≠ some j) ∧ Q bo ∧ (∀ g, vo.ownBlock = some g → Q g) ∧ V.heap[bo]? = some (.cells #[vo] 43 (0, 0)) ∧ V.ownsRow n0 54 4 vo L.length (flLn L)
  pt : P bt ∧ P bx ∧ P bd
  cbt : V.heap[bt]? = some (.cells #[.pointer (some ⟨t, 0, none⟩)] 28 (0, 0))
  cbx : V.heap[bx]? = some (.cells #[mv] 29 (0, 0))
  cbd : V.heap[bd]? = some (.cells #[dnV bt bo bx bd] 90 (0, 0))
  le : n0 ≤ V.heap.size

theorem UI.lt {P : Nat → Prop} {t : Nat} {l : List Mv} {mv : Value} {bt bo bx bd n0 : Nat} {L : List Ln} {V : World} (h : UI P t l mv bt bo bx bd n0 L V) : ∀ j, P j → j < V.heap.size := by
  obtain ⟨vo, Q, h1, h2, _⟩ := h.row
  exact fun j hj => h1.lt j (h2 j hj).1

theorem UI.mono {P P' : Nat → Prop} {t : Nat} {l : List Mv} {mv : Value} {bt bo bx bd n0 : Nat} {L : List Ln} {V : World} (h : UI P t l mv bt bo bx bd n0 L V) (hp : ∀ j, P' j → P j) (hb : P' bt ∧ P' bx ∧ P' bd) : UI P' t l mv bt bo bx bd n0 L V := by
  obtain ⟨vo, Q, h1, h2, h3⟩ := h.row
  exact ⟨⟨vo, Q, h1, fun j hj => h2 j (hp j hj), h3⟩, hb, h.cbt, h.cbx, h.cbd, h.le⟩

/-- New memory: blocks of it may be held besides. -/
theorem UI.more {P P' : Nat → Prop} {t : Nat} {l : List Mv} {mv : Value} {bt bo bx bd n0 : Nat} {L : List Ln} {V V' : World} (h : UI P t l mv bt bo bx bd n0 L V) (hb : Below V.heap.size V V') (hq : ∀ j, P' j → P j ∨ (V.heap.size ≤ j ∧ j < V'.heap.size)) (hp : ∀ j, P j → P' j) : UI P' t l mv bt bo bx bd n0 L V' := by
  obtain ⟨vo, Q, h1, h2, h3, h4, h5, h6⟩ := h.row
  have hlt := fun j hj => hb.block j (h.lt j hj)
  refine ⟨⟨vo, fun j => Q j ∨ (V.heap.size ≤ j ∧ j < V'.heap.size), h1.turn hb.size (fun j hj _ => hb.block j hj) (fun j hj => hj), fun j hj => ?_, Or.inl h3, fun g hg => Or.inl (h4 g hg), (hb.block bo (h1.lt _ h3)).trans h5, lns_below h6 hb⟩, ⟨hp _ h.pt.1, hp _ h.pt.2.1, hp _ h.pt.2.2⟩, (hlt _ h.pt.1).trans h.cbt, (hlt _ h.pt.2.1).trans h.cbx, (hlt _ h.pt.2.2).trans h.cbd, Nat.le_trans h.le hb.size⟩
  rcases hq j hj with e | e
  · exact ⟨Or.inl (h2 j e).1, (h2 j e).2⟩
  · refine ⟨Or.inr e, fun e' => ?_, fun e' => ?_⟩
    · have := h1.lt _ h3; omega
    · have := h1.lt _ (h4 j e'); omega

theorem UI.kept {P : Nat → Prop} {t : Nat} {l : List Mv} {mv : Value} {bt bo bx bd n0 : Nat} {L : List Ln} {V V' : World} (h : UI P t l mv bt bo bx bd n0 L V) (hb : Below V.heap.size V V') : KP P V V' := ⟨hb.size, fun j hj => hb.block j (h.lt j hj), Sm.b hb⟩

/-- Kids, in new memory. -/
theorem kids_tn {t : Nat} {l : List Mv} {P : Nat → Prop} (d : Dt) {W : World} (h : TP W t l P) (hd : Dw d) : Calls Tryz.prog 41 #[.pointer (some ⟨t, 0, none⟩), dv d] W fun e W' => ∃ a c, e = .returned (.slice a (kidD (run l) d).length c) ∧ PS W' a (kidD (run l) d).length c (kidD (run l) d) ∧ TP W' t l (fun j => P j ∨ ∃ ad, a = some ad ∧ ad.block = j) ∧ KP P W W' ∧ ∀ ad, a = some ad → W.heap.size ≤ ad.block ∧ ad.block < W'.heap.size := by
  obtain ⟨A, hT, hA⟩ := h
  refine (kids_tt t l A d W hT hd).mono ?_
  rintro e W' ⟨A', ⟨v, e1, ho, hv⟩, h2, h3⟩
  have ho' := ho
  obtain ⟨a, c, rfl, hps⟩ := owned_ps ho rfl
  refine ⟨a, c, e1, hps, ⟨A', h2, fun j hj => ?_⟩, ⟨h3.size, fun j hj => h3.keep j (hA j hj).2 (hA j hj).1, h3.sm⟩, ?_⟩
  · rcases hj with hj | ⟨ad, rfl, rfl⟩
    · exact foreign h3 (hA j hj)
    · rcases ho.2 with ⟨e', _⟩ | ⟨g, cap, cur, e', _, hg, _⟩
      · simp at e'
      · simp only [Value.slice.injEq, Option.some.injEq] at e'
        rw [e'.1]
        exact ⟨hv _ (by rw [e'.1]; rfl), (Array.getElem?_eq_some_iff.1 hg).1⟩
  · rintro ad rfl
    rcases ho.2 with ⟨e', _⟩ | ⟨g, cap, cur, e', hb, hg, _⟩
    · simp at e'
    · simp only [Value.slice.injEq, Option.some.injEq] at e'
      rw [e'.1]
      exact ⟨hb, (Array.getElem?_eq_some_iff.1 hg).1⟩

/-- Behind Kids. -/
theorem UI.kids {P : Nat → Prop} {t : Nat} {l : List Mv} {mv : Value} {bt bo bx bd n0 : Nat} {L : List Ln} {V : World} (h : UI P t l mv bt bo bx bd n0 L V) (d : Dt) (hd : Dw d) : Calls Tryz.prog 41 #[.pointer (some ⟨t, 0, none⟩), dv d] V fun e V' => ∃ a c, e = .returned (.slice a (kidD (run l) d).length c) ∧ PS V' a (kidD (run l) d).length c (kidD (run l) d) ∧ UI (fun j => P j ∨ ∃ ad, a = some ad ∧ ad.block = j) t l mv bt bo bx bd n0 L V' ∧ KP P V V' := by
  obtain ⟨vo, Q, h1, h2, h3, h4, h5, h6⟩ := h.row
  refine (kids_tn d h1 hd).mono ?_
  rintro e V' ⟨a, c, e1, hps, k1, k2, k3⟩
  have kb := fun j hj => k2.keep j (h2 j hj).1
  refine ⟨a, c, e1, hps, ⟨⟨vo, _, k1, fun j hj => ?_, Or.inl h3, fun g hg => Or.inl (h4 g hg), (k2.keep bo h3).trans h5, ?_⟩, ⟨Or.inl h.pt.1, Or.inl h.pt.2.1, Or.inl h.pt.2.2⟩, (kb _ h.pt.1).trans h.cbt, (kb _ h.pt.2.1).trans h.cbx, (kb _ h.pt.2.2).trans h.cbd, Nat.le_trans h.le k2.size⟩, k2.mono (fun j hj => (h2 j hj).1)⟩
  · rcases hj with hj | ⟨ad, rfl, rfl⟩
    · exact ⟨Or.inl (h2 j hj).1, (h2 j hj).2⟩
    · have hg := k3 ad rfl
      refine ⟨Or.inr ⟨ad, rfl, rfl⟩, fun e' => ?_, fun e' => ?_⟩
      · have := h1.lt _ h3; omega
      · have := h1.lt _ (h4 _ e'); omega
  · have hs := k2.sm
    rcases h6 with ⟨l1, ⟨rfl, l2⟩ | ⟨g, cap, cur, rfl, hb, hgb, hr⟩⟩
    · exact ⟨l1, Or.inl ⟨rfl, l2⟩⟩
    · exact ⟨l1, Or.inr ⟨g, cap, cur, rfl, hb, (k2.keep g (h4 g rfl)).trans hgb, hr⟩⟩

/-- A line is appended, and the row is laid into its box. -/
theorem UI.app {P : Nat → Prop} {t : Nat} {l : List Mv} {mv : Value} {bt bo bx bd n0 : Nat} {L : List Ln} {V : World} {vo : Value} {Q : Nat → Prop} (h : UI P t l mv bt bo bx bd n0 L V) (h1 : TP V t l Q) (h2 : ∀ j, P j → Q j ∧ j ≠ bo ∧ vo.ownBlock ≠ some j) (h3 : Q bo) (h4 : ∀ g, vo.ownBlock = some g → Q g) (h5 : V.heap[bo]? = some (.cells #[vo] 43 (0, 0))) (h6 : V.ownsRow n0 54 4 vo L.length (flLn L)) (x : Ln) (hn : L.length ≤ 1000000) :
    ∃ a5 n5 c5 w', (Builtin.append_ #[43, 43] 43 #[vo, .slice (some ⟨V.heap.size, 0, none⟩) 1 1]).run Tryz.prog (V.alloc (.cells x.cells.toArray 54)) = .ok (.slice a5 n5 c5) w' ∧
      w'.cell? ⟨bo, 0, none⟩ = some vo ∧ w'.frozen? ⟨bo, 0, none⟩ = false ∧ UI P t l mv bt bo bx bd n0 (L ++ [x]) (w'.setCell ⟨bo, 0, none⟩ (.slice a5 n5 c5)) ∧ KP P V (w'.setCell ⟨bo, 0, none⟩ (.slice a5 n5 c5)) ∧ KP P V w' := by
  obtain ⟨i0, hi, hz0, hz1, hz2⟩ := info_parts Tryz.infoLn
  have hbl : Below V.heap.size V (V.alloc (.cells x.cells.toArray 54)) := (Below.refl _ V).alloc (Nat.le_refl _) _
  have hx := LnS.new V x
  obtain ⟨v', w', e1, e2, e3, _, e4⟩ := run_append_own_at (P := Tryz.prog) (V.alloc (.cells x.cells.toArray 54)) n0 43 43 54 i0 _ 4 40 Tryz.underlying43 hi hz0 hz1 hz2 rfl (by decide) vo L.length (flLn L) (lns_below h6 hbl) ⟨V.heap.size, 0, none⟩ 1 1 (flLn [x]) (by rw [flLn_length]; rfl) (hx.allcells rfl (by decide)) (flLn_one [x]) (by unfold maxLen; omega) (by omega) (Nat.le_trans h.le hbl.size)
  obtain ⟨a5, c5, hv5, _⟩ := own_lns (T := L ++ [x]) (by rw [flLn_append]; exact e2)
  have hz : V.heap.size + 1 ≤ w'.heap.size := by have := e3.size; simpa using this
  have hk : ∀ j, j < V.heap.size → vo.ownBlock ≠ some j → w'.heap[j]? = V.heap[j]? := fun j hj hne => (e3.block j (by simp; omega) (fun e => hne e.symm)).trans (hbl.block j hj)
  have hbo := h1.lt _ h3
  have hvo : vo.ownBlock ≠ some bo := fun e => by
    obtain ⟨_, _, cs, hcs⟩ := lns_own h6 e
    rw [h5] at hcs
    cases hcs
  have hb5 := (hk bo hbo hvo).trans h5
  have hvn : v'.ownBlock ≠ some bo := fun e => by
    rcases e4 with e4 | e4
    · rw [e4] at e; exact hvo e
    · rw [e4] at e
      simp at e
      omega
  have hz2' : (w'.setCell ⟨bo, 0, none⟩ v').heap.size = w'.heap.size := by simp
  have hk2 : ∀ j, j < V.heap.size → vo.ownBlock ≠ some j → j ≠ bo → (w'.setCell ⟨bo, 0, none⟩ v').heap[j]? = V.heap[j]? := fun j hj h hne => (Below.heap_setCell _ _ _ j (by simpa using hne)).trans (hk j hj h)
  have hsm : Sm V w' := Sm.trans (Sm.b hbl) (Sm.g e3)
  have hsm2 : Sm V (w'.setCell ⟨bo, 0, none⟩ v') := hsm.trans ⟨rfl, rfl, rfl⟩
  have hkP : ∀ j, P j → (w'.setCell ⟨bo, 0, none⟩ v').heap[j]? = V.heap[j]? := fun j hj => hk2 j (h.lt j hj) (h2 j hj).2.2 (h2 j hj).2.1
  have he1 := e1
  rw [hv5] at he1
  have hUI : UI P t l mv bt bo bx bd n0 (L ++ [x]) (w'.setCell ⟨bo, 0, none⟩ v') := by
    refine ⟨⟨v', fun j => Q j ∨ (V.heap.size ≤ j ∧ j < w'.heap.size), ?_, fun j hj => ?_, Or.inl h3, fun g hg => ?_, ?_, ?_⟩, h.pt, (hkP _ h.pt.1).trans h.cbt, (hkP _ h.pt.2.1).trans h.cbx, (hkP _ h.pt.2.2).trans h.cbd, by rw [hz2']; have := h.le; omega⟩
    · refine h1.turn (by rw [hz2']; omega) (fun j hj hq => ?_) (fun j hj => by rw [hz2']; exact hj)
      exact hk2 j hj (fun e => hq (h4 j e)) (fun e => hq (by rw [e]; exact h3))
    · refine ⟨Or.inl (h2 j hj).1, (h2 j hj).2.1, fun e => ?_⟩
      rcases e4 with e4 | e4
      · rw [e4] at e; exact (h2 j hj).2.2 e
      · rw [e4] at e
        have := h.lt j hj
        simp at e
        omega
    · rcases e4 with e4 | e4
      · rw [e4] at hg; exact Or.inl (h4 g hg)
      · have hlt := (lns_own e2 hg).2.1
        rw [e4] at hg
        simp at hg
        exact Or.inr ⟨by omega, hlt⟩
    · have := set_heap hb5 0 v'
      simpa using this
    · rw [List.length_append, flLn_append]
      refine e2.kept (row := some bo) (grownBy_setCell _ bo 0 _) ?_
      exact Or.inr (fun e => hvn e)
  have hKP : KP P V (w'.setCell ⟨bo, 0, none⟩ v') := ⟨by rw [hz2']; omega, hkP, hsm2⟩
  rw [hv5] at hUI hKP
  exact ⟨a5, _, c5, w', he1, by simp [World.cell?, hb5], Lib.frozen_of_heap hb5 0, hUI, hKP, ⟨by omega, fun j hj => hk j (h.lt j hj) (h2 j hj).2.2, hsm⟩⟩
end
end Go.Proofs.YtnmdcdphpcpojaaGreatDoor
