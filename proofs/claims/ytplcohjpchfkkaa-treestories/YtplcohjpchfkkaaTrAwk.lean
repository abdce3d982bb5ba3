/- The first look: what its calls tell. No function of the program but those of the tree. -/
import Derived.Test.YtplcohjpchfkkaaTrBlocks
import Derived.Test.YtplcohjpchfkkaaTrKey
import Derived.Test.YtplcohjpchfkkaaVMay
import Derived.ProofKit
import Derived.OpenShut
import Derived.Deep.SlicePairs
import Derived.Lib.SmallJoins
import Derived.Test.YtplcohjpchfkkaaRows
namespace Go.Proofs.Ytplcohjpchfkkaa
section
set_option linter.unusedVariables false
open Go.RowKit

/-- A tree of these moves; the blocks of which P holds are none of its own. -/
def TP (W : World) (t : Nat) (l : List Mv) (P : Nat → Prop) : Prop := ∃ A, TT W t l A ∧ ∀ j, P j → ¬ A j ∧ j < W.heap.size

/-- Blocks of which P holds are as they were. -/
structure KP (P : Nat → Prop) (W W' : World) : Prop where
  size : W.heap.size ≤ W'.heap.size
  keep : ∀ j, P j → W'.heap[j]? = W.heap[j]?
  sm : Sm W W'

theorem KP.refl (P : Nat → Prop) (W : World) : KP P W W := ⟨Nat.le_refl _, fun _ _ => rfl, Sm.refl _⟩
theorem KP.trans {P : Nat → Prop} {a b c : World} (h : KP P a b) (k : KP P b c) : KP P a c := ⟨Nat.le_trans h.size k.size, fun j hj => (k.keep j hj).trans (h.keep j hj), h.sm.trans k.sm⟩
theorem KP.mono {P Q : Nat → Prop} {a b : World} (h : KP P a b) (hq : ∀ j, Q j → P j) : KP Q a b := ⟨h.size, fun j hj => h.keep j (hq j hj), h.sm⟩
theorem KP.below {P : Nat → Prop} {a b : World} (h : Below a.heap.size a b) (hp : ∀ j, P j → j < a.heap.size) : KP P a b := ⟨h.size, fun j hj => h.block j (hp j hj), Sm.b h⟩
theorem KP.bel {a b : World} {n : Nat} (h : KP (fun j => j < n) a b) : Below n a b := ⟨h.sm.1, h.sm.2.1, h.sm.2.2, h.size, fun j hj => h.keep j hj⟩
theorem KP.drew {P : Nat → Prop} {a b : World} (h : KP P a b) : KP P a b.drew := ⟨h.size, h.keep, h.sm⟩

theorem TP.lt {W : World} {t : Nat} {l : List Mv} {P : Nat → Prop} (h : TP W t l P) : ∀ j, P j → j < W.heap.size := by
  obtain ⟨A, _, hA⟩ := h
  exact fun j hj => (hA j hj).2
theorem TP.log {W : World} {t : Nat} {l : List Mv} {P : Nat → Prop} (h : TP W t l P) : Lg l ∧ (∀ m ∈ l, Dw m.id ∧ Dw m.block ∧ Dw m.parent) ∧ l.length ≤ 1000 := by
  obtain ⟨A, h, _⟩ := h
  exact h.log
theorem TP.mono {W : World} {t : Nat} {l : List Mv} {P Q : Nat → Prop} (h : TP W t l P) (hq : ∀ j, Q j → P j) : TP W t l Q := by
  obtain ⟨A, h1, h2⟩ := h
  exact ⟨A, h1, fun j hj => h2 j (hq j hj)⟩

/-- Blocks that are none of the tree's may turn, and there may be new ones. -/
theorem TP.turn {W V : World} {t : Nat} {l : List Mv} {P Q : Nat → Prop} (h : TP W t l P) (hz : W.heap.size ≤ V.heap.size) (hk : ∀ j, j < W.heap.size → ¬ P j → V.heap[j]? = W.heap[j]?) (hq : ∀ j, Q j → P j ∨ (W.heap.size ≤ j ∧ j < V.heap.size)) : TP V t l Q := by
  obtain ⟨A, h1, h2⟩ := h
  refine ⟨A, h1.same hz (fun j hj => hk j (h1.lt j hj) (fun e => (h2 j e).1 hj)), fun j hj => ?_⟩
  rcases hq j hj with e | e
  · exact ⟨(h2 j e).1, Nat.lt_of_lt_of_le (h2 j e).2 hz⟩
  · exact ⟨fun e' => absurd (h1.lt j e') (by omega), e.2⟩
theorem TP.below {W V : World} {t : Nat} {l : List Mv} {P : Nat → Prop} (h : TP W t l P) (hb : Below W.heap.size W V) : TP V t l P := h.turn hb.size (fun j hj _ => hb.block j hj) (fun j hj => Or.inl hj)
theorem TP.alloc {W : World} {t : Nat} {l : List Mv} {P : Nat → Prop} (h : TP W t l P) (o : Obj) : TP (W.alloc o) t l (fun j => P j ∨ j = W.heap.size) :=
  h.turn (by simp) (fun j hj _ => Below.heap_alloc W o j hj) (fun j hj => hj.imp id (fun e => by subst e; simp))
theorem TP.drew {W : World} {t : Nat} {l : List Mv} {P : Nat → Prop} (h : TP W t l P) : TP W.drew t l P := h.turn (Nat.le_refl _) (fun j _ _ => rfl) (fun j hj => Or.inl hj)

theorem foreign {W W' : World} {A A' : Nat → Prop} (h : KA W W' A A') {j : Nat} (hj : ¬ A j ∧ j < W.heap.size) : ¬ A' j ∧ j < W'.heap.size :=
  ⟨fun e => by
    rcases h.new j e with e | e
    · exact hj.1 e
    · omega, Nat.lt_of_lt_of_le hj.2 h.size⟩

theorem TP.next {W W' : World} {t : Nat} {l' : List Mv} {A A' P : Nat → Prop} (hA : ∀ j, P j → ¬ A j ∧ j < W.heap.size) (h2 : TT W' t l' A') (h3 : KA W W' A A') : TP W' t l' P ∧ KP P W W' :=
  ⟨⟨A', h2, fun j hj => foreign h3 (hA j hj)⟩, ⟨h3.size, fun j hj => h3.keep j (hA j hj).2 (hA j hj).1, h3.sm⟩⟩

theorem new_tp (w : World) : Calls Try.prog 10 #[] w fun e w' => e = .returned (.pointer (some ⟨w.heap.size, 0, none⟩)) ∧ TP w' w.heap.size [] (fun j => j < w.heap.size) ∧ Below w.heap.size w w' :=
  (new_tt w).mono (fun e w' h => ⟨h.1, ⟨_, h.2.1, fun j hj => ⟨by omega, Nat.lt_of_lt_of_le hj h.2.2.size⟩⟩, h.2.2⟩)

theorem move_tp {t : Nat} {l : List Mv} {P : Nat → Prop} (m : Mv) {W : World} (h : TP W t l P) (hd : Dw m.id ∧ Dw m.block ∧ Dw m.parent) (hs : l.length + 1 ≤ 1000) : Calls Try.prog 12 #[.pointer (some ⟨t, 0, none⟩), dv m.id, .int .i64 m.time, dv m.block, dv m.parent, .string m.key] W fun e W' => e = .returned (.int .i64 (mvE l m)) ∧ TP W' t (mvL l m) P ∧ KP P W W' := by
  obtain ⟨A, hT, hA⟩ := h
  refine (move_any t l A m W hT hd hs).mono ?_
  rintro e W' ⟨e1, A', h2, h3⟩
  exact ⟨e1, TP.next hA h2 h3⟩
theorem there_tp {t : Nat} {l : List Mv} {P : Nat → Prop} (d : Dt) {W : World} (h : TP W t l P) (hd : Dw d) : Calls Try.prog 25 #[.pointer (some ⟨t, 0, none⟩), dv d] W fun e W' => e = .returned (.bool (lk (run l) d).isSome) ∧ TP W' t l P ∧ KP P W W' := by
  obtain ⟨A, hT, hA⟩ := h
  refine (there_tt t l A d W hT hd).mono ?_
  rintro e W' ⟨e1, A', h2, h3⟩
  exact ⟨e1, TP.next hA h2 h3⟩
theorem took_tp {t : Nat} {l : List Mv} {P : Nat → Prop} (d : Dt) {W : World} (h : TP W t l P) (hd : Dw d) : Calls Try.prog 18 #[.pointer (some ⟨t, 0, none⟩), dv d] W fun e W' => e = .returned (.bool (tookB l d)) ∧ TP W' t l P ∧ KP P W W' := by
  obtain ⟨A, hT, hA⟩ := h
  refine (took_tt t l A d W hT hd).mono ?_
  rintro e W' ⟨e1, A', h2, h3⟩
  exact ⟨e1, TP.next hA h2 h3⟩
theorem path_tp {t : Nat} {l : List Mv} {P : Nat → Prop} (d : Dt) {W : World} (h : TP W t l P) (hd : Dw d) : Calls Try.prog 20 #[.pointer (some ⟨t, 0, none⟩), dv d] W fun e W' => ∃ a c, e = .returned (.slice a (pth (run l) d).length c) ∧ PS W' a (pth (run l) d).length c (pth (run l) d) ∧ TP W' t l (fun j => P j ∨ ∃ ad, a = some ad ∧ ad.block = j) ∧ KP P W W' := by
  obtain ⟨A, hT, hA⟩ := h
  refine (path_tt t l A d W hT hd).mono ?_
  rintro e W' ⟨A', ⟨v, e1, ho, hv⟩, h2, h3⟩
  obtain ⟨a, c, rfl, hps⟩ := owned_ps ho rfl
  refine ⟨a, c, e1, hps, ⟨A', h2, fun j hj => ?_⟩, ⟨h3.size, fun j hj => h3.keep j (hA j hj).2 (hA j hj).1, h3.sm⟩⟩
  rcases hj with hj | ⟨ad, rfl, rfl⟩
  · exact foreign h3 (hA j hj)
  · rcases ho.2 with ⟨e', _⟩ | ⟨g, cap, cur, e', _, hg, _⟩
    · simp at e'
    · simp only [Value.slice.injEq, Option.some.injEq] at e'
      rw [e'.1]
      exact ⟨hv _ (by rw [e'.1]; rfl), (Array.getElem?_eq_some_iff.1 hg).1⟩

theorem blocks_tp {t : Nat} {l : List Mv} {P : Nat → Prop} {W : World} (h : TP W t l P) : Calls Try.prog 14 #[.pointer (some ⟨t, 0, none⟩)] W fun e W' => ∃ a c, e = .returned (.slice a (blks l).length c) ∧ PS W' a (blks l).length c (blks l) ∧ TP W' t l (fun j => P j ∨ ∃ ad, a = some ad ∧ ad.block = j) ∧ KP P W W' := by
  obtain ⟨A, hT, hA⟩ := h
  refine (blocks_tt t l A W hT).mono ?_
  rintro e W' ⟨A', ⟨v, e1, ho, hv⟩, h2, h3⟩
  obtain ⟨a, c, rfl, hps⟩ := owned_ps ho rfl
  refine ⟨a, c, e1, hps, ⟨A', h2, fun j hj => ?_⟩, ⟨h3.size, fun j hj => h3.keep j (hA j hj).2 (hA j hj).1, h3.sm⟩⟩
  rcases hj with hj | ⟨ad, rfl, rfl⟩
  · exact foreign h3 (hA j hj)
  · rcases ho.2 with ⟨e', _⟩ | ⟨g, cap, cur, e', _, hg, _⟩
    · simp at e'
    · simp only [Value.slice.injEq, Option.some.injEq] at e'
      rw [e'.1]
      exact ⟨hv _ (by rw [e'.1]; rfl), (Array.getElem?_eq_some_iff.1 hg).1⟩
end

section
set_option linter.unusedVariables false
open Go.RowKit

/-- The moves that a tree has, behind these. -/
def tr (L : List Mv) : List Mv := L.foldl mvL []

theorem tr_snoc (L : List Mv) (m : Mv) : tr (L ++ [m]) = mvL (tr L) m := by
  unfold tr
  rw [List.foldl_append]
  rfl

theorem mvL_len (l : List Mv) (m : Mv) : (mvL l m).length ≤ l.length + 1 := by
  unfold mvL
  split
  · rw [ins_len]; omega
  · omega

theorem fold_mvL_len : ∀ (L l : List Mv), (L.foldl mvL l).length ≤ l.length + L.length
  | [], l => by simp
  | m :: L, l => by
    have h1 := fold_mvL_len L (mvL l m)
    have h2 := mvL_len l m
    simp only [List.foldl_cons, List.length_cons]
    omega

theorem tr_len (L : List Mv) : (tr L).length ≤ L.length := by
  have := fold_mvL_len L []
  unfold tr
  simpa using this

theorem mvE_cases (l : List Mv) (m : Mv) : (mvE l m = 1 ∧ ¬ (mayT m.id = true ∧ mayT m.block = true)) ∨ (mvE l m = 32 ∧ mayT m.id = true ∧ mayT m.block = true ∧ ∃ x ∈ l, x.id = m.id) ∨ (mvE l m = 0 ∧ mayT m.id = true ∧ mayT m.block = true ∧ ∀ x ∈ l, x.id ≠ m.id) := by
  by_cases h1 : mayT m.id = true
  · by_cases h2 : mayT m.block = true
    · by_cases h3 : ∃ x ∈ l, x.id = m.id
      · obtain ⟨x, hx, e⟩ := h3
        exact Or.inr (Or.inl ⟨mvE_twice h1 h2 hx e, h1, h2, x, hx, e⟩)
      · exact Or.inr (Or.inr ⟨mvE_ok h1 h2 (fun x hx e => h3 ⟨x, hx, e⟩), h1, h2, fun x hx e => h3 ⟨x, hx, e⟩⟩)
    · exact Or.inl ⟨mvE_no (Or.inr (by simpa using h2)), fun h => h2 h.2⟩
  · exact Or.inl ⟨mvE_no (Or.inl (by simpa using h1)), fun h => h1 h.1⟩

theorem mvL_log {l : List Mv} (h : Lg l) (m : Mv) : Lg (mvL l m) := by
  unfold mvL
  rcases mvE_cases l m with ⟨e, _⟩ | ⟨e, _⟩ | ⟨e, h1, h2, h3⟩
  · rw [if_neg (by omega)]; exact h
  · rw [if_neg (by omega)]; exact h
  · rw [if_pos e]
    exact h.ins h3 (mayT_yes h2) (mayT_yes h1)

theorem fold_log : ∀ (L l : List Mv), Lg l → Lg (L.foldl mvL l)
  | [], l, h => h
  | m :: L, l, h => fold_log L (mvL l m) (mvL_log h m)

theorem tr_log (L : List Mv) : Lg (tr L) := fold_log L [] Lg.nil

theorem Lg.run_tk {l : List Mv} (h : Lg l) : ∃ r, Tk (run l) r := by
  have := h.tk l.length
  rwa [List.take_length] at this

theorem rise_nodup {L : List Dt} (h : L.Nodup) : (rise L).length = L.length :=
  ((List.perm_ext_iff_of_nodup (up_nodup (up_rise L)) h).2 (fun d => mem_rise d L)).length_eq
end

section
set_option linter.unusedVariables false
open Go.RowKit

def Mv.cells (x : Mv) : List Value := [.int .i64 x.id.1, .int .i64 x.id.2, .int .i64 x.time, .int .i64 x.block.1, .int .i64 x.block.2, .int .i64 x.parent.1, .int .i64 x.parent.2, .string x.key]

def T64 (n : Int) : Prop := -9223372036854775808 ≤ n ∧ n ≤ 9223372036854775807
structure Mv.Fits (x : Mv) : Prop where
  id : Dw x.id
  time : T64 x.time
  block : Dw x.block
  parent : Dw x.parent
  key : x.key.data.size ≤ maxLen

section
open Go.ChangeShapes Go.WideShapes
variable {H : Type} {enc : TypeId × Value → H} {P : Program} {w : World} {base : Nat} {spare : Nat → Bool} {held : Bool}

end
end

section
set_option linter.unusedVariables false
open Go.RowKit

def awA : Mv := ⟨(1, 1), 1, (1, 1), (0, -1), ⟨#[110]⟩⟩
def awB : Mv := ⟨(1, 2), 2, (1, 2), (1, 1), ⟨#[110]⟩⟩
def awC : Mv := ⟨(1, 3), 3, (1, 1), (1, 2), ⟨#[110]⟩⟩
def awD : Mv := ⟨(2, 1), 2, (1, 2), (0, -2), ⟨#[110]⟩⟩

theorem aw_1 : mvE [] awA = 0 ∧ mvL [] awA = [awA] := by
  have h : mvE [] awA = 0 := by decide +kernel
  refine ⟨h, ?_⟩
  unfold mvL
  rw [if_pos h]
  have hr : rkL mvl [] awA = 0 := by decide +kernel
  unfold insL
  rw [hr]
  rfl
theorem aw_2 : mvE [awA] awB = 0 ∧ mvL [awA] awB = [awA, awB] := by
  have h : mvE [awA] awB = 0 := by decide +kernel
  refine ⟨h, ?_⟩
  unfold mvL
  rw [if_pos h]
  have hr : rkL mvl [awA] awB = 1 := by decide +kernel
  unfold insL
  rw [hr]
  rfl
theorem aw_3 : mvE [awA, awB] awC = 0 ∧ mvL [awA, awB] awC = [awA, awB, awC] := by
  have h : mvE [awA, awB] awC = 0 := by decide +kernel
  refine ⟨h, ?_⟩
  unfold mvL
  rw [if_pos h]
  have hr : rkL mvl [awA, awB] awC = 2 := by decide +kernel
  unfold insL
  rw [hr]
  rfl
theorem aw_4 : mvE [awA, awB, awC] awD = 0 ∧ mvL [awA, awB, awC] awD = [awA, awB, awD, awC] := by
  have h : mvE [awA, awB, awC] awD = 0 := by decide +kernel
  refine ⟨h, ?_⟩
  unfold mvL
  rw [if_pos h]
  have hr : rkL mvl [awA, awB, awC] awD = 2 := by decide +kernel
  unfold insL
  rw [hr]
  rfl
theorem aw_5 : tookB [awA, awB, awC] (1, 3) = false := by decide +kernel
theorem aw_6 : tookB [awA, awB, awD, awC] (1, 3) = true := by decide +kernel
theorem aw_7 : pth (run [awA, awB, awD, awC]) (1, 1) = [(1, 2), (0, -2)] := by decide +kernel
theorem aw_8 : (lk (run [awA, awB, awD, awC]) (1, 1)).isSome = true := by decide +kernel
end
end Go.Proofs.Ytplcohjpchfkkaa
