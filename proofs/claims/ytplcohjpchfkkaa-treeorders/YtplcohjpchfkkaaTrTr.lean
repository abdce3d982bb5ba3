/- What a tree has behind a row of moves; what follows for each block. No function of the program. -/
import Derived.Test.YtplcohjpchfkkaaTrBlocks
namespace Go.Proofs.Ytplcohjpchfkkaa
section
set_option linter.unusedVariables false
open Go.RowKit

/-- A tree of these moves; the blocks of which P holds are none of its own. -/
def TP (W : World) (t : Nat) (l : List Mv) (P : Nat → Prop) : Prop := ∃ A, TT W t l A ∧ ∀ j, P j → ¬ A j ∧ j < W.heap.size

/-- Blocks of which P holds are as they were. -/
structure KP (P : Nat → Prop) (W W' : World) : Prop where
  size : W.heap.size ≤ W'.heap.size
  keep : ∀ j, P j → W'.heap[j]? = W.heap[j]?
  sm : Sm W W'

theorem KP.refl (P : Nat → Prop) (W : World) : KP P W W := ⟨Nat.le_refl _, fun _ _ => rfl, Sm.refl _⟩
theorem KP.trans {P : Nat → Prop} {a b c : World} (h : KP P a b) (k : KP P b c) : KP P a c := ⟨Nat.le_trans h.size k.size, fun j hj => (k.keep j hj).trans (h.keep j hj), h.sm.trans k.sm⟩
theorem KP.mono {P Q : Nat → Prop} {a b : World} (h : KP P a b) (hq : ∀ j, Q j → P j) : KP Q a b := ⟨h.size, fun j hj => h.keep j (hq j hj), h.sm⟩
theorem KP.below {P : Nat → Prop} {a b : World} (h : Below a.heap.size a b) (hp : ∀ j, P j → j < a.heap.size) : KP P a b := ⟨h.size, fun j hj => h.block j (hp j hj), Sm.b h⟩
theorem KP.bel {a b : World} {n : Nat} (h : KP (fun j => j < n) a b) : Below n a b := ⟨h.sm.1, h.sm.2.1, h.sm.2.2, h.size, fun j hj => h.keep j hj⟩
theorem KP.drew {P : Nat → Prop} {a b : World} (h : KP P a b) : KP P a b.drew := ⟨h.size, h.keep, h.sm⟩

theorem TP.lt {W : World} {t : Nat} {l : List Mv} {P : Nat → Prop} (h : TP W t l P) : ∀ j, P j → j < W.heap.size := by
  obtain ⟨A, _, hA⟩ := h
  exact fun j hj => (hA j hj).2
theorem TP.log {W : World} {t : Nat} {l : List Mv} {P : Nat → Prop} (h : TP W t l P) : Lg l ∧ (∀ m ∈ l, Dw m.id ∧ Dw m.block ∧ Dw m.parent) ∧ l.length ≤ 1000 := by
  obtain ⟨A, h, _⟩ := h
  exact h.log
theorem TP.mono {W : World} {t : Nat} {l : List Mv} {P Q : Nat → Prop} (h : TP W t l P) (hq : ∀ j, Q j → P j) : TP W t l Q := by
  obtain ⟨A, h1, h2⟩ := h
  exact ⟨A, h1, fun j hj => h2 j (hq j hj)⟩

/-- Blocks that are none of the tree's may turn, and there may be new ones. -/
theorem TP.turn {W V : World} {t : Nat} {l : List Mv} {P Q : Nat → Prop} (h : TP W t l P) (hz : W.heap.size ≤ V.heap.size) (hk : ∀ j, j < W.heap.size → ¬ P j → V.heap[j]? = W.heap[j]?) (hq : ∀ j, Q j → P j ∨ (W.heap.size ≤ j ∧ j < V.heap.size)) : TP V t l Q := by
  obtain ⟨A, h1, h2⟩ := h
  refine ⟨A, h1.same hz (fun j hj => hk j (h1.lt j hj) (fun e => (h2 j e).1 hj)), fun j hj => ?_⟩
  rcases hq j hj with e | e
  · exact ⟨(h2 j e).1, Nat.lt_of_lt_of_le (h2 j e).2 hz⟩
  · exact ⟨fun e' => absurd (h1.lt j e') (by omega), e.2⟩
theorem TP.below {W V : World} {t : Nat} {l : List Mv} {P : Nat → Prop} (h : TP W t l P) (hb : Below W.heap.size W V) : TP V t l P := h.turn hb.size (fun j hj _ => hb.block j hj) (fun j hj => Or.inl hj)
theorem TP.alloc {W : World} {t : Nat} {l : List Mv} {P : Nat → Prop} (h : TP W t l P) (o : Obj) : TP (W.alloc o) t l (fun j => P j ∨ j = W.heap.size) :=
  h.turn (by simp) (fun j hj _ => Below.heap_alloc W o j hj) (fun j hj => hj.imp id (fun e => by subst e; simp))
theorem TP.drew {W : World} {t : Nat} {l : List Mv} {P : Nat → Prop} (h : TP W t l P) : TP W.drew t l P := h.turn (Nat.le_refl _) (fun j _ _ => rfl) (fun j hj => Or.inl hj)

theorem foreign {W W' : World} {A A' : Nat → Prop} (h : KA W W' A A') {j : Nat} (hj : ¬ A j ∧ j < W.heap.size) : ¬ A' j ∧ j < W'.heap.size :=
  ⟨fun e => by
    rcases h.new j e with e | e
    · exact hj.1 e
    · omega, Nat.lt_of_lt_of_le hj.2 h.size⟩

theorem TP.next {W W' : World} {t : Nat} {l' : List Mv} {A A' P : Nat → Prop} (hA : ∀ j, P j → ¬ A j ∧ j < W.heap.size) (h2 : TT W' t l' A') (h3 : KA W W' A A') : TP W' t l' P ∧ KP P W W' :=
  ⟨⟨A', h2, fun j hj => foreign h3 (hA j hj)⟩, ⟨h3.size, fun j hj => h3.keep j (hA j hj).2 (hA j hj).1, h3.sm⟩⟩

theorem new_tp (w : World) : Calls Try.prog 10 #[] w fun e w' => e = .returned (.pointer (some ⟨w.heap.size, 0, none⟩)) ∧ TP w' w.heap.size [] (fun j => j < w.heap.size) ∧ Below w.heap.size w w' :=
  (new_tt w).mono (fun e w' h => ⟨h.1, ⟨_, h.2.1, fun j hj => ⟨by omega, Nat.lt_of_lt_of_le hj h.2.2.size⟩⟩, h.2.2⟩)

theorem move_tp {t : Nat} {l : List Mv} {P : Nat → Prop} (m : Mv) {W : World} (h : TP W t l P) (hd : Dw m.id ∧ Dw m.block ∧ Dw m.parent) (hs : l.length + 1 ≤ 1000) : Calls Try.prog 12 #[.pointer (some ⟨t, 0, none⟩), dv m.id, .int .i64 m.time, dv m.block, dv m.parent, .string m.key] W fun e W' => e = .returned (.int .i64 (mvE l m)) ∧ TP W' t (mvL l m) P ∧ KP P W W' := by
  obtain ⟨A, hT, hA⟩ := h
  refine (move_any t l A m W hT hd hs).mono ?_
  rintro e W' ⟨e1, A', h2, h3⟩
  exact ⟨e1, TP.next hA h2 h3⟩
theorem there_tp {t : Nat} {l : List Mv} {P : Nat → Prop} (d : Dt) {W : World} (h : TP W t l P) (hd : Dw d) : Calls Try.prog 25 #[.pointer (some ⟨t, 0, none⟩), dv d] W fun e W' => e = .returned (.bool (lk (run l) d).isSome) ∧ TP W' t l P ∧ KP P W W' := by
  obtain ⟨A, hT, hA⟩ := h
  refine (there_tt t l A d W hT hd).mono ?_
  rintro e W' ⟨e1, A', h2, h3⟩
  exact ⟨e1, TP.next hA h2 h3⟩
theorem took_tp {t : Nat} {l : List Mv} {P : Nat → Prop} (d : Dt) {W : World} (h : TP W t l P) (hd : Dw d) : Calls Try.prog 18 #[.pointer (some ⟨t, 0, none⟩), dv d] W fun e W' => e = .returned (.bool (tookB l d)) ∧ TP W' t l P ∧ KP P W W' := by
  obtain ⟨A, hT, hA⟩ := h
  refine (took_tt t l A d W hT hd).mono ?_
  rintro e W' ⟨e1, A', h2, h3⟩
  exact ⟨e1, TP.next hA h2 h3⟩
theorem parent_tp {t : Nat} {l : List Mv} {P : Nat → Prop} (d : Dt) {W : World} (h : TP W t l P) (hd : Dw d) : Calls Try.prog 16 #[.pointer (some ⟨t, 0, none⟩), dv d] W fun e W' => e = .returned (.tuple #[dv ((lk (run l) d).getD pl0).1, .string ((lk (run l) d).getD pl0).2, .bool (lk (run l) d).isSome]) ∧ TP W' t l P ∧ KP P W W' := by
  obtain ⟨A, hT, hA⟩ := h
  refine (parent_tt t l A d W hT hd).mono ?_
  rintro e W' ⟨e1, A', h2, h3⟩
  exact ⟨e1, TP.next hA h2 h3⟩
theorem kids_tp {t : Nat} {l : List Mv} {P : Nat → Prop} (d : Dt) {W : World} (h : TP W t l P) (hd : Dw d) : Calls Try.prog 17 #[.pointer (some ⟨t, 0, none⟩), dv d] W fun e W' => ∃ a c, e = .returned (.slice a (kidB (run l) d).length c) ∧ PS W' a (kidB (run l) d).length c (kidB (run l) d) ∧ TP W' t l (fun j => P j ∨ ∃ ad, a = some ad ∧ ad.block = j) ∧ KP P W W' := by
  obtain ⟨A, hT, hA⟩ := h
  refine (kids_tt t l A d W hT hd).mono ?_
  rintro e W' ⟨A', ⟨v, e1, ho, hv⟩, h2, h3⟩
  obtain ⟨a, c, rfl, hps⟩ := owned_ps ho rfl
  refine ⟨a, c, e1, hps, ⟨A', h2, fun j hj => ?_⟩, ⟨h3.size, fun j hj => h3.keep j (hA j hj).2 (hA j hj).1, h3.sm⟩⟩
  rcases hj with hj | ⟨ad, rfl, rfl⟩
  · exact foreign h3 (hA j hj)
  · rcases ho.2 with ⟨e', _⟩ | ⟨g, cap, cur, e', _, hg, _⟩
    · simp at e'
    · simp only [Value.slice.injEq, Option.some.injEq] at e'
      rw [e'.1]
      exact ⟨hv _ (by rw [e'.1]; rfl), (Array.getElem?_eq_some_iff.1 hg).1⟩

theorem path_tp {t : Nat} {l : List Mv} {P : Nat → Prop} (d : Dt) {W : World} (h : TP W t l P) (hd : Dw d) : Calls Try.prog 20 #[.pointer (some ⟨t, 0, none⟩), dv d] W fun e W' => ∃ a c, e = .returned (.slice a (pth (run l) d).length c) ∧ PS W' a (pth (run l) d).length c (pth (run l) d) ∧ TP W' t l (fun j => P j ∨ ∃ ad, a = some ad ∧ ad.block = j) ∧ KP P W W' := by
  obtain ⟨A, hT, hA⟩ := h
  refine (path_tt t l A d W hT hd).mono ?_
  rintro e W' ⟨A', ⟨v, e1, ho, hv⟩, h2, h3⟩
  obtain ⟨a, c, rfl, hps⟩ := owned_ps ho rfl
  refine ⟨a, c, e1, hps, ⟨A', h2, fun j hj => ?_⟩, ⟨h3.size, fun j hj => h3.keep j (hA j hj).2 (hA j hj).1, h3.sm⟩⟩
  rcases hj with hj | ⟨ad, rfl, rfl⟩
  · exact foreign h3 (hA j hj)
  · rcases ho.2 with ⟨e', _⟩ | ⟨g, cap, cur, e', _, hg, _⟩
    · simp at e'
    · simp only [Value.slice.injEq, Option.some.injEq] at e'
      rw [e'.1]
      exact ⟨hv _ (by rw [e'.1]; rfl), (Array.getElem?_eq_some_iff.1 hg).1⟩

theorem blocks_tp {t : Nat} {l : List Mv} {P : Nat → Prop} {W : World} (h : TP W t l P) : Calls Try.prog 14 #[.pointer (some ⟨t, 0, none⟩)] W fun e W' => ∃ a c, e = .returned (.slice a (blks l).length c) ∧ PS W' a (blks l).length c (blks l) ∧ TP W' t l (fun j => P j ∨ ∃ ad, a = some ad ∧ ad.block = j) ∧ KP P W W' := by
  obtain ⟨A, hT, hA⟩ := h
  refine (blocks_tt t l A W hT).mono ?_
  rintro e W' ⟨A', ⟨v, e1, ho, hv⟩, h2, h3⟩
  obtain ⟨a, c, rfl, hps⟩ := owned_ps ho rfl
  refine ⟨a, c, e1, hps, ⟨A', h2, fun j hj => ?_⟩, ⟨h3.size, fun j hj => h3.keep j (hA j hj).2 (hA j hj).1, h3.sm⟩⟩
  rcases hj with hj | ⟨ad, rfl, rfl⟩
  · exact foreign h3 (hA j hj)
  · rcases ho.2 with ⟨e', _⟩ | ⟨g, cap, cur, e', _, hg, _⟩
    · simp at e'
    · simp only [Value.slice.injEq, Option.some.injEq] at e'
      rw [e'.1]
      exact ⟨hv _ (by rw [e'.1]; rfl), (Array.getElem?_eq_some_iff.1 hg).1⟩

end

section
set_option linter.unusedVariables false
open Go.RowKit

/-- The moves that a tree has, behind these. -/
def tr (L : List Mv) : List Mv := L.foldl mvL []

theorem tr_snoc (L : List Mv) (m : Mv) : tr (L ++ [m]) = mvL (tr L) m := by
  unfold tr
  rw [List.foldl_append]
  rfl

theorem mvL_len (l : List Mv) (m : Mv) : (mvL l m).length ≤ l.length + 1 := by
  unfold mvL
  split
  · rw [ins_len]; omega
  · omega

theorem fold_mvL_len : ∀ (L l : List Mv), (L.foldl mvL l).length ≤ l.length + L.length
  | [], l => by simp
  | m :: L, l => by
    have h1 := fold_mvL_len L (mvL l m)
    have h2 := mvL_len l m
    simp only [List.foldl_cons, List.length_cons]
    omega

theorem tr_len (L : List Mv) : (tr L).length ≤ L.length := by
  have := fold_mvL_len L []
  unfold tr
  simpa using this

theorem mvE_cases (l : List Mv) (m : Mv) : (mvE l m = 1 ∧ ¬ (mayT m.id = true ∧ mayT m.block = true)) ∨ (mvE l m = 32 ∧ mayT m.id = true ∧ mayT m.block = true ∧ ∃ x ∈ l, x.id = m.id) ∨ (mvE l m = 0 ∧ mayT m.id = true ∧ mayT m.block = true ∧ ∀ x ∈ l, x.id ≠ m.id) := by
  by_cases h1 : mayT m.id = true
  · by_cases h2 : mayT m.block = true
    · by_cases h3 : ∃ x ∈ l, x.id = m.id
      · obtain ⟨x, hx, e⟩ := h3
        exact Or.inr (Or.inl ⟨mvE_twice h1 h2 hx e, h1, h2, x, hx, e⟩)
      · exact Or.inr (Or.inr ⟨mvE_ok h1 h2 (fun x hx e => h3 ⟨x, hx, e⟩), h1, h2, fun x hx e => h3 ⟨x, hx, e⟩⟩)
    · exact Or.inl ⟨mvE_no (Or.inr (by simpa using h2)), fun h => h2 h.2⟩
  · exact Or.inl ⟨mvE_no (Or.inl (by simpa using h1)), fun h => h1 h.1⟩

theorem mvL_log {l : List Mv} (h : Lg l) (m : Mv) : Lg (mvL l m) := by
  unfold mvL
  rcases mvE_cases l m with ⟨e, _⟩ | ⟨e, _⟩ | ⟨e, h1, h2, h3⟩
  · rw [if_neg (by omega)]; exact h
  · rw [if_neg (by omega)]; exact h
  · rw [if_pos e]
    exact h.ins h3 (mayT_yes h2) (mayT_yes h1)

theorem fold_log : ∀ (L l : List Mv), Lg l → Lg (L.foldl mvL l)
  | [], l, h => h
  | m :: L, l, h => fold_log L (mvL l m) (mvL_log h m)

theorem tr_log (L : List Mv) : Lg (tr L) := fold_log L [] Lg.nil

theorem Lg.run_tk {l : List Mv} (h : Lg l) : ∃ r, Tk (run l) r := by
  have := h.tk l.length
  rwa [List.take_length] at this

theorem Tk.pth_nodup {S : List Sp} {r : Dt → Nat} (h : Tk S r) : ∀ (n : Nat) (b : Dt), r b ≤ n → (pth S b).Nodup ∧ b ∉ pth S b := fun n => by
  have hrk : ∀ b, ∀ x ∈ pth S b, r x < r b := fun b x hx => h.pth_rk _ b x hx
  have hnb : ∀ b, b ∉ pth S b := fun b hb => absurd (hrk b b hb) (by omega)
  induction n with
  | zero =>
    intro b hb
    refine ⟨?_, hnb b⟩
    cases hl : lk S b with
    | none => rw [Tk.pth_none hl]; exact List.nodup_nil
    | some q =>
      have := hrk b q.1 (by rw [h.pth_some hl]; simp)
      omega
  | succ n ih =>
    intro b hb
    refine ⟨?_, hnb b⟩
    cases hl : lk S b with
    | none => rw [Tk.pth_none hl]; exact List.nodup_nil
    | some q =>
      have h1 := hrk b q.1 (by rw [h.pth_some hl]; simp)
      rw [h.pth_some hl]
      exact List.nodup_cons.2 ⟨hnb q.1, (ih q.1 (by omega)).1⟩

theorem Tk.pth_end {S : List Sp} {r : Dt → Nat} (h : Tk S r) : ∀ (n : Nat) (b : Dt), r b ≤ n → (lk S b).isSome = true → ∃ m e, (pth S b).length = m + 1 ∧ (pth S b)[m]? = some e ∧ isEnd e := fun n => by
  have hrk : ∀ b, ∀ x ∈ pth S b, r x < r b := fun b x hx => h.pth_rk _ b x hx
  induction n with
  | zero =>
    intro b hb hl
    obtain ⟨q, hq⟩ := Option.isSome_iff_exists.1 hl
    have := hrk b q.1 (by rw [h.pth_some hq]; simp)
    omega
  | succ n ih =>
    intro b hb hl
    obtain ⟨q, hq⟩ := Option.isSome_iff_exists.1 hl
    have h1 := hrk b q.1 (by rw [h.pth_some hq]; simp)
    rw [h.pth_some hq]
    obtain ⟨s, hs, rfl, rfl⟩ := lk_some hq
    rcases h.par s hs with he | ⟨s', hs', e⟩
    · have hn : lk S s.p = none := lk_none.2 (fun x hx ex => (h.nz x hx).2 (by rw [ex]; exact he))
      rw [Tk.pth_none hn]
      exact ⟨0, s.p, rfl, rfl, he⟩
    · obtain ⟨m, e', h2, h3, h4⟩ := ih s.p (by have : (s.p, s.k).1 = s.p := rfl; rw [this] at h1; omega) (by rw [← e, lk_mem h.nd hs']; rfl)
      exact ⟨m + 1, e', by rw [List.length_cons]; show (pth S s.p).length + 1 = _; omega, by rw [List.getElem?_cons_succ]; exact h3, h4⟩

/-- How often a dot stands in a row. -/
def tms (b : Dt) (L : List Dt) : Nat := (L.filter (fun x => decide (x = b))).length

theorem tms_snoc (b : Dt) (L : List Dt) (x : Dt) : tms b (L ++ [x]) = tms b L + (if x = b then 1 else 0) := by
  unfold tms
  rw [List.filter_append, List.length_append]
  by_cases h : x = b <;> simp [h]

theorem tms_none {b : Dt} {L : List Dt} (h : b ∉ L) : tms b L = 0 := by
  unfold tms
  rw [List.length_eq_zero_iff, List.filter_eq_nil_iff]
  intro x hx e
  exact h (by simpa using (of_decide_eq_true e) ▸ hx)

theorem tms_once {b : Dt} : ∀ {L : List Dt}, L.Nodup → b ∈ L → tms b L = 1
  | [], _, h => by simp at h
  | x :: L, hn, h => by
    obtain ⟨h1, h2⟩ := List.nodup_cons.1 hn
    by_cases e : x = b
    · subst e
      have := tms_none h1
      unfold tms at this ⊢
      simp [this]
    · have hb : b ∈ L := by
        rcases List.mem_cons.1 h with h | h
        · exact absurd h.symm e
        · exact h
      have := tms_once h2 hb
      unfold tms at this ⊢
      simp [e, this]

theorem rise_nodup {L : List Dt} (h : L.Nodup) : (rise L).length = L.length :=
  ((List.perm_ext_iff_of_nodup (up_nodup (up_rise L)) h).2 (fun d => mem_rise d L)).length_eq

theorem blks_mem {l : List Mv} {b : Dt} : b ∈ blks l ↔ (lk (run l) b).isSome = true := by
  unfold blks
  rw [mem_rise, List.mem_map]
  constructor
  · rintro ⟨s, hs, rfl⟩
    cases hl : lk (run l) s.b with
    | none => exact absurd rfl (lk_none.1 hl s hs)
    | some q => rfl
  · intro h
    obtain ⟨q, hq⟩ := Option.isSome_iff_exists.1 h
    obtain ⟨s, hs, e, _⟩ := lk_some hq
    exact ⟨s, hs, e⟩

theorem blk_facts {l : List Mv} (h : Lg l) {b : Dt} (hb : b ∈ blks l) : ∃ q m e, lk (run l) b = some q ∧ (pth (run l) b).length = m + 1 ∧ (pth (run l) b)[m]? = some e ∧ isEnd e ∧ (pth (run l) b)[0]? = some q.1 ∧ b ∉ pth (run l) b ∧ (rise (pth (run l) b)).length = m + 1 ∧ tms b (kidB (run l) q.1) = 1 := by
  obtain ⟨r, hr⟩ := h.run_tk
  have hs := blks_mem.1 hb
  obtain ⟨q, hq⟩ := Option.isSome_iff_exists.1 hs
  obtain ⟨m, e, h1, h2, h3⟩ := hr.pth_end _ b (Nat.le_refl _) hs
  obtain ⟨h4, h5⟩ := hr.pth_nodup _ b (Nat.le_refl _)
  refine ⟨q, m, e, hq, h1, h2, h3, by rw [hr.pth_some hq]; rfl, h5, by rw [rise_nodup h4, h1], ?_⟩
  obtain ⟨s, hsm, rfl, rfl⟩ := lk_some hq
  refine tms_once (kidS_nodup hr.nd s.p) ?_
  exact List.mem_map.2 ⟨s, (kidS_mem hr.nd).2 ⟨hsm, rfl⟩, rfl⟩

theorem blks_len (l : List Mv) : (blks l).length ≤ l.length := by
  unfold blks
  refine Nat.le_trans (rise_length _) ?_
  rw [List.length_map]
  exact run_len l

theorem run_dw {l : List Mv} (h : ∀ m ∈ l, Dw m.id ∧ Dw m.block ∧ Dw m.parent) : ∀ s ∈ run l, Dw s.b ∧ Dw s.p := fun s hs => by
  obtain ⟨m, hm, rfl⟩ := run_mem hs
  exact ⟨(h m hm).2.1, (h m hm).2.2⟩

theorem blks_dw {l : List Mv} (h : ∀ m ∈ l, Dw m.id ∧ Dw m.block ∧ Dw m.parent) : ∀ b ∈ blks l, Dw b := fun b hb => by
  unfold blks at hb
  rw [mem_rise, List.mem_map] at hb
  obtain ⟨s, hs, rfl⟩ := hb
  exact (run_dw h s hs).1
theorem lk_dw {l : List Mv} (h : ∀ m ∈ l, Dw m.id ∧ Dw m.block ∧ Dw m.parent) {b : Dt} {q : Pl} (hq : lk (run l) b = some q) : Dw q.1 := by
  obtain ⟨s, hs, _, rfl⟩ := lk_some hq
  exact (run_dw h s hs).2
end
end Go.Proofs.Ytplcohjpchfkkaa
