/- The reference's Check of an Insert. -/
import Derived.Test.YtplcohjpchfkkaaTrAwk
import Derived.Test.YtplcohjpchfkkaaTrAwake
import Derived.Test.YtplcohjpchfkkaaTrThere
import Derived.Test.YtplcohjpchfkkaaTrKey
import Derived.Test.YtplcohjpchfkkaaTrState
import Derived.Deep.AppendLies
import Derived.Test.YtplcohjpchfkkaaTrBlocks
import Derived.Test.YtplcohjpchfkkaaTrCollect
import Derived.Deep.RegionWith
import Derived.Deep.RegionLaw
import Derived.Deep.CutRange
import Derived.Maps.GroupsBeside
import Derived.WideKeyEntry
import Derived.Maps.OwnRows
import Derived.WalkKit
import Derived.Deep.CutBlock
namespace Go.Proofs.Ytplcohjpchfkkaa
section
set_option linter.unusedVariables false
open Go.RowKit

/-- Cells of a dot in a row. -/
theorem PS.look {w : World} {a : Option Addr} {n c : Nat} {L : List Dt} (h : PS w a n c L) {k : Nat} {d1 d2 : Int} (hk : L[k]? = some (d1, d2)) : ∃ g o, a = some ⟨g, o, Option.none⟩ ∧ g < w.heap.size ∧ k < n ∧ ∀ V : World, V.heap[g]? = w.heap[g]? → V.cell? ⟨g, o + k * 2, Option.none⟩ = some (.int .i64 d1) ∧ V.cell? ⟨g, o + k * 2 + 1, Option.none⟩ = some (.int .i64 d2) := by
  have hkl := (List.getElem?_eq_some_iff.1 hk).1
  obtain ⟨g, o, e, hg, hx⟩ := h.at (by have := h.len; omega)
  refine ⟨g, o, e, hg, by have := h.len; omega, fun V hV => ?_⟩
  have := hx k hkl
  rw [(List.getElem?_eq_some_iff.1 hk).2] at this
  simp only [World.cell?] at this ⊢
  rw [hV]
  exact this

theorem PS.same {w w' : World} {a : Option Addr} {n c : Nat} {L : List Dt} (h : PS w a n c L) (hk : ∀ ad, a = some ad → w'.heap[ad.block]? = w.heap[ad.block]?) : PS w' a n c L :=
  ⟨h.len, h.cap, h.max, h.nil, fun ad ha j u hj => by
    have := h.cells ad ha j u hj
    have hb : (ad.add j).block = ad.block := by unfold Addr.add; split <;> rfl
    simp only [World.cell?] at this ⊢
    rw [hb] at this ⊢
    rw [hk ad ha]
    exact this⟩
end

section
set_option linter.unusedVariables false
open Go.RowKit

theorem fold_memO : ∀ (L l : List Mv), (L.map Mv.id).Nodup → (∀ m ∈ L, ∀ x ∈ l, x.id ≠ m.id) → ∀ x, x ∈ L.foldl mvL l ↔ x ∈ l ∨ (x ∈ L ∧ mayT x.id = true ∧ mayT x.block = true)
  | [], l, _, _, x => by simp
  | m :: L, l, hn, hf, x => by
    rw [List.map_cons, List.nodup_cons] at hn
    obtain ⟨hn1, hn2⟩ := hn
    have hap : ∀ y ∈ L, m.id ≠ y.id := fun y hy e => hn1 (by rw [e]; exact List.mem_map_of_mem hy)
    have hmem : ∀ y, y ∈ mvL l m ↔ y ∈ l ∨ (y = m ∧ mayT m.id = true ∧ mayT m.block = true) := by
      intro y
      unfold mvL
      rcases mvE_cases l m with ⟨e, h⟩ | ⟨e, h1, h2, z, hz, ez⟩ | ⟨e, h1, h2, h3⟩
      · rw [if_neg (by omega)]
        exact ⟨Or.inl, fun h' => h'.elim id (fun h' => absurd h'.2 h)⟩
      · exact absurd ez (hf m (by simp) z hz)
      · rw [if_pos e, (ins_perm mvl l m).mem_iff, List.mem_cons]
        constructor
        · rintro (h | h)
          · exact Or.inr ⟨h, h1, h2⟩
          · exact Or.inl h
        · rintro (h | ⟨h, _⟩)
          · exact Or.inr h
          · exact Or.inl h
    have hf' : ∀ y ∈ L, ∀ z ∈ mvL l m, z.id ≠ y.id := by
      intro y hy z hz
      rcases (hmem z).1 hz with h | ⟨h, _⟩
      · exact hf y (List.mem_cons_of_mem _ hy) z h
      · rw [h]; exact hap y hy
    rw [List.foldl_cons, fold_memO L (mvL l m) hn2 hf' x, hmem x, List.mem_cons]
    constructor
    · rintro ((h | ⟨h, h1, h2⟩) | ⟨h, h1, h2⟩)
      · exact Or.inl h
      · exact Or.inr ⟨Or.inl h, by rw [h]; exact h1, by rw [h]; exact h2⟩
      · exact Or.inr ⟨Or.inr h, h1, h2⟩
    · rintro (h | ⟨h | h, h1, h2⟩)
      · exact Or.inl (Or.inl h)
      · exact Or.inl (Or.inr ⟨h, by rw [← h]; exact h1, by rw [← h]; exact h2⟩)
      · exact Or.inr ⟨h, h1, h2⟩

theorem tr_mem {L : List Mv} (h : (L.map Mv.id).Nodup) (x : Mv) : x ∈ tr L ↔ x ∈ L ∧ mayT x.id = true ∧ mayT x.block = true := by
  have := fold_memO L [] h (fun _ _ _ hx => by simp at hx) x
  unfold tr
  rw [this]
  simp
end

section
set_option linter.unusedVariables false
open Go.RowKit

/-- Each block's making comes ahead of what names it. -/
structure Grow (l : List Mv) : Prop where
  par : ∀ m ∈ l, isEnd m.parent ∨ ∃ y ∈ l, y.id = m.parent ∧ y.block = y.id ∧ y.time < m.time
  blk : ∀ m ∈ l, m.block = m.id ∨ ∃ y ∈ l, y.id = m.block ∧ y.block = y.id ∧ y.time < m.time

theorem Lg.ahead {l : List Mv} (h : Lg l) {i j : Nat} {x y : Mv} (hx : l[i]? = some x) (hy : l[j]? = some y) (ht : y.time < x.time) : j < i := by
  obtain ⟨hi, ei⟩ := List.getElem?_eq_some_iff.1 hx
  obtain ⟨hj, ej⟩ := List.getElem?_eq_some_iff.1 hy
  rcases Nat.lt_trichotomy j i with h1 | h1 | h1
  · exact h1
  · subst h1
    rw [hx] at hy
    cases hy
    omega
  · have := List.pairwise_iff_getElem.1 h.srt i j hi hj h1
    rw [ei, ej] at this
    rcases (mvl_iff _ _).1 this with h2 | h2
    · omega
    · omega

theorem Lg.inj {l : List Mv} (h : Lg l) {i j : Nat} {x y : Mv} (hx : l[i]? = some x) (hy : l[j]? = some y) (e : x.id = y.id) : i = j := by
  have hi : i < (l.map Mv.id).length := by have := (List.getElem?_eq_some_iff.1 hx).1; simpa using this
  refine (List.getElem?_inj hi h.ids).1 ?_
  rw [List.getElem?_map, List.getElem?_map, hx, hy]
  simp [e]

theorem step_stays {S : List Sp} (hn : (S.map Sp.b).Nodup) (m : Mv) {b : Dt} (h : (lk S b).isSome = true) : (lk (step S m) b).isSome = true := by
  unfold step
  split
  · rw [put_lk hn]
    split
    · rfl
    · exact h
  · exact h

theorem run_made1 (l : List Mv) (m : Mv) (ih : ∀ s ∈ run l, ∃ y ∈ l, y.block = s.b ∧ y.id = s.b) : ∀ s ∈ run (l ++ [m]), ∃ y ∈ l ++ [m], y.block = s.b ∧ y.id = s.b := by
  intro s hs
  rw [run_snoc] at hs
  have key : ∀ s ∈ run l, ∃ y ∈ l ++ [m], y.block = s.b ∧ y.id = s.b := fun s hs => by
    obtain ⟨y, hy, e⟩ := ih s hs
    exact ⟨y, List.mem_append_left _ hy, e⟩
  unfold step at hs
  split at hs
  · rename_i ht
    rcases put_mem.1 hs with ⟨h1, _⟩ | h1
    · exact key s h1
    · subst h1
      obtain ⟨_, h2, _⟩ := takes_iff.1 ht
      rcases h2 with h2 | h2
      · cases hq : lk (run l) m.block with
        | none => exact absurd hq h2
        | some q =>
          obtain ⟨s', hs', e, _⟩ := lk_some hq
          obtain ⟨y, hy, e1, e2⟩ := key s' hs'
          exact ⟨y, hy, e1.trans e, e2.trans e⟩
      · exact ⟨m, by simp, rfl, h2.symm⟩
  · exact key s hs

/-- A block is there only if it was made. -/
theorem run_made : ∀ (l : List Mv), ∀ s ∈ run l, ∃ y ∈ l, y.block = s.b ∧ y.id = s.b := by
  have main : ∀ (n : Nat) (l : List Mv), l.length = n → ∀ s ∈ run l, ∃ y ∈ l, y.block = s.b ∧ y.id = s.b := by
    intro n
    induction n with
    | zero =>
      intro l hl s hs
      rw [List.eq_nil_of_length_eq_zero hl] at hs
      simp [run] at hs
    | succ n ihn =>
      intro l0 hl s hs
      obtain ⟨l, m, rfl⟩ : ∃ l m, l0 = l ++ [m] := ⟨l0.dropLast, l0.getLast (fun e => by rw [e] at hl; simp at hl), (List.dropLast_concat_getLast _).symm⟩
      exact run_made1 l m (ihn l (by simpa using hl)) s hs
  exact fun l => main l.length l rfl

theorem grow_there {l : List Mv} (h : Lg l) (g : Grow l) : ∀ k, k ≤ l.length → ∀ (j : Nat) (m : Mv), j < k → l[j]? = some m → m.block = m.id → (lk (run (l.take k)) m.id).isSome = true := by
  intro k
  induction k with
  | zero => intro _ j m hj; omega
  | succ k ih =>
    intro hk j m hj hm hb
    obtain ⟨x, hx⟩ : ∃ x, l[k]? = some x := ⟨_, List.getElem?_eq_getElem (by omega)⟩
    obtain ⟨r, hr⟩ := h.tk k
    rw [run_succ hx]
    rcases Nat.lt_or_ge j k with hjk | hjk
    · exact step_stays hr.nd x (ih (by omega) j m hjk hm hb)
    · obtain rfl : j = k := by omega
      have exm : x = m := by rw [hx] at hm; exact Option.some.inj hm
      subst exm
      have hxl : x ∈ l := List.mem_of_getElem? hx
      have hmay := h.may x hxl
      have ht : takes (run (l.take j)) x = true := by
        refine takes_iff.2 ⟨?_, Or.inr hb, ?_, ?_⟩
        · rcases g.par x hxl with he | ⟨y, hy, e1, e2, e3⟩
          · exact Or.inl he
          · obtain ⟨i, hi⟩ := List.mem_iff_getElem?.1 hy
            have := ih (by omega) i y (h.ahead hx hi e3) hi e2
            rw [e1] at this
            exact Or.inr (fun e => by rw [e] at this; cases this)
        · intro e
          rcases g.par x hxl with he | ⟨y, hy, e1, e2, e3⟩
          · exact hmay.2 (by rw [e]; exact he)
          · obtain ⟨i, hi⟩ := List.mem_iff_getElem?.1 hy
            have h1 := h.ahead hx hi e3
            have h2 := h.inj hx hi (by rw [e1, ← e, hb])
            omega
        · intro hmem
          rcases hr.pth_there _ _ _ hmem with he | ⟨s, hs, e⟩
          · exact hmay.2 he
          · obtain ⟨y, hy, e1, e2⟩ := run_made _ s hs
            obtain ⟨i, hi, hiy⟩ := List.mem_take_iff_getElem.1 hy
            have hiy' : l[i]? = some y := by rw [← hiy]; exact List.getElem?_eq_getElem (by omega)
            have h2 := h.inj hx hiy' (by rw [e2, e, hb])
            omega
      unfold step
      rw [if_pos ht, put_lk hr.nd]
      have : x.id = x.sp.b := hb.symm
      rw [if_pos this]
      rfl

/-- As many blocks are there as were made. -/
theorem grow_count {l : List Mv} (h : Lg l) (g : Grow l) : (blks l).length = (l.filter (fun m => decide (m.block = m.id))).length := by
  obtain ⟨r, hr⟩ := h.run_tk
  have h1 : (blks l).length = ((run l).map Sp.b).length := rise_nodup hr.nd
  have h2 : ((l.filter (fun m => decide (m.block = m.id))).map Mv.id).Nodup := (List.Sublist.map Mv.id List.filter_sublist).nodup h.ids
  have h3 : ((run l).map Sp.b).Perm ((l.filter (fun m => decide (m.block = m.id))).map Mv.id) := by
    refine (List.perm_ext_iff_of_nodup hr.nd h2).2 (fun d => ?_)
    rw [List.mem_map, List.mem_map]
    constructor
    · rintro ⟨s, hs, rfl⟩
      obtain ⟨y, hy, e1, e2⟩ := run_made l s hs
      exact ⟨y, List.mem_filter.2 ⟨hy, by rw [e1, e2]; simp⟩, e2⟩
    · rintro ⟨m, hm, rfl⟩
      obtain ⟨hm1, hm2⟩ := List.mem_filter.1 hm
      obtain ⟨i, hi⟩ := List.mem_iff_getElem?.1 hm1
      have hil := (List.getElem?_eq_some_iff.1 hi).1
      have := grow_there h g l.length (Nat.le_refl _) i m hil hi (by simpa using hm2)
      rw [List.take_length] at this
      obtain ⟨q, hq⟩ := Option.isSome_iff_exists.1 this
      obtain ⟨s, hs, e, _⟩ := lk_some hq
      exact ⟨s, hs, e⟩
  rw [h1, h3.length_eq, List.length_map]

theorem nodup_of_map {l : List Mv} (h : (l.map Mv.id).Nodup) : l.Nodup := by
  rw [List.nodup_iff_pairwise_ne] at h ⊢
  exact (List.pairwise_map.1 h).imp (fun hab e => hab (by rw [e]))

/-- Of moves as they came. -/
theorem tr_count {L : List Mv} (hn : (L.map Mv.id).Nodup) (hm : ∀ m ∈ L, mayT m.id = true ∧ mayT m.block = true) (g : Grow L) : (blks (tr L)).length = (L.filter (fun m => decide (m.block = m.id))).length := by
  have hmem : ∀ x, x ∈ tr L ↔ x ∈ L := fun x => by
    rw [tr_mem hn]
    exact ⟨fun h => h.1, fun h => ⟨h, hm x h⟩⟩
  have hp : (tr L).Perm L := by
    have hl := tr_log L
    have h1 : (tr L).Nodup := nodup_of_map hl.ids
    have h2 : L.Nodup := nodup_of_map hn
    exact (List.perm_ext_iff_of_nodup h1 h2).2 hmem
  rw [grow_count (tr_log L) ⟨fun m hm' => ?_, fun m hm' => ?_⟩]
  · exact (hp.filter _).length_eq
  · exact (g.par m ((hmem m).1 hm')).imp id (fun ⟨y, hy, e⟩ => ⟨y, (hmem y).2 hy, e⟩)
  · exact (g.blk m ((hmem m).1 hm')).imp id (fun ⟨y, hy, e⟩ => ⟨y, (hmem y).2 hy, e⟩)

/-- A move that is new is taken. -/
theorem tr_fresh {L : List Mv} {m : Mv} (hn : ((L ++ [m]).map Mv.id).Nodup) (hm : mayT m.id = true ∧ mayT m.block = true) : mvE (tr L) m = 0 := by
  have hL : (L.map Mv.id).Nodup := by
    rw [List.map_append] at hn
    exact (List.nodup_append.1 hn).1
  rcases mvE_cases (tr L) m with ⟨_, h⟩ | ⟨_, _, _, x, hx, e⟩ | ⟨h, _⟩
  · exact absurd hm h
  · rw [List.map_append, List.nodup_append] at hn
    exact absurd e (hn.2.2 _ (List.mem_map_of_mem ((tr_mem hL x).1 hx).1) _ (by simp))
  · exact h
end

section
open Go.RowKit
open Go.Sort (grow)

theorem partb_ins {o : OpIn} (V : List Dt) (h : o.kind = 1) : partb o V = (hasv V o.blk && besb o V && charb o.char) := by simp [partb, h]
theorem partb_del {o : OpIn} (V : List Dt) (h : o.kind = 2) : partb o V = (hasv V o.blk && hasv V o.at) := by simp [partb, h]
theorem partb_mov {o : OpIn} (V : List Dt) (h : o.kind = 3) : partb o V = ((((o.bl0 == o.id0) && (o.bl1 == o.id1)) || hasv V o.blk) && parb o V && kyb o.key.toList) := by simp [partb, h]
theorem partb_no {o : OpIn} (V : List Dt) (h1 : o.kind ≠ 1) (h2 : o.kind ≠ 2) (h3 : o.kind ≠ 3) : partb o V = false := by simp [partb, h1, h2, h3]
end

section
open Go.RowKit
open Go.Sort (grow)

/-- An operation as it lies in memory: where its Deps lie, and what they are. -/
structure Mo where
  o : OpIn
  a : Option Addr
  n : Nat
  c : Nat
  V : List Dt

/-- An operation, whatever memory it lies in. -/
abbrev Mop := OpIn × List Dt
abbrev Mo.m (x : Mo) : Mop := (x.o, x.V)
abbrev Mo.dep (x : Mo) : Value := .slice x.a x.n x.c
def Mo.cells (x : Mo) : List Value := [.int .i64 x.o.id0, .int .i64 x.o.id1, .int .i64 x.o.time, x.dep, .int .i64 x.o.kind, .int .i64 x.o.bl0, .int .i64 x.o.bl1, .int .i64 x.o.at0, .int .i64 x.o.at1, .int .i64 x.o.side, .int .i64 x.o.char, .int .i64 x.o.pa0, .int .i64 x.o.pa1, .string x.o.key]

def flo : List Mo → List Value
  | [] => []
  | x :: r => x.cells ++ flo r

theorem flo_append (l l' : List Mo) : flo (l ++ l') = flo l ++ flo l' := by
  induction l with
  | nil => rfl
  | cons x r ih => simp [flo, ih]

theorem flo_length (l : List Mo) : (flo l).length = l.length * 14 := by
  induction l with
  | nil => rfl
  | cons x r ih => simp [flo, ih, Mo.cells]; omega

theorem flo_get (l : List Mo) (i : Nat) (hi : i < l.length) (j : Nat) (hj : j < 14) : (flo l)[i * 14 + j]? = (l[i]).cells[j]? := by
  induction l generalizing i with
  | nil => simp at hi
  | cons x r ih =>
    cases i with
    | zero => simp [flo]; rw [List.getElem?_append_left (by simp [Mo.cells]; omega)]
    | succ i =>
      simp only [flo]
      rw [List.getElem?_append_right (by simp [Mo.cells]; omega)]
      have e : (i + 1) * 14 + j - x.cells.length = i * 14 + j := by simp [Mo.cells]; omega
      rw [e, ih i (by simpa using hi)]
      rfl

theorem flo_one (L : List Mo) : ∀ u ∈ flo L, u.oneCell' = true := by
  induction L with
  | nil => intro u hu; simp [flo] at hu
  | cons d r ih =>
    intro u hu
    simp only [flo, List.mem_append] at hu
    rcases hu with hu | hu
    · simp only [Mo.cells, List.mem_cons, List.not_mem_nil, or_false] at hu
      rcases hu with rfl | rfl | rfl | rfl | rfl | rfl | rfl | rfl | rfl | rfl | rfl | rfl | rfl | rfl <;> rfl
    · exact ih u hu

/-- The slice (a, n, c) holds these operations. -/
structure OS (w : World) (a : Option Addr) (n c : Nat) (L : List Mo) : Prop where
  len : L.length = n
  cap : n ≤ c
  max : c ≤ maxLen
  nil : a = none → n = 0 ∧ c = 0
  cells : ∀ ad, a = some ad → ∀ j u, (flo L)[j]? = some u → w.cell? (ad.add j) = some u
  deps : ∀ x ∈ L, PS w x.a x.n x.c x.V

theorem OS.below {w w' : World} {a : Option Addr} {n c : Nat} {L : List Mo} (h : OS w a n c L) (hb : RowKit.Below w.heap.size w w') : OS w' a n c L :=
  ⟨h.len, h.cap, h.max, h.nil, fun ad ha j u hj => by
    have := h.cells ad ha j u hj
    rw [hb.cell (cell_in this)]
    exact this, fun x hx => (h.deps x hx).below hb⟩

theorem OS.far {w w' : World} {a : Option Addr} {n c : Nat} {L : List Mo} (h : OS w a n c L) (hb : Far w w') : OS w' a n c L := h.below hb.below

theorem OS.none (w : World) : OS w none 0 0 [] := ⟨rfl, Nat.le_refl _, Nat.zero_le _, fun _ => ⟨rfl, rfl⟩, (fun _ h => by cases h), (fun x hx => by simp at hx)⟩

/-- The fourteen cells of an operation, from a place on. -/
structure OpAtO (w : World) (q s : Nat) (x : Mo) : Prop where
  c0 : w.cell? ⟨q, s, none⟩ = some (.int .i64 x.o.id0)
  c1 : w.cell? ⟨q, s + 1, none⟩ = some (.int .i64 x.o.id1)
  c2 : w.cell? ⟨q, s + 2, none⟩ = some (.int .i64 x.o.time)
  c3 : w.cell? ⟨q, s + 3, none⟩ = some (.slice x.a x.n x.c)
  c4 : w.cell? ⟨q, s + 4, none⟩ = some (.int .i64 x.o.kind)
  c5 : w.cell? ⟨q, s + 5, none⟩ = some (.int .i64 x.o.bl0)
  c6 : w.cell? ⟨q, s + 6, none⟩ = some (.int .i64 x.o.bl1)
  c7 : w.cell? ⟨q, s + 7, none⟩ = some (.int .i64 x.o.at0)
  c8 : w.cell? ⟨q, s + 8, none⟩ = some (.int .i64 x.o.at1)
  c9 : w.cell? ⟨q, s + 9, none⟩ = some (.int .i64 x.o.side)
  c10 : w.cell? ⟨q, s + 10, none⟩ = some (.int .i64 x.o.char)
  c11 : w.cell? ⟨q, s + 11, none⟩ = some (.int .i64 x.o.pa0)
  c12 : w.cell? ⟨q, s + 12, none⟩ = some (.int .i64 x.o.pa1)
  c13 : w.cell? ⟨q, s + 13, none⟩ = some (.string x.o.key)

theorem add_none (g o j : Nat) : (⟨g, o, Option.none⟩ : Addr).add j = ⟨g, o + j, Option.none⟩ := by
  by_cases hj : j = 0
  · subst hj; simp [Addr.add]
  · simp [Addr.add, hj]

/-- Where operations are, they lie at a plain address. -/
theorem OS.at {w : World} {a : Option Addr} {n c : Nat} {L : List Mo} (h : OS w a n c L) (hp : 0 < n) :
    ∃ g o, a = some ⟨g, o, Option.none⟩ ∧ g < w.heap.size ∧ ∀ i (hi : i < L.length), OpAtO w g (o + i * 14) L[i] := by
  cases a with
  | none => have := (h.nil rfl).1; omega
  | some ad =>
    have hc := h.cells ad rfl
    obtain ⟨g, o, sp⟩ := ad
    have hl : 0 < L.length := by rw [h.len]; exact hp
    have h0 := hc 0 (.int .i64 (L[0]).o.id0) (by have := flo_get L 0 hl 0 (by omega); simpa [Mo.cells] using this)
    have hspot : sp = Option.none := by simpa [Addr.add] using World.cell?_spot h0
    subst hspot
    have each : ∀ i (hi : i < L.length) j (_ : j < 14) u, (L[i]).cells[j]? = some u → w.cell? ⟨g, o + i * 14 + j, Option.none⟩ = some u := fun i hi j hj u hu => by
      have := hc (i * 14 + j) u (by rw [flo_get L i hi j hj]; exact hu)
      rw [add_none, ← Nat.add_assoc] at this
      exact this
    refine ⟨g, o, rfl, by have := cell_in h0; simpa [Addr.add] using this, fun i hi => ?_⟩
    exact ⟨each i hi 0 (by omega) _ rfl, each i hi 1 (by omega) _ rfl, each i hi 2 (by omega) _ rfl, each i hi 3 (by omega) _ rfl, each i hi 4 (by omega) _ rfl, each i hi 5 (by omega) _ rfl, each i hi 6 (by omega) _ rfl,
      each i hi 7 (by omega) _ rfl, each i hi 8 (by omega) _ rfl, each i hi 9 (by omega) _ rfl, each i hi 10 (by omega) _ rfl, each i hi 11 (by omega) _ rfl, each i hi 12 (by omega) _ rfl, each i hi 13 (by omega) _ rfl⟩

theorem Try.infoOp : (Try.prog.info? 58).map (fun i => (i.zero, i.size, i.bytes)) = some (some (.agg #[.int .i64 0, .int .i64 0, .int .i64 0, .slice none 0 0, .int .i64 0, .int .i64 0, .int .i64 0, .int .i64 0, .int .i64 0, .int .i64 0, .int .i64 0, .int .i64 0, .int .i64 0, .string ByteArray.empty]), 14, 136) := by kernel_rfl

/-- The slice v of operations is of the call's own, or none, and holds L. -/
abbrev OwnO (w : World) (base : Nat) (v : Value) (L : List Mo) : Prop := w.ownsRow base 58 14 v L.length (flo L)

theorem owned_os {w : World} {base : Nat} {v : Value} {L : List Mo} (h : OwnO w base v L) (hd : ∀ x ∈ L, PS w x.a x.n x.c x.V) : ∃ a c, v = .slice a L.length c ∧ OS w a L.length c L := by
  rcases h.2 with ⟨rfl, hl⟩ | ⟨g, cap, cur, rfl, hg, hb, hn, hcap, hsz, ht⟩
  · have : L = [] := List.eq_nil_of_length_eq_zero hl
    subst this
    exact ⟨none, 0, rfl, OS.none w⟩
  · exact ⟨_, _, rfl, rfl, hn, hcap, fun h => (by cases h), fun ad ha j u hj => (by cases ha; exact h.cells (g := g) rfl j u hj), hd⟩

/-- append of one operation, that lies in a block, to a slice of the call's own. -/
theorem wpList_append_op {w : World} {ops : Array Oper} {rest : List Oper} {o : Oper} {a : Act} {Q : Exit → Act → World → Prop} (hgd : o.guard = none) (s x : Operand)
    (ho : o.op = .call { callee := .builtin .append, args := #[s, x], argTypes := #[54, 54] }) (base : Nat) (v : Value) (n : Nat) (L : List Mo) (hs : a.eval s = v) (hn : L.length = n) (hown : OwnO w base v L)
    (B : Nat) (y : Mo) (hx : a.eval x = .slice (some ⟨B, 0, none⟩) 1 1) (hB : ∀ j u, y.cells[j]? = some u → w.cell? ((⟨B, 0, none⟩ : Addr).add j) = some u) (hb : n + 1 ≤ 1000000) (hbase : base ≤ w.heap.size)
    (h : ∀ g cap w', OwnO w' base (.slice (some ⟨g, 0, none⟩) (n + 1) cap) (L ++ [y]) → w.grownBy w' v.ownBlock → (v.ownBlock = some g ∨ g = w.heap.size) → g < w'.heap.size → wpList Try.prog ops Q rest (a.put o.dst (.slice (some ⟨g, 0, none⟩) (n + 1) cap)) w') : wpList Try.prog ops Q (o :: rest) a w := by
  subst hn
  obtain ⟨i0, hi, hz0, hz1, hz2⟩ := info_parts Try.infoOp
  refine wpList_append_lies w hgd s x 54 ho base 58 i0 _ 14 136 Try.underlying54 hi hz0 hz1 hz2 rfl (by decide) v L.length (flo L) hs hown ⟨B, 0, none⟩ 1 1 y.cells hx (by simp [Mo.cells]) hB ?_ (by decide) (by unfold maxLen; omega) (by omega) hbase _ rfl ?_
  · have := flo_one [y]
    simpa [flo] using this
  · intro g cap w' h1 h2 h3 h4
    refine h g cap w' ?_ h2 h3 h4
    show World.ownsRow _ _ _ _ _ (List.length _) _
    rw [List.length_append, flo_append]
    simpa [flo] using h1

/-- The block of an operation that was just made. -/
theorem mo_cells (w : World) (B : Nat) (x : Mo) (h : OpAt w B x.o x.dep) : ∀ j u, x.cells[j]? = some u → w.cell? ((⟨B, 0, none⟩ : Addr).add j) = some u := by
  intro j u hj
  rw [add_none, Nat.zero_add]
  match j, hj with
  | 0, hj => simp [Mo.cells] at hj; subst hj; exact h.c0
  | 1, hj => simp [Mo.cells] at hj; subst hj; exact h.c1
  | 2, hj => simp [Mo.cells] at hj; subst hj; exact h.c2
  | 3, hj => simp [Mo.cells] at hj; subst hj; exact h.c3
  | 4, hj => simp [Mo.cells] at hj; subst hj; exact h.c4
  | 5, hj => simp [Mo.cells] at hj; subst hj; exact h.c5
  | 6, hj => simp [Mo.cells] at hj; subst hj; exact h.c6
  | 7, hj => simp [Mo.cells] at hj; subst hj; exact h.c7
  | 8, hj => simp [Mo.cells] at hj; subst hj; exact h.c8
  | 9, hj => simp [Mo.cells] at hj; subst hj; exact h.c9
  | 10, hj => simp [Mo.cells] at hj; subst hj; exact h.c10
  | 11, hj => simp [Mo.cells] at hj; subst hj; exact h.c11
  | 12, hj => simp [Mo.cells] at hj; subst hj; exact h.c12
  | 13, hj => simp [Mo.cells] at hj; subst hj; exact h.c13
  | j + 14, hj => simp [Mo.cells] at hj

/-- Rows of things of unlike makes lie in unlike blocks. -/
theorem rows_apart {w : World} {b b' e e' z z' : Nat} {v v' : Value} {n n' : Nat} {xs xs' : List Value} (h : w.ownsRow b e z v n xs) (h' : w.ownsRow b' e' z' v' n' xs') (he : e ≠ e') : v.ownBlock = none ∨ v.ownBlock ≠ v'.ownBlock := by
  rcases h.2 with ⟨rfl, _⟩ | ⟨g, cap, cur, rfl, _, hb, _⟩
  · exact .inl rfl
  · refine .inr fun e1 => ?_
    rcases h'.2 with ⟨rfl, _⟩ | ⟨g', cap', cur', rfl, _, hb', _⟩
    · cases e1
    · simp [Value.ownBlock] at e1
      subst e1
      rw [hb] at hb'
      simp at hb'
      exact he hb'.2
end

section
open Go.RowKit Go.Maps
open Go.Sort (grow)

theorem opAt_of_block {w : World} {q : Nat} {o : OpIn} {v : Value} {t : TypeId} (h : w.heap[q]? = some (.cells (o.cells v) t)) : OpAt w q o v := by
  constructor <;> simp [World.cell?, h, OpIn.cells]

theorem frozen_of_block {w : World} {q : Nat} {cs : Array Value} {t : TypeId} (h : w.heap[q]? = some (.cells cs t)) (j : Nat) : w.frozen? ⟨q, j, none⟩ = false := by simp [World.frozen?, h]

/-- Is there one with this identity? -/
def hasId (l : List Mop) (d : Dt) : Bool := l.any (fun x => decide (x.1.id = d))

/-- One more that counts, or not. -/
def cnt1 (out : List Mop) (x : Mop) : List Mop := if hasId out x.1.id = false ∧ chk x.1 x.2 = true then out ++ [x] else out
/-- Those that count, in their order. -/
def cnt (l : List Mop) : List Mop := l.foldl cnt1 []

theorem DM.kept {w w' : World} {b n : Nat} {g : Dt → Option Int} {r : Option Nat} (h : DM w b n g) (hg : w.grownBy w' r) (hne : some b ≠ r) : DM w' b n g := by
  obtain ⟨D, hown, hT⟩ := h
  exact ⟨D, hown.kept hg hne, hT⟩

theorem DM.mono {w : World} {b n n' : Nat} {g : Dt → Option Int} (h : DM w b n g) (hn : n ≤ n') : DM w b n' g := by
  obtain ⟨D, hown, hT⟩ := h
  exact ⟨D, hown.mono hn, hT⟩

theorem none_or {o : Option Nat} : o = none ∨ o ≠ none := by cases o <;> simp

theorem obelow_grown {w w' : World} (h : RowKit.Below w.heap.size w w') : w.grownBy w' none := ⟨h.os, h.tape, h.output, h.size, fun k hk _ => h.block k hk⟩
end

section
open Go.RowKit

def put14 (w : World) (q : Nat) (o : OpIn) (v : Value) : World := (((((((((((((w.setCell ⟨q, 0, none⟩ (.int .i64 o.id0)).setCell ⟨q, 1, none⟩ (.int .i64 o.id1)).setCell ⟨q, 2, none⟩ (.int .i64 o.time)).setCell ⟨q, 3, none⟩ v).setCell ⟨q, 4, none⟩ (.int .i64 o.kind)).setCell ⟨q, 5, none⟩ (.int .i64 o.bl0)).setCell ⟨q, 6, none⟩ (.int .i64 o.bl1)).setCell ⟨q, 7, none⟩ (.int .i64 o.at0)).setCell ⟨q, 8, none⟩ (.int .i64 o.at1)).setCell ⟨q, 9, none⟩ (.int .i64 o.side)).setCell ⟨q, 10, none⟩ (.int .i64 o.char)).setCell ⟨q, 11, none⟩ (.int .i64 o.pa0)).setCell ⟨q, 12, none⟩ (.int .i64 o.pa1)).setCell ⟨q, 13, none⟩ (.string o.key)

theorem set14 (x0 x1 x2 x3 x4 x5 x6 x7 x8 x9 x10 x11 x12 x13 y0 y1 y2 y3 y4 y5 y6 y7 y8 y9 y10 y11 y12 y13 : Value) :
    ((((((((((((((#[x0, x1, x2, x3, x4, x5, x6, x7, x8, x9, x10, x11, x12, x13] : Array Value).setIfInBounds 0 y0).setIfInBounds 1 y1).setIfInBounds 2 y2).setIfInBounds 3 y3).setIfInBounds 4 y4).setIfInBounds 5 y5).setIfInBounds 6 y6).setIfInBounds 7 y7).setIfInBounds 8 y8).setIfInBounds 9 y9).setIfInBounds 10 y10).setIfInBounds 11 y11).setIfInBounds 12 y12).setIfInBounds 13 y13 = #[y0, y1, y2, y3, y4, y5, y6, y7, y8, y9, y10, y11, y12, y13] := by
  simp

theorem set_block {w : World} {q j : Nat} {cs : Array Value} {t : TypeId} (h : w.heap[q]? = some (.cells cs t)) (u : Value) : (w.setCell ⟨q, j, none⟩ u).heap[q]? = some (.cells (cs.setIfInBounds j u) t) := by
  simp [World.setCell, Array.getElem?_modify, h]

theorem put14_block {w : World} {q : Nat} {o1 o : OpIn} {v1 v : Value} {t : TypeId} (h : w.heap[q]? = some (.cells (o1.cells v1) t)) : (put14 w q o v).heap[q]? = some (.cells (o.cells v) t) := by
  have h0 := set_block (j := 0) h (.int .i64 o.id0)
  have h1 := set_block (j := 1) h0 (.int .i64 o.id1)
  have h2 := set_block (j := 2) h1 (.int .i64 o.time)
  have h3 := set_block (j := 3) h2 v
  have h4 := set_block (j := 4) h3 (.int .i64 o.kind)
  have h5 := set_block (j := 5) h4 (.int .i64 o.bl0)
  have h6 := set_block (j := 6) h5 (.int .i64 o.bl1)
  have h7 := set_block (j := 7) h6 (.int .i64 o.at0)
  have h8 := set_block (j := 8) h7 (.int .i64 o.at1)
  have h9 := set_block (j := 9) h8 (.int .i64 o.side)
  have h10 := set_block (j := 10) h9 (.int .i64 o.char)
  have h11 := set_block (j := 11) h10 (.int .i64 o.pa0)
  have h12 := set_block (j := 12) h11 (.int .i64 o.pa1)
  have h13 := set_block (j := 13) h12 (.string o.key)
  unfold OpIn.cells at h13
  rw [set14] at h13
  exact h13

theorem put14_grown (w : World) (q : Nat) (o : OpIn) (v : Value) : w.grownBy (put14 w q o v) (some q) :=
  ((((((((((((((World.grownBy.refl _ _).trans (grownBy_setCell _ q 0 _)).trans (grownBy_setCell _ q 1 _)).trans (grownBy_setCell _ q 2 _)).trans (grownBy_setCell _ q 3 _)).trans (grownBy_setCell _ q 4 _)).trans (grownBy_setCell _ q 5 _)).trans (grownBy_setCell _ q 6 _)).trans (grownBy_setCell _ q 7 _)).trans (grownBy_setCell _ q 8 _)).trans (grownBy_setCell _ q 9 _)).trans (grownBy_setCell _ q 10 _)).trans (grownBy_setCell _ q 11 _)).trans (grownBy_setCell _ q 12 _)).trans (grownBy_setCell _ q 13 _)
end

section
open Go.RowKit Go.Maps Go.WideElems Go.MapKept
open Go.ChangeMaps (setBlock heap_setBlock_same heap_setBlock_other)

theorem three_blocks (w1 : World) (a b c : Obj) : ((((w1.alloc a).alloc b).alloc c).heap[w1.heap.size]? = some a ∧ (((w1.alloc a).alloc b).alloc c).heap[w1.heap.size + 1]? = some b ∧ (((w1.alloc a).alloc b).alloc c).heap[w1.heap.size + 2]? = some c) ∧ (((w1.alloc a).alloc b).alloc c).heap.size = w1.heap.size + 3 ∧ RowKit.Below w1.heap.size w1 (((w1.alloc a).alloc b).alloc c) := by
  refine ⟨⟨?_, ?_, ?_⟩, by simp, (((Below.refl _ _).alloc (Nat.le_refl _) _).alloc (by simp) _).alloc (by simp; omega) _⟩
  · show ((((w1.heap.push a).push b).push c))[w1.heap.size]? = some a
    simp only [Array.getElem?_push, Array.size_push]
    rw [if_neg (by omega), if_neg (by omega), if_pos trivial]
  · show ((((w1.heap.push a).push b).push c))[w1.heap.size + 1]? = some b
    simp only [Array.getElem?_push, Array.size_push]
    rw [if_neg (by omega), if_pos trivial]
  · show ((((w1.heap.push a).push b).push c))[w1.heap.size + 2]? = some c
    simp only [Array.getElem?_push, Array.size_push]
    rw [if_pos trivial]

/-- Nothing. -/
def zop : OpIn := ⟨0, 0, 0, 0, 0, 0, 0, 0, 0, 0, 0, 0, { data := #[] }⟩

theorem OpAtO.below {w w' : World} {q s B : Nat} {x : Mo} (h : OpAtO w q s x) (hb : RowKit.Below B w w') (hq : q < B) : OpAtO w' q s x := by
  constructor
  · exact (hb.cell hq).trans h.c0
  · exact (hb.cell hq).trans h.c1
  · exact (hb.cell hq).trans h.c2
  · exact (hb.cell hq).trans h.c3
  · exact (hb.cell hq).trans h.c4
  · exact (hb.cell hq).trans h.c5
  · exact (hb.cell hq).trans h.c6
  · exact (hb.cell hq).trans h.c7
  · exact (hb.cell hq).trans h.c8
  · exact (hb.cell hq).trans h.c9
  · exact (hb.cell hq).trans h.c10
  · exact (hb.cell hq).trans h.c11
  · exact (hb.cell hq).trans h.c12
  · exact (hb.cell hq).trans h.c13
end

section
open Go.RowKit Go.Maps

/-- With one more. -/
def upd (tm : Dt → Option Int) (d : Dt) (t : Int) : Dt → Option Int := fun e => if e = d then some t else tm e

/-- Is each one's Time above those of its Deps, as far as they came ahead of it? -/
def latF (tm : Dt → Option Int) : List Mop → Bool
  | [] => true
  | x :: r => x.2.all (fun d => decide ((tm d).getD 0 < x.1.time)) && latF (upd tm x.1.id x.1.time) r
end

section
open Go.RowKit
open Go.Sort (grow)

theorem chk_ins {o : OpIn} {V : List Dt} (h : headb o V = true) (k : o.kind = 1) : chk o V = ((o.pa0 == 0) && (o.pa1 == 0) && o.key.toList.isEmpty && hasv V o.blk && (if o.at0 = 0 ∧ o.at1 = 0 then (o.side == 1) else hasv V o.at && ((o.side == 0) || (o.side == 1))) && charb o.char) := by
  simp [chk, h, partb_ins V k, barb, besb, pat, pch, ppl, k, Bool.and_assoc]

set_option maxRecDepth 100000 in
set_option maxHeartbeats 16000000 in
theorem rchk_ins (o : OpIn) (a : Option Addr) (n c : Nat) (V : List Dt) (w : World) (hs : PS w a n c V) (hn : n ≤ 9223372036854775807) (hk : o.key.size ≤ maxLen) (hh : headb o V = true) (hkd : o.kind = 1) : Tells 48 #[ov o (.slice a n c)] w (.bool (chk o V)) := by
  have hb := hid (chk_ins hh hkd)
  have k1 : (o.kind == 1) = true := by simp [hkd]
  have hi : 0 ≤ o.id0 ∧ o.id0 < 16777216 ∧ 1 ≤ o.id1 ∧ o.id1 ≤ 1073741824 := (mayd_iff o.id).1 (by simp [headb] at hh; exact hh.1.1.1.1)
  have hg := ((vmb_iff V).1 (by simp [headb] at hh; exact hh.1.2)).gt_bounds o.id0
  have x1 : mayd o.id = true := by simp [headb] at hh; exact hh.1.1.1.1
  have x2 : vmb V = true := by simp [headb] at hh; exact hh.1.2
  have x3 : gt V o.id0 = o.id1 - 1 := by simp [headb] at hh; exact hh.2
  have x4 : 1 ≤ o.time := by simp [headb] at hh; exact hh.1.1.1.2
  have x5 : o.time ≤ 1099511627776 := by simp [headb] at hh; exact hh.1.1.2
  have hH := fun W (h : Far w W) x y => rhas_any a n c V (x, y) W (hs.far h) hn
  have hK := fun W => rkmay_any o.key W hk
  clear hh hk hkd
  have mixed := mixed
  have hA := opAt_alloc w o (.slice a n c) 58
  have hF := (Far.refl w).alloc (.cells (o.cells (.slice a n c)) 58)
  have hI := rmay_any o.id (w.alloc (.cells (o.cells (.slice a n c)) 58))
  have hV := fun W (h : Far w W) => rvmay_any a n c V W (hs.far h) hn
  have E0 := hA.c0
  have E1 := hA.c1
  have E3 := hA.c3
  generalize mayd o.id = r1 at hI x1
  generalize vmb V = r2 at hV x2
  go_enter Try.func48, Try.ntmps48
  go_upto_region 3 with (first
    | (go_at_call 64; refine hI.mono ?_; rintro e w1 ⟨rfl, hF1⟩; have hA1 := hA.far hF1; have F1 := hF.trans hF1; have e3 := hA1.c3)
    | (go_at_call 69; refine (hV _ F1).mono ?_; rintro e w2 ⟨rfl, hF2⟩; have hA2 := hA1.far hF2; have F2 := F1.trans hF2))
  clear E0 E1 E3 e3 hI hV hF hF1 hF2 F1 hA hA1
  generalize w.heap.size = q at hA2 ⊢
  have E0 := fun m os => (hA2.grow m os).c0
  have E1 := fun m os => (hA2.grow m os).c1
  have E2 := fun m os => (hA2.grow m os).c2
  have E3 := fun m os => (hA2.grow m os).c3
  have hG := fun m os => tells_q (rget_far (y := o.id0) ((hs.far F2).far ⟨m, os, rfl⟩) hn)
  subst x1 x2
  have h4 : ¬ o.time < 1 := by omega
  have h5 : ¬ 1099511627776 < o.time := by omega
  have hb3 : (gt V o.id0 == o.id1 - 1) = true := by simp [x3]
  have hb4 : (gt V o.id0 != o.id1 - 1) = false := by simp [x3]
  generalize gt V o.id0 = g at hG hg hb3 hb4
  clear x3 hs hn
  refine wp_region_quiet_grown mixed (by kernel_rfl) ?_
  repeat (go_big_quiet_step ((first | (go_at_call 63; exact hG _ _))))
  refine wpQuiet_nil ?_
  intro _ hw'
  obtain ⟨⟨nq, osq⟩, hw''⟩ := hw'
  subst hw''
  simp only []
  have hA3 := hA2.grow nq osq
  have F3 := F2.more nq osq
  generalize grow (w2.drewN nq) osq = w3 at hA3 F3 ⊢
  clear hA2 F2 E0 E1 E2 E3 hG hi hg hb3 h4 h5 x4 x5
  have E3 := hA3.c3
  have E5 := hA3.c5
  have E6 := hA3.c6
  have hH1 := hH w3 F3 o.bl0 o.bl1
  have hH2 := fun W h => hH W h o.at0 o.at1
  have hH3 := fun W h => hH W h o.pa0 o.pa1
  clear hH
  try simp only [OpIn.at] at hb
  generalize hasv V (o.bl0, o.bl1) = r5 at hH1 hb
  generalize hasv V (o.at0, o.at1) = r6 at hH2 hb
  generalize hasv V (o.pa0, o.pa1) = r7 at hH3 hb
  generalize kyb o.key.toList = r8 at hK hb
  go_upto_region 12 with (first
    | (go_at_call 67; have hq := F5; refine (hH3 _ F5).mono ?_; rintro e w6 ⟨rfl, hF6⟩; have hA6 := hA5.far hF6; have F6 := F5.trans hF6; have hlt := hA6.lt; clear hA3 hA4 hA5 F3 F4 hF4 hF5 hF6; have e0 := hA6.c0; have e1 := hA6.c1; have e2 := hA6.c2; have e3 := hA6.c3; have e4 := hA6.c4; have e5 := hA6.c5; have e6 := hA6.c6; have e7 := hA6.c7; have e8 := hA6.c8; have e9 := hA6.c9; have e10 := hA6.c10; have e11 := hA6.c11; have e12 := hA6.c12; have e13 := hA6.c13)
    | (go_at_call 67; have hq := F4; refine (hH2 _ F4).mono ?_; rintro e w5 ⟨rfl, hF5⟩; have hA5 := hA4.far hF5; have F5 := F4.trans hF5; have c3 := hA5.c3; have c11 := hA5.c11; have c12 := hA5.c12)
    | (go_at_call 67; refine hH1.mono ?_; rintro e w4 ⟨rfl, hF4⟩; have hA4 := hA3.far hF4; have F4 := F3.trans hF4; have b3 := hA4.c3; have b7 := hA4.c7; have b8 := hA4.c8)
    | (go_at_call 70; refine (hK _).mono ?_; rintro e w7 ⟨rfl, rfl⟩))
  have FZ := ((F6.alloc (.cells #[.int .i64 0, .int .i64 0] 24)).alloc (.cells #[.int .i64 0, .int .i64 (-1)] 24)).alloc (.cells #[.int .i64 0, .int .i64 (-2)] 24)
  have hA9 := hA6.far (((Far.refl w6).alloc (.cells #[.int .i64 0, .int .i64 0] 24)).alloc (.cells #[.int .i64 0, .int .i64 (-1)] 24) |>.alloc (.cells #[.int .i64 0, .int .i64 (-2)] 24))
  have hn00 : (((w6.alloc (.cells #[.int .i64 0, .int .i64 0] 24)).alloc (.cells #[.int .i64 0, .int .i64 (-1)] 24)).alloc (.cells #[.int .i64 0, .int .i64 (-2)] 24)).cell? ⟨w6.heap.size, 0, none⟩ = some (.int .i64 0) := by go_simp
  have hn01 : (((w6.alloc (.cells #[.int .i64 0, .int .i64 0] 24)).alloc (.cells #[.int .i64 0, .int .i64 (-1)] 24)).alloc (.cells #[.int .i64 0, .int .i64 (-2)] 24)).cell? ⟨w6.heap.size, 1, none⟩ = some (.int .i64 0) := by go_simp
  have hn10 : (((w6.alloc (.cells #[.int .i64 0, .int .i64 0] 24)).alloc (.cells #[.int .i64 0, .int .i64 (-1)] 24)).alloc (.cells #[.int .i64 0, .int .i64 (-2)] 24)).cell? ⟨w6.heap.size + 1, 0, none⟩ = some (.int .i64 0) := by go_simp
  have hn11 : (((w6.alloc (.cells #[.int .i64 0, .int .i64 0] 24)).alloc (.cells #[.int .i64 0, .int .i64 (-1)] 24)).alloc (.cells #[.int .i64 0, .int .i64 (-2)] 24)).cell? ⟨w6.heap.size + 1, 1, none⟩ = some (.int .i64 (-1)) := by go_simp
  have hn20 : (((w6.alloc (.cells #[.int .i64 0, .int .i64 0] 24)).alloc (.cells #[.int .i64 0, .int .i64 (-1)] 24)).alloc (.cells #[.int .i64 0, .int .i64 (-2)] 24)).cell? ⟨w6.heap.size + 1 + 1, 0, none⟩ = some (.int .i64 0) := by go_simp
  have hn21 : (((w6.alloc (.cells #[.int .i64 0, .int .i64 0] 24)).alloc (.cells #[.int .i64 0, .int .i64 (-1)] 24)).alloc (.cells #[.int .i64 0, .int .i64 (-2)] 24)).cell? ⟨w6.heap.size + 1 + 1, 1, none⟩ = some (.int .i64 (-2)) := by go_simp
  generalize ((w6.alloc (.cells #[.int .i64 0, .int .i64 0] 24)).alloc (.cells #[.int .i64 0, .int .i64 (-1)] 24)).alloc (.cells #[.int .i64 0, .int .i64 (-2)] 24) = w9 at FZ hA9 hn00 hn01 hn10 hn11 hn20 hn21 ⊢
  clear F6 F5 hH1 hH2 hH3 hK hA6 E3 E5 E6 b3 b7 b8 c3 c11 c12 e0 e1 e2 e3 e4 e5 e6 e7 e8 e9 e10 e11 e12 e13 hlt
  have e0 := hA9.c0
  have e1 := hA9.c1
  have e4 := hA9.c4
  have e5 := hA9.c5
  have e6 := hA9.c6
  have e7 := hA9.c7
  have e8 := hA9.c8
  have e9 := hA9.c9
  have e10 := hA9.c10
  have e11 := hA9.c11
  have e12 := hA9.c12
  have e13 := hA9.c13
  clear hA9
  by_cases z0 : o.at0 = 0
  · have g0 : (o.at0 == 0) = true := by simp [z0]
    by_cases z1 : o.at1 = 0
    · have g1 : (o.at1 == 0) = true := by simp [z1]
      by_cases z2 : o.side = 1
      · have g2 : (o.side == 1) = true := by simp [z2]
        have hb : Hid (chk o V = ((o.pa0 == 0) && (o.pa1 == 0) && o.key.toList.isEmpty && r5 && charb o.char)) := hid (by have := hb.out; rw [if_pos ⟨z0, z1⟩, g2] at this; simpa [Bool.and_assoc] using this)
        have g3 : (o.side == 0) = false := by simp [z2]
        have g4 : (o.side != 1) = false := by simp [z2]
        clear z0 z1 z2
        go_upto_region 15 with fail
        go_cut [12] from 81 to 98 (fun s wc => s = .bool (charb o.char) ∧ w9 = wc)
        case first =>
          go_wp2_with fail
          all_goals go_meet
          all_goals (refine ⟨?_, rfl⟩; unfold charb; first | (simp_all; done) | (simp_all; omega) | skip)
        case rest =>
          obtain ⟨rfl, rfl⟩ := hcut
          generalize charb o.char = r9 at hb
          go_wp2_with fail
          all_goals go_ret
          all_goals (refine ⟨?_, FZ⟩; have hb := hb.out; rw [hb]; clear FZ e0 e1 e4 e5 e6 e7 e8 e9 e10 e11 e12 e13 hn00 hn01 hn10 hn11 hn20 hn21 hb)
          all_goals (first | (simp_all; done) | skip)
      · have g2 : (o.side == 1) = false := by simp [z2]
        have g4 : (o.side != 1) = true := by simp [z2]
        have hb : Hid (chk o V = false) := hid (by have := hb.out; rw [if_pos ⟨z0, z1⟩, g2] at this; simpa using this)
        clear z0 z1 z2
        go_wp2_with fail
        go_ret
        exact ⟨by rw [hb.out]; rfl, FZ⟩
    · have g1 : (o.at1 == 0) = false := by simp [z1]
      have hb : Hid (chk o V = ((o.pa0 == 0) && (o.pa1 == 0) && o.key.toList.isEmpty && r5 && (r6 && ((o.side == 0) || (o.side == 1))) && charb o.char)) := hid (by have := hb.out; rw [if_neg (fun h => z1 h.2)] at this; exact this)
      clear z0 z1
      go_upto_region 15 with fail
      go_cut [12] from 81 to 98 (fun s wc => s = .bool (charb o.char) ∧ w9 = wc)
      case first =>
        go_wp2_with fail
        all_goals go_meet
        all_goals (refine ⟨?_, rfl⟩; unfold charb; first | (simp_all; done) | (simp_all; omega) | skip)
      case rest =>
        obtain ⟨rfl, rfl⟩ := hcut
        generalize charb o.char = r9 at hb
        go_wp2_with fail
        all_goals go_ret
        all_goals (refine ⟨?_, FZ⟩; have hb := hb.out; rw [hb]; clear FZ e0 e1 e4 e5 e6 e7 e8 e9 e10 e11 e12 e13 hn00 hn01 hn10 hn11 hn20 hn21 hb)
        all_goals (first | (simp_all; done) | skip)
  · have g0 : (o.at0 == 0) = false := by simp [z0]
    have hb : Hid (chk o V = ((o.pa0 == 0) && (o.pa1 == 0) && o.key.toList.isEmpty && r5 && (r6 && ((o.side == 0) || (o.side == 1))) && charb o.char)) := hid (by have := hb.out; rw [if_neg (fun h => z0 h.1)] at this; exact this)
    clear z0
    go_upto_region 15 with fail
    go_cut [12] from 81 to 98 (fun s wc => s = .bool (charb o.char) ∧ w9 = wc)
    case first =>
      go_wp2_with fail
      all_goals go_meet
      all_goals (refine ⟨?_, rfl⟩; unfold charb; first | (simp_all; done) | (simp_all; omega) | skip)
    case rest =>
      obtain ⟨rfl, rfl⟩ := hcut
      generalize charb o.char = r9 at hb
      go_wp2_with fail
      all_goals go_ret
      all_goals (refine ⟨?_, FZ⟩; have hb := hb.out; rw [hb]; clear FZ e0 e1 e4 e5 e6 e7 e8 e9 e10 e11 e12 e13 hn00 hn01 hn10 hn11 hn20 hn21 hb)
      all_goals (first | (simp_all; done) | skip)
end
end Go.Proofs.Ytplcohjpchfkkaa
