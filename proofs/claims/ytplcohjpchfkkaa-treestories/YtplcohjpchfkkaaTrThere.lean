/- there: whether a block is there. -/
import Derived.Test.YtplcohjpchfkkaaTrKey
import Derived.Maps.OwnSet
import Derived.Sort.KeysCollected
import Derived.Test.YtplcohjpchfkkaaVMay
import Derived.Deep.Quiet
import Derived.Deep.CutBlock
import Derived.Deep.CutRange
import Derived.Deep.RegionHeld
import Derived.BigQuiet
import Derived.RangeFuncRecord
namespace Go.Proofs.Ytplcohjpchfkkaa
section
set_option linter.unusedVariables false

/-- Is a move done ahead of another one? -/
def mvl (a b : Mv) : Bool := decide (a.time < b.time) || (decide (a.time = b.time) && dl a.id b.id)

theorem mvl_iff (a b : Mv) : mvl a b = true ↔ a.time < b.time ∨ (a.time = b.time ∧ dl a.id b.id = true) := by simp [mvl]

theorem mvl_lin : Lin mvl Mv.id := by
  refine ⟨fun a => ?_, fun a b c h k => ?_, fun a b h k => ?_⟩
  · cases e : mvl a a with
    | false => rfl
    | true =>
      rcases (mvl_iff a a).1 e with h | ⟨_, h⟩
      · omega
      · rw [dl_irrefl] at h; cases h
  · rw [mvl_iff] at h k ⊢
    rcases h with h | ⟨h1, h2⟩
    · rcases k with k | ⟨k1, k2⟩
      · exact Or.inl (by omega)
      · exact Or.inl (by omega)
    · rcases k with k | ⟨k1, k2⟩
      · exact Or.inl (by omega)
      · exact Or.inr ⟨by omega, dl_trans h2 k2⟩
  · have k' : ¬ (a.time < b.time ∨ (a.time = b.time ∧ dl a.id b.id = true)) := fun e => by rw [(mvl_iff a b).2 e] at k; cases k
    rw [mvl_iff]
    rcases Int.lt_trichotomy a.time b.time with h1 | h1 | h1
    · exact absurd (Or.inl h1) k'
    · refine Or.inr ⟨h1.symm, dl_total h ?_⟩
      cases e : dl a.id b.id with
      | false => rfl
      | true => exact absurd (Or.inr ⟨h1, e⟩) k'
    · exact Or.inl h1

/-- A key's bytes. -/
def kb (k : ByteArray) : Bys := k.toList

/-- Does a block come ahead of another one under the same parent? -/
def kdl (a b : Sp) : Bool := bl (kb a.k) (kb b.k) || (decide (kb a.k = kb b.k) && dl a.b b.b)

theorem kdl_iff (a b : Sp) : kdl a b = true ↔ bl (kb a.k) (kb b.k) = true ∨ (kb a.k = kb b.k ∧ dl a.b b.b = true) := by
  unfold kdl
  rw [Bool.or_eq_true, Bool.and_eq_true, decide_eq_true_eq]

theorem kdl_lin : Lin kdl Sp.b := by
  refine ⟨fun a => ?_, fun a b c h k => ?_, fun a b h k => ?_⟩
  · cases e : kdl a a with
    | false => rfl
    | true =>
      rcases (kdl_iff a a).1 e with h | ⟨_, h⟩
      · rw [bl_irrefl] at h; cases h
      · rw [dl_irrefl] at h; cases h
  · rw [kdl_iff] at h k ⊢
    rcases h with h | ⟨h1, h2⟩
    · rcases k with k | ⟨k1, k2⟩
      · exact Or.inl (bl_trans h k)
      · rw [k1] at h; exact Or.inl h
    · rcases k with k | ⟨k1, k2⟩
      · rw [h1]; exact Or.inl k
      · exact Or.inr ⟨h1.trans k1, dl_trans h2 k2⟩
  · have k' : ¬ (bl (kb a.k) (kb b.k) = true ∨ (kb a.k = kb b.k ∧ dl a.b b.b = true)) := fun e => by rw [(kdl_iff a b).2 e] at k; cases k
    rw [kdl_iff]
    by_cases e : kb a.k = kb b.k
    · refine Or.inr ⟨e.symm, dl_total h ?_⟩
      cases e2 : dl a.b b.b with
      | false => rfl
      | true => exact absurd (Or.inr ⟨e, e2⟩) k'
    · refine Or.inl (bl_total ?_ e)
      cases e2 : bl (kb a.k) (kb b.k) with
      | false => rfl
      | true => exact absurd (Or.inl e2) k'

/-- Those that lie under one. -/
def undr (S : List Sp) (p : Dt) : List Sp := S.filter (fun s => decide (s.p = p))

theorem undr_mem {S : List Sp} {p : Dt} {s : Sp} : s ∈ undr S p ↔ s ∈ S ∧ s.p = p := by
  unfold undr
  rw [List.mem_filter, decide_eq_true_eq]

theorem undr_nodup {S : List Sp} (h : (S.map Sp.b).Nodup) (p : Dt) : ((undr S p).map Sp.b).Nodup := (List.Sublist.map Sp.b List.filter_sublist).nodup h

/-- In their order. -/
def kidS (S : List Sp) (p : Dt) : List Sp := srtL kdl (undr S p)

theorem kidS_srt {S : List Sp} (h : (S.map Sp.b).Nodup) (p : Dt) : Srt kdl (kidS S p) := srtL_srt kdl_lin (undr_nodup h p)
theorem kidS_mem {S : List Sp} (h : (S.map Sp.b).Nodup) {p : Dt} {s : Sp} : s ∈ kidS S p ↔ s ∈ S ∧ s.p = p := ((srtL_perm kdl_lin (undr_nodup h p)).mem_iff).trans undr_mem
theorem kidS_nodup {S : List Sp} (h : (S.map Sp.b).Nodup) (p : Dt) : ((kidS S p).map Sp.b).Nodup := ((srtL_perm kdl_lin (undr_nodup h p)).map _).nodup_iff.2 (undr_nodup h p)
theorem kidS_len {S : List Sp} (h : (S.map Sp.b).Nodup) (p : Dt) : (kidS S p).length ≤ S.length := by
  unfold kidS
  rw [(srtL_perm kdl_lin (undr_nodup h p)).length_eq]
  exact List.length_filter_le _ _

theorem kidS_of {S : List Sp} (h : (S.map Sp.b).Nodup) {p : Dt} {m : List Sp} (hm : Srt kdl m) (he : ∀ x, x ∈ m ↔ x ∈ S ∧ x.p = p) : kidS S p = m :=
  (srtL_of kdl_lin (undr_nodup h p) hm (fun x => (he x).trans undr_mem.symm)).symm

theorem kidS_perm {S S' : List Sp} (h : (S.map Sp.b).Nodup) (hp : S.Perm S') (p : Dt) : kidS S p = kidS S' p :=
  kidS_of h (kidS_srt ((hp.map _).nodup_iff.1 h) p) (fun x => by rw [kidS_mem ((hp.map _).nodup_iff.1 h), hp.mem_iff])

/-- A block that isn't there is laid. -/
theorem kidS_lay {S : List Sp} {s : Sp} (h : ((S ++ [s]).map Sp.b).Nodup) : kidS (S ++ [s]) s.p = insL kdl (kidS S s.p) s := by
  have h1 : (S.map Sp.b).Nodup := by rw [List.map_append, List.nodup_append] at h; exact h.1
  have hf : ∀ y ∈ S, y.b ≠ s.b := fun y hy e => by
    rw [List.map_append, List.nodup_append] at h
    exact h.2.2 _ (List.mem_map.2 ⟨y, hy, rfl⟩) s.b (by simp) e
  refine kidS_of h (ins_srt kdl_lin (kidS_srt h1 s.p) (fun y hy => hf y ((kidS_mem h1).1 hy).1)) (fun x => ?_)
  rw [(ins_perm kdl _ s).mem_iff, List.mem_cons, kidS_mem h1, List.mem_append, List.mem_singleton]
  constructor
  · rintro (rfl | ⟨h2, h3⟩)
    · exact ⟨Or.inr rfl, rfl⟩
    · exact ⟨Or.inl h2, h3⟩
  · rintro ⟨h2 | h2, h3⟩
    · exact Or.inr ⟨h2, h3⟩
    · exact Or.inl h2

theorem kidS_lay_else {S : List Sp} {s : Sp} (h : ((S ++ [s]).map Sp.b).Nodup) {p : Dt} (hp : p ≠ s.p) : kidS (S ++ [s]) p = kidS S p := by
  have h1 : (S.map Sp.b).Nodup := by rw [List.map_append, List.nodup_append] at h; exact h.1
  refine kidS_of h (kidS_srt h1 p) (fun x => ?_)
  rw [kidS_mem h1, List.mem_append, List.mem_singleton]
  constructor
  · rintro ⟨h2, h3⟩; exact ⟨Or.inl h2, h3⟩
  · rintro ⟨h2 | rfl, h3⟩
    · exact ⟨h2, h3⟩
    · exact absurd h3.symm hp

theorem lift_nodup {S : List Sp} (h : (S.map Sp.b).Nodup) (b : Dt) : ((lift S b).map Sp.b).Nodup := (List.Sublist.map Sp.b List.filter_sublist).nodup h
theorem lift_mem {S : List Sp} {b : Dt} {x : Sp} : x ∈ lift S b ↔ x ∈ S ∧ x.b ≠ b := by
  unfold lift
  rw [List.mem_filter, decide_eq_true_eq]
theorem lift_lk {S : List Sp} (h : (S.map Sp.b).Nodup) (b d : Dt) : lk (lift S b) d = if d = b then none else lk S d := by
  split
  · rename_i e
    subst e
    exact lk_none.2 (fun x hx => (lift_mem.1 hx).2)
  · rename_i e
    cases hd : lk S d with
    | none => exact lk_none.2 (fun x hx => lk_none.1 hd x (lift_mem.1 hx).1)
    | some q =>
      obtain ⟨x, hx, rfl, rfl⟩ := lk_some hd
      exact lk_mem (lift_nodup h b) (lift_mem.2 ⟨hx, e⟩)

/-- A block that is there is taken away. -/
theorem kidS_lift {S : List Sp} (h : (S.map Sp.b).Nodup) {s : Sp} (hs : s ∈ S) : kidS (lift S s.b) s.p = (kidS S s.p).take (rkL kdl (kidS S s.p) s) ++ (kidS S s.p).drop (rkL kdl (kidS S s.p) s + 1) := by
  refine kidS_of (lift_nodup h _) (del_srt kdl_lin (kidS_srt h s.p) _) (fun x => ?_)
  rw [del_mem kdl_lin (kidS_srt h s.p) (kidS_nodup h s.p) ((kidS_mem h).2 ⟨hs, rfl⟩), kidS_mem h, lift_mem]
  constructor
  · rintro ⟨⟨h1, h2⟩, h3⟩; exact ⟨⟨h1, h3⟩, h2⟩
  · rintro ⟨⟨h1, h3⟩, h2⟩; exact ⟨⟨h1, h2⟩, h3⟩

theorem kidS_lift_else {S : List Sp} (h : (S.map Sp.b).Nodup) {s : Sp} (hs : s ∈ S) {p : Dt} (hp : p ≠ s.p) : kidS (lift S s.b) p = kidS S p := by
  refine kidS_of (lift_nodup h _) (kidS_srt h p) (fun x => ?_)
  rw [kidS_mem h, lift_mem]
  constructor
  · rintro ⟨h1, h2⟩
    exact ⟨⟨h1, fun e => hp (by have := sp_one h h1 hs e; subst this; exact h2.symm)⟩, h2⟩
  · rintro ⟨⟨h1, _⟩, h2⟩; exact ⟨h1, h2⟩

/-- Moves in their order, each once. -/
structure Lg (l : List Mv) : Prop where
  srt : Srt mvl l
  ids : (l.map Mv.id).Nodup
  may : Mvs l
  nz : ∀ m ∈ l, m.id ≠ (0, 0) ∧ ¬ isEnd m.id

theorem Lg.nil : Lg [] := ⟨List.Pairwise.nil, List.nodup_nil, by intro m hm; simp at hm, by simp⟩

/-- One more. -/
theorem Lg.ins {l : List Mv} (h : Lg l) {m : Mv} (hf : ∀ x ∈ l, x.id ≠ m.id) (hz : m.block ≠ (0, 0) ∧ ¬ isEnd m.block) (hi : m.id ≠ (0, 0) ∧ ¬ isEnd m.id) : Lg (insL mvl l m) := by
  have hp := ins_perm mvl l m
  refine ⟨ins_srt mvl_lin h.srt hf, (hp.map _).nodup_iff.2 ?_, fun x hx => ?_, fun x hx => ?_⟩
  · rw [List.map_cons, List.nodup_cons]
    exact ⟨fun hm => by obtain ⟨x, hx, e⟩ := List.mem_map.1 hm; exact hf x hx e, h.ids⟩
  · rcases List.mem_cons.1 (hp.mem_iff.1 hx) with rfl | hx
    · exact hz
    · exact h.may x hx
  · rcases List.mem_cons.1 (hp.mem_iff.1 hx) with rfl | hx
    · exact hi
    · exact h.nz x hx

/-- The same moves, in whatever order they came: the same log. -/
theorem Lg.one {l l' : List Mv} (h : Lg l) (h' : Lg l') (he : ∀ m, m ∈ l ↔ m ∈ l') : l = l' := srt_ext mvl_lin h.srt h'.srt he
end

section
set_option linter.unusedVariables false
open Go.RowKit Go.Sort Go.Maps

/-- A place. -/
def plv (q : Pl) : Value := .agg #[.int .i64 q.1.1, .int .i64 q.1.2, .string q.2]
def pl0 : Pl := ((0, 0), ⟨#[]⟩)
/-- How such a one reads, as an element of a map. -/
def pld (q : Pl) : DataW Unit := .agg [.lit (.int .i64 q.1.1), .lit (.int .i64 q.1.2), .lit (.string q.2.data.toList)]
def plR (v : Value) : Option (DataW Unit × List MemPlace) :=
  match v with
  | .agg ⟨[.int .i64 a, .int .i64 b, .string s]⟩ => some (pld ((a, b), s), [])
  | _ => none

theorem plR_mk (q : Pl) : plR (plv q) = some (pld q, []) := rfl

theorem pld_inj {q q' : Pl} (h : pld q = pld q') : q = q' := by
  obtain ⟨⟨a, b⟩, s⟩ := q
  obtain ⟨⟨a', b'⟩, s'⟩ := q'
  obtain ⟨⟨l⟩⟩ := s
  obtain ⟨⟨l'⟩⟩ := s'
  simp [pld] at h
  simp [h]

theorem plR_inv {v : Value} {q : Pl} {ps : List MemPlace} (h : plR v = some (pld q, ps)) : v = plv q := by
  unfold plR at h
  split at h
  · rename_i a b s
    have h1 : pld ((a, b), s) = pld q := by simpa using congrArg Prod.fst (Option.some.inj h)
    rw [← pld_inj h1]
    rfl
  · cases h

/-- Block m is the map of these places. -/
def PLM (w : World) (m : Nat) (S : List Sp) : Prop := ∃ D : DataW Unit, w.ownsMap Try.prog 24 plR m S.length D ∧ ∀ d, Dw d → Maps.has D (kl d) = (lk S d).isSome ∧ D.atKey (kl d) (pld pl0) = pld ((lk S d).getD pl0)

theorem zeroPl (w : World) : (zeroValue 74).run Try.prog w = .ok (plv pl0) w := Try.zeroValue74 w

theorem PLM.made (w : World) : PLM (w.alloc (.map #[] 0)) w.heap.size [] := ⟨_, World.ownsMap_made _ _ _ _, fun _ _ => ⟨rfl, rfl⟩⟩

theorem PLM.lt {w : World} {m : Nat} {S : List Sp} (h : PLM w m S) : m < w.heap.size := by
  obtain ⟨D, ho, _⟩ := h
  exact ho.lt

theorem PLM.same {w w' : World} {m : Nat} {S : List Sp} (h : PLM w m S) (hs : w'.heap[m]? = w.heap[m]?) : PLM w' m S := by
  obtain ⟨D, ⟨es, clock, h1, h2⟩, hT⟩ := h
  exact ⟨D, ⟨es, clock, by rw [hs]; exact h1, h2⟩, hT⟩

theorem PLM.perm {w : World} {m : Nat} {S S' : List Sp} (h : PLM w m S) (hn : (S.map Sp.b).Nodup) (hp : S.Perm S') : PLM w m S' := by
  obtain ⟨D, ho, hT⟩ := h
  exact ⟨D, by rw [← hp.length_eq]; exact ho, fun d hd => by rw [← lk_perm hn hp]; exact hT d hd⟩

theorem PLM.look {w : World} {m : Nat} {S : List Sp} (h : PLM w m S) {d : Dt} (hd : Dw d) : (Instr.lookup 63 (.map (some m)) (dv d) false).run Try.prog w = .ok (plv ((lk S d).getD pl0)) w := by
  obtain ⟨D, ho, hT⟩ := h
  obtain ⟨v, ps, hr, hv⟩ := ho.lookup law Try.underlying63 (zeroPl w) (plR_mk pl0) (keyOf_dot hd)
  rw [(hT d hd).2] at hv
  rw [hr, plR_inv hv]

theorem PLM.lookOk {w : World} {m : Nat} {S : List Sp} (h : PLM w m S) {d : Dt} (hd : Dw d) : (Instr.lookup 63 (.map (some m)) (dv d) true).run Try.prog w = .ok (.tuple #[plv ((lk S d).getD pl0), .bool (lk S d).isSome]) w := by
  obtain ⟨D, ho, hT⟩ := h
  obtain ⟨v, ps, hr, hv⟩ := ho.look_ok law Try.underlying63 (zeroPl w) (plR_mk pl0) (keyOf_dot hd)
  rw [(hT d hd).2] at hv
  rw [hr, plR_inv hv, (hT d hd).1]

theorem pl_nil (w : World) {d : Dt} (hd : Dw d) : (Instr.lookup 63 (.map none) (dv d) false).run Try.prog w = .ok (plv pl0) w := by
  have := Maps.look_nil (w := w) false law Try.underlying63 (zeroPl w) (keyOf_dot hd)
  simpa using this
theorem pl_nilOk (w : World) {d : Dt} (hd : Dw d) : (Instr.lookup 63 (.map none) (dv d) true).run Try.prog w = .ok (.tuple #[plv pl0, .bool false]) w := by
  have := Maps.look_nil (w := w) true law Try.underlying63 (zeroPl w) (keyOf_dot hd)
  simpa using this

theorem lk_snoc {S : List Sp} {s : Sp} (h : lk S s.b = none) (d : Dt) : lk (S ++ [s]) d = if d = s.b then some (s.p, s.k) else lk S d := by
  unfold lk at h ⊢
  rw [List.find?_append]
  split
  · rename_i e
    subst e
    rw [Option.map_eq_none_iff] at h
    rw [h]
    simp
  · rename_i e
    cases hd : S.find? (fun x => decide (x.b = d)) with
    | some x => rfl
    | none =>
      have : ¬ s.b = d := fun e' => e e'.symm
      simp [this]

/-- A block that isn't there is laid. -/
theorem PLM.lay {w : World} {m : Nat} {S : List Sp} (h : PLM w m S) {s : Sp} (hd : Dw s.b) (hno : lk S s.b = none) (hn : S.length < maxLen) : ∃ w', (Instr.mapUpdate 63 (.map (some m)) (dv s.b) (plv (s.p, s.k))).run Try.prog w = .ok () w' ∧ PLM w' m (S ++ [s]) ∧ w.grownBy w' (some m) := by
  obtain ⟨D, ho, hT⟩ := h
  obtain ⟨w', hr, ho', hg⟩ := ho.update law Try.underlying63 hn (keyOf_dot hd) (plR_mk (s.p, s.k))
  refine ⟨w', hr, ⟨_, by rw [List.length_append]; exact ho', fun e he => ?_⟩, hg⟩
  rw [lk_snoc hno]
  by_cases hea : e = s.b
  · subst hea
    simp only [if_true]
    exact ⟨by rw [has_put_same ho.isMap (kl_isKey _)]; rfl, atKey_put_same ho.isMap (kl_isKey _) _ _⟩
  · have hne : kl e ≠ kl s.b := fun h' => hea (kl_inj he hd h')
    simp only [hea, if_false]
    exact ⟨by rw [has_put_other hne]; exact (hT e he).1, by rw [atKey_put_other hne]; exact (hT e he).2⟩

theorem own_tight {w : World} {b n n' : Nat} {D : DataW Unit} {R : Value → Option (DataW Unit × List MemPlace)} (h : w.ownsMap Try.prog 24 R b n D) (hs : Maps.size D ≤ n') : w.ownsMap Try.prog 24 R b n' D := by
  obtain ⟨es, clock, h1, h2, h3, rfl⟩ := h
  refine ⟨es, clock, h1, h2, ?_, rfl⟩
  simpa [Maps.size, length_sorted] using hs

/-- A block that is there is taken away. -/
theorem PLM.lift {w : World} {m : Nat} {S : List Sp} (h : PLM w m S) (hn : (S.map Sp.b).Nodup) {s : Sp} (hs : s ∈ S) (hd : Dw s.b) (ty : TypeId) : ∃ w', (Builtin.delete_ #[63, 24] ty #[.map (some m), dv s.b]).run Try.prog w = .ok (.tuple #[]) w' ∧ PLM w' m (lift S s.b) ∧ w.mapTurned w' m := by
  obtain ⟨D, ho, hT⟩ := h
  obtain ⟨w', hr, ho', hg⟩ := ho.drop law Try.underlying63 (keyOf_dot hd) ty
  refine ⟨w', hr, ⟨_, own_tight ho' ?_, fun e he => ?_⟩, hg⟩
  · have h1 := (perm_lift hn hs).length_eq
    rw [List.length_append] at h1
    have h2 := ho.size_le
    have h3 : Maps.has D (kl s.b) = true := by rw [(hT _ hd).1, lk_mem hn hs]; rfl
    have h4 := size_del (k := kl s.b) (ho.tidy law)
    rw [h3] at h4
    simp at h1 h4
    omega
  · rw [lift_lk hn]
    by_cases hea : e = s.b
    · subst hea
      simp only [if_true]
      exact ⟨by rw [has_del_same]; rfl, atKey_del_same _⟩
    · have hne : kl e ≠ kl s.b := fun h' => hea (kl_inj he hd h')
      simp only [hea, if_false]
      exact ⟨by rw [has_del_other hne]; exact (hT e he).1, by rw [atKey_del_other hne]; exact (hT e he).2⟩
end

section
set_option linter.unusedVariables false
open Go.RowKit Go.Sort Go.Maps

/-- Where a row lies: its block, how many, its room; none: there is none. -/
def slv : Option (Nat × Nat × Nat) → Value
  | none => .slice none 0 0
  | some q => .slice (some ⟨q.1, 0, none⟩) q.2.1 q.2.2
def sld : Option (Nat × Nat × Nat) → DataW Unit
  | none => .lit (.int .i64 (-1))
  | some q => .agg [.lit (.int .i64 (q.1 : Int)), .lit (.int .i64 (q.2.1 : Int)), .lit (.int .i64 (q.2.2 : Int))]
/-- How such a one reads, as an element of a map. -/
def slR (v : Value) : Option (DataW Unit × List MemPlace) :=
  match v with
  | .slice none 0 0 => some (sld none, [])
  | .slice (some ⟨g, 0, none⟩) n c => some (sld (some (g, n, c)), [])
  | _ => none

theorem slR_mk (o : Option (Nat × Nat × Nat)) : slR (slv o) = some (sld o, []) := by cases o <;> rfl

theorem sld_inj {o p : Option (Nat × Nat × Nat)} (h : sld o = sld p) : o = p := by
  cases o with
  | none => cases p with
    | none => rfl
    | some q => simp [sld] at h
  | some q => cases p with
    | none => simp [sld] at h
    | some q' =>
      obtain ⟨a, b, c⟩ := q
      obtain ⟨a', b', c'⟩ := q'
      simp [sld] at h
      obtain ⟨h1, h2, h3⟩ := h
      have e1 : a = a' := by omega
      have e2 : b = b' := by omega
      have e3 : c = c' := by omega
      rw [e1, e2, e3]

theorem slR_inv {v : Value} {o : Option (Nat × Nat × Nat)} {ps : List MemPlace} (h : slR v = some (sld o, ps)) : v = slv o := by
  unfold slR at h
  split at h
  · have h1 : sld none = sld o := by simpa using congrArg Prod.fst (Option.some.inj h)
    rw [← sld_inj h1]; rfl
  · rename_i g n c
    have h1 : sld (some (g, n, c)) = sld o := by simpa using congrArg Prod.fst (Option.some.inj h)
    rw [← sld_inj h1]; rfl
  · cases h

/-- Block m is a map of at most n rows, that tells f. -/
def KM (w : World) (m n : Nat) (f : Dt → Option (Nat × Nat × Nat)) : Prop := ∃ D : DataW Unit, w.ownsMap Try.prog 24 slR m n D ∧ ∀ d, Dw d → Maps.has D (kl d) = (f d).isSome ∧ D.atKey (kl d) (sld none) = sld (f d)

theorem zeroSl (w : World) : (zeroValue 29).run Try.prog w = .ok (slv none) w := Try.zeroValue29 w

theorem KM.made (w : World) : KM (w.alloc (.map #[] 0)) w.heap.size 0 (fun _ => none) := ⟨_, World.ownsMap_made _ _ _ _, fun _ _ => ⟨rfl, rfl⟩⟩

theorem KM.lt {w : World} {m n : Nat} {f : Dt → Option (Nat × Nat × Nat)} (h : KM w m n f) : m < w.heap.size := by
  obtain ⟨D, ho, _⟩ := h
  exact ho.lt

theorem KM.same {w w' : World} {m n : Nat} {f : Dt → Option (Nat × Nat × Nat)} (h : KM w m n f) (hs : w'.heap[m]? = w.heap[m]?) : KM w' m n f := by
  obtain ⟨D, ⟨es, clock, h1, h2⟩, hT⟩ := h
  exact ⟨D, ⟨es, clock, by rw [hs]; exact h1, h2⟩, hT⟩

theorem KM.look {w : World} {m n : Nat} {f : Dt → Option (Nat × Nat × Nat)} (h : KM w m n f) {d : Dt} (hd : Dw d) : (Instr.lookup 64 (.map (some m)) (dv d) false).run Try.prog w = .ok (slv (f d)) w := by
  obtain ⟨D, ho, hT⟩ := h
  obtain ⟨v, ps, hr, hv⟩ := ho.lookup law Try.underlying64 (zeroSl w) (slR_mk none) (keyOf_dot hd)
  rw [(hT d hd).2] at hv
  rw [hr, slR_inv hv]

theorem sl_nil (w : World) {d : Dt} (hd : Dw d) : (Instr.lookup 64 (.map none) (dv d) false).run Try.prog w = .ok (slv none) w := by
  have := Maps.look_nil (w := w) false law Try.underlying64 (zeroSl w) (keyOf_dot hd)
  simpa using this

theorem KM.put {w : World} {m n : Nat} {f : Dt → Option (Nat × Nat × Nat)} (h : KM w m n f) {d : Dt} (hd : Dw d) (q : Nat × Nat × Nat) (hn : n < maxLen) : ∃ w', (Instr.mapUpdate 64 (.map (some m)) (dv d) (slv (some q))).run Try.prog w = .ok () w' ∧ KM w' m (n + 1) (fun e => if e = d then some q else f e) ∧ w.grownBy w' (some m) := by
  obtain ⟨D, ho, hT⟩ := h
  obtain ⟨w', hr, ho', hg⟩ := ho.update law Try.underlying64 hn (keyOf_dot hd) (slR_mk (some q))
  refine ⟨w', hr, ⟨_, ho', fun e he => ?_⟩, hg⟩
  by_cases hea : e = d
  · subst hea
    simp only [if_true]
    exact ⟨by rw [has_put_same ho.isMap (kl_isKey _)]; rfl, atKey_put_same ho.isMap (kl_isKey _) _ _⟩
  · have hne : kl e ≠ kl d := fun h' => hea (kl_inj he hd h')
    simp only [hea, if_false]
    exact ⟨by rw [has_put_other hne]; exact (hT e he).1, by rw [atKey_put_other hne]; exact (hT e he).2⟩

theorem KM.drop {w : World} {m n : Nat} {f : Dt → Option (Nat × Nat × Nat)} (h : KM w m n f) {d : Dt} (hd : Dw d) (ty : TypeId) : ∃ w', (Builtin.delete_ #[64, 24] ty #[.map (some m), dv d]).run Try.prog w = .ok (.tuple #[]) w' ∧ KM w' m n (fun e => if e = d then none else f e) ∧ w.mapTurned w' m := by
  obtain ⟨D, ho, hT⟩ := h
  obtain ⟨w', hr, ho', hg⟩ := ho.drop law Try.underlying64 (keyOf_dot hd) ty
  refine ⟨w', hr, ⟨_, ho', fun e he => ?_⟩, hg⟩
  by_cases hea : e = d
  · subst hea
    simp only [if_true]
    exact ⟨by rw [has_del_same]; rfl, atKey_del_same _⟩
  · have hne : kl e ≠ kl d := fun h' => hea (kl_inj he hd h')
    simp only [hea, if_false]
    exact ⟨by rw [has_del_other hne]; exact (hT e he).1, by rw [atKey_del_other hne]; exact (hT e he).2⟩

/-- No more room is asked for than there are rows. -/
theorem KM.tight {w : World} {m n : Nat} {f : Dt → Option (Nat × Nat × Nat)} (h : KM w m n f) {S : List Dt} (hm : ∀ d, Dw d → (f d).isSome = true → d ∈ S) : KM w m S.length f := by
  obtain ⟨D, hown, hT⟩ := h
  refine ⟨D, own_tight hown ?_, hT⟩
  obtain ⟨es, hD, hpw, _⟩ := hown.entries law
  obtain ⟨es', hD', hko⟩ := hown.keysOf
  obtain rfl : es = es' := by rw [hD] at hD'; simpa using hD'
  subst hD
  have hsub : ∀ x ∈ es.map Prod.fst, x ∈ S.map kl := fun x hx => by
    obtain ⟨p, hp, rfl⟩ := List.mem_map.1 hx
    obtain ⟨v, hv⟩ := hko p hp
    obtain ⟨d, _, hdw, hk⟩ := keyOf_dot_inv hv
    have hh : Maps.has (.map es) (kl d) = true := List.any_eq_true.2 ⟨p, hp, by rw [hk]; exact WideAt.sameKey_self (kl_isKey d)⟩
    rw [(hT d hdw).1] at hh
    exact List.mem_map.2 ⟨d, hm d hdw hh, hk.symm⟩
  have hnd : (es.map Prod.fst).Nodup := List.pairwise_map.2 hpw
  have := List.Nodup.length_le_of_subset hnd hsub
  simpa [Maps.size] using this
end

section
open Go.RowKit Go.Maps
open Go.Sort (grow)

/-- A world behind w, in which all is as it was. -/
structure Wb (w : World) where
  u : World
  h : RowKit.Below w.heap.size w u

theorem wp_region_below {P : Program} {id : Nat} {Q : Exit → Act → World → Prop} {a : Act} {w : World} {l : List Oper} (hm : P.follows .mixedOrders = true) (hB : Region.lexB .any l.toArray = true)
    (h : wpQuiet P l.toArray (fun w' => ∃ p : Wb w, w' = p.u) (fun a' => ∀ w', (∃ p : Wb w, w' = p.u) → Q .normal a' w') l a) : (Code.region id l.toArray true).wp P Q a w :=
  wp_region_quiet (C := fun w' => ∃ p : Wb w, w' = p.u) hm hB ⟨⟨w.drew, (Far.refl w).drew.below⟩, rfl⟩ (by simpa using h)

theorem below_q {f : FuncId} {args : Array Value} {w : World} {v : Value} {p : Wb w} (h : Calls Try.prog f args p.u fun e w' => e = .returned v ∧ RowKit.Below p.u.heap.size p.u w') : Calls Try.prog f args p.u fun e w'' => e = .returned v ∧ ∃ p' : Wb w, w'' = p'.u :=
  h.mono fun _ w' ⟨he, hb⟩ => ⟨he, ⟨w', p.h.trans (hb.mono p.h.size)⟩, rfl⟩

theorem far_q {f : FuncId} {args : Array Value} {w : World} {v : Value} {p : Wb w} (h : Tells f args p.u v) : Calls Try.prog f args p.u fun e w'' => e = .returned v ∧ ∃ p' : Wb w, w'' = p'.u :=
  below_q (h.mono fun _ _ ⟨he, hf⟩ => ⟨he, hf.below⟩)
end

section
open Go.RowKit
open Go.Sort (grow)

theorem root_any (w : World) : Tells 19 #[] w (dv (0, -1)) := by
  go_enter Try.func19, Try.ntmps19
  go_wp2
  exact bodyPost_ret (v := dv (0, -1)) (by simp [results, Try.results19, go_sem]) rfl ⟨rfl, (Far.refl w).alloc _⟩

theorem trash_any (w : World) : Tells 21 #[] w (dv (0, -2)) := by
  go_enter Try.func21, Try.ntmps21
  go_wp2
  exact bodyPost_ret (v := dv (0, -2)) (by simp [results, Try.results21, go_sem]) rfl ⟨rfl, (Far.refl w).alloc _⟩
end

section
set_option linter.unusedVariables false
set_option linter.unusedSimpArgs false
open Go.RowKit

set_option maxHeartbeats 1000000 in
theorem tless_any (a b : Dt) (w : World) : Tells 83 #[dv a, dv b] w (.bool (dl a b)) := by
  obtain ⟨a1, a2⟩ := a
  obtain ⟨b1, b2⟩ := b
  by_cases h : a1 = b1
  · subst h
    go_enter Try.func83, Try.ntmps83
    go_wp2
    go_ret
    exact ⟨by simp [dl], ((Far.refl w).alloc _).alloc _⟩
  · go_enter Try.func83, Try.ntmps83
    go_wp2
    go_ret
    exact ⟨by simp [dl, h], ((Far.refl w).alloc _).alloc _⟩

/-- Below 0, 0 or above 0. -/
def ordI (a b : Dt) : Int := if dl a b then -1 else if dl b a then 1 else 0

set_option maxRecDepth 100000 in
set_option maxHeartbeats 1000000 in
theorem torder_any (a b : Dt) (w : World) : Calls Try.prog 73 #[dv a, dv b] w fun e w' => e = .returned (.int .i64 (ordI a b)) ∧ Below w.heap.size w w' := by
  obtain ⟨a1, a2⟩ := a
  obtain ⟨b1, b2⟩ := b
  obtain ⟨W0, hW0⟩ : ∃ W0, W0 = (w.alloc (.cells #[.int .i64 a1, .int .i64 a2] 24)).alloc (.cells #[.int .i64 b1, .int .i64 b2] 24) := ⟨_, rfl⟩
  have hB0 : Below w.heap.size w W0 := by rw [hW0]; exact ((Below.refl _ w).alloc (Nat.le_refl _) _).alloc (by simp) _
  have hb1 : W0.heap[w.heap.size]? = some (.cells #[.int .i64 a1, .int .i64 a2] 24 (0, 0)) := by rw [hW0]; exact (Below.heap_alloc _ _ _ (by simp)).trans (World.alloc_heap_new w _)
  have hb2 : W0.heap[w.heap.size + 1]? = some (.cells #[.int .i64 b1, .int .i64 b2] 24 (0, 0)) := by
    rw [hW0]
    have := World.alloc_heap_new (w.alloc (.cells #[.int .i64 a1, .int .i64 a2] 24)) (.cells #[.int .i64 b1, .int .i64 b2] 24)
    rwa [World.size_alloc] at this
  have hl1 := (Array.getElem?_eq_some_iff.1 hb1).1
  have hl2 := (Array.getElem?_eq_some_iff.1 hb2).1
  have HC : Hid (∀ W, Below W0.heap.size W0 W → W.cell? ⟨w.heap.size, 0, none⟩ = some (.int .i64 a1) ∧ W.cell? ⟨w.heap.size, 1, none⟩ = some (.int .i64 a2) ∧ W.cell? ⟨w.heap.size + 1, 0, none⟩ = some (.int .i64 b1) ∧ W.cell? ⟨w.heap.size + 1, 1, none⟩ = some (.int .i64 b2)) := hid (fun W hb => by
    have g1 := (hb.block _ hl1).trans hb1
    have g2 := (hb.block _ hl2).trans hb2
    exact ⟨by simp [World.cell?, g1], by simp [World.cell?, g1], by simp [World.cell?, g2], by simp [World.cell?, g2]⟩)
  have hL1 : Calls Try.prog 83 #[.agg #[.int .i64 a1, .int .i64 a2], .agg #[.int .i64 b1, .int .i64 b2]] W0 fun e w' => e = .returned (.bool (dl (a1, a2) (b1, b2))) ∧ Hid (Below W0.heap.size W0 w') := (tless_any (a1, a2) (b1, b2) W0).mono (fun e w' ⟨h1, h2⟩ => ⟨h1, hid h2.below⟩)
  have HL2 : Hid (∀ W, Below W0.heap.size W0 W → Calls Try.prog 83 #[.agg #[.int .i64 b1, .int .i64 b2], .agg #[.int .i64 a1, .int .i64 a2]] W fun e w' => e = .returned (.bool (dl (b1, b2) (a1, a2))) ∧ Hid (Below W0.heap.size W0 w')) := hid (fun W hb => (tless_any (b1, b2) (a1, a2) W).mono (fun e w' ⟨h1, h2⟩ => ⟨h1, hid (hb.trans (h2.below.mono hb.size))⟩))
  obtain ⟨c0, c1, c2, c3⟩ := HC.out W0 (Below.refl _ _)
  have hr : Hid (ordI (a1, a2) (b1, b2) = if dl (a1, a2) (b1, b2) then -1 else if dl (b1, b2) (a1, a2) then 1 else 0) := hid rfl
  have HW := hid hW0
  clear hW0 hb1 hb2 hl1 hl2
  cases h1 : dl (a1, a2) (b1, b2) with
  | true =>
    rw [h1] at hL1
    rw [h1] at hr
    clear h1 HL2
    go_enter Try.func73, Try.ntmps73
    go_wp2_with (go_at_call 83; rw [← HW.out]; refine hL1.mono ?_; rintro e w1 ⟨rfl, hb⟩)
    go_ret
    exact ⟨by rw [hr.out]; rfl, hB0.trans (hb.out.mono hB0.size)⟩
  | false =>
    rw [h1] at hL1
    rw [h1] at hr
    clear h1
    cases h2 : dl (b1, b2) (a1, a2) with
    | true =>
      rw [h2] at HL2
      rw [h2] at hr
      clear h2
      go_enter Try.func73, Try.ntmps73
      go_wp2_with (first
        | (have hq := HB; go_at_call 83; refine (HL2.out _ HB.out).mono ?_; rintro e w2 ⟨rfl, hb2⟩)
        | (go_at_call 83; rw [← HW.out]; refine hL1.mono ?_; rintro e w1 ⟨rfl, HB⟩; obtain ⟨e0, e1, e2, e3⟩ := HC.out _ HB.out))
      go_ret
      exact ⟨by rw [hr.out]; rfl, hB0.trans (hb2.out.mono hB0.size)⟩
    | false =>
      rw [h2] at HL2
      rw [h2] at hr
      clear h2
      go_enter Try.func73, Try.ntmps73
      go_wp2_with (first
        | (have hq := HB; go_at_call 83; refine (HL2.out _ HB.out).mono ?_; rintro e w2 ⟨rfl, hb2⟩)
        | (go_at_call 83; rw [← HW.out]; refine hL1.mono ?_; rintro e w1 ⟨rfl, HB⟩; obtain ⟨e0, e1, e2, e3⟩ := HC.out _ HB.out))
      go_ret
      exact ⟨by rw [hr.out]; rfl, hB0.trans (hb2.out.mono hB0.size)⟩

/-- The first that isn't 0. -/
def orI (x y : Int) : Int := if x = 0 then y else x

set_option maxRecDepth 100000 in
set_option maxHeartbeats 1000000 in
theorem or_any (g c : Nat) (x y : Int) (w : World) (h0 : w.cell? ⟨g, 0, none⟩ = some (.int .i64 x)) (h1 : w.cell? ⟨g, 1, none⟩ = some (.int .i64 y)) : Calls Try.prog 71 #[.slice (some ⟨g, 0, none⟩) 2 c] w fun e w' => e = .returned (.int .i64 (orI x y)) ∧ w' = w := by
  have hr : Hid (orI x y = if x = 0 then y else x) := hid rfl
  go_enter Try.func71, Try.ntmps71
  go_wp2
  go_loopw [8] (fun i wr => ∃ k : Nat, k ≤ 2 ∧ i = .int .i64 k ∧ wr = w ∧ Hid (1 ≤ k → x = 0) ∧ Hid (2 ≤ k → y = 0)) (fun i _ => 2 - (intOf i).toNat)
  case atStart => exact ⟨0, by omega, rfl, rfl, hid (fun h => absurd h (by omega)), hid (fun h => absurd h (by omega))⟩
  case round =>
    obtain ⟨k, hk, rfl, hw, hx, hy⟩ := hrel
    subst hw
    rcases (by omega : k = 0 ∨ k = 1 ∨ k = 2) with rfl | rfl | rfl
    · by_cases hz : x = 0
      · have hb : (x != 0) = false := by simp [hz]
        have HZ := hid hz
        clear hz
        go_wp2
        go_roundw
        case rel => exact ⟨1, by omega, by first | rfl | trivial, by first | rfl | trivial, hid (fun _ => HZ.out), hid (fun h => absurd h (by omega))⟩
        case measure => simp [intOf]
      · have hb : (x != 0) = true := by simpa using hz
        have hr2 : Hid (orI x y = x) := hid (by rw [hr.out, if_neg hz])
        clear hz
        go_wp2
        go_ret
        refine ⟨?_, ?_⟩
        · rw [hr2.out]; rfl
        · first | rfl | trivial
    · have HX := hid (hx.out (by omega))
      by_cases hz : y = 0
      · have hb : (y != 0) = false := by simp [hz]
        have HZ := hid hz
        clear hz
        go_wp2
        go_roundw
        case rel => exact ⟨2, by omega, by first | rfl | trivial, by first | rfl | trivial, hid (fun _ => HX.out), hid (fun _ => HZ.out)⟩
        case measure => simp [intOf]
      · have hb : (y != 0) = true := by simpa using hz
        have hr2 : Hid (orI x y = y) := hid (by rw [hr.out, if_pos HX.out])
        clear hz
        go_wp2
        go_ret
        refine ⟨?_, ?_⟩
        · rw [hr2.out]; rfl
        · first | rfl | trivial
    · have hr2 : Hid (orI x y = 0) := hid (by rw [hr.out, if_pos (hx.out (by omega)), hy.out (by omega)])
      go_wp2
      go_ret
      refine ⟨?_, ?_⟩
      · rw [hr2.out]; rfl
      · first | rfl | trivial

/-- May a dot be that of a move, or of a block? -/
def mayT (d : Dt) : Bool := decide (d ≠ (0, 0)) && decide (d ≠ (0, -1)) && decide (d ≠ (0, -2))

set_option maxRecDepth 100000 in
set_option maxHeartbeats 2000000 in
theorem may10_any (d : Dt) (w : World) : Calls Try.prog 30 #[dv d] w fun e w' => e = .returned (.bool (mayT d)) ∧ Below w.heap.size w w' := by
  obtain ⟨a, b⟩ := d
  have mixed := mixed
  obtain ⟨W0, hW0⟩ : ∃ W0, W0 = w.alloc (.cells #[.int .i64 a, .int .i64 b] 24) := ⟨_, rfl⟩
  have hB0 : Below w.heap.size w W0 := by rw [hW0]; exact (Below.refl _ w).alloc (Nat.le_refl _) _
  have hb1 : W0.heap[w.heap.size]? = some (.cells #[.int .i64 a, .int .i64 b] 24 (0, 0)) := by rw [hW0]; exact World.alloc_heap_new w _
  have hl1 := (Array.getElem?_eq_some_iff.1 hb1).1
  haveI : Nonempty (Wb W0) := ⟨⟨W0, Below.refl _ _⟩⟩
  have a0 : ∀ p : Wb W0, p.u.cell? ⟨w.heap.size, 0, none⟩ = some (.int .i64 a) := fun p => by
    have g1 := (p.h.block _ hl1).trans hb1
    simp [World.cell?, g1]
  have a1 : ∀ p : Wb W0, p.u.cell? ⟨w.heap.size, 1, none⟩ = some (.int .i64 b) := fun p => by
    have g1 := (p.h.block _ hl1).trans hb1
    simp [World.cell?, g1]
  have kRo : ∀ p : Wb W0, Calls Try.prog 19 #[] p.u fun e w'' => e = .returned (.agg #[.int .i64 0, .int .i64 (-1)]) ∧ ∃ p' : Wb W0, w'' = p'.u := fun p => far_q (root_any p.u)
  have kTr : ∀ p : Wb W0, Calls Try.prog 21 #[] p.u fun e w'' => e = .returned (.agg #[.int .i64 0, .int .i64 (-2)]) ∧ ∃ p' : Wb W0, w'' = p'.u := fun p => far_q (trash_any p.u)
  have HW := hid hW0
  clear hW0 hb1 hl1
  by_cases ha : a = 0
  · subst ha
    by_cases hb : b = 0
    · subst hb
      have hr : Hid (mayT (0, 0) = false) := hid rfl
      go_enter Try.func30, Try.ntmps30
      go_wp2_with fail
      rw [← HW.out]
      refine wp_region_below mixed (by kernel_rfl) ?_
      repeat (go_big_quiet_step (first | (go_at_call 19; exact kRo _) | (go_at_call 21; exact kTr _)))
      refine wpQuiet_nil ?_
      intro _ hw'
      obtain ⟨p, hw''⟩ := hw'
      subst hw''
      go_wp2
      go_ret
      exact ⟨by rw [hr.out]; rfl, hB0.trans (p.h.mono hB0.size)⟩
    · by_cases hc : b = -1
      · subst hc
        have hr : Hid (mayT (0, -1) = false) := hid rfl
        go_enter Try.func30, Try.ntmps30
        go_wp2_with fail
        rw [← HW.out]
        refine wp_region_below mixed (by kernel_rfl) ?_
        repeat (go_big_quiet_step (first | (go_at_call 19; exact kRo _) | (go_at_call 21; exact kTr _)))
        refine wpQuiet_nil ?_
        intro _ hw'
        obtain ⟨p, hw''⟩ := hw'
        subst hw''
        go_wp2
        go_ret
        exact ⟨by rw [hr.out]; rfl, hB0.trans (p.h.mono hB0.size)⟩
      · by_cases hd : b = -2
        · subst hd
          have hr : Hid (mayT (0, -2) = false) := hid rfl
          go_enter Try.func30, Try.ntmps30
          go_wp2_with fail
          rw [← HW.out]
          refine wp_region_below mixed (by kernel_rfl) ?_
          repeat (go_big_quiet_step (first | (go_at_call 19; exact kRo _) | (go_at_call 21; exact kTr _)))
          refine wpQuiet_nil ?_
          intro _ hw'
          obtain ⟨p, hw''⟩ := hw'
          subst hw''
          go_wp2
          go_ret
          exact ⟨by rw [hr.out]; rfl, hB0.trans (p.h.mono hB0.size)⟩
        · have hr : Hid (mayT (0, b) = true) := hid (by unfold mayT; simp [hb, hc, hd])
          have k0 : (b == 0) = false := by simpa using hb
          have k1 : (b == -1) = false := by simpa using hc
          have k2 : (b == -2) = false := by simpa using hd
          clear hb hc hd
          go_enter Try.func30, Try.ntmps30
          go_wp2_with fail
          rw [← HW.out]
          refine wp_region_below mixed (by kernel_rfl) ?_
          repeat (go_big_quiet_step (first | (go_at_call 19; exact kRo _) | (go_at_call 21; exact kTr _)))
          refine wpQuiet_nil ?_
          intro _ hw'
          obtain ⟨p, hw''⟩ := hw'
          subst hw''
          go_wp2
          go_ret
          exact ⟨by rw [hr.out]; rfl, hB0.trans (p.h.mono hB0.size)⟩
  · have hr : Hid (mayT (a, b) = true) := hid (by unfold mayT; simp [ha])
    have k0 : (a == 0) = false := by simpa using ha
    clear ha
    go_enter Try.func30, Try.ntmps30
    go_wp2_with fail
    rw [← HW.out]
    refine wp_region_below mixed (by kernel_rfl) ?_
    repeat (go_big_quiet_step (first | (go_at_call 19; exact kRo _) | (go_at_call 21; exact kTr _)))
    refine wpQuiet_nil ?_
    intro _ hw'
    obtain ⟨p, hw''⟩ := hw'
    subst hw''
    go_wp2
    go_ret
    exact ⟨by rw [hr.out]; rfl, hB0.trans (p.h.mono hB0.size)⟩
end

section
set_option linter.unusedVariables false
set_option linter.unusedSimpArgs false
open Go.RowKit

/-- The places, in a map or none. -/
def PlV (w : World) (mv : Value) (S : List Sp) : Prop := (mv = .map none ∧ S = []) ∨ ∃ m, mv = .map (some m) ∧ PLM w m S

theorem PlV.below {w w' : World} {mv : Value} {S : List Sp} (h : PlV w mv S) (hb : Below w.heap.size w w') : PlV w' mv S := by
  rcases h with h | ⟨m, e, h⟩
  · exact Or.inl h
  · exact Or.inr ⟨m, e, h.same (hb.block _ h.lt)⟩

theorem PlV.lookOk {w : World} {mv : Value} {S : List Sp} (h : PlV w mv S) {d : Dt} (hd : Dw d) : (Instr.lookup 63 mv (dv d) true).run Try.prog w = .ok (.tuple #[plv ((lk S d).getD pl0), .bool (lk S d).isSome]) w := by
  rcases h with ⟨rfl, rfl⟩ | ⟨m, rfl, h⟩
  · exact pl_nilOk w hd
  · exact h.lookOk hd

theorem PlV.look {w : World} {mv : Value} {S : List Sp} (h : PlV w mv S) {d : Dt} (hd : Dw d) : (Instr.lookup 63 mv (dv d) false).run Try.prog w = .ok (plv ((lk S d).getD pl0)) w := by
  rcases h with ⟨rfl, rfl⟩ | ⟨m, rfl, h⟩
  · exact pl_nil w hd
  · exact h.look hd

set_option maxRecDepth 100000 in
set_option maxHeartbeats 4000000 in
theorem there_any (t o : Nat) (mv : Value) (S : List Sp) (d : Dt) (hd : Dw d) (w : World) (hc : w.cell? ⟨t, o, none⟩ = some mv) (h : PlV w mv S) :
    Calls Try.prog 43 #[.pointer (some ⟨t, o, none⟩), dv d] w fun e w' => e = .returned (.bool (lk S d).isSome) ∧ Below w.heap.size w w' := by
  obtain ⟨d1, d2⟩ := d
  have mixed := mixed
  have hmxo : Try.prog.follows .mixedOrders = true := by kernel_rfl
  obtain ⟨p1, p2, ky, hq⟩ : ∃ p1 p2 ky, (lk S (d1, d2)).getD pl0 = ((p1, p2), ky) := ⟨_, _, _, rfl⟩
  obtain ⟨B, hB⟩ : ∃ B, B = (lk S (d1, d2)).isSome := ⟨_, rfl⟩
  obtain ⟨W0, hW0⟩ : ∃ W0, W0 = w.alloc (.cells #[.int .i64 d1, .int .i64 d2] 24) := ⟨_, rfl⟩
  have hB0 : Below w.heap.size w W0 := by rw [hW0]; exact (Below.refl _ w).alloc (Nat.le_refl _) _
  have hb1 : W0.heap[w.heap.size]? = some (.cells #[.int .i64 d1, .int .i64 d2] 24 (0, 0)) := by rw [hW0]; exact World.alloc_heap_new w _
  have hl1 := (Array.getElem?_eq_some_iff.1 hb1).1
  have HS : Hid (∀ W, Below W0.heap.size W0 W → (W.cell? ⟨t, o, none⟩ = some mv ∧ W.cell? ⟨w.heap.size, 0, none⟩ = some (.int .i64 d1) ∧ W.cell? ⟨w.heap.size, 1, none⟩ = some (.int .i64 d2) ∧ (Instr.lookup 63 mv (.agg #[.int .i64 d1, .int .i64 d2]) true).run Try.prog W = .ok (.tuple #[.agg #[.int .i64 p1, .int .i64 p2, .string ky], .bool B]) W)) := hid (fun W hb => by
    have g1 := (hb.block _ hl1).trans hb1
    have hbw := hB0.trans (hb.mono hB0.size)
    refine ⟨(hbw.cell (p := ⟨t, o, none⟩) (cell_in hc)).trans hc, by simp [World.cell?, g1], by simp [World.cell?, g1], ?_⟩
    have := (h.below hbw).lookOk hd
    rw [hq, ← hB] at this
    exact this)
  rw [← hB]
  have HU0 : Hid (Below W0.heap.size W0 W0.drew) := hid ((Far.refl W0).drewN 1).below
  have hS0 := HS.out _ HU0.out
  have HW := hid hW0
  clear hW0 hb1 hl1 hc h hq hB
  go_enter Try.func43, Try.ntmps43
  go_wp2_with fail
  rw [← HW.out]
  refine wp_region_held_drew (S := fun w' => w'.cell? ⟨t, o, none⟩ = some mv ∧ w'.cell? ⟨w.heap.size, 0, none⟩ = some (.int .i64 d1) ∧ w'.cell? ⟨w.heap.size, 1, none⟩ = some (.int .i64 d2) ∧ (Instr.lookup 63 mv (.agg #[.int .i64 d1, .int .i64 d2]) true).run Try.prog w' = .ok (.tuple #[.agg #[.int .i64 p1, .int .i64 p2, .string ky], .bool B]) w') hmxo hS0 ?_
  intro _
  refine wpAnyH_take (i := 0) (v := .pointer (some ⟨t, o, none⟩)) rfl (by kernel_rfl) (by kernel_rfl) (by kernel_rfl) (fun _ _ _ h => h) (Or.inl ⟨by kernel_rfl, fun w hSw => ?_⟩) hS0 ?_
  · obtain ⟨e1, e2, e3, e4⟩ := hSw; go_simp
  simp only [Act.put, List.getElem_toArray, List.getElem_cons_succ, List.getElem_cons_zero, List.setIfInBounds_toArray, List.set_cons_zero, List.set_cons_succ]
  refine wpAnyH_take (i := 1) (v := .pointer (some ⟨t, o, none⟩)) rfl (by kernel_rfl) (by kernel_rfl) (by kernel_rfl) (fun _ _ _ h => h) (Or.inl ⟨by kernel_rfl, fun w hSw => ?_⟩) hS0 ?_
  · obtain ⟨e1, e2, e3, e4⟩ := hSw; go_simp
  simp only [Act.put, List.getElem_toArray, List.getElem_cons_succ, List.getElem_cons_zero, List.setIfInBounds_toArray, List.set_cons_zero, List.set_cons_succ]
  refine wpAnyH_take (i := 2) (v := .pointer (some ⟨t, o, none⟩)) rfl (by kernel_rfl) (by kernel_rfl) (by kernel_rfl) (fun _ _ _ h => h) (Or.inl ⟨by kernel_rfl, fun w hSw => ?_⟩) hS0 ?_
  · obtain ⟨e1, e2, e3, e4⟩ := hSw; go_simp
  simp only [Act.put, List.getElem_toArray, List.getElem_cons_succ, List.getElem_cons_zero, List.setIfInBounds_toArray, List.set_cons_zero, List.set_cons_succ]
  refine wpAnyH_take (i := 3) (v := mv) rfl (by kernel_rfl) (by kernel_rfl) (by kernel_rfl) (fun _ _ _ h => h) (Or.inl ⟨by kernel_rfl, fun w hSw => ?_⟩) hS0 ?_
  · obtain ⟨e1, e2, e3, e4⟩ := hSw; go_simp
  simp only [Act.put, List.getElem_toArray, List.getElem_cons_succ, List.getElem_cons_zero, List.setIfInBounds_toArray, List.set_cons_zero, List.set_cons_succ]
  refine wpAnyH_take (i := 4) (v := .agg #[.int .i64 d1, .int .i64 d2]) rfl (by kernel_rfl) (by kernel_rfl) (by kernel_rfl) (fun _ _ _ h => h) (Or.inl ⟨by kernel_rfl, fun w hSw => ?_⟩) hS0 ?_
  · obtain ⟨e1, e2, e3, e4⟩ := hSw; go_simp
  simp only [Act.put, List.getElem_toArray, List.getElem_cons_succ, List.getElem_cons_zero, List.setIfInBounds_toArray, List.set_cons_zero, List.set_cons_succ]
  refine wpAnyH_take (i := 5) (v := .tuple #[.agg #[.int .i64 p1, .int .i64 p2, .string ky], .bool B]) rfl (by kernel_rfl) (by kernel_rfl) (by kernel_rfl) (fun _ _ _ h => h) (Or.inl ⟨by kernel_rfl, fun w hSw => ?_⟩) hS0 ?_
  · obtain ⟨e1, e2, e3, e4⟩ := hSw; go_simp
  simp only [Act.put, List.getElem_toArray, List.getElem_cons_succ, List.getElem_cons_zero, List.setIfInBounds_toArray, List.set_cons_zero, List.set_cons_succ]
  refine wpAnyH_take (i := 6) (v := .tuple #[.agg #[.int .i64 p1, .int .i64 p2, .string ky], .bool B]) rfl (by kernel_rfl) (by kernel_rfl) (by kernel_rfl) (fun _ _ _ h => h) (Or.inl ⟨by kernel_rfl, fun w hSw => ?_⟩) hS0 ?_
  · obtain ⟨e1, e2, e3, e4⟩ := hSw; go_simp
  simp only [Act.put, List.getElem_toArray, List.getElem_cons_succ, List.getElem_cons_zero, List.setIfInBounds_toArray, List.set_cons_zero, List.set_cons_succ]
  refine wpAnyH_take (i := 7) (v := .agg #[.int .i64 p1, .int .i64 p2, .string ky]) rfl (by kernel_rfl) (by kernel_rfl) (by kernel_rfl) (fun _ _ _ h => h) (Or.inl ⟨by kernel_rfl, fun w hSw => ?_⟩) hS0 ?_
  · obtain ⟨e1, e2, e3, e4⟩ := hSw; go_simp
  simp only [Act.put, List.getElem_toArray, List.getElem_cons_succ, List.getElem_cons_zero, List.setIfInBounds_toArray, List.set_cons_zero, List.set_cons_succ]
  refine wpAnyH_take (i := 8) (v := .bool B) rfl (by kernel_rfl) (by kernel_rfl) (by kernel_rfl) (fun _ _ _ h => h) (Or.inl ⟨by kernel_rfl, fun w hSw => ?_⟩) hS0 ?_
  · obtain ⟨e1, e2, e3, e4⟩ := hSw; go_simp
  simp only [Act.put, List.getElem_toArray, List.getElem_cons_succ, List.getElem_cons_zero, List.setIfInBounds_toArray, List.set_cons_zero, List.set_cons_succ]
  refine wpAnyH_ready (rs := [9]) (by kernel_rfl) (by simp) ?_
  refine AllReadyH.cons rfl (fun K hK => ?_) AllReadyH.nil
  go_simp
  have HU1 : Hid (Below W0.heap.size W0 (W0.alloc (.cells #[.int .i64 0, .int .i64 0, .string ⟨#[]⟩] 74)).drew) := hid (((Below.refl _ W0).alloc (Nat.le_refl _) _).drew)
  have hS1 := HS.out _ HU1.out
  refine hK.out _ _ hS1 (fun _ => ?_)
  clear hK K
  refine wpAnyH_ready (rs := [10]) (by kernel_rfl) (by simp) ?_
  refine AllReadyH.cons rfl (fun K hK => ?_) AllReadyH.nil
  go_simp
  have HU2 : Hid (Below W0.heap.size W0 (W0.alloc (.cells #[.int .i64 p1, .int .i64 p2, .string ky] 74)).drew) := hid (((Below.refl _ W0).alloc (Nat.le_refl _) _).drew)
  have hS2 := HS.out _ HU2.out
  refine hK.out _ _ hS2 (fun _ => ?_)
  clear hK K
  refine wpAnyH_take (i := 11) (v := .bool B) rfl (by kernel_rfl) (by kernel_rfl) (by kernel_rfl) (fun _ _ _ h => h) (Or.inl ⟨by kernel_rfl, fun w hSw => ?_⟩) hS2 ?_
  · obtain ⟨e1, e2, e3, e4⟩ := hSw; go_simp
  simp only [Act.put, List.getElem_toArray, List.getElem_cons_succ, List.getElem_cons_zero, List.setIfInBounds_toArray, List.set_cons_zero, List.set_cons_succ]
  refine wpAnyH_done (by kernel_rfl) ?_ _
  go_wp2
  go_ret
  exact ⟨rfl, hB0.trans (HU2.out.mono hB0.size)⟩
end
end Go.Proofs.Ytplcohjpchfkkaa
