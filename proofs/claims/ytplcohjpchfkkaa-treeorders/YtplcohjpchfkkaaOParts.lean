/- What a kind has, by the switch; whether an operation is empty where its kind has nothing. -/
import Derived.Test.YtplcohjpchfkkaaMKeys
import Derived.Test.YtplcohjpchfkkaaTrLog
import Derived.Maps.OwnSet
import Derived.Sort.KeysCollected
import Derived.Test.YtplcohjpchfkkaaVBase
import Derived.Deep.Quiet
import Derived.Test.YtplcohjpchfkkaaOLess
import Derived.Deep.CutBlock
import Derived.Deep.CutRange
namespace Go.Proofs.Ytplcohjpchfkkaa
section
set_option linter.unusedVariables false
open Go.RowKit Go.Sort Go.Maps

/-- A place. -/
def plv (q : Pl) : Value := .agg #[.int .i64 q.1.1, .int .i64 q.1.2, .string q.2]
def pl0 : Pl := ((0, 0), ⟨#[]⟩)
/-- How such a one reads, as an element of a map. -/
def pld (q : Pl) : DataW Unit := .agg [.lit (.int .i64 q.1.1), .lit (.int .i64 q.1.2), .lit (.string q.2.data.toList)]
def plR (v : Value) : Option (DataW Unit × List MemPlace) :=
  match v with
  | .agg ⟨[.int .i64 a, .int .i64 b, .string s]⟩ => some (pld ((a, b), s), [])
  | _ => none

theorem plR_mk (q : Pl) : plR (plv q) = some (pld q, []) := rfl

theorem pld_inj {q q' : Pl} (h : pld q = pld q') : q = q' := by
  obtain ⟨⟨a, b⟩, s⟩ := q
  obtain ⟨⟨a', b'⟩, s'⟩ := q'
  obtain ⟨⟨l⟩⟩ := s
  obtain ⟨⟨l'⟩⟩ := s'
  simp [pld] at h
  simp [h]

theorem plR_inv {v : Value} {q : Pl} {ps : List MemPlace} (h : plR v = some (pld q, ps)) : v = plv q := by
  unfold plR at h
  split at h
  · rename_i a b s
    have h1 : pld ((a, b), s) = pld q := by simpa using congrArg Prod.fst (Option.some.inj h)
    rw [← pld_inj h1]
    rfl
  · cases h

/-- Block m is the map of these places. -/
def PLM (w : World) (m : Nat) (S : List Sp) : Prop := ∃ D : DataW Unit, w.ownsMap Try.prog 24 plR m S.length D ∧ ∀ d, Dw d → Maps.has D (kl d) = (lk S d).isSome ∧ D.atKey (kl d) (pld pl0) = pld ((lk S d).getD pl0)

theorem zeroPl (w : World) : (zeroValue 74).run Try.prog w = .ok (plv pl0) w := Try.zeroValue74 w

theorem PLM.made (w : World) : PLM (w.alloc (.map #[] 0)) w.heap.size [] := ⟨_, World.ownsMap_made _ _ _ _, fun _ _ => ⟨rfl, rfl⟩⟩

theorem PLM.lt {w : World} {m : Nat} {S : List Sp} (h : PLM w m S) : m < w.heap.size := by
  obtain ⟨D, ho, _⟩ := h
  exact ho.lt

theorem PLM.same {w w' : World} {m : Nat} {S : List Sp} (h : PLM w m S) (hs : w'.heap[m]? = w.heap[m]?) : PLM w' m S := by
  obtain ⟨D, ⟨es, clock, h1, h2⟩, hT⟩ := h
  exact ⟨D, ⟨es, clock, by rw [hs]; exact h1, h2⟩, hT⟩

theorem PLM.perm {w : World} {m : Nat} {S S' : List Sp} (h : PLM w m S) (hn : (S.map Sp.b).Nodup) (hp : S.Perm S') : PLM w m S' := by
  obtain ⟨D, ho, hT⟩ := h
  exact ⟨D, by rw [← hp.length_eq]; exact ho, fun d hd => by rw [← lk_perm hn hp]; exact hT d hd⟩

theorem PLM.look {w : World} {m : Nat} {S : List Sp} (h : PLM w m S) {d : Dt} (hd : Dw d) : (Instr.lookup 63 (.map (some m)) (dv d) false).run Try.prog w = .ok (plv ((lk S d).getD pl0)) w := by
  obtain ⟨D, ho, hT⟩ := h
  obtain ⟨v, ps, hr, hv⟩ := ho.lookup law Try.underlying63 (zeroPl w) (plR_mk pl0) (keyOf_dot hd)
  rw [(hT d hd).2] at hv
  rw [hr, plR_inv hv]

theorem PLM.lookOk {w : World} {m : Nat} {S : List Sp} (h : PLM w m S) {d : Dt} (hd : Dw d) : (Instr.lookup 63 (.map (some m)) (dv d) true).run Try.prog w = .ok (.tuple #[plv ((lk S d).getD pl0), .bool (lk S d).isSome]) w := by
  obtain ⟨D, ho, hT⟩ := h
  obtain ⟨v, ps, hr, hv⟩ := ho.look_ok law Try.underlying63 (zeroPl w) (plR_mk pl0) (keyOf_dot hd)
  rw [(hT d hd).2] at hv
  rw [hr, plR_inv hv, (hT d hd).1]

theorem pl_nil (w : World) {d : Dt} (hd : Dw d) : (Instr.lookup 63 (.map none) (dv d) false).run Try.prog w = .ok (plv pl0) w := by
  have := Maps.look_nil (w := w) false law Try.underlying63 (zeroPl w) (keyOf_dot hd)
  simpa using this
theorem pl_nilOk (w : World) {d : Dt} (hd : Dw d) : (Instr.lookup 63 (.map none) (dv d) true).run Try.prog w = .ok (.tuple #[plv pl0, .bool false]) w := by
  have := Maps.look_nil (w := w) true law Try.underlying63 (zeroPl w) (keyOf_dot hd)
  simpa using this

theorem lk_snoc {S : List Sp} {s : Sp} (h : lk S s.b = none) (d : Dt) : lk (S ++ [s]) d = if d = s.b then some (s.p, s.k) else lk S d := by
  unfold lk at h ⊢
  rw [List.find?_append]
  split
  · rename_i e
    subst e
    rw [Option.map_eq_none_iff] at h
    rw [h]
    simp
  · rename_i e
    cases hd : S.find? (fun x => decide (x.b = d)) with
    | some x => rfl
    | none =>
      have : ¬ s.b = d := fun e' => e e'.symm
      simp [this]

/-- A block that isn't there is laid. -/
theorem PLM.lay {w : World} {m : Nat} {S : List Sp} (h : PLM w m S) {s : Sp} (hd : Dw s.b) (hno : lk S s.b = none) (hn : S.length < maxLen) : ∃ w', (Instr.mapUpdate 63 (.map (some m)) (dv s.b) (plv (s.p, s.k))).run Try.prog w = .ok () w' ∧ PLM w' m (S ++ [s]) ∧ w.grownBy w' (some m) := by
  obtain ⟨D, ho, hT⟩ := h
  obtain ⟨w', hr, ho', hg⟩ := ho.update law Try.underlying63 hn (keyOf_dot hd) (plR_mk (s.p, s.k))
  refine ⟨w', hr, ⟨_, by rw [List.length_append]; exact ho', fun e he => ?_⟩, hg⟩
  rw [lk_snoc hno]
  by_cases hea : e = s.b
  · subst hea
    simp only [if_true]
    exact ⟨by rw [has_put_same ho.isMap (kl_isKey _)]; rfl, atKey_put_same ho.isMap (kl_isKey _) _ _⟩
  · have hne : kl e ≠ kl s.b := fun h' => hea (kl_inj he hd h')
    simp only [hea, if_false]
    exact ⟨by rw [has_put_other hne]; exact (hT e he).1, by rw [atKey_put_other hne]; exact (hT e he).2⟩

theorem own_tight {w : World} {b n n' : Nat} {D : DataW Unit} {R : Value → Option (DataW Unit × List MemPlace)} (h : w.ownsMap Try.prog 24 R b n D) (hs : Maps.size D ≤ n') : w.ownsMap Try.prog 24 R b n' D := by
  obtain ⟨es, clock, h1, h2, h3, rfl⟩ := h
  refine ⟨es, clock, h1, h2, ?_, rfl⟩
  simpa [Maps.size, length_sorted] using hs

/-- A block that is there is taken away. -/
theorem PLM.lift {w : World} {m : Nat} {S : List Sp} (h : PLM w m S) (hn : (S.map Sp.b).Nodup) {s : Sp} (hs : s ∈ S) (hd : Dw s.b) (ty : TypeId) : ∃ w', (Builtin.delete_ #[63, 24] ty #[.map (some m), dv s.b]).run Try.prog w = .ok (.tuple #[]) w' ∧ PLM w' m (lift S s.b) ∧ w.mapTurned w' m := by
  obtain ⟨D, ho, hT⟩ := h
  obtain ⟨w', hr, ho', hg⟩ := ho.drop law Try.underlying63 (keyOf_dot hd) ty
  refine ⟨w', hr, ⟨_, own_tight ho' ?_, fun e he => ?_⟩, hg⟩
  · have h1 := (perm_lift hn hs).length_eq
    rw [List.length_append] at h1
    have h2 := ho.size_le
    have h3 : Maps.has D (kl s.b) = true := by rw [(hT _ hd).1, lk_mem hn hs]; rfl
    have h4 := size_del (k := kl s.b) (ho.tidy law)
    rw [h3] at h4
    simp at h1 h4
    omega
  · rw [lift_lk hn]
    by_cases hea : e = s.b
    · subst hea
      simp only [if_true]
      exact ⟨by rw [has_del_same]; rfl, atKey_del_same _⟩
    · have hne : kl e ≠ kl s.b := fun h' => hea (kl_inj he hd h')
      simp only [hea, if_false]
      exact ⟨by rw [has_del_other hne]; exact (hT e he).1, by rw [atKey_del_other hne]; exact (hT e he).2⟩
end

section
set_option linter.unusedVariables false
open Go.RowKit Go.Sort Go.Maps

/-- Where a row lies: its block, how many, its room; none: there is none. -/
def slv : Option (Nat × Nat × Nat) → Value
  | none => .slice none 0 0
  | some q => .slice (some ⟨q.1, 0, none⟩) q.2.1 q.2.2
def sld : Option (Nat × Nat × Nat) → DataW Unit
  | none => .lit (.int .i64 (-1))
  | some q => .agg [.lit (.int .i64 (q.1 : Int)), .lit (.int .i64 (q.2.1 : Int)), .lit (.int .i64 (q.2.2 : Int))]
/-- How such a one reads, as an element of a map. -/
def slR (v : Value) : Option (DataW Unit × List MemPlace) :=
  match v with
  | .slice none 0 0 => some (sld none, [])
  | .slice (some ⟨g, 0, none⟩) n c => some (sld (some (g, n, c)), [])
  | _ => none

theorem slR_mk (o : Option (Nat × Nat × Nat)) : slR (slv o) = some (sld o, []) := by cases o <;> rfl

theorem sld_inj {o p : Option (Nat × Nat × Nat)} (h : sld o = sld p) : o = p := by
  cases o with
  | none => cases p with
    | none => rfl
    | some q => simp [sld] at h
  | some q => cases p with
    | none => simp [sld] at h
    | some q' =>
      obtain ⟨a, b, c⟩ := q
      obtain ⟨a', b', c'⟩ := q'
      simp [sld] at h
      obtain ⟨h1, h2, h3⟩ := h
      have e1 : a = a' := by omega
      have e2 : b = b' := by omega
      have e3 : c = c' := by omega
      rw [e1, e2, e3]

theorem slR_inv {v : Value} {o : Option (Nat × Nat × Nat)} {ps : List MemPlace} (h : slR v = some (sld o, ps)) : v = slv o := by
  unfold slR at h
  split at h
  · have h1 : sld none = sld o := by simpa using congrArg Prod.fst (Option.some.inj h)
    rw [← sld_inj h1]; rfl
  · rename_i g n c
    have h1 : sld (some (g, n, c)) = sld o := by simpa using congrArg Prod.fst (Option.some.inj h)
    rw [← sld_inj h1]; rfl
  · cases h

/-- Block m is a map of at most n rows, that tells f. -/
def KM (w : World) (m n : Nat) (f : Dt → Option (Nat × Nat × Nat)) : Prop := ∃ D : DataW Unit, w.ownsMap Try.prog 24 slR m n D ∧ ∀ d, Dw d → Maps.has D (kl d) = (f d).isSome ∧ D.atKey (kl d) (sld none) = sld (f d)

theorem zeroSl (w : World) : (zeroValue 29).run Try.prog w = .ok (slv none) w := Try.zeroValue29 w

theorem KM.made (w : World) : KM (w.alloc (.map #[] 0)) w.heap.size 0 (fun _ => none) := ⟨_, World.ownsMap_made _ _ _ _, fun _ _ => ⟨rfl, rfl⟩⟩

theorem KM.lt {w : World} {m n : Nat} {f : Dt → Option (Nat × Nat × Nat)} (h : KM w m n f) : m < w.heap.size := by
  obtain ⟨D, ho, _⟩ := h
  exact ho.lt

theorem KM.same {w w' : World} {m n : Nat} {f : Dt → Option (Nat × Nat × Nat)} (h : KM w m n f) (hs : w'.heap[m]? = w.heap[m]?) : KM w' m n f := by
  obtain ⟨D, ⟨es, clock, h1, h2⟩, hT⟩ := h
  exact ⟨D, ⟨es, clock, by rw [hs]; exact h1, h2⟩, hT⟩

theorem KM.look {w : World} {m n : Nat} {f : Dt → Option (Nat × Nat × Nat)} (h : KM w m n f) {d : Dt} (hd : Dw d) : (Instr.lookup 64 (.map (some m)) (dv d) false).run Try.prog w = .ok (slv (f d)) w := by
  obtain ⟨D, ho, hT⟩ := h
  obtain ⟨v, ps, hr, hv⟩ := ho.lookup law Try.underlying64 (zeroSl w) (slR_mk none) (keyOf_dot hd)
  rw [(hT d hd).2] at hv
  rw [hr, slR_inv hv]

theorem sl_nil (w : World) {d : Dt} (hd : Dw d) : (Instr.lookup 64 (.map none) (dv d) false).run Try.prog w = .ok (slv none) w := by
  have := Maps.look_nil (w := w) false law Try.underlying64 (zeroSl w) (keyOf_dot hd)
  simpa using this

theorem KM.put {w : World} {m n : Nat} {f : Dt → Option (Nat × Nat × Nat)} (h : KM w m n f) {d : Dt} (hd : Dw d) (q : Nat × Nat × Nat) (hn : n < maxLen) : ∃ w', (Instr.mapUpdate 64 (.map (some m)) (dv d) (slv (some q))).run Try.prog w = .ok () w' ∧ KM w' m (n + 1) (fun e => if e = d then some q else f e) ∧ w.grownBy w' (some m) := by
  obtain ⟨D, ho, hT⟩ := h
  obtain ⟨w', hr, ho', hg⟩ := ho.update law Try.underlying64 hn (keyOf_dot hd) (slR_mk (some q))
  refine ⟨w', hr, ⟨_, ho', fun e he => ?_⟩, hg⟩
  by_cases hea : e = d
  · subst hea
    simp only [if_true]
    exact ⟨by rw [has_put_same ho.isMap (kl_isKey _)]; rfl, atKey_put_same ho.isMap (kl_isKey _) _ _⟩
  · have hne : kl e ≠ kl d := fun h' => hea (kl_inj he hd h')
    simp only [hea, if_false]
    exact ⟨by rw [has_put_other hne]; exact (hT e he).1, by rw [atKey_put_other hne]; exact (hT e he).2⟩

theorem KM.drop {w : World} {m n : Nat} {f : Dt → Option (Nat × Nat × Nat)} (h : KM w m n f) {d : Dt} (hd : Dw d) (ty : TypeId) : ∃ w', (Builtin.delete_ #[64, 24] ty #[.map (some m), dv d]).run Try.prog w = .ok (.tuple #[]) w' ∧ KM w' m n (fun e => if e = d then none else f e) ∧ w.mapTurned w' m := by
  obtain ⟨D, ho, hT⟩ := h
  obtain ⟨w', hr, ho', hg⟩ := ho.drop law Try.underlying64 (keyOf_dot hd) ty
  refine ⟨w', hr, ⟨_, ho', fun e he => ?_⟩, hg⟩
  by_cases hea : e = d
  · subst hea
    simp only [if_true]
    exact ⟨by rw [has_del_same]; rfl, atKey_del_same _⟩
  · have hne : kl e ≠ kl d := fun h' => hea (kl_inj he hd h')
    simp only [hea, if_false]
    exact ⟨by rw [has_del_other hne]; exact (hT e he).1, by rw [atKey_del_other hne]; exact (hT e he).2⟩

theorem nodup_kl10 : ∀ {S : List Dt}, S.Nodup → Dws S → (S.map kl).Nodup
  | [], _, _ => List.nodup_nil
  | x :: r, h, hw => by
    obtain ⟨h1, h2⟩ := List.nodup_cons.1 h
    refine List.nodup_cons.2 ⟨fun hm => ?_, nodup_kl10 h2 (fun d hd => hw d (List.mem_cons_of_mem _ hd))⟩
    obtain ⟨d, hd, e⟩ := List.mem_map.1 hm
    exact h1 (kl_inj (hw d (List.mem_cons_of_mem _ hd)) (hw x (List.mem_cons_self ..)) e ▸ hd)

/-- No more room is asked for than there are rows. -/
theorem KM.tight {w : World} {m n : Nat} {f : Dt → Option (Nat × Nat × Nat)} (h : KM w m n f) {S : List Dt} (hm : ∀ d, Dw d → (f d).isSome = true → d ∈ S) : KM w m S.length f := by
  obtain ⟨D, hown, hT⟩ := h
  refine ⟨D, own_tight hown ?_, hT⟩
  obtain ⟨es, hD, hpw, _⟩ := hown.entries law
  obtain ⟨es', hD', hko⟩ := hown.keysOf
  obtain rfl : es = es' := by rw [hD] at hD'; simpa using hD'
  subst hD
  have hsub : ∀ x ∈ es.map Prod.fst, x ∈ S.map kl := fun x hx => by
    obtain ⟨p, hp, rfl⟩ := List.mem_map.1 hx
    obtain ⟨v, hv⟩ := hko p hp
    obtain ⟨d, _, hdw, hk⟩ := keyOf_dot_inv hv
    have hh : Maps.has (.map es) (kl d) = true := List.any_eq_true.2 ⟨p, hp, by rw [hk]; exact WideAt.sameKey_self (kl_isKey d)⟩
    rw [(hT d hdw).1] at hh
    exact List.mem_map.2 ⟨d, hm d hdw hh, hk.symm⟩
  have hnd : (es.map Prod.fst).Nodup := List.pairwise_map.2 hpw
  have := List.Nodup.length_le_of_subset hnd hsub
  simpa [Maps.size] using this
end

section
open Go.RowKit Go.Maps
open Go.Sort (grow)

/-- A world behind w, in which all is as it was. -/
structure Wb (w : World) where
  u : World
  h : RowKit.Below w.heap.size w u

theorem wp_region_below {P : Program} {id : Nat} {Q : Exit → Act → World → Prop} {a : Act} {w : World} {l : List Oper} (hm : P.follows .mixedOrders = true) (hB : Region.lexB .any l.toArray = true)
    (h : wpQuiet P l.toArray (fun w' => ∃ p : Wb w, w' = p.u) (fun a' => ∀ w', (∃ p : Wb w, w' = p.u) → Q .normal a' w') l a) : (Code.region id l.toArray true).wp P Q a w :=
  wp_region_quiet (C := fun w' => ∃ p : Wb w, w' = p.u) hm hB ⟨⟨w.drew, (Far.refl w).drew.below⟩, rfl⟩ (by simpa using h)

theorem below_q {f : FuncId} {args : Array Value} {w : World} {v : Value} {p : Wb w} (h : Calls Try.prog f args p.u fun e w' => e = .returned v ∧ RowKit.Below p.u.heap.size p.u w') : Calls Try.prog f args p.u fun e w'' => e = .returned v ∧ ∃ p' : Wb w, w'' = p'.u :=
  h.mono fun _ w' ⟨he, hb⟩ => ⟨he, ⟨w', p.h.trans (hb.mono p.h.size)⟩, rfl⟩

theorem far_q {f : FuncId} {args : Array Value} {w : World} {v : Value} {p : Wb w} (h : Tells f args p.u v) : Calls Try.prog f args p.u fun e w'' => e = .returned v ∧ ∃ p' : Wb w, w'' = p'.u :=
  below_q (h.mono fun _ _ ⟨he, hf⟩ => ⟨he, hf.below⟩)

end

section
open Go.RowKit
open Go.Sort (grow)

end

section
open Go.RowKit
open Go.Sort (grow)

/-- What a kind has, as a value. -/
abbrev pv (k : Int) : Value := .agg #[.bool (pat k), .bool (pch k), .bool (ppl k)]

theorem root_any (w : World) : Tells 19 #[] w (dv (0, -1)) := by
  go_enter Try.func19, Try.ntmps19
  go_wp2
  exact bodyPost_ret (v := dv (0, -1)) (by simp [results, Try.results19, go_sem]) rfl ⟨rfl, (Far.refl w).alloc _⟩

theorem trash_any (w : World) : Tells 21 #[] w (dv (0, -2)) := by
  go_enter Try.func21, Try.ntmps21
  go_wp2
  exact bodyPost_ret (v := dv (0, -2)) (by simp [results, Try.results21, go_sem]) rfl ⟨rfl, (Far.refl w).alloc _⟩

end
end Go.Proofs.Ytplcohjpchfkkaa
