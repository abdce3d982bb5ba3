/- slices.Insert of a dot into a row of dots of one's own: two cells each. -/
import Derived.Test.YtplcohjpchfkkaaTrPlaces
import Derived.Test.YtplcohjpchfkkaaMKeys
import Derived.Deep.Quiet
import Derived.Deep.CutBlock
import Derived.Deep.CutRange
import Derived.Deep.RegionHeld
import Derived.BigQuiet
import Derived.RangeFuncRecord
import Derived.Shelf.Spec.SlicesInsertGrow
import Derived.Laws.OwnMore
import Derived.Deep.AppendLies
import Derived.OwnWalk
import Derived.WalkKit
import Derived.WalkSpells
import Derived.WalkLawsBesides
namespace Go.Proofs.Ytplcohjpchfkkaa
section
set_option linter.unusedVariables false
open Go.RowKit Go.Sort Go.Maps

/-- Where a row lies: its block, how many, its room; none: there is none. -/
def slv : Option (Nat × Nat × Nat) → Value
  | none => .slice none 0 0
  | some q => .slice (some ⟨q.1, 0, none⟩) q.2.1 q.2.2
def sld : Option (Nat × Nat × Nat) → DataW Unit
  | none => .lit (.int .i64 (-1))
  | some q => .agg [.lit (.int .i64 (q.1 : Int)), .lit (.int .i64 (q.2.1 : Int)), .lit (.int .i64 (q.2.2 : Int))]
/-- How such a one reads, as an element of a map. -/
def slR (v : Value) : Option (DataW Unit × List MemPlace) :=
  match v with
  | .slice none 0 0 => some (sld none, [])
  | .slice (some ⟨g, 0, none⟩) n c => some (sld (some (g, n, c)), [])
  | _ => none

theorem slR_mk (o : Option (Nat × Nat × Nat)) : slR (slv o) = some (sld o, []) := by cases o <;> rfl

theorem sld_inj {o p : Option (Nat × Nat × Nat)} (h : sld o = sld p) : o = p := by
  cases o with
  | none => cases p with
    | none => rfl
    | some q => simp [sld] at h
  | some q => cases p with
    | none => simp [sld] at h
    | some q' =>
      obtain ⟨a, b, c⟩ := q
      obtain ⟨a', b', c'⟩ := q'
      simp [sld] at h
      obtain ⟨h1, h2, h3⟩ := h
      have e1 : a = a' := by omega
      have e2 : b = b' := by omega
      have e3 : c = c' := by omega
      rw [e1, e2, e3]

theorem slR_inv {v : Value} {o : Option (Nat × Nat × Nat)} {ps : List MemPlace} (h : slR v = some (sld o, ps)) : v = slv o := by
  unfold slR at h
  split at h
  · have h1 : sld none = sld o := by simpa using congrArg Prod.fst (Option.some.inj h)
    rw [← sld_inj h1]; rfl
  · rename_i g n c
    have h1 : sld (some (g, n, c)) = sld o := by simpa using congrArg Prod.fst (Option.some.inj h)
    rw [← sld_inj h1]; rfl
  · cases h

/-- Block m is a map of at most n rows, that tells f. -/
def KM (w : World) (m n : Nat) (f : Dt → Option (Nat × Nat × Nat)) : Prop := ∃ D : DataW Unit, w.ownsMap Try.prog 24 slR m n D ∧ ∀ d, Dw d → Maps.has D (kl d) = (f d).isSome ∧ D.atKey (kl d) (sld none) = sld (f d)

theorem zeroSl (w : World) : (zeroValue 29).run Try.prog w = .ok (slv none) w := Try.zeroValue29 w

theorem KM.made (w : World) : KM (w.alloc (.map #[] 0)) w.heap.size 0 (fun _ => none) := ⟨_, World.ownsMap_made _ _ _ _, fun _ _ => ⟨rfl, rfl⟩⟩

theorem KM.lt {w : World} {m n : Nat} {f : Dt → Option (Nat × Nat × Nat)} (h : KM w m n f) : m < w.heap.size := by
  obtain ⟨D, ho, _⟩ := h
  exact ho.lt

theorem KM.same {w w' : World} {m n : Nat} {f : Dt → Option (Nat × Nat × Nat)} (h : KM w m n f) (hs : w'.heap[m]? = w.heap[m]?) : KM w' m n f := by
  obtain ⟨D, ⟨es, clock, h1, h2⟩, hT⟩ := h
  exact ⟨D, ⟨es, clock, by rw [hs]; exact h1, h2⟩, hT⟩

theorem KM.look {w : World} {m n : Nat} {f : Dt → Option (Nat × Nat × Nat)} (h : KM w m n f) {d : Dt} (hd : Dw d) : (Instr.lookup 64 (.map (some m)) (dv d) false).run Try.prog w = .ok (slv (f d)) w := by
  obtain ⟨D, ho, hT⟩ := h
  obtain ⟨v, ps, hr, hv⟩ := ho.lookup law Try.underlying64 (zeroSl w) (slR_mk none) (keyOf_dot hd)
  rw [(hT d hd).2] at hv
  rw [hr, slR_inv hv]

theorem sl_nil (w : World) {d : Dt} (hd : Dw d) : (Instr.lookup 64 (.map none) (dv d) false).run Try.prog w = .ok (slv none) w := by
  have := Maps.look_nil (w := w) false law Try.underlying64 (zeroSl w) (keyOf_dot hd)
  simpa using this

theorem KM.put {w : World} {m n : Nat} {f : Dt → Option (Nat × Nat × Nat)} (h : KM w m n f) {d : Dt} (hd : Dw d) (q : Nat × Nat × Nat) (hn : n < maxLen) : ∃ w', (Instr.mapUpdate 64 (.map (some m)) (dv d) (slv (some q))).run Try.prog w = .ok () w' ∧ KM w' m (n + 1) (fun e => if e = d then some q else f e) ∧ w.grownBy w' (some m) := by
  obtain ⟨D, ho, hT⟩ := h
  obtain ⟨w', hr, ho', hg⟩ := ho.update law Try.underlying64 hn (keyOf_dot hd) (slR_mk (some q))
  refine ⟨w', hr, ⟨_, ho', fun e he => ?_⟩, hg⟩
  by_cases hea : e = d
  · subst hea
    simp only [if_true]
    exact ⟨by rw [has_put_same ho.isMap (kl_isKey _)]; rfl, atKey_put_same ho.isMap (kl_isKey _) _ _⟩
  · have hne : kl e ≠ kl d := fun h' => hea (kl_inj he hd h')
    simp only [hea, if_false]
    exact ⟨by rw [has_put_other hne]; exact (hT e he).1, by rw [atKey_put_other hne]; exact (hT e he).2⟩

theorem KM.drop {w : World} {m n : Nat} {f : Dt → Option (Nat × Nat × Nat)} (h : KM w m n f) {d : Dt} (hd : Dw d) (ty : TypeId) : ∃ w', (Builtin.delete_ #[64, 24] ty #[.map (some m), dv d]).run Try.prog w = .ok (.tuple #[]) w' ∧ KM w' m n (fun e => if e = d then none else f e) ∧ w.mapTurned w' m := by
  obtain ⟨D, ho, hT⟩ := h
  obtain ⟨w', hr, ho', hg⟩ := ho.drop law Try.underlying64 (keyOf_dot hd) ty
  refine ⟨w', hr, ⟨_, ho', fun e he => ?_⟩, hg⟩
  by_cases hea : e = d
  · subst hea
    simp only [if_true]
    exact ⟨by rw [has_del_same]; rfl, atKey_del_same _⟩
  · have hne : kl e ≠ kl d := fun h' => hea (kl_inj he hd h')
    simp only [hea, if_false]
    exact ⟨by rw [has_del_other hne]; exact (hT e he).1, by rw [atKey_del_other hne]; exact (hT e he).2⟩

/-- No more room is asked for than there are rows. -/
theorem KM.tight {w : World} {m n : Nat} {f : Dt → Option (Nat × Nat × Nat)} (h : KM w m n f) {S : List Dt} (hm : ∀ d, Dw d → (f d).isSome = true → d ∈ S) : KM w m S.length f := by
  obtain ⟨D, hown, hT⟩ := h
  refine ⟨D, own_tight hown ?_, hT⟩
  obtain ⟨es, hD, hpw, _⟩ := hown.entries law
  obtain ⟨es', hD', hko⟩ := hown.keysOf
  obtain rfl : es = es' := by rw [hD] at hD'; simpa using hD'
  subst hD
  have hsub : ∀ x ∈ es.map Prod.fst, x ∈ S.map kl := fun x hx => by
    obtain ⟨p, hp, rfl⟩ := List.mem_map.1 hx
    obtain ⟨v, hv⟩ := hko p hp
    obtain ⟨d, _, hdw, hk⟩ := keyOf_dot_inv hv
    have hh : Maps.has (.map es) (kl d) = true := List.any_eq_true.2 ⟨p, hp, by rw [hk]; exact WideAt.sameKey_self (kl_isKey d)⟩
    rw [(hT d hdw).1] at hh
    exact List.mem_map.2 ⟨d, hm d hdw hh, hk.symm⟩
  have hnd : (es.map Prod.fst).Nodup := List.pairwise_map.2 hpw
  have := List.Nodup.length_le_of_subset hnd hsub
  simpa [Maps.size] using this
end

section
open Go.RowKit Go.Maps
open Go.Sort (grow)

/-- A world behind w, in which all is as it was. -/
structure Wb (w : World) where
  u : World
  h : RowKit.Below w.heap.size w u

theorem wp_region_below {P : Program} {id : Nat} {Q : Exit → Act → World → Prop} {a : Act} {w : World} {l : List Oper} (hm : P.follows .mixedOrders = true) (hB : Region.lexB .any l.toArray = true)
    (h : wpQuiet P l.toArray (fun w' => ∃ p : Wb w, w' = p.u) (fun a' => ∀ w', (∃ p : Wb w, w' = p.u) → Q .normal a' w') l a) : (Code.region id l.toArray true).wp P Q a w :=
  wp_region_quiet (C := fun w' => ∃ p : Wb w, w' = p.u) hm hB ⟨⟨w.drew, (Far.refl w).drew.below⟩, rfl⟩ (by simpa using h)

theorem below_q {f : FuncId} {args : Array Value} {w : World} {v : Value} {p : Wb w} (h : Calls Try.prog f args p.u fun e w' => e = .returned v ∧ RowKit.Below p.u.heap.size p.u w') : Calls Try.prog f args p.u fun e w'' => e = .returned v ∧ ∃ p' : Wb w, w'' = p'.u :=
  h.mono fun _ w' ⟨he, hb⟩ => ⟨he, ⟨w', p.h.trans (hb.mono p.h.size)⟩, rfl⟩

theorem far_q {f : FuncId} {args : Array Value} {w : World} {v : Value} {p : Wb w} (h : Tells f args p.u v) : Calls Try.prog f args p.u fun e w'' => e = .returned v ∧ ∃ p' : Wb w, w'' = p'.u :=
  below_q (h.mono fun _ _ ⟨he, hf⟩ => ⟨he, hf.below⟩)
end

section
open Go.RowKit
open Go.Sort (grow)

theorem root_any (w : World) : Tells 19 #[] w (dv (0, -1)) := by
  go_enter Try.func19, Try.ntmps19
  go_wp2
  exact bodyPost_ret (v := dv (0, -1)) (by simp [results, Try.results19, go_sem]) rfl ⟨rfl, (Far.refl w).alloc _⟩

theorem trash_any (w : World) : Tells 21 #[] w (dv (0, -2)) := by
  go_enter Try.func21, Try.ntmps21
  go_wp2
  exact bodyPost_ret (v := dv (0, -2)) (by simp [results, Try.results21, go_sem]) rfl ⟨rfl, (Far.refl w).alloc _⟩
end

section
set_option linter.unusedVariables false
set_option linter.unusedSimpArgs false
open Go.RowKit

set_option maxHeartbeats 1000000 in
theorem tless_any (a b : Dt) (w : World) : Tells 83 #[dv a, dv b] w (.bool (dl a b)) := by
  obtain ⟨a1, a2⟩ := a
  obtain ⟨b1, b2⟩ := b
  by_cases h : a1 = b1
  · subst h
    go_enter Try.func83, Try.ntmps83
    go_wp2
    go_ret
    exact ⟨by simp [dl], ((Far.refl w).alloc _).alloc _⟩
  · go_enter Try.func83, Try.ntmps83
    go_wp2
    go_ret
    exact ⟨by simp [dl, h], ((Far.refl w).alloc _).alloc _⟩

/-- Below 0, 0 or above 0. -/
def ordI (a b : Dt) : Int := if dl a b then -1 else if dl b a then 1 else 0

set_option maxRecDepth 100000 in
set_option maxHeartbeats 1000000 in
theorem torder_any (a b : Dt) (w : World) : Calls Try.prog 73 #[dv a, dv b] w fun e w' => e = .returned (.int .i64 (ordI a b)) ∧ Below w.heap.size w w' := by
  obtain ⟨a1, a2⟩ := a
  obtain ⟨b1, b2⟩ := b
  obtain ⟨W0, hW0⟩ : ∃ W0, W0 = (w.alloc (.cells #[.int .i64 a1, .int .i64 a2] 24)).alloc (.cells #[.int .i64 b1, .int .i64 b2] 24) := ⟨_, rfl⟩
  have hB0 : Below w.heap.size w W0 := by rw [hW0]; exact ((Below.refl _ w).alloc (Nat.le_refl _) _).alloc (by simp) _
  have hb1 : W0.heap[w.heap.size]? = some (.cells #[.int .i64 a1, .int .i64 a2] 24 (0, 0)) := by rw [hW0]; exact (Below.heap_alloc _ _ _ (by simp)).trans (World.alloc_heap_new w _)
  have hb2 : W0.heap[w.heap.size + 1]? = some (.cells #[.int .i64 b1, .int .i64 b2] 24 (0, 0)) := by
    rw [hW0]
    have := World.alloc_heap_new (w.alloc (.cells #[.int .i64 a1, .int .i64 a2] 24)) (.cells #[.int .i64 b1, .int .i64 b2] 24)
    rwa [World.size_alloc] at this
  have hl1 := (Array.getElem?_eq_some_iff.1 hb1).1
  have hl2 := (Array.getElem?_eq_some_iff.1 hb2).1
  have HC : Hid (∀ W, Below W0.heap.size W0 W → W.cell? ⟨w.heap.size, 0, none⟩ = some (.int .i64 a1) ∧ W.cell? ⟨w.heap.size, 1, none⟩ = some (.int .i64 a2) ∧ W.cell? ⟨w.heap.size + 1, 0, none⟩ = some (.int .i64 b1) ∧ W.cell? ⟨w.heap.size + 1, 1, none⟩ = some (.int .i64 b2)) := hid (fun W hb => by
    have g1 := (hb.block _ hl1).trans hb1
    have g2 := (hb.block _ hl2).trans hb2
    exact ⟨by simp [World.cell?, g1], by simp [World.cell?, g1], by simp [World.cell?, g2], by simp [World.cell?, g2]⟩)
  have hL1 : Calls Try.prog 83 #[.agg #[.int .i64 a1, .int .i64 a2], .agg #[.int .i64 b1, .int .i64 b2]] W0 fun e w' => e = .returned (.bool (dl (a1, a2) (b1, b2))) ∧ Hid (Below W0.heap.size W0 w') := (tless_any (a1, a2) (b1, b2) W0).mono (fun e w' ⟨h1, h2⟩ => ⟨h1, hid h2.below⟩)
  have HL2 : Hid (∀ W, Below W0.heap.size W0 W → Calls Try.prog 83 #[.agg #[.int .i64 b1, .int .i64 b2], .agg #[.int .i64 a1, .int .i64 a2]] W fun e w' => e = .returned (.bool (dl (b1, b2) (a1, a2))) ∧ Hid (Below W0.heap.size W0 w')) := hid (fun W hb => (tless_any (b1, b2) (a1, a2) W).mono (fun e w' ⟨h1, h2⟩ => ⟨h1, hid (hb.trans (h2.below.mono hb.size))⟩))
  obtain ⟨c0, c1, c2, c3⟩ := HC.out W0 (Below.refl _ _)
  have hr : Hid (ordI (a1, a2) (b1, b2) = if dl (a1, a2) (b1, b2) then -1 else if dl (b1, b2) (a1, a2) then 1 else 0) := hid rfl
  have HW := hid hW0
  clear hW0 hb1 hb2 hl1 hl2
  cases h1 : dl (a1, a2) (b1, b2) with
  | true =>
    rw [h1] at hL1
    rw [h1] at hr
    clear h1 HL2
    go_enter Try.func73, Try.ntmps73
    go_wp2_with (go_at_call 83; rw [← HW.out]; refine hL1.mono ?_; rintro e w1 ⟨rfl, hb⟩)
    go_ret
    exact ⟨by rw [hr.out]; rfl, hB0.trans (hb.out.mono hB0.size)⟩
  | false =>
    rw [h1] at hL1
    rw [h1] at hr
    clear h1
    cases h2 : dl (b1, b2) (a1, a2) with
    | true =>
      rw [h2] at HL2
      rw [h2] at hr
      clear h2
      go_enter Try.func73, Try.ntmps73
      go_wp2_with (first
        | (have hq := HB; go_at_call 83; refine (HL2.out _ HB.out).mono ?_; rintro e w2 ⟨rfl, hb2⟩)
        | (go_at_call 83; rw [← HW.out]; refine hL1.mono ?_; rintro e w1 ⟨rfl, HB⟩; obtain ⟨e0, e1, e2, e3⟩ := HC.out _ HB.out))
      go_ret
      exact ⟨by rw [hr.out]; rfl, hB0.trans (hb2.out.mono hB0.size)⟩
    | false =>
      rw [h2] at HL2
      rw [h2] at hr
      clear h2
      go_enter Try.func73, Try.ntmps73
      go_wp2_with (first
        | (have hq := HB; go_at_call 83; refine (HL2.out _ HB.out).mono ?_; rintro e w2 ⟨rfl, hb2⟩)
        | (go_at_call 83; rw [← HW.out]; refine hL1.mono ?_; rintro e w1 ⟨rfl, HB⟩; obtain ⟨e0, e1, e2, e3⟩ := HC.out _ HB.out))
      go_ret
      exact ⟨by rw [hr.out]; rfl, hB0.trans (hb2.out.mono hB0.size)⟩

/-- The first that isn't 0. -/
def orI (x y : Int) : Int := if x = 0 then y else x

set_option maxRecDepth 100000 in
set_option maxHeartbeats 1000000 in
theorem or_any (g c : Nat) (x y : Int) (w : World) (h0 : w.cell? ⟨g, 0, none⟩ = some (.int .i64 x)) (h1 : w.cell? ⟨g, 1, none⟩ = some (.int .i64 y)) : Calls Try.prog 71 #[.slice (some ⟨g, 0, none⟩) 2 c] w fun e w' => e = .returned (.int .i64 (orI x y)) ∧ w' = w := by
  have hr : Hid (orI x y = if x = 0 then y else x) := hid rfl
  go_enter Try.func71, Try.ntmps71
  go_wp2
  go_loopw [8] (fun i wr => ∃ k : Nat, k ≤ 2 ∧ i = .int .i64 k ∧ wr = w ∧ Hid (1 ≤ k → x = 0) ∧ Hid (2 ≤ k → y = 0)) (fun i _ => 2 - (intOf i).toNat)
  case atStart => exact ⟨0, by omega, rfl, rfl, hid (fun h => absurd h (by omega)), hid (fun h => absurd h (by omega))⟩
  case round =>
    obtain ⟨k, hk, rfl, hw, hx, hy⟩ := hrel
    subst hw
    rcases (by omega : k = 0 ∨ k = 1 ∨ k = 2) with rfl | rfl | rfl
    · by_cases hz : x = 0
      · have hb : (x != 0) = false := by simp [hz]
        have HZ := hid hz
        clear hz
        go_wp2
        go_roundw
        case rel => exact ⟨1, by omega, by first | rfl | trivial, by first | rfl | trivial, hid (fun _ => HZ.out), hid (fun h => absurd h (by omega))⟩
        case measure => simp [intOf]
      · have hb : (x != 0) = true := by simpa using hz
        have hr2 : Hid (orI x y = x) := hid (by rw [hr.out, if_neg hz])
        clear hz
        go_wp2
        go_ret
        refine ⟨?_, ?_⟩
        · rw [hr2.out]; rfl
        · first | rfl | trivial
    · have HX := hid (hx.out (by omega))
      by_cases hz : y = 0
      · have hb : (y != 0) = false := by simp [hz]
        have HZ := hid hz
        clear hz
        go_wp2
        go_roundw
        case rel => exact ⟨2, by omega, by first | rfl | trivial, by first | rfl | trivial, hid (fun _ => HX.out), hid (fun _ => HZ.out)⟩
        case measure => simp [intOf]
      · have hb : (y != 0) = true := by simpa using hz
        have hr2 : Hid (orI x y = y) := hid (by rw [hr.out, if_pos HX.out])
        clear hz
        go_wp2
        go_ret
        refine ⟨?_, ?_⟩
        · rw [hr2.out]; rfl
        · first | rfl | trivial
    · have hr2 : Hid (orI x y = 0) := hid (by rw [hr.out, if_pos (hx.out (by omega)), hy.out (by omega)])
      go_wp2
      go_ret
      refine ⟨?_, ?_⟩
      · rw [hr2.out]; rfl
      · first | rfl | trivial

/-- May a dot be that of a move, or of a block? -/
def mayT (d : Dt) : Bool := decide (d ≠ (0, 0)) && decide (d ≠ (0, -1)) && decide (d ≠ (0, -2))

set_option maxRecDepth 100000 in
set_option maxHeartbeats 2000000 in
theorem may10_any (d : Dt) (w : World) : Calls Try.prog 30 #[dv d] w fun e w' => e = .returned (.bool (mayT d)) ∧ Below w.heap.size w w' := by
  obtain ⟨a, b⟩ := d
  have mixed := mixed
  obtain ⟨W0, hW0⟩ : ∃ W0, W0 = w.alloc (.cells #[.int .i64 a, .int .i64 b] 24) := ⟨_, rfl⟩
  have hB0 : Below w.heap.size w W0 := by rw [hW0]; exact (Below.refl _ w).alloc (Nat.le_refl _) _
  have hb1 : W0.heap[w.heap.size]? = some (.cells #[.int .i64 a, .int .i64 b] 24 (0, 0)) := by rw [hW0]; exact World.alloc_heap_new w _
  have hl1 := (Array.getElem?_eq_some_iff.1 hb1).1
  haveI : Nonempty (Wb W0) := ⟨⟨W0, Below.refl _ _⟩⟩
  have a0 : ∀ p : Wb W0, p.u.cell? ⟨w.heap.size, 0, none⟩ = some (.int .i64 a) := fun p => by
    have g1 := (p.h.block _ hl1).trans hb1
    simp [World.cell?, g1]
  have a1 : ∀ p : Wb W0, p.u.cell? ⟨w.heap.size, 1, none⟩ = some (.int .i64 b) := fun p => by
    have g1 := (p.h.block _ hl1).trans hb1
    simp [World.cell?, g1]
  have kRo : ∀ p : Wb W0, Calls Try.prog 19 #[] p.u fun e w'' => e = .returned (.agg #[.int .i64 0, .int .i64 (-1)]) ∧ ∃ p' : Wb W0, w'' = p'.u := fun p => far_q (root_any p.u)
  have kTr : ∀ p : Wb W0, Calls Try.prog 21 #[] p.u fun e w'' => e = .returned (.agg #[.int .i64 0, .int .i64 (-2)]) ∧ ∃ p' : Wb W0, w'' = p'.u := fun p => far_q (trash_any p.u)
  have HW := hid hW0
  clear hW0 hb1 hl1
  by_cases ha : a = 0
  · subst ha
    by_cases hb : b = 0
    · subst hb
      have hr : Hid (mayT (0, 0) = false) := hid rfl
      go_enter Try.func30, Try.ntmps30
      go_wp2_with fail
      rw [← HW.out]
      refine wp_region_below mixed (by kernel_rfl) ?_
      repeat (go_big_quiet_step (first | (go_at_call 19; exact kRo _) | (go_at_call 21; exact kTr _)))
      refine wpQuiet_nil ?_
      intro _ hw'
      obtain ⟨p, hw''⟩ := hw'
      subst hw''
      go_wp2
      go_ret
      exact ⟨by rw [hr.out]; rfl, hB0.trans (p.h.mono hB0.size)⟩
    · by_cases hc : b = -1
      · subst hc
        have hr : Hid (mayT (0, -1) = false) := hid rfl
        go_enter Try.func30, Try.ntmps30
        go_wp2_with fail
        rw [← HW.out]
        refine wp_region_below mixed (by kernel_rfl) ?_
        repeat (go_big_quiet_step (first | (go_at_call 19; exact kRo _) | (go_at_call 21; exact kTr _)))
        refine wpQuiet_nil ?_
        intro _ hw'
        obtain ⟨p, hw''⟩ := hw'
        subst hw''
        go_wp2
        go_ret
        exact ⟨by rw [hr.out]; rfl, hB0.trans (p.h.mono hB0.size)⟩
      · by_cases hd : b = -2
        · subst hd
          have hr : Hid (mayT (0, -2) = false) := hid rfl
          go_enter Try.func30, Try.ntmps30
          go_wp2_with fail
          rw [← HW.out]
          refine wp_region_below mixed (by kernel_rfl) ?_
          repeat (go_big_quiet_step (first | (go_at_call 19; exact kRo _) | (go_at_call 21; exact kTr _)))
          refine wpQuiet_nil ?_
          intro _ hw'
          obtain ⟨p, hw''⟩ := hw'
          subst hw''
          go_wp2
          go_ret
          exact ⟨by rw [hr.out]; rfl, hB0.trans (p.h.mono hB0.size)⟩
        · have hr : Hid (mayT (0, b) = true) := hid (by unfold mayT; simp [hb, hc, hd])
          have k0 : (b == 0) = false := by simpa using hb
          have k1 : (b == -1) = false := by simpa using hc
          have k2 : (b == -2) = false := by simpa using hd
          clear hb hc hd
          go_enter Try.func30, Try.ntmps30
          go_wp2_with fail
          rw [← HW.out]
          refine wp_region_below mixed (by kernel_rfl) ?_
          repeat (go_big_quiet_step (first | (go_at_call 19; exact kRo _) | (go_at_call 21; exact kTr _)))
          refine wpQuiet_nil ?_
          intro _ hw'
          obtain ⟨p, hw''⟩ := hw'
          subst hw''
          go_wp2
          go_ret
          exact ⟨by rw [hr.out]; rfl, hB0.trans (p.h.mono hB0.size)⟩
  · have hr : Hid (mayT (a, b) = true) := hid (by unfold mayT; simp [ha])
    have k0 : (a == 0) = false := by simpa using ha
    clear ha
    go_enter Try.func30, Try.ntmps30
    go_wp2_with fail
    rw [← HW.out]
    refine wp_region_below mixed (by kernel_rfl) ?_
    repeat (go_big_quiet_step (first | (go_at_call 19; exact kRo _) | (go_at_call 21; exact kTr _)))
    refine wpQuiet_nil ?_
    intro _ hw'
    obtain ⟨p, hw''⟩ := hw'
    subst hw''
    go_wp2
    go_ret
    exact ⟨by rw [hr.out]; rfl, hB0.trans (p.h.mono hB0.size)⟩
end

section
set_option linter.unusedVariables false
set_option linter.unusedSimpArgs false
open Go.RowKit

/-- The places, in a map or none. -/
def PlV (w : World) (mv : Value) (S : List Sp) : Prop := (mv = .map none ∧ S = []) ∨ ∃ m, mv = .map (some m) ∧ PLM w m S

theorem PlV.below {w w' : World} {mv : Value} {S : List Sp} (h : PlV w mv S) (hb : Below w.heap.size w w') : PlV w' mv S := by
  rcases h with h | ⟨m, e, h⟩
  · exact Or.inl h
  · exact Or.inr ⟨m, e, h.same (hb.block _ h.lt)⟩

theorem PlV.lookOk {w : World} {mv : Value} {S : List Sp} (h : PlV w mv S) {d : Dt} (hd : Dw d) : (Instr.lookup 63 mv (dv d) true).run Try.prog w = .ok (.tuple #[plv ((lk S d).getD pl0), .bool (lk S d).isSome]) w := by
  rcases h with ⟨rfl, rfl⟩ | ⟨m, rfl, h⟩
  · exact pl_nilOk w hd
  · exact h.lookOk hd

theorem PlV.look {w : World} {mv : Value} {S : List Sp} (h : PlV w mv S) {d : Dt} (hd : Dw d) : (Instr.lookup 63 mv (dv d) false).run Try.prog w = .ok (plv ((lk S d).getD pl0)) w := by
  rcases h with ⟨rfl, rfl⟩ | ⟨m, rfl, h⟩
  · exact pl_nil w hd
  · exact h.look hd

set_option maxRecDepth 100000 in
set_option maxHeartbeats 4000000 in
theorem there_any (t o : Nat) (mv : Value) (S : List Sp) (d : Dt) (hd : Dw d) (w : World) (hc : w.cell? ⟨t, o, none⟩ = some mv) (h : PlV w mv S) :
    Calls Try.prog 43 #[.pointer (some ⟨t, o, none⟩), dv d] w fun e w' => e = .returned (.bool (lk S d).isSome) ∧ Below w.heap.size w w' := by
  obtain ⟨d1, d2⟩ := d
  have mixed := mixed
  have hmxo : Try.prog.follows .mixedOrders = true := by kernel_rfl
  obtain ⟨p1, p2, ky, hq⟩ : ∃ p1 p2 ky, (lk S (d1, d2)).getD pl0 = ((p1, p2), ky) := ⟨_, _, _, rfl⟩
  obtain ⟨B, hB⟩ : ∃ B, B = (lk S (d1, d2)).isSome := ⟨_, rfl⟩
  obtain ⟨W0, hW0⟩ : ∃ W0, W0 = w.alloc (.cells #[.int .i64 d1, .int .i64 d2] 24) := ⟨_, rfl⟩
  have hB0 : Below w.heap.size w W0 := by rw [hW0]; exact (Below.refl _ w).alloc (Nat.le_refl _) _
  have hb1 : W0.heap[w.heap.size]? = some (.cells #[.int .i64 d1, .int .i64 d2] 24 (0, 0)) := by rw [hW0]; exact World.alloc_heap_new w _
  have hl1 := (Array.getElem?_eq_some_iff.1 hb1).1
  have HS : Hid (∀ W, Below W0.heap.size W0 W → (W.cell? ⟨t, o, none⟩ = some mv ∧ W.cell? ⟨w.heap.size, 0, none⟩ = some (.int .i64 d1) ∧ W.cell? ⟨w.heap.size, 1, none⟩ = some (.int .i64 d2) ∧ (Instr.lookup 63 mv (.agg #[.int .i64 d1, .int .i64 d2]) true).run Try.prog W = .ok (.tuple #[.agg #[.int .i64 p1, .int .i64 p2, .string ky], .bool B]) W)) := hid (fun W hb => by
    have g1 := (hb.block _ hl1).trans hb1
    have hbw := hB0.trans (hb.mono hB0.size)
    refine ⟨(hbw.cell (p := ⟨t, o, none⟩) (cell_in hc)).trans hc, by simp [World.cell?, g1], by simp [World.cell?, g1], ?_⟩
    have := (h.below hbw).lookOk hd
    rw [hq, ← hB] at this
    exact this)
  rw [← hB]
  have HU0 : Hid (Below W0.heap.size W0 W0.drew) := hid ((Far.refl W0).drewN 1).below
  have hS0 := HS.out _ HU0.out
  have HW := hid hW0
  clear hW0 hb1 hl1 hc h hq hB
  go_enter Try.func43, Try.ntmps43
  go_wp2_with fail
  rw [← HW.out]
  refine wp_region_held_drew (S := fun w' => w'.cell? ⟨t, o, none⟩ = some mv ∧ w'.cell? ⟨w.heap.size, 0, none⟩ = some (.int .i64 d1) ∧ w'.cell? ⟨w.heap.size, 1, none⟩ = some (.int .i64 d2) ∧ (Instr.lookup 63 mv (.agg #[.int .i64 d1, .int .i64 d2]) true).run Try.prog w' = .ok (.tuple #[.agg #[.int .i64 p1, .int .i64 p2, .string ky], .bool B]) w') hmxo hS0 ?_
  intro _
  refine wpAnyH_take (i := 0) (v := .pointer (some ⟨t, o, none⟩)) rfl (by kernel_rfl) (by kernel_rfl) (by kernel_rfl) (fun _ _ _ h => h) (Or.inl ⟨by kernel_rfl, fun w hSw => ?_⟩) hS0 ?_
  · obtain ⟨e1, e2, e3, e4⟩ := hSw; go_simp
  simp only [Act.put, List.getElem_toArray, List.getElem_cons_succ, List.getElem_cons_zero, List.setIfInBounds_toArray, List.set_cons_zero, List.set_cons_succ]
  refine wpAnyH_take (i := 1) (v := .pointer (some ⟨t, o, none⟩)) rfl (by kernel_rfl) (by kernel_rfl) (by kernel_rfl) (fun _ _ _ h => h) (Or.inl ⟨by kernel_rfl, fun w hSw => ?_⟩) hS0 ?_
  · obtain ⟨e1, e2, e3, e4⟩ := hSw; go_simp
  simp only [Act.put, List.getElem_toArray, List.getElem_cons_succ, List.getElem_cons_zero, List.setIfInBounds_toArray, List.set_cons_zero, List.set_cons_succ]
  refine wpAnyH_take (i := 2) (v := .pointer (some ⟨t, o, none⟩)) rfl (by kernel_rfl) (by kernel_rfl) (by kernel_rfl) (fun _ _ _ h => h) (Or.inl ⟨by kernel_rfl, fun w hSw => ?_⟩) hS0 ?_
  · obtain ⟨e1, e2, e3, e4⟩ := hSw; go_simp
  simp only [Act.put, List.getElem_toArray, List.getElem_cons_succ, List.getElem_cons_zero, List.setIfInBounds_toArray, List.set_cons_zero, List.set_cons_succ]
  refine wpAnyH_take (i := 3) (v := mv) rfl (by kernel_rfl) (by kernel_rfl) (by kernel_rfl) (fun _ _ _ h => h) (Or.inl ⟨by kernel_rfl, fun w hSw => ?_⟩) hS0 ?_
  · obtain ⟨e1, e2, e3, e4⟩ := hSw; go_simp
  simp only [Act.put, List.getElem_toArray, List.getElem_cons_succ, List.getElem_cons_zero, List.setIfInBounds_toArray, List.set_cons_zero, List.set_cons_succ]
  refine wpAnyH_take (i := 4) (v := .agg #[.int .i64 d1, .int .i64 d2]) rfl (by kernel_rfl) (by kernel_rfl) (by kernel_rfl) (fun _ _ _ h => h) (Or.inl ⟨by kernel_rfl, fun w hSw => ?_⟩) hS0 ?_
  · obtain ⟨e1, e2, e3, e4⟩ := hSw; go_simp
  simp only [Act.put, List.getElem_toArray, List.getElem_cons_succ, List.getElem_cons_zero, List.setIfInBounds_toArray, List.set_cons_zero, List.set_cons_succ]
  refine wpAnyH_take (i := 5) (v := .tuple #[.agg #[.int .i64 p1, .int .i64 p2, .string ky], .bool B]) rfl (by kernel_rfl) (by kernel_rfl) (by kernel_rfl) (fun _ _ _ h => h) (Or.inl ⟨by kernel_rfl, fun w hSw => ?_⟩) hS0 ?_
  · obtain ⟨e1, e2, e3, e4⟩ := hSw; go_simp
  simp only [Act.put, List.getElem_toArray, List.getElem_cons_succ, List.getElem_cons_zero, List.setIfInBounds_toArray, List.set_cons_zero, List.set_cons_succ]
  refine wpAnyH_take (i := 6) (v := .tuple #[.agg #[.int .i64 p1, .int .i64 p2, .string ky], .bool B]) rfl (by kernel_rfl) (by kernel_rfl) (by kernel_rfl) (fun _ _ _ h => h) (Or.inl ⟨by kernel_rfl, fun w hSw => ?_⟩) hS0 ?_
  · obtain ⟨e1, e2, e3, e4⟩ := hSw; go_simp
  simp only [Act.put, List.getElem_toArray, List.getElem_cons_succ, List.getElem_cons_zero, List.setIfInBounds_toArray, List.set_cons_zero, List.set_cons_succ]
  refine wpAnyH_take (i := 7) (v := .agg #[.int .i64 p1, .int .i64 p2, .string ky]) rfl (by kernel_rfl) (by kernel_rfl) (by kernel_rfl) (fun _ _ _ h => h) (Or.inl ⟨by kernel_rfl, fun w hSw => ?_⟩) hS0 ?_
  · obtain ⟨e1, e2, e3, e4⟩ := hSw; go_simp
  simp only [Act.put, List.getElem_toArray, List.getElem_cons_succ, List.getElem_cons_zero, List.setIfInBounds_toArray, List.set_cons_zero, List.set_cons_succ]
  refine wpAnyH_take (i := 8) (v := .bool B) rfl (by kernel_rfl) (by kernel_rfl) (by kernel_rfl) (fun _ _ _ h => h) (Or.inl ⟨by kernel_rfl, fun w hSw => ?_⟩) hS0 ?_
  · obtain ⟨e1, e2, e3, e4⟩ := hSw; go_simp
  simp only [Act.put, List.getElem_toArray, List.getElem_cons_succ, List.getElem_cons_zero, List.setIfInBounds_toArray, List.set_cons_zero, List.set_cons_succ]
  refine wpAnyH_ready (rs := [9]) (by kernel_rfl) (by simp) ?_
  refine AllReadyH.cons rfl (fun K hK => ?_) AllReadyH.nil
  go_simp
  have HU1 : Hid (Below W0.heap.size W0 (W0.alloc (.cells #[.int .i64 0, .int .i64 0, .string ⟨#[]⟩] 74)).drew) := hid (((Below.refl _ W0).alloc (Nat.le_refl _) _).drew)
  have hS1 := HS.out _ HU1.out
  refine hK.out _ _ hS1 (fun _ => ?_)
  clear hK K
  refine wpAnyH_ready (rs := [10]) (by kernel_rfl) (by simp) ?_
  refine AllReadyH.cons rfl (fun K hK => ?_) AllReadyH.nil
  go_simp
  have HU2 : Hid (Below W0.heap.size W0 (W0.alloc (.cells #[.int .i64 p1, .int .i64 p2, .string ky] 74)).drew) := hid (((Below.refl _ W0).alloc (Nat.le_refl _) _).drew)
  have hS2 := HS.out _ HU2.out
  refine hK.out _ _ hS2 (fun _ => ?_)
  clear hK K
  refine wpAnyH_take (i := 11) (v := .bool B) rfl (by kernel_rfl) (by kernel_rfl) (by kernel_rfl) (fun _ _ _ h => h) (Or.inl ⟨by kernel_rfl, fun w hSw => ?_⟩) hS2 ?_
  · obtain ⟨e1, e2, e3, e4⟩ := hSw; go_simp
  simp only [Act.put, List.getElem_toArray, List.getElem_cons_succ, List.getElem_cons_zero, List.setIfInBounds_toArray, List.set_cons_zero, List.set_cons_succ]
  refine wpAnyH_done (by kernel_rfl) ?_ _
  go_wp2
  go_ret
  exact ⟨rfl, hB0.trans (HU2.out.mono hB0.size)⟩
end

section
open Go.RowKit Go.Lib
open Go.Sort (grow)

/-- A row of one's own with one more cell. -/
theorem own_wider {w : World} {base e g n cap : Nat} {xs : List Value} (h : w.ownsRow base e 1 (.slice (some ⟨g, 0, none⟩) n cap) n xs) (hr : n + 1 ≤ cap) : ∃ u, w.ownsRow base e 1 (.slice (some ⟨g, 0, none⟩) (n + 1) cap) (n + 1) (xs ++ [u]) := by
  rcases h.2 with ⟨e, _⟩ | ⟨g', cap', cur, e, hb, hg, hn, hc, hs, ht⟩
  · simp at e
  · simp only [Value.slice.injEq, Option.some.injEq, Addr.mk.injEq, and_true, true_and] at e
    obtain ⟨rfl, rfl⟩ := e
    have hl : n < cur.toList.length := by rw [Array.length_toList, hs]; omega
    refine ⟨cur.toList[n], by rw [List.length_append, h.1]; simp, Or.inr ⟨g, cap, cur, rfl, hb, hg, hr, hc, hs, ?_⟩⟩
    rw [Nat.mul_one] at ht ⊢
    rw [List.take_succ_eq_append_getElem hl, ht]

/-- Cells that are stored, one behind the other. -/
theorem own_setCells {base e g n cap : Nat} : ∀ (vs : List Value) (o : Nat) (w : World) (xs : List Value), w.ownsRow base e 1 (.slice (some ⟨g, 0, none⟩) n cap) n xs → o + vs.length ≤ n →
    (w.setCells g o vs).ownsRow base e 1 (.slice (some ⟨g, 0, none⟩) n cap) n (xs.take o ++ vs ++ xs.drop (o + vs.length)) ∧ w.grownBy (w.setCells g o vs) (some g)
  | [], o, w, xs, h, _ => ⟨by simpa [World.setCells] using h, World.grownBy.refl _ _⟩
  | v :: r, o, w, xs, h, hl => by
    have hx : xs.length = n := by have := h.1; omega
    have s := World.ownsRow.stored h o v
    simp only [List.length_cons] at hl
    have ih := own_setCells r (o + 1) _ _ s.1 (by omega)
    refine ⟨?_, s.2.trans ih.2⟩
    have e : xs.take o ++ v :: r ++ xs.drop (o + (r.length + 1)) = (xs.set o v).take (o + 1) ++ r ++ (xs.set o v).drop (o + 1 + r.length) := by
      have e1 : (xs.set o v).take (o + 1) = xs.take o ++ [v] := by
        rw [List.take_succ_eq_append_getElem (by rw [List.length_set]; omega), List.take_set_of_le (Nat.le_refl _), List.getElem_set_self]
      have e2 : (xs.set o v).drop (o + 1 + r.length) = xs.drop (o + (r.length + 1)) := by
        rw [List.drop_set_of_lt (by omega)]
        congr 1
        omega
      rw [e1, e2]
      simp
    rw [List.length_cons, e]
    exact ih.1

theorem grownBy_drew1 (w : World) (r : Option Nat) : w.grownBy w.drew r := ⟨rfl, rfl, rfl, Nat.le_refl _, fun _ _ _ => rfl⟩

/-- A row with one more, laid in two steps. -/
theorem ins_list {α : Type} (xs R : List α) (u : α) (i n : Nat) (hx : xs.length = n) (hi : i ≤ n) (hR : R.length = n + 1) (ht : R.take i = xs.take i) :
    (R.take i ++ [u] ++ R.drop (i + [u].length)).take (i + 1) ++ xs.drop i ++ (R.take i ++ [u] ++ R.drop (i + [u].length)).drop (i + 1 + (xs.drop i).length) = xs.take i ++ [u] ++ xs.drop i := by
  rw [ht]
  have e2 : (xs.take i ++ [u]).length = i + 1 := by rw [List.length_append, List.length_take, hx]; simp; omega
  have e3 : (xs.take i ++ [u] ++ R.drop (i + [u].length)).length = n + 1 := by rw [List.length_append, e2, List.length_drop, hR, List.length_singleton]; omega
  have e4 : (xs.take i ++ [u] ++ R.drop (i + [u].length)).drop (i + 1 + (xs.drop i).length) = [] := List.drop_of_length_le (by rw [e3, List.length_drop, hx]; omega)
  rw [e4, List.append_nil, List.take_append_of_le_length (by omega), List.take_of_length_le (by omega)]

theorem ins_list2 {α : Type} (xs : List α) (u0 u : α) (i n : Nat) (hx : xs.length = n) (hi : i ≤ n) :
    xs.take i ++ [u] ++ xs.drop i = ((xs ++ [u0]).take (i + 1) ++ xs.drop i ++ (xs ++ [u0]).drop (i + 1 + (xs.drop i).length)).take i ++ [u] ++ ((xs ++ [u0]).take (i + 1) ++ xs.drop i ++ (xs ++ [u0]).drop (i + 1 + (xs.drop i).length)).drop (i + [u].length) := by
  have e1 : (xs ++ [u0]).drop (i + 1 + (xs.drop i).length) = [] := List.drop_of_length_le (by rw [List.length_drop, hx, List.length_append, hx, List.length_singleton]; omega)
  have e2 : ((xs ++ [u0]).take (i + 1)).length = i + 1 := by rw [List.length_take, List.length_append, hx, List.length_singleton]; omega
  have e3 : ((xs ++ [u0]).take (i + 1) ++ xs.drop i).take i = xs.take i := by
    rw [List.take_append_of_le_length (by omega), List.take_take, Nat.min_eq_left (by omega), List.take_append_of_le_length (by omega)]
  have e4 : ((xs ++ [u0]).take (i + 1) ++ xs.drop i).drop (i + [u].length) = xs.drop i := List.drop_left' e2
  rw [e1, List.append_nil, e3, e4]

theorem shape_of {w : World} {g : Nat} {cs : Array Value} {t : TypeId} (h : w.heap[g]? = some (.cells cs t (0, 0))) : w.shape? g = some (t, cs.size) := by
  simp [World.shape?, h]
end

section
set_option linter.unusedVariables false
open Go.RowKit Go.Lib
open Go.Sort (grow)

theorem Try.infoDot2 : (Try.prog.info? 24).map (fun i => (i.zero, i.size, i.bytes)) = some (some (.agg #[.int .i64 0, .int .i64 0]), 2, 16) := by kernel_rfl
theorem sizeOfDot2 (w : World) : (Go.sizeOf 24).run Try.prog w = .ok 2 w := by
  obtain ⟨i0, hi, _, h1, _⟩ := info_parts Try.infoDot2
  simp [Go.sizeOf, typeInfo, hi, h1]
theorem sizeDot2 : (Try.prog.info? 24).map (·.size) = some 2 := by kernel_rfl

/-- copy, of elements of two cells. -/
theorem run_copy_cells2 (w : World) (dT sT ty elem : TypeId) (b o dLen dCap : Nat) (a : Addr) (sLen sCap : Nat) (cs : List Value)
    (hu : Try.prog.underlying dT = some (.slice elem)) (hs : (Try.prog.info? elem).map (·.size) = some 2) (m : Nat) (hm : m = Nat.min sLen dLen) (hn : cs.length = m * 2)
    (hsrc : ∀ j v, cs[j]? = some v → w.cell? (a.add j) = some v) (hc : ∀ j, j < cs.length → (w.cell? ⟨b, o + j, none⟩).isSome = true) (hf : ∀ j, j < cs.length → w.frozen? ⟨b, o + j, none⟩ = false) (h1 : ∀ v ∈ cs, v.oneCell' = true) :
    (Builtin.copy_ #[dT, sT] ty #[.slice (some ⟨b, o, none⟩) dLen dCap, .slice (some a) sLen sCap]).run Try.prog w = .ok (goInt m) (w.setCells b o cs) := by
  have hl := run_loadCells_list (P := Try.prog) w a cs hsrc
  have hst := run_storeCells_cells (P := Try.prog) b o cs 0 w (by simpa using hc) (by simpa using hf) h1
  cases hq : Try.prog.info? elem with
  | none => simp [hq] at hs
  | some i =>
    have hi : i.size = 2 := by simpa [hq] using hs
    rw [hn] at hl
    simp [Builtin.copy_, run_underlying hu, Builtin.lenOf, Builtin.firstCells, sizeOf, typeInfo, hq, hi, ← hm, hl, hst]

theorem own_wider2 {w : World} {base e g n cap : Nat} {xs : List Value} (h : w.ownsRow base e 2 (.slice (some ⟨g, 0, none⟩) n cap) n xs) (hr : n + 1 ≤ cap) : ∃ us, us.length = 2 ∧ w.ownsRow base e 2 (.slice (some ⟨g, 0, none⟩) (n + 1) cap) (n + 1) (xs ++ us) := by
  rcases h.2 with ⟨e, _⟩ | ⟨g', cap', cur, e, hb, hg, hn, hc, hs, ht⟩
  · simp at e
  · simp only [Value.slice.injEq, Option.some.injEq, Addr.mk.injEq, and_true, true_and] at e
    obtain ⟨rfl, rfl⟩ := e
    have hl : (n + 1) * 2 ≤ cur.toList.length := by rw [Array.length_toList, hs]; omega
    have hus : ((cur.toList.drop (n * 2)).take 2).length = 2 := by rw [List.length_take, List.length_drop]; omega
    refine ⟨(cur.toList.drop (n * 2)).take 2, hus, by rw [List.length_append, h.1, hus]; omega, Or.inr ⟨g, cap, cur, rfl, hb, hg, hr, hc, hs, ?_⟩⟩
    rw [← ht, show (n + 1) * 2 = n * 2 + 2 by omega, List.take_add]

theorem own_setCells2 {base e g n cap : Nat} : ∀ (vs : List Value) (o : Nat) (w : World) (xs : List Value), w.ownsRow base e 2 (.slice (some ⟨g, 0, none⟩) n cap) n xs → o + vs.length ≤ n * 2 →
    (w.setCells g o vs).ownsRow base e 2 (.slice (some ⟨g, 0, none⟩) n cap) n (xs.take o ++ vs ++ xs.drop (o + vs.length)) ∧ w.grownBy (w.setCells g o vs) (some g)
  | [], o, w, xs, h, _ => ⟨by simpa [World.setCells] using h, World.grownBy.refl _ _⟩
  | v :: r, o, w, xs, h, hl => by
    have hx : xs.length = n * 2 := h.1
    have s := World.ownsRow.stored h o v
    simp only [List.length_cons] at hl
    have ih := own_setCells2 r (o + 1) _ _ s.1 (by omega)
    refine ⟨?_, s.2.trans ih.2⟩
    have e : xs.take o ++ v :: r ++ xs.drop (o + (r.length + 1)) = (xs.set o v).take (o + 1) ++ r ++ (xs.set o v).drop (o + 1 + r.length) := by
      have e1 : (xs.set o v).take (o + 1) = xs.take o ++ [v] := by
        rw [List.take_succ_eq_append_getElem (by rw [List.length_set]; omega), List.take_set_of_le (Nat.le_refl _), List.getElem_set_self]
      have e2 : (xs.set o v).drop (o + 1 + r.length) = xs.drop (o + (r.length + 1)) := by
        rw [List.drop_set_of_lt (by omega)]
        congr 1
        omega
      rw [e1, e2]
      simp
    rw [List.length_cons, e]
    exact ih.1

set_option maxRecDepth 100000 in
set_option maxHeartbeats 4000000 in
/-- There is room, and something stands behind. -/
theorem dins_shift (base g n c i vb : Nat) (xs : List Value) (u1 u2 : Value) (w : World) (hi : i < n) (hroom : n + 1 ≤ c) (hn : n ≤ 1000000) (hown : w.ownsRow base 24 2 (.slice (some ⟨g, 0, none⟩) n c) n xs) (hvb : vb ≠ g)
    (hv : w.heap[vb]? = some (.cells #[u1, u2] 24 (0, 0))) (h1 : ∀ v ∈ xs, v.oneCell' = true) (hu1 : u1.oneCell' = true) (hu2 : u2.oneCell' = true) :
    Calls Try.prog 86 #[.slice (some ⟨g, 0, none⟩) n c, .int .i64 i, .slice (some ⟨vb, 0, none⟩) 1 1] w fun e w' =>
      e = .returned (.slice (some ⟨g, 0, none⟩) (n + 1) c) ∧ w' = (w.drew.setCells g ((i + 1) * 2) (xs.drop (i * 2))).setCells g (i * 2) [u1, u2] := by
  have mixed := mixed
  have hxl : xs.length = n * 2 := hown.1
  have hcell : ∀ j v, xs[j]? = some v → w.cell? ⟨g, j, none⟩ = some v := fun j v hj => by
    have hjn : j < n * 2 := by
      have := (List.getElem?_eq_some_iff.1 hj).1
      omega
    rw [World.ownsRow.cellAt hown j (by omega)]
    exact hj
  obtain ⟨us, hus, hown1⟩ := own_wider2 hown hroom
  have hsp : ∀ j, j < (n + 1) * 2 → (w.cell? ⟨g, j, none⟩).isSome = true := fun j hj => by
    rw [World.ownsRow.cellAt hown1 j (by omega), List.getElem?_eq_getElem (by rw [List.length_append, hus]; omega)]
    rfl
  have hfz : ∀ j, w.frozen? ⟨g, j, none⟩ = false := fun j => World.ownsRow.frozenAt hown j
  have hgc : ∃ cs : Array Value, w.heap[g]? = some (.cells cs 24 (0, 0)) ∧ cs.size ≠ 0 ∧ c ≤ maxLen := by
    rcases hown.2 with ⟨e, _⟩ | ⟨g', cap', cur, e, hb, hg, hnn, hc, hs, ht⟩
    · simp at e
    · simp only [Value.slice.injEq, Option.some.injEq, Addr.mk.injEq, and_true, true_and] at e
      obtain ⟨rfl, rfl⟩ := e
      exact ⟨cur, hg, by omega, hc⟩
  obtain ⟨cs, hgh, hcs0, hcm⟩ := hgc
  unfold maxLen at hcm
  have hov : ∀ lb cb, (callFunc 95 #[.slice (some ⟨vb, 0, none⟩) 1 1, .slice (some ⟨g, (i + 1) * 2, none⟩) lb cb]).run Try.prog w = .ok (.value (.bool false)) w := fun lb cb => by
    rw [run_callFunc_extern Try.func95 (by kernel_rfl) (by kernel_rfl) (by kernel_rfl) (e := Extern.SlicesOverlaps.overlaps #[29, 29] #[4]) (by kernel_rfl),
      Lib.run_overlaps_apart w 29 4 24 Try.underlying29 2 sizeOfDot2 ⟨vb, 0, none⟩ ⟨g, (i + 1) * 2, none⟩ 1 1 lb cb hvb 24 24 2 cs.size (shape_of hv) (shape_of hgh) hcs0 (by simp [World.frozen?, hv]) (by simp [World.frozen?, hv])]
    rfl
  have hdl : (xs.drop (i * 2)).length = (n - i) * 2 := by rw [List.length_drop, hxl]; omega
  have hcp1 : ∀ ty dc sc, (Builtin.copy_ #[29, 29] ty #[.slice (some ⟨g, (i + 1) * 2, none⟩) (n - i) dc, .slice (some ⟨g, i * 2, none⟩) (n + 1 - i) sc]).run Try.prog w.drew = .ok (goInt (n - i : Nat)) (w.drew.setCells g ((i + 1) * 2) (xs.drop (i * 2))) := fun ty dc sc =>
    run_copy_cells2 w.drew _ _ ty 24 g ((i + 1) * 2) (n - i) dc ⟨g, i * 2, none⟩ (n + 1 - i) sc (xs.drop (i * 2)) Try.underlying29 sizeDot2 (n - i) (by simp only [Nat.min_def]; split <;> omega) hdl
      (fun j v hj => by rw [Addr.add_lit]; exact hcell (i * 2 + j) v (by rwa [List.getElem?_drop] at hj))
      (fun j hj => hsp _ (by omega)) (fun j _ => hfz _) (fun v hv' => h1 v (List.mem_of_mem_drop hv'))
  obtain ⟨W1, hW1⟩ : ∃ W1, W1 = w.drew.setCells g ((i + 1) * 2) (xs.drop (i * 2)) := ⟨_, rfl⟩
  have hsp1 : ∀ k, k < (n + 1) * 2 → (W1.cell? ⟨g, k, none⟩).isSome = true := fun k hk => by
    rw [hW1]
    exact isSome_setCells g (xs.drop (i * 2)) ((i + 1) * 2) w.drew (fun j hj => hsp _ (by rw [hdl] at hj; omega)) k (hsp k hk)
  have hvj : ∀ j v, ([u1, u2] : List Value)[j]? = some v → W1.cell? ⟨vb, 0 + j, none⟩ = some v := fun j v hj => by
    rw [hW1, World.cell?_setCells_out g _ _ _ _ (fun h _ => absurd h hvb)]
    show w.cell? ⟨vb, 0 + j, none⟩ = some v
    rcases j with _ | _ | j
    · simp at hj; subst hj; simp [World.cell?, hv]
    · simp at hj; subst hj; simp [World.cell?, hv]
    · simp at hj
  have hcp2 : ∀ (W : World), (∀ x, W.cell? x = W1.cell? x) → (∀ x, W.frozen? x = W1.frozen? x) → ∀ ty dc, (Builtin.copy_ #[29, 29] ty #[.slice (some ⟨g, i * 2, none⟩) (n + 1 - i) dc, .slice (some ⟨vb, 0, none⟩) 1 1]).run Try.prog W = .ok (goInt (1 : Nat)) (W.setCells g (i * 2) [u1, u2]) := fun W hWc hWf ty dc =>
    run_copy_cells2 W _ _ ty 24 g (i * 2) (n + 1 - i) dc ⟨vb, 0, none⟩ 1 1 [u1, u2] Try.underlying29 sizeDot2 1 (by simp only [Nat.min_def]; split <;> omega) rfl
      (fun j v hj => by rw [Addr.add_lit, hWc]; exact hvj j v hj)
      (fun j hj => by rw [hWc]; exact hsp1 _ (by simp at hj; omega)) (fun j hj => by rw [hWf, hW1, World.frozen?_setCells]; exact hfz _) (fun v hv' => by simp at hv'; rcases hv' with rfl | rfl; exact hu1; exact hu2)
  rw [← hW1] at hcp1
  have hz1 : ¬ ((i : Int) = (n : Int)) := by omega
  have hw1 : IntKind.i64.wrap ((i : Int) + 1) = (i : Int) + 1 := by rw [IntKind.wrap_i64]; omega
  have hb1 : (0 : Int) ≤ (i : Int) + 1 := by omega
  have hin : i ≤ n := by omega
  have htn : ((i : Int) + 1).toNat = i + 1 := by omega
  have hb2 : ¬ (c = i + 1) := by omega
  have hb3 : (i : Int) ≤ (n : Int) + 1 := by omega
  have hb4 : ¬ (c = i) := by omega
  clear hown hown1 hcell hsp hfz hgh hv hvj hsp1 hus
  go_enter Try.func86, Try.ntmps86
  go_wp2_with (simp only [hov])
  go_region_law_o (refine step_copy_runI rfl _ _ 29 29 rfl _ _ (by simp [Act.eval, Act.put]) (by simp [Act.eval, Act.put]) (hcp1 _ _ _) ?_)
  go_wp2_with (at_builtin; refine wpList_copy_runI _ rfl _ _ 29 29 rfl _ _ rfl rfl (hcp2 _ (fun _ => rfl) (fun _ => rfl) _ _) ?_)
  go_ret
  first | exact ⟨rfl, rfl⟩ | exact ⟨rfl, by rw [hW1]⟩
end
end Go.Proofs.Ytplcohjpchfkkaa
