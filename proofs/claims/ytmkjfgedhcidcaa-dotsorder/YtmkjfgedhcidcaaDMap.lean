/- Rows of dots in memory; maps of dots as functions. No function of the program. -/
import Derived.Test.YtmkjfgedhcidcaaDKeys
import Derived.WalkKit
import Derived.Below
import Derived.Maps.OwnSet
import Derived.Maps.RangeWalk
import Derived.Sort.KeysCollected
namespace Go.Proofs.Ytmkjfgedhcidcaa
open Go.RowKit Go.Sort Go.Maps

/-- The slice (a, n, c) holds these dots. -/
structure PS (w : World) (a : Option Addr) (n c : Nat) (L : List Dt) : Prop where
  len : L.length = n
  cap : n ≤ c
  max : c ≤ maxLen
  nil : a = none → n = 0 ∧ c = 0
  cells : ∀ ad, a = some ad → ∀ j u, (flat L)[j]? = some u → w.cell? (ad.add j) = some u

theorem cell_in {w : World} {p : Addr} {v : Value} (h : w.cell? p = some v) : p.block < w.heap.size := by
  rcases Nat.lt_or_ge p.block w.heap.size with hlt | hge
  · exact hlt
  · simp [World.cell?, Array.getElem?_eq_none hge] at h

theorem PS.below {w w' : World} {a : Option Addr} {n c : Nat} {L : List Dt} (h : PS w a n c L) (hb : Below w.heap.size w w') : PS w' a n c L :=
  ⟨h.len, h.cap, h.max, h.nil, fun ad ha j u hj => by
    have := h.cells ad ha j u hj
    rw [hb.cell (cell_in this)]
    exact this⟩

theorem PS.none (w : World) : PS w none 0 0 [] := ⟨rfl, Nat.le_refl _, Nat.zero_le _, fun _ => ⟨rfl, rfl⟩, fun _ h => by cases h⟩

/-- Where dots are, they lie at a plain address. -/
theorem PS.at {w : World} {a : Option Addr} {n c : Nat} {L : List Dt} (h : PS w a n c L) (hp : 0 < n) :
    ∃ g o, a = some ⟨g, o, Option.none⟩ ∧ g < w.heap.size ∧ ∀ i (hi : i < L.length), w.cell? ⟨g, o + i * 2, Option.none⟩ = some (.int .i64 (L[i]).1) ∧ w.cell? ⟨g, o + i * 2 + 1, Option.none⟩ = some (.int .i64 (L[i]).2) := by
  cases a with
  | none => have := (h.nil rfl).1; omega
  | some ad =>
    have hc := h.cells ad rfl
    obtain ⟨g, o, sp⟩ := ad
    have hl : 0 < L.length := by rw [h.len]; exact hp
    have h0 := hc 0 _ (by have := (flat_get L 0 hl).1; simpa using this)
    have hspot : sp = Option.none := by simpa [Addr.add] using World.cell?_spot h0
    subst hspot
    refine ⟨g, o, rfl, by have := cell_in h0; simpa [Addr.add] using this, fun i hi => ?_⟩
    obtain ⟨f1, f2⟩ := flat_get L i hi
    have e1 := hc _ _ f1
    have e2 := hc _ _ f2
    constructor
    · by_cases hi0 : i * 2 = 0
      · rw [hi0] at e1 ⊢; simpa [Addr.add] using e1
      · simpa [Addr.add, hi0] using e1
    · simpa [Addr.add, Nat.add_assoc] using e2

/-- What a map that reads as D holds at the dots. -/
def Tells (D : DataW Unit) (g : Dt → Option Int) : Prop :=
  ∀ d, Dw d → Maps.has D (kl d) = (g d).isSome ∧ ∀ c, g d = some c → ∀ z, D.atKey (kl d) z = .lit (.int .i64 c)

theorem tells_empty : Tells (.map []) (fun _ => Option.none) := fun d _ => ⟨rfl, fun c h => by cases h⟩

theorem Tells.put {D : DataW Unit} {g : Dt → Option Int} (h : Tells D g) (hm : IsMap D) {d : Dt} (hd : Dw d) (c : Int) :
    Tells (D.put (kl d) (.lit (.int .i64 c))) (fun e => if e = d then some c else g e) := by
  intro e he
  by_cases hed : e = d
  · subst hed
    simp only [if_true]
    refine ⟨by rw [has_put_same hm (kl_isKey _)]; rfl, fun c' hc z => ?_⟩
    cases hc
    exact atKey_put_same hm (kl_isKey _) _ _
  · have hne : kl e ≠ kl d := fun h' => hed (kl_inj he hd h')
    simp only [hed, if_false]
    refine ⟨by rw [has_put_other hne]; exact (h e he).1, fun c' hc z => ?_⟩
    rw [atKey_put_other hne]
    exact (h e he).2 c' hc z

theorem Tells.del {D : DataW Unit} {g : Dt → Option Int} (h : Tells D g) {d : Dt} (hd : Dw d) :
    Tells (D.del (kl d)) (fun e => if e = d then Option.none else g e) := by
  intro e he
  by_cases hed : e = d
  · subst hed
    simp only [if_true]
    refine ⟨by rw [has_del_same]; rfl, fun c' hc z => by cases hc⟩
  · have hne : kl e ≠ kl d := fun h' => hed (kl_inj he hd h')
    simp only [hed, if_false]
    refine ⟨by rw [has_del_other hne]; exact (h e he).1, fun c' hc z => ?_⟩
    rw [atKey_del_other hne]
    exact (h e he).2 c' hc z

theorem Tells.congr {D : DataW Unit} {g g' : Dt → Option Int} (h : Tells D g) (e : ∀ d, g d = g' d) : Tells D g' := fun d hd => by rw [← e d]; exact h d hd

theorem nodup_kl : ∀ {S : List Dt}, S.Nodup → Dws S → (S.map kl).Nodup
  | [], _, _ => List.nodup_nil
  | x :: r, h, hw => by
    obtain ⟨h1, h2⟩ := List.nodup_cons.1 h
    refine List.nodup_cons.2 ⟨fun hm => ?_, nodup_kl h2 (fun d hd => hw d (List.mem_cons_of_mem _ hd))⟩
    obtain ⟨d, hd, e⟩ := List.mem_map.1 hm
    exact h1 (kl_inj (hw d (List.mem_cons_of_mem _ hd)) (hw x (List.mem_cons_self ..)) e ▸ hd)

/-- How many entries: as many as there are dots. -/
theorem Tells.size {w : World} {b n : Nat} {D : DataW Unit} {g : Dt → Option Int} (h : Tells D g) (hown : w.ownsMap Try.prog 23 (plainElem (H := Unit) Try.prog 3) b n D) {S : List Dt} (hS : S.Nodup) (hw : Dws S) (hm : ∀ d, Dw d → ((g d).isSome = true ↔ d ∈ S)) :
    Maps.size D = S.length := by
  obtain ⟨es, hD, hpw, _⟩ := hown.entries law
  obtain ⟨es', hD', hko⟩ := hown.keysOf
  obtain rfl : es = es' := by rw [hD] at hD'; simpa using hD'
  subst hD
  have hp : (es.map Prod.fst).Perm (S.map kl) := by
    refine (List.perm_ext_iff_of_nodup ?_ ?_).2 fun x => ?_
    · exact List.pairwise_map.2 hpw
    · exact nodup_kl hS hw
    · constructor
      · intro hx
        obtain ⟨p, hp, rfl⟩ := List.mem_map.1 hx
        obtain ⟨v, hv⟩ := hko p hp
        obtain ⟨d, _, hdw, hk⟩ := keyOf_dot_inv hv
        have hh : Maps.has (.map es) (kl d) = true := List.any_eq_true.2 ⟨p, hp, by rw [hk]; exact WideAt.sameKey_self (kl_isKey d)⟩
        rw [(h d hdw).1] at hh
        exact List.mem_map.2 ⟨d, (hm d hdw).1 hh, hk.symm⟩
      · intro hx
        obtain ⟨d, hd, rfl⟩ := List.mem_map.1 hx
        have hh := (hm d (hw d hd)).2 hd
        rw [← (h d (hw d hd)).1] at hh
        obtain ⟨p, hp, hs⟩ := List.any_eq_true.1 hh
        exact List.mem_map.2 ⟨p, hp, WideAt.sameKey_eq hs⟩
  have := hp.length_eq
  simpa [Maps.size] using this

/-- Where each dot stands first. -/
def pl (L : List Dt) (d : Dt) : Option Int := if d ∈ L then some (L.idxOf d : Int) else Option.none

theorem pl_some (L : List Dt) (d : Dt) : (pl L d).isSome = true ↔ d ∈ L := by unfold pl; split <;> simp_all

theorem pl_snoc (L : List Dt) (d e : Dt) : pl (L ++ [d]) e = if (pl L d).isSome = true then pl L e else if e = d then some (L.length : Int) else pl L e := by
  unfold pl
  by_cases hd : d ∈ L
  · by_cases he : e ∈ L
    · simp [hd, he, List.idxOf_append]
    · have : e ≠ d := fun h => he (h ▸ hd)
      simp [hd, he, this]
  · by_cases hed : e = d
    · subst hed
      simp [hd, List.idxOf_append]
    · by_cases he : e ∈ L
      · simp [hd, he, hed, List.idxOf_append]
      · simp [hd, he, hed]

end Go.Proofs.Ytmkjfgedhcidcaa
