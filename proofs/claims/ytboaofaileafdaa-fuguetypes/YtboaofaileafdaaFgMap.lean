/- Maps of pointers by dots. No function of the program. -/
import Derived.Test.YtboaofaileafdaaMKeys
import Derived.Test.YtboaofaileafdaaFgSearch
import Derived.Maps.OwnSet
import Derived.Sort.KeysCollected
namespace Go.Proofs.Ytboaofaileafdaa
open Go.RowKit Go.Sort Go.Maps

/-- A pointer to a block, or none. -/
def pvo : Option Nat → Value
  | none => .pointer none
  | some g => .pointer (some ⟨g, 0, none⟩)
def pz : Option Nat → DataW Unit
  | none => .lit (.int .i64 (-1))
  | some g => .lit (.int .i64 (g : Int))
/-- How such a one reads, as an element of a map: as a number. -/
def pR (v : Value) : Option (DataW Unit × List MemPlace) :=
  match v with
  | .pointer none => some (pz none, [])
  | .pointer (some ⟨g, 0, none⟩) => some (pz (some g), [])
  | _ => none

theorem pR_mk (o : Option Nat) : pR (pvo o) = some (pz o, []) := by cases o <;> rfl

theorem pz_inj {o p : Option Nat} (h : pz o = pz p) : o = p := by
  cases o <;> cases p
  · rfl
  · simp [pz] at h
  · simp [pz] at h
  · simp [pz] at h; congr 1; omega

theorem pR_inv {v : Value} {o : Option Nat} {ps : List MemPlace} (h : pR v = some (pz o, ps)) : v = pvo o := by
  unfold pR at h
  split at h
  · have h1 : pz none = pz o := by simpa using congrArg Prod.fst (Option.some.inj h)
    rw [← pz_inj h1]; rfl
  · rename_i g
    have h1 : pz (some g) = pz o := by simpa using congrArg Prod.fst (Option.some.inj h)
    rw [← pz_inj h1]; rfl
  · cases h

/-- Block b is a map of at most n dots to blocks, that tells G. -/
def PM (w : World) (b n : Nat) (G : Dt → Option Nat) : Prop := ∃ D : DataW Unit, w.ownsMap Try.prog 24 pR b n D ∧ ∀ d, Dw d → Maps.has D (kl d) = (G d).isSome ∧ D.atKey (kl d) (pz none) = pz (G d)

theorem zeroPtr (w : World) : (zeroValue 72).run Try.prog w = .ok (pvo none) w := Try.zeroValue72 w

theorem PM.made (w : World) : PM (w.alloc (.map #[] 0)) w.heap.size 0 (fun _ => none) := ⟨_, World.ownsMap_made _ _ _ _, fun _ _ => ⟨rfl, rfl⟩⟩

theorem PM.lt {w : World} {b n : Nat} {G : Dt → Option Nat} (h : PM w b n G) : b < w.heap.size := by
  obtain ⟨D, ho, _⟩ := h
  exact ho.lt

theorem PM.same {w w' : World} {b n : Nat} {G : Dt → Option Nat} (h : PM w b n G) (hs : w'.heap[b]? = w.heap[b]?) : PM w' b n G := by
  obtain ⟨D, ⟨es, clock, h1, h2⟩, hT⟩ := h
  exact ⟨D, ⟨es, clock, by rw [hs]; exact h1, h2⟩, hT⟩

theorem PM.look {w : World} {b n : Nat} {G : Dt → Option Nat} (h : PM w b n G) {d : Dt} (hd : Dw d) : (Instr.lookup 65 (.map (some b)) (dv d) false).run Try.prog w = .ok (pvo (G d)) w := by
  obtain ⟨D, ho, hT⟩ := h
  obtain ⟨v, ps, hr, hv⟩ := ho.lookup law Try.underlying65 (zeroPtr w) (pR_mk none) (keyOf_dot hd)
  rw [(hT d hd).2] at hv
  rw [hr, pR_inv hv]

theorem PM.put {w : World} {b n : Nat} {G : Dt → Option Nat} (h : PM w b n G) {d : Dt} (hd : Dw d) (g : Nat) (hn : n < maxLen) : ∃ w', (Instr.mapUpdate 65 (.map (some b)) (dv d) (pv g)).run Try.prog w = .ok () w' ∧ PM w' b (n + 1) (fun e => if e = d then some g else G e) ∧ w.grownBy w' (some b) := by
  obtain ⟨D, ho, hT⟩ := h
  obtain ⟨w', hr, ho', hg⟩ := ho.update law Try.underlying65 hn (keyOf_dot hd) (pR_mk (some g))
  refine ⟨w', hr, ⟨_, ho', fun e he => ?_⟩, hg⟩
  by_cases hea : e = d
  · subst hea
    simp only [if_true]
    exact ⟨by rw [has_put_same ho.isMap (kl_isKey _)]; rfl, atKey_put_same ho.isMap (kl_isKey _) _ _⟩
  · have hne : kl e ≠ kl d := fun h' => hea (kl_inj he hd h')
    simp only [hea, if_false]
    exact ⟨by rw [has_put_other hne]; exact (hT e he).1, by rw [atKey_put_other hne]; exact (hT e he).2⟩

theorem nodup_kl9 : ∀ {S : List Dt}, S.Nodup → Dws S → (S.map kl).Nodup
  | [], _, _ => List.nodup_nil
  | x :: r, h, hw => by
    obtain ⟨h1, h2⟩ := List.nodup_cons.1 h
    refine List.nodup_cons.2 ⟨fun hm => ?_, nodup_kl9 h2 (fun d hd => hw d (List.mem_cons_of_mem _ hd))⟩
    obtain ⟨d, hd, e⟩ := List.mem_map.1 hm
    exact h1 (kl_inj (hw d (List.mem_cons_of_mem _ hd)) (hw x (List.mem_cons_self ..)) e ▸ hd)

/-- How many entries: as many as there are dots. -/
theorem PM.size {w : World} {b n : Nat} {G : Dt → Option Nat} (h : PM w b n G) {S : List Dt} (hS : S.Nodup) (hw : Dws S) (hm : ∀ d, Dw d → ((G d).isSome = true ↔ d ∈ S)) : ∃ D, w.ownsMap Try.prog 24 pR b n D ∧ Maps.size D = S.length := by
  obtain ⟨D, hown, hT⟩ := h
  refine ⟨D, hown, ?_⟩
  obtain ⟨es, hD, hpw, _⟩ := hown.entries law
  obtain ⟨es', hD', hko⟩ := hown.keysOf
  obtain rfl : es = es' := by rw [hD] at hD'; simpa using hD'
  subst hD
  have hp : (es.map Prod.fst).Perm (S.map kl) := by
    refine (List.perm_ext_iff_of_nodup ?_ ?_).2 fun x => ?_
    · exact List.pairwise_map.2 hpw
    · exact nodup_kl9 hS hw
    · constructor
      · intro hx
        obtain ⟨p, hp, rfl⟩ := List.mem_map.1 hx
        obtain ⟨v, hv⟩ := hko p hp
        obtain ⟨d, _, hdw, hk⟩ := keyOf_dot_inv hv
        have hh : Maps.has (.map es) (kl d) = true := List.any_eq_true.2 ⟨p, hp, by rw [hk]; exact WideAt.sameKey_self (kl_isKey d)⟩
        rw [(hT d hdw).1] at hh
        exact List.mem_map.2 ⟨d, (hm d hdw).1 hh, hk.symm⟩
      · intro hx
        obtain ⟨d, hd, rfl⟩ := List.mem_map.1 hx
        have hh := (hm d (hw d hd)).2 hd
        rw [← (hT d (hw d hd)).1] at hh
        obtain ⟨p, hp, hs⟩ := List.any_eq_true.1 hh
        exact List.mem_map.2 ⟨p, hp, WideAt.sameKey_eq hs⟩
  have := hp.length_eq
  simpa [Maps.size] using this

end Go.Proofs.Ytboaofaileafdaa
