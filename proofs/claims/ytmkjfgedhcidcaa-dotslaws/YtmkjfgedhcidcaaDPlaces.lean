/- Places: a new map that tells of each dot of the row where it stands first. -/
import Derived.Test.YtmkjfgedhcidcaaDMap
import Derived.WalkKit
import Derived.WalkSpells
import Derived.WalkLawsBesides
namespace Go.Proofs.Ytmkjfgedhcidcaa
open Go.RowKit Go.Sort Go.Maps

/-- Block b is a map of at most n dots that tells g. -/
def DM (w : World) (b n : Nat) (g : Dt → Option Int) : Prop := ∃ D : DataW Unit, w.ownsMap Try.prog 23 (plainElem (H := Unit) Try.prog 3) b n D ∧ Tells D g

theorem DM.below {w w' : World} {b n : Nat} {g : Dt → Option Int} (h : DM w b n g) {B : Nat} (hb : Below B w w') (hB : b < B) : DM w' b n g := by
  obtain ⟨D, ⟨es, clock, h1, h2⟩, hT⟩ := h
  exact ⟨D, ⟨es, clock, by rw [hb.block b hB]; exact h1, h2⟩, hT⟩

theorem DM.lt {w : World} {b n : Nat} {g : Dt → Option Int} (h : DM w b n g) : b < w.heap.size := by
  obtain ⟨D, hown, _⟩ := h
  exact hown.lt

theorem take_snoc {L : List Dt} {k : Nat} (h : k < L.length) : L.take (k + 1) = L.take k ++ [L[k]] := by
  rw [List.take_succ_eq_append_getElem h]

set_option maxHeartbeats 2000000 in
theorem places_any (a : Option Addr) (n c : Nat) (L : List Dt) (w : World) (hs : PS w a n c L) (hd : Dws L) (hn : n ≤ 1000000) :
    Calls Try.prog 20 #[.slice a n c] w fun e w' => e = .returned (.map (some w.heap.size)) ∧ DM w' w.heap.size n (pl L) ∧ Below w.heap.size w w' := by
  have hlen := hs.len
  have hcap := hs.cap
  have hmk := @run_makeMap Try.prog
  go_enter Try.func20, Try.ntmps20
  go_wp2
  go_loopw [11] (fun i wr => ∃ k : Nat, k ≤ n ∧ i = .int .i64 k ∧ DM wr w.heap.size k (pl (L.take k)) ∧ Below w.heap.size w wr) (fun i _ => n - (intOf i).toNat)
  case atStart => exact ⟨0, by omega, rfl, ⟨_, World.ownsMap_made _ _ _ _, tells_empty.congr (fun d => by simp [pl])⟩, (Below.refl _ _).alloc (Nat.le_refl _) _⟩
  case round =>
    obtain ⟨k, hk, rfl, hdm, hbl⟩ := hrel
    by_cases hlt : k < n
    · obtain ⟨g, o, rfl, hg, hcell⟩ := (hs.below hbl).at (by omega)
      obtain ⟨hc0, hc1⟩ := hcell k (by omega)
      have hdk : Dw (L[k]'(by omega)) := hd _ (List.getElem_mem _)
      have hts := take_snoc (L := L) (k := k) (by omega)
      generalize (L[k]'(by omega)) = d at hc0 hc1 hdk hts
      obtain ⟨D, hown, hT⟩ := hdm
      have hlk := hT d hdk
      clear hs hd hcell
      cases hp : pl (L.take k) d with
      | none =>
        rw [hp] at hlk
        obtain ⟨hhas, _⟩ := hlk
        have hhas' : Maps.has D (kl d) = false := hhas
        go_wp2_with (first
          | (at_lookup; refine wpList_lookup_own_ok_int _ rfl _ _ 33 rfl 23 3 .i64 law Try.underlying33 Try.underlying3 (zero3 _) w.heap.size k D rfl (hown.alloc _) _ _ rfl (keyOf_dot hdk) ?_; intro cc hat hwc; rw [hhas'])
          | (at_mapUpdate; refine wpList_mapUpdate_own _ rfl _ _ _ 33 rfl 23 3 law Try.underlying33 _ w.heap.size k D rfl (hown.alloc _) (by unfold maxLen; omega) _ _ (kl d) rfl rfl (keyOf_dot hdk) (.lit (.int .i64 k)) [] (plainElem_int Try.underlying3 (WalkArith.wf_i64 (by omega))) ?_; intro w1 hown1 hgrow1))
        go_roundw
        case rel =>
          refine ⟨k + 1, by omega, by go_num, ⟨_, hown1, ?_⟩, (hbl.alloc hbl.size _).grown hgrow1 (hbl.alloc hbl.size _).size (fun j hj => by cases hj; exact Nat.le_refl _)⟩
          refine (hT.put hown.isMap hdk k).congr fun e => ?_
          rw [hts, pl_snoc, hp, List.length_take]
          simp only [Option.isSome_none, Bool.false_eq_true, if_false]
          rw [Nat.min_eq_left (by omega)]
        case measure => simp [intOf]; omega
      | some cc =>
        rw [hp] at hlk
        obtain ⟨hhas, _⟩ := hlk
        have hhas' : Maps.has D (kl d) = true := hhas
        go_wp2_with (first
          | (at_lookup; refine wpList_lookup_own_ok_int _ rfl _ _ 33 rfl 23 3 .i64 law Try.underlying33 Try.underlying3 (zero3 _) w.heap.size k D rfl (hown.alloc _) _ _ rfl (keyOf_dot hdk) ?_; intro cc hat hwc; rw [hhas']))
        go_roundw
        case rel =>
          refine ⟨k + 1, by omega, by go_num, ⟨_, (hown.alloc _).mono (Nat.le_succ _), ?_⟩, hbl.alloc hbl.size _⟩
          refine hT.congr fun e => ?_
          rw [hts, pl_snoc, hp]
          simp
        case measure => simp [intOf]; omega
    · obtain rfl : k = n := by omega
      go_wp2
      go_ret
      rw [← hlen, List.take_length] at hdm
      exact ⟨rfl, hlen ▸ hdm, hbl⟩

end Go.Proofs.Ytmkjfgedhcidcaa
