/- Rows of numbers and of texts that came in; bytes of a row, one behind the other. -/
import Derived.Test.YtbhfnhciadhgmaaCounts
namespace Go.Proofs.Ytbhfnhciadhgmaa
open Go.RowKit

/-- A slice of numbers that came in: its elements. -/
def ISrc (k : IntKind) (w : World) (a : Option Addr) (len : Nat) (Z : List Int) : Prop :=
  Z.length = len ∧ len ≤ 9223372036854775807 ∧ (∀ x ∈ Z, (Lit.int k x).wf = true) ∧
  (0 < len → ∃ g off, a = some ⟨g, off, none⟩ ∧ g < w.heap.size ∧ ∀ i, i < len → w.cell? ⟨g, off + i, none⟩ = some (.int k (Z[i]?.getD 0)))

/-- A slice of texts that came in: its elements. -/
def SSrc (w : World) (a : Option Addr) (len : Nat) (S : List ByteArray) : Prop :=
  S.length = len ∧ len ≤ 9223372036854775807 ∧
  (0 < len → ∃ g off, a = some ⟨g, off, none⟩ ∧ g < w.heap.size ∧ ∀ i, i < len → w.cell? ⟨g, off + i, none⟩ = some (.string (S[i]?.getD ByteArray.empty)))

theorem flat_addr {w : World} {x : Addr} {n : Nat} {f : Nat → Value} (hn : 0 < n) (h : ∀ i, i < n → w.cell? (x.add i) = some (f i)) :
    ∃ g off, x = ⟨g, off, none⟩ ∧ g < w.heap.size ∧ ∀ i, i < n → w.cell? ⟨g, off + i, none⟩ = some (f i) := by
  obtain ⟨g, off, sp⟩ := x
  have h0 := h 0 hn
  have hspot : sp = none := by simpa [Addr.add] using World.cell?_spot h0
  subst hspot
  have hb := cell_block h0
  refine ⟨g, off, rfl, by simpa [Addr.add] using hb, fun i hi => ?_⟩
  have := h i hi
  by_cases hi0 : i = 0
  · subst hi0; simpa [Addr.add] using this
  · simpa [Addr.add, hi0] using this

theorem IsRow.isrc {k : IntKind} {w : World} {a : Option Addr} {len cap : Nat} {zs : List Int} (h : IsRow k w a len cap zs) : ISrc k w a len (zs.take len) := by
  rcases h with ⟨rfl, rfl, rfl, rfl⟩ | ⟨x, rfl, hl, hm, hz, hcell, hwz⟩
  · exact ⟨rfl, by omega, fun x hx => by simp at hx, fun h => absurd h (by omega)⟩
  · refine ⟨by rw [List.length_take, hz]; omega, by unfold maxLen at hm; omega, fun x hx => hwz x (List.mem_of_mem_take hx), fun hp => ?_⟩
    obtain ⟨g, off, rfl, hg, hc⟩ := flat_addr (n := len) (f := fun i => .int k (zs.getD i 0)) hp (fun i hi => hcell i (by omega))
    refine ⟨g, off, rfl, hg, fun i hi => ?_⟩
    rw [hc i hi, List.getElem?_take_of_lt hi]; rfl

theorem SSrc.of {w : World} {x : Addr} {len cap : Nat} {ss : List ByteArray} (hl : len ≤ cap) (hm : cap ≤ maxLen) (hz : len ≤ ss.length) (hcell : ∀ i, i < ss.length → w.cell? (x.add i) = some (.string (ss.getD i ByteArray.empty))) :
    SSrc w (some x) len (ss.take len) := by
  refine ⟨by rw [List.length_take]; omega, by unfold maxLen at hm; omega, fun hp => ?_⟩
  obtain ⟨g, off, rfl, hg, hc⟩ := flat_addr (n := len) (f := fun i => .string (ss.getD i ByteArray.empty)) hp (fun i hi => hcell i (by omega))
  refine ⟨g, off, rfl, hg, fun i hi => ?_⟩
  rw [hc i hi, List.getElem?_take_of_lt hi]; rfl

/-- What is written of all of a row, one behind the other. -/
def cat {α : Type} (f : α → List Int) (xs : List α) : List Int := xs.flatMap f
theorem cat_take {α : Type} (f : α → List Int) (xs : List α) (d : α) (k : Nat) (hk : k < xs.length) : cat f (xs.take (k + 1)) = cat f (xs.take k) ++ f (xs[k]?.getD d) := by
  unfold cat
  rw [List.take_add_one, List.getElem?_eq_getElem hk, List.flatMap_append]
  simp only [Option.toList_some, List.flatMap_cons, List.flatMap_nil, List.append_nil, Option.getD_some]
theorem cat_drop {α : Type} (f : α → List Int) (xs : List α) (d : α) (k : Nat) (hk : k < xs.length) : cat f (xs.drop k) = f (xs[k]?.getD d) ++ cat f (xs.drop (k + 1)) := by
  unfold cat
  rw [List.drop_eq_getElem_cons hk, List.getElem?_eq_getElem hk, List.flatMap_cons]
  simp only [Option.getD_some]
theorem bts_cat {α : Type} (f : α → List Int) (h : ∀ x, Bts (f x)) (xs : List α) : Bts (cat f xs) := by
  intro x hx
  unfold cat at hx
  obtain ⟨y, _, hy⟩ := List.mem_flatMap.1 hx
  exact h y x hy

/-- What is written of a text, if it isn't too long. -/
def encT (s : ByteArray) : List Int := if s.size ≤ 1000 then enc s.size ++ sb s else []
theorem bts_encT (s : ByteArray) : Bts (encT s) := by
  unfold encT; split
  · exact (bts_enc _).append (bts_sb s)
  · intro x hx; simp at hx

theorem dint_zig (n : Int) : dint (zig n) = n := by unfold dint zig; split <;> split <;> omega

theorem str_sb (s : ByteArray) : strOfNums (sb s) = s := by
  apply ByteArray.ext
  apply Array.toList_inj.1
  rw [strOfNums_data]
  unfold sb
  rw [List.map_map]
  conv => rhs; rw [← List.map_id s.data.toList]
  apply List.map_congr_left
  intro x _
  simp

theorem rtx_text (s : ByteArray) (R : List Int) (hR : Bts R) (hs : s.size ≤ 1000) : rtx (enc s.size ++ sb s ++ R) 0 = (sb s, R, 0) := by
  have hd := dec_enc s.size (sb s ++ R) (by omega) (by omega) ((bts_sb s).append hR)
  have hl := sb_length s
  have hc : cnt (enc s.size ++ sb s ++ R) 0 1 = ((s.size : Int), sb s ++ R, 0) := by
    unfold cnt
    rw [List.append_assoc, hd, show max (1 : Int) 1 = 1 by omega, Int.ediv_one, if_neg]
    simp only [List.length_append, hl]
    omega
  unfold rtx
  rw [hc]
  simp only [Int.toNat_natCast]
  rw [← hl, List.take_left, List.drop_left]

end Go.Proofs.Ytbhfnhciadhgmaa
