/- What the calls that write numbers do to memory: the size of a number, room behind some bytes, a number cut into bytes. -/
import Derived.Test.YthipadnghdodlaaRows
import Derived.Test.YthipadnghdodlaaMath
import Derived.WalkKit
import Derived.WalkSpells
import Derived.WalkLawsBesides
import Derived.Laws.CopyOwn
namespace Go.Proofs.Ythipadnghdodlaa
open Go.RowKit

set_option maxHeartbeats 400000 in
theorem size_any (n : Int) (w : World) (h0 : 0 ≤ n) :
    Calls Try.prog 80 #[.int .u64 n] w fun e w' => e = .returned (.int .i64 (sz n)) ∧ w = w' := by
  go_enter Try.func80, Try.ntmps80
  go_wp2
  go_loop [2,4] (fun r i => ∃ k : Nat, k ≤ 8 ∧ i = .int .i64 k ∧ r = .int .i64 0 ∧ (k = 0 ∨ (n / 2 ^ (7 * k) == 0) = false)) (fun _ i => 8 - (intOf i).toNat)
  case atStart => exact ⟨0, by omega, rfl, rfl, .inl rfl⟩
  case round =>
    obtain ⟨k, hk, rfl, rfl, H0⟩ := hrel
    have H : Hid (k = 0 ∨ (n / 2 ^ (7 * k) == 0) = false) := H0
    clear H0
    go_wp2
    · go_ret
      have e1 := sz_hit n k (by omega) H.out (by assumption) h0
      exact ⟨by rw [e1]; go_num, rfl⟩
    · go_round
      case rel => exact ⟨k + 1, by omega, by go_num, rfl, .inr (by assumption)⟩
      case measure => simp [intOf]; omega
    · go_ret
      have e1 := sz_nine n k (by omega) hk H.out h0
      exact ⟨by rw [e1]; rfl, rfl⟩

/-- Block g holds just these bytes. -/
def Row (w : World) (g : Nat) (L : List Int) : Prop := w.heap[g]? = some (.cells (L.map (Value.int .u8)).toArray 5 (0, 0))

/-- At most block g has turned. -/
structure Only (g : Nat) (w w' : World) : Prop where
  os : w'.os = w.os
  tape : w'.tape = w.tape
  output : w'.output = w.output
  size : w'.heap.size = w.heap.size
  block : ∀ k, k ≠ g → w'.heap[k]? = w.heap[k]?

theorem Row.cell {w : World} {g : Nat} {L : List Int} (h : Row w g L) (i : Nat) (hi : i < L.length) : w.cell? ⟨g, i, none⟩ = some (.int .u8 (L[i])) := by
  rw [cell_of_row w g i _ 5 (0, 0) h]; simp [hi]
theorem Row.cellq {w : World} {g : Nat} {L : List Int} (h : Row w g L) (i : Nat) (v : Int) (hi : L[i]? = some v) : w.cell? ⟨g, i, none⟩ = some (.int .u8 v) := by
  rw [cell_of_row w g i _ 5 (0, 0) h]; simp [hi]
theorem Row.frozen {w : World} {g : Nat} {L : List Int} (h : Row w g L) (i : Nat) : w.frozen? ⟨g, i, none⟩ = false := frozen_of_row w g i _ 5 h
theorem Row.set {w : World} {g : Nat} {L : List Int} (h : Row w g L) (i : Nat) (v : Int) : Row (w.setCell ⟨g, i, none⟩ (.int .u8 v)) g (L.set i v) := by
  have := heap_setCell_same w g i _ 5 (.int .u8 v) h
  unfold Row; rw [this]; simp [List.map_set]
theorem Only.refl (g : Nat) (w : World) : Only g w w := ⟨rfl, rfl, rfl, rfl, fun _ _ => rfl⟩
theorem Only.setCell {g : Nat} {w w' : World} (h : Only g w w') (i : Nat) (v : Value) : Only g w (w'.setCell ⟨g, i, none⟩ v) :=
  ⟨h.os, h.tape, h.output, by simpa using h.size, fun k hk => (heap_setCell_other w' ⟨g, i, none⟩ k v hk).trans (h.block k hk)⟩
theorem Only.drew {g : Nat} {w w' : World} (h : Only g w w') : Only g w w'.drew := ⟨h.os, h.tape, h.output, h.size, h.block⟩
theorem Only.below {g B : Nat} {w w' : World} (h : Only g w w') (hB : B ≤ g) : Below B w w' :=
  ⟨h.os, h.tape, h.output, Nat.le_of_eq h.size.symm, fun k hk => h.block k (by omega)⟩

set_option maxHeartbeats 400000 in
theorem cut_any (g p k cap : Nat) (L T : List Int) (n : Int) (w : World) (hf : Fits k n) (hr : Row w g (L ++ (List.replicate k 0 ++ T))) (hp : L.length = p) :
    Calls Try.prog 82 #[.slice (some ⟨g, p, none⟩) k cap, .int .u64 n] w fun e w' => e = .returned (.tuple #[]) ∧ Row w' g (L ++ (be k (n + hd k) ++ T)) ∧ Only g w w' := by
  obtain ⟨hk1, hk9, h0, hn⟩ := id hf
  go_enter Try.func82, Try.ntmps82
  go_wp2
  go_loopw [9] (fun i wr => ∃ j : Nat, j ≤ k ∧ i = .int .i64 j ∧ Row wr g (L ++ (mid n k j ++ T)) ∧ Only g w wr) (fun i _ => k - (intOf i).toNat)
  case atStart => exact ⟨0, by omega, rfl, by rw [mid_zero]; exact hr, Only.refl _ _⟩
  case round =>
    obtain ⟨j, hj, rfl, hrow, hon⟩ := hrel
    have hfz := hrow.frozen (p + j)
    have hcc : j < k → ∃ v, wr.cell? ⟨g, p + j, none⟩ = some v := by
      intro hlt
      have hln : p + j < (L ++ (mid n k j ++ T)).length := by simp [mid_length n k j hj]; omega
      exact ⟨_, hrow.cell _ hln⟩
    by_cases hlt : j < k
    · obtain ⟨v, hv⟩ := hcc hlt
      clear hcc
      go_wp2
      go_roundw
      case rel =>
        refine ⟨j + 1, by omega, by go_num, ?_, hon.setCell _ _⟩
        rw [← mid_step n k j hlt]
        have := hrow.set (p + j) (n / 2 ^ (8 * (k - 1 - j)) % 256)
        rw [List.set_append_right _ _ (by omega), hp, Nat.add_sub_cancel_left, List.set_append_left _ _ (by rw [mid_length n k j hj]; exact hlt)] at this
        exact this
      case measure => simp [intOf]; omega
    · obtain rfl : j = k := by omega
      rw [mid_full] at hrow
      have hd : wr.cell? ⟨g, p, none⟩ = some (.int .u8 (n / 2 ^ (8 * (j - 1)) % 256)) := by
        refine hrow.cellq p _ ?_
        rw [List.getElem?_append_right (by omega), hp, Nat.sub_self, List.getElem?_append_left (by rw [be_length]; omega), be_get j n 0 (by omega)]
        rfl
      have hfz0 := hrow.frozen p
      have hpos : (0 : Int) < (j : Int) := by omega
      clear hcc hfz
      go_wp2
      go_region
      go_end0
      refine ⟨rfl, ?_, (hon.setCell _ _).drew⟩
      have hset := hrow.set p (bits BinOp.or IntKind.u8 (n / 2 ^ (8 * (j - 1)) % 256) (65280 / 2 ^ (j - 1) % 256))
      rw [List.set_append_right _ _ (by omega), hp, Nat.sub_self, List.set_append_left _ _ (by rw [be_length]; omega), be_head j n hf] at hset
      exact hset

/-- The bytes that a slice value leads to. -/
def Src (w : World) (a : Option Addr) (len : Nat) (L : List Int) : Prop :=
  L.length = len ∧ (0 < len → ∃ ad, a = some ad ∧ ∀ j v, L[j]? = some v → w.cell? (ad.add j) = some (.int .u8 v))

theorem Try.info5 : (Try.prog.info? 5).map (fun i => (i.zero, i.size, i.bytes)) = some (some (.int .u8 0), 1, 1) := by kernel_rfl
theorem Try.size5 : (Try.prog.info? 5).map (·.size) = some 1 := by kernel_rfl

theorem row_made {w' : World} {B n : Nat} (h : w'.ownsRow B 5 1 (.slice (some ⟨B, 0, none⟩) n n) n (madeCells (Value.int .u8 0).cells (n * 1)).toList) : Row w' B (List.replicate n 0) := by
  rcases h.2 with ⟨h', _⟩ | ⟨g, cap, cur, h', _, hg, _, _, hcs, ht⟩
  · simp at h'
  · simp only [Value.slice.injEq, Option.some.injEq, Addr.mk.injEq, and_true, true_and] at h'
    obtain ⟨rfl, rfl⟩ := h'
    unfold Row
    rw [hg]
    have e1 : cur.toList = List.replicate n (Value.int .u8 0) := by
      rw [← List.take_of_length_le (l := cur.toList) (i := n * 1) (by simp [hcs]), ht]
      have := toList_madeCells_one (Value.int .u8 0) n
      simpa [Value.cells] using this
    have e2 : cur = (List.replicate n (Value.int .u8 0)).toArray := by rw [← e1]
    rw [e2]; simp

theorem src_row {w : World} {g n : Nat} (h : Hid (Row w g (List.replicate n 0))) : w.heap[g]? = some (.cells (List.replicate n (Value.int .u8 0)).toArray 5 (0, 0)) := by
  have := h.out
  unfold Row at this
  simpa using this

theorem cell_block {w : World} {p : Addr} {v : Value} (h : w.cell? p = some v) : p.block < w.heap.size := by
  rcases Nat.lt_or_ge p.block w.heap.size with hlt | hge
  · exact hlt
  · simp [World.cell?, Array.getElem?_eq_none hge] at h

theorem src_pos {w w1 : World} {a : Option Addr} {len g : Nat} {L : List Int} (hs : Src w a len L) (hb : Below w.heap.size w w1) :
    0 < (L.map (Value.int .u8)).length → some (⟨g, 0, none⟩ : Addr) = some ⟨g, 0, none⟩ ∧ ∃ ad, a = some ad ∧ ∀ j v, (L.map (Value.int .u8))[j]? = some v → w1.cell? (ad.add j) = some v := by
  intro h
  obtain ⟨ad, ha, hc⟩ := hs.2 (by rw [List.length_map, hs.1] at h; exact h)
  refine ⟨rfl, ad, ha, ?_⟩
  intro j v hj
  rw [List.getElem?_map, Option.map_eq_some_iff] at hj
  obtain ⟨x, hx, rfl⟩ := hj
  have := hc j x hx
  rw [hb.cell (cell_block this)]
  exact this

set_option maxHeartbeats 400000 in
theorem behind_any (a : Option Addr) (len cap more : Nat) (L : List Int) (w : World) (hs : Src w a len L) (hm : len + more ≤ 140737488355328) :
    Calls Try.prog 81 #[.slice a len cap, .int .i64 more] w fun e w' => e = .returned (.slice (some ⟨w.heap.size, 0, none⟩) (len + more) (len + more)) ∧ Row w' w.heap.size (L ++ List.replicate more 0) ∧ Below w.heap.size w w' := by
  obtain ⟨i0, hi, hz0, hz1, hz2⟩ := info_parts Try.info5
  go_enter Try.func81, Try.ntmps81
  have hL1 : (L.map (Value.int .u8)).length = Nat.min len (len + more) := by
    rw [List.length_map, hs.1]
    exact (Nat.min_eq_left (Nat.le_add_right _ _)).symm
  have hone : ∀ v ∈ L.map (Value.int .u8), v.oneCell' = true := ints_oneCell _ _
  have hfit : 0 + (L.map (Value.int .u8)).length ≤ (List.replicate (len + more) (Value.int .u8 0)).length := by simp [hs.1]
  have hsp : splice (List.replicate (len + more) (Value.int .u8 0)) 0 (L.map (Value.int .u8)) = (L ++ List.replicate more 0).map (Value.int .u8) := by
    simp [splice, hs.1]
  go_wp2_with (first
    | (at_make; refine wpList_make_full _ rfl _ _ 32 rfl w.heap.size 5 i0 (.int .u8 0) 1 Try.underlying32 hi hz0 hz1 .i64 .i64 _ _ (len + more) rfl rfl (by go_num) (by go_num) (by rw [hz2]; omega) (by unfold maxLen; omega) (Nat.le_refl _) ?_; intro w1 hown1 hgrow1; have hr1 : Hid (Row w1 w.heap.size (List.replicate (len + more) 0)) := row_made hown1; have hb1 : Below w.heap.size w w1 := (Below.refl _ _).grown hgrow1 (Nat.le_refl _) (by simp))
    | (refine wpList_copy_splice rfl (.tmp 11) (.tmp 12) 32 32 rfl 5 Try.underlying32 Try.size5 _ _ _ _ _ _ rfl rfl w.heap.size 0 (List.replicate (len + more) (.int .u8 0)) 5 (src_row hr1) (L.map (Value.int .u8)) hL1 (src_pos hs hb1) hfit hone w.heap.size w hb1 (Nat.le_refl _) ?_; intro w2 hr2 hb2))
  go_ret
  refine ⟨rfl, ?_, hb2⟩
  have := hr2.out
  rw [hsp] at this
  exact this


theorem Row.lt {w : World} {g : Nat} {L : List Int} (h : Row w g L) : g < w.heap.size := by
  rcases Nat.lt_or_ge g w.heap.size with hlt | hge
  · exact hlt
  · unfold Row at h; simp [Array.getElem?_eq_none hge] at h

set_option maxHeartbeats 400000 in
theorem uint_any (a : Option Addr) (len cap : Nat) (n : Int) (L : List Int) (w : World) (hs : Src w a len L) (hm : len ≤ 140737488351232) (h0 : 0 ≤ n) (h1 : n < 18446744073709551616) :
    Calls Try.prog 68 #[.slice a len cap, .int .u64 n] w fun e w' => e = .returned (.slice (some ⟨w.heap.size, 0, none⟩) (len + sz n) (len + sz n)) ∧ Row w' w.heap.size (L ++ enc n) ∧ Below w.heap.size w w' := by
  have hz1 := sz_pos n
  have hz9 := sz_le n
  have hL := hs.1
  go_enter Try.func68, Try.ntmps68
  go_wp2_with (first
    | (go_at_call 80; refine (size_any _ _ h0).mono ?_; rintro e w' ⟨rfl, rfl⟩)
    | (go_at_call 81; refine (behind_any _ _ _ (sz n) L _ hs (by omega)).mono ?_; rintro e w1 ⟨rfl, hr1, hb1⟩)
    | (go_at_call 82; refine (cut_any w.heap.size len (sz n) _ L [] n _ (fits_sz n h0 h1) (by rw [List.append_nil]; exact hr1) hL).mono ?_; rintro e w2 ⟨rfl, hr2, ho2⟩))
  go_ret
  exact ⟨rfl, by rw [List.append_nil] at hr2; exact hr2, hb1.trans (ho2.below (Nat.le_refl _))⟩

end Go.Proofs.Ythipadnghdodlaa
