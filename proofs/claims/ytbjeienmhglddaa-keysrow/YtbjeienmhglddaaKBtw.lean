/- A key between two: Between. -/
import Derived.Test.YtbjeienmhglddaaKText
namespace Go.Proofs.Ytbjeienmhglddaa
open Go.RowKit

theorem Arr.alloc {w : World} {g : Nat} {f : Nat → Int} (h : Arr w g f) (o : Obj) : Arr (w.alloc o) g f := h.same (heap_alloc_old _ _ h.lt)
theorem Arr.new2 (w : World) : Arr ((w.alloc (.cells (Array.replicate 200 (.int .i64 0)) 34)).alloc (.cells (Array.replicate 200 (.int .i64 0)) 34)) (w.heap.size + 1) (fun _ => 0) := by
  have := Arr.new (w.alloc (.cells (Array.replicate 200 (.int .i64 0)) 34))
  simp only [World.size_alloc] at this
  exact this

theorem index_arr {C : Array Value} {k : Nat} {v : Value} (hk : k < 200) (h : C[k]? = some v) : ∀ w, (Instr.index 34 (.agg C) (.int .i64 k)).run Try.prog w = .ok v w := by
  intro w
  simp [Instr.index, run_underlying Try.underlying34, asIntOf, go_sem]
  rw [if_pos hk, h]
  rfl
/-- The error that goes with what is told: 43 where it is none. -/
def er (l : Bs) : Int := if l = [] then 43 else 0
theorem er_none {l : Bs} (h : l = []) : er l = 43 := if_pos h
theorem er_some {l : Bs} (h : l ≠ []) : er l = 0 := if_neg h

/-- The digits from place k on. -/
def fk (a b : Bs) (k : Nat) (o : Bool) : Bs := fr a b (200 - k) k o
/-- What a round finds. -/
def top (b : Bs) (k : Nat) (o : Bool) : Nat := if o then 26 else dg b k
theorem top_le {b : Bs} (h : ∀ c ∈ b, 97 ≤ c.toNat ∧ c.toNat ≤ 122) (k : Nat) (o : Bool) : top b k o ≤ 26 := by
  unfold top; have := dg_le h k; split <;> omega
theorem fk_end {a b : Bs} {k : Nat} {o : Bool} (hk : k < 200) (h : dg a k + 1 < top b k o) : fk a b k o = [by_ ((dg a k + top b k o) / 2)] := by
  unfold fk
  rw [show 200 - k = (200 - (k + 1)) + 1 by omega]
  show (if dg a k + 1 < top b k o then _ else _) = _
  rw [if_pos h]; rfl
theorem fk_on {a b : Bs} {k : Nat} {o : Bool} (hk : k < 200) (h : ¬ dg a k + 1 < top b k o) :
    fk a b k o = if fk a b (k + 1) (o || top b k o == dg a k + 1) = [] then [] else by_ (dg a k) :: fk a b (k + 1) (o || top b k o == dg a k + 1) := by
  unfold fk
  rw [show 200 - k = (200 - (k + 1)) + 1 by omega]
  show (if dg a k + 1 < top b k o then _ else _) = _
  rw [if_neg h]
  exact put_match _ _
theorem fk_all (a b : Bs) (o : Bool) : fk a b 200 o = [] := rfl

/-- What was found up to place k is the key's beginning. -/
def Far (a b : Bs) (k : Nat) (o : Bool) : Prop := mid a b = if fk a b k o = [] then [] else dby (fun i => dg a i) k ++ fk a b k o
theorem dby_snoc (f : Nat → Int) (n : Nat) : dby f (n + 1) = dby f n ++ [UInt8.ofNat (97 + f n).toNat] := by
  unfold dby; rw [List.range_succ]; simp
theorem dby_same {f g : Nat → Int} {n : Nat} (h : ∀ i, i < n → f i = g i) : dby f n = dby g n := by
  unfold dby
  apply List.map_congr_left
  intro i hi
  rw [h i (by simpa using hi)]
theorem far_zero (a b : Bs) : Far a b 0 (b == []) := by
  unfold Far
  show mid a b = if mid a b = [] then [] else [] ++ mid a b
  split
  · assumption
  · rfl
theorem far_empty (a b : Bs) : Far a b 0 b.isEmpty := by
  have := far_zero a b
  cases b <;> exact this
theorem far_on {a b : Bs} {k : Nat} {o : Bool} (hk : k < 200) (h : ¬ dg a k + 1 < top b k o) (hf : Far a b k o) : Far a b (k + 1) (o || top b k o == dg a k + 1) := by
  unfold Far at hf ⊢
  rw [hf, fk_on hk h]
  by_cases e : fk a b (k + 1) (o || top b k o == dg a k + 1) = []
  · rw [if_pos e, if_pos e, if_pos rfl]
  · rw [if_neg e, if_neg e, if_neg (by simp), dby_snoc, List.append_assoc]
    rfl
theorem far_end {a b : Bs} {k : Nat} {o : Bool} (hk : k < 200) (h : dg a k + 1 < top b k o) (hf : Far a b k o) : mid a b = dby (fun i => dg a i) k ++ [by_ ((dg a k + top b k o) / 2)] := by
  unfold Far at hf
  rw [hf, fk_end hk h, if_neg (by simp)]
theorem far_all {a b : Bs} {o : Bool} (hf : Far a b 200 o) : mid a b = [] := by
  unfold Far at hf
  rw [hf, fk_all, if_pos rfl]

theorem dby_fin (a : Bs) (k z : Nat) (zi : Int) (hz : zi = z) : dby (fun j => if j = k then zi else if j < k then (dg a j : Int) else 0) (k + 1) = dby (fun i => dg a i) k ++ [by_ z] := by
  rw [dby_snoc, if_pos rfl, hz]
  congr 1
  apply dby_same
  intro i hi
  rw [if_neg (by omega), if_pos hi]
theorem rng_fin {a : Bs} (h : ∀ k, dg a k ≤ 25) (k : Nat) (zi : Int) (h0 : 0 ≤ zi) (h1 : zi ≤ 25) : ∀ i, i < k + 1 → 0 ≤ (if i = k then zi else if i < k then (dg a i : Int) else 0) ∧ (if i = k then zi else if i < k then (dg a i : Int) else 0) ≤ 25 := by
  intro i hi
  have := h i
  by_cases e : i = k
  · rw [if_pos e]; exact ⟨h0, h1⟩
  · rw [if_neg e, if_pos (by omega)]; omega
theorem arr_next {w : World} {g k : Nat} {a : Bs} (x : Nat) (hx : x = dg a k) (h : Arr w g (fun i => if i < k then (dg a i : Int) else 0)) : Arr (w.setCell ⟨g, k, none⟩ (.int .i64 x)) g (fun i => if i < k + 1 then (dg a i : Int) else 0) :=
  (h.set k x).ext fun i _ => by
    by_cases e : i = k
    · subst e
      rw [if_pos rfl, if_pos (by omega), hx]
    · rw [if_neg e]
      by_cases e2 : i < k
      · rw [if_pos e2, if_pos (by omega)]
      · rw [if_neg e2, if_neg (by omega)]
theorem next_free (x y : Nat) : ((x : Int) + 1 == (y : Int)) = (false || y == x + 1) := by
  rw [Bool.eq_iff_iff]; simp; omega

set_option maxHeartbeats 1000000 in
set_option maxRecDepth 20000 in
theorem between_yes (a b : ByteArray) (w : World) (ha : a.size ≤ maxLen) (hb : b.size ≤ maxLen) (hr : rtb a.toList b.toList = true) :
    Calls Try.prog 10 #[.string a, .string b] w fun e w' => ∃ s : ByteArray, e = .returned (.tuple #[.string s, .int .i64 (er (mid a.toList b.toList))]) ∧ s.toList = mid a.toList b.toList ∧ Below w.heap.size w w' := by
  have hbd := bounds_any a b w ha hb
  rw [hr] at hbd
  have hR := (rtb_iff _ _).1 hr
  have dA := fun w => digits_any a w hR.1
  have dB := fun w => digits_any b w hR.2.1
  have hz := zero34
  have E := tl_empty
  clear hr
  have HR := hid hR
  clear hR
  go_enter Try.func10, Try.ntmps10
  go_wp2_with (first
    | (go_at_call 16; refine hbd.mono ?_; rintro e w' ⟨rfl, rfl⟩)
    | (go_at_call_of 17 (Value.string a); refine (dA _).mono ?_; rintro e w1 ⟨rfl, b1⟩)
    | (go_at_call_of 17 (Value.string b); refine (dB _).mono ?_; rintro e w2 ⟨rfl, b2⟩; have n6 := (Arr.new w2).alloc (.cells (Array.replicate 200 (.int .i64 0)) 34); have n7 := Arr.new2 w2; have B2 := hid (below2 b1 b2); clear b1 b2)
    | (have hq := n7'; refine wl_store rfl _ _ rfl _ _ rfl rfl _ n7' ?_; intro w4 h7 o4; have h6' := (h6.only o4 (by omega)).alloc (.cells (Array.replicate 200 (.int .i64 0)) 34))
    | (refine wl_store rfl _ _ rfl _ _ rfl rfl _ n6 ?_; intro w3 h6 o3; have n7' := n7.only o3 (by omega))
    | (refine wl_load rfl _ rfl _ rfl _ h6' ?_))
  have A9 := Arr.new w4
  have A7 := h7.alloc (.cells (Array.replicate 200 (.int .i64 0)) 34)
  have BW : Below w.heap.size w (w4.alloc (.cells (Array.replicate 200 (.int .i64 0)) 34)) := by
    have s2 := B2.out.size
    refine B2.out.trans ((((Below.refl _ _).alloc s2 _).alloc (by simp; omega) _).trans ((o3.below s2).trans ((o4.below (by omega)).trans ((Below.refl _ _).alloc ?_ _))))
    have := h7.lt
    omega
  have hlt := h7.lt
  obtain ⟨g7, hg7⟩ : ∃ g, g = w2.heap.size + 1 := ⟨_, rfl⟩
  obtain ⟨g9, hg9⟩ : ∃ g, g = w4.heap.size := ⟨_, rfl⟩
  have hne : g7 ≠ g9 := by omega
  have hle : w.heap.size ≤ g9 := by have s2 := B2.out.size; omega
  rw [← hg7] at A7
  rw [← hg9] at A9
  obtain ⟨C, hC⟩ : ∃ C, C = arr (fun i => dg a.toList i) := ⟨_, rfl⟩
  have HC : Hid (∀ k, k < 200 → C[k]? = some (.int .i64 (dg a.toList k))) := hid fun k hk => by rw [hC]; exact arr_at _ k hk
  have hCs : C.size = 200 := by rw [hC]; exact arr_size _
  rw [← hg7, ← hg9, ← hC]
  have hA := HR.out.1.rng
  have hB := HR.out.2.1.rng
  have HA : Hid (∀ k, dg a.toList k ≤ 25) := hid (dg_le hA)
  have HB : Hid (∀ k, dg b.toList k ≤ 25) := hid (dg_le hB)
  clear hA hB hg7 hg9 hC h7 h6 h6' n6 n7 n7' hq o3 o4 hlt dA dB hbd B2 hz
  generalize w4.alloc (.cells (Array.replicate 200 (.int .i64 0)) 34) = W at *
  go_loopw [24, 8] (fun i fr wx => ∃ (k : Nat) (o : Bool), k ≤ 200 ∧ i = .int .i64 k ∧ fr = .bool o ∧ Hid (Far a.toList b.toList k o) ∧ Hid (Arr wx g7 (fun i => dg b.toList i)) ∧ Hid (Arr wx g9 (fun i => if i < k then dg a.toList i else 0)) ∧ Hid (Below w.heap.size w wx)) (fun i _ _ => 200 - (intOf i).toNat)
  case atStart => exact ⟨0, _, by omega, rfl, rfl, hid (far_empty _ _), hid A7, hid (A9.ext fun i _ => by simp), hid BW⟩
  case round =>
    obtain ⟨k, o, hk, rfl, rfl, HF, H7, H9, HW⟩ := hrel
    by_cases hlt : k < 200
    · have hix := HC.out k hlt
      have c7 := H7.out.cell k hlt
      have c9 := H9.out.cell k hlt
      have f9 := H9.out.frozen k
      have ra := HA.out k
      have rb := HB.out k
      have hon := hid (fun h => far_on (o := o) hlt h HF.out)
      have hend := hid (fun h => far_end (o := o) hlt h HF.out)
      obtain ⟨x, hx⟩ : ∃ x, x = dg a.toList k := ⟨_, rfl⟩
      obtain ⟨y, hy⟩ : ∃ y, y = dg b.toList k := ⟨_, rfl⟩
      rw [← hx] at hix ra
      rw [← hy] at c7 rb
      have Hx := hid hx
      have Hy := hid hy
      clear hx hy
      have hI := index_arr hlt hix
      clear hix
      cases o
      · by_cases h1 : x + 1 < y
        · have hm := hid (hend.out (by unfold top; rw [if_neg (by simp)]; rw [← Hx.out, ← Hy.out]; exact h1))
          rw [← Hx.out, show top b.toList k false = y by unfold top; rw [if_neg (by simp)]; exact Hy.out.symm] at hm
          clear hon hend
          go_wp2_with (first
            | (refine wl_load rfl _ rfl _ rfl _ (H9.out.set k _) ?_)
            | (go_at_call 18; refine (text_any _ (k + 1) _ (by omega) (rng_fin HA.out k _ (by omega) (by omega))).mono ?_; rintro e w5 ⟨t, rfl, ht, b5⟩))
          go_ret2
          rw [er_some (by rw [hm.out]; simp)]
          refine ⟨t, rfl, ?_, HW.out.trans (((Only.setCell g9 wr k _).below hle).trans (b5.mono ?_))⟩
          · rw [ht, hm.out]
            exact dby_fin a.toList k _ _ (by omega)
          · have := HW.out.size
            simpa using this
        · have hm := hid (hon.out (by unfold top; rw [if_neg (by simp)]; rw [← Hx.out, ← Hy.out]; exact h1))
          rw [← Hx.out, show top b.toList k false = y by unfold top; rw [if_neg (by simp)]; exact Hy.out.symm, ← next_free] at hm
          clear hon hend
          go_wp2
          go_roundw
          case rel => exact ⟨k + 1, _, by omega, by go_num, rfl, hm, hid (H7.out.only (Only.setCell g9 wr k _) hne), hid (arr_next x Hx.out H9.out), hid (HW.out.trans ((Only.setCell g9 wr k _).below hle))⟩
          case measure => simp [intOf]; omega
      · by_cases h1 : x + 1 < 26
        · have hm := hid (hend.out (by unfold top; rw [if_pos rfl, ← Hx.out]; exact h1))
          rw [← Hx.out, show top b.toList k true = 26 by unfold top; rw [if_pos rfl]] at hm
          clear hon hend
          go_wp2_with (first
            | (refine wl_load rfl _ rfl _ rfl _ (H9.out.set k _) ?_)
            | (go_at_call 18; refine (text_any _ (k + 1) _ (by omega) (rng_fin HA.out k _ (by omega) (by omega))).mono ?_; rintro e w5 ⟨t, rfl, ht, b5⟩))
          go_ret2
          rw [er_some (by rw [hm.out]; simp)]
          refine ⟨t, rfl, ?_, HW.out.trans (((Only.setCell g9 wr k _).below hle).trans (b5.mono ?_))⟩
          · rw [ht, hm.out]
            exact dby_fin a.toList k _ _ (by omega)
          · have := HW.out.size
            simpa using this
        · have hm := hid (hon.out (by unfold top; rw [if_pos rfl, ← Hx.out]; exact h1))
          rw [Bool.true_or] at hm
          clear hon hend
          go_wp2
          go_roundw
          case rel => exact ⟨k + 1, _, by omega, by go_num, rfl, hm, hid (H7.out.only (Only.setCell g9 wr k _) hne), hid (arr_next x Hx.out H9.out), hid (HW.out.trans ((Only.setCell g9 wr k _).below hle))⟩
          case measure => simp [intOf]; omega
    · obtain rfl : k = 200 := by omega
      have hm := hid (far_all HF.out)
      go_wp2
      go_ret2
      rw [hm.out]
      exact ⟨_, rfl, tl_empty, HW.out⟩

theorem btw_yes {a b : Bs} (h : rtb a b = true) : btw a b = mid a b := if_pos h
theorem btw_no {a b : Bs} (h : rtb a b = false) : btw a b = [] := if_neg (by rw [h]; simp)

/-- What Between tells, of whatever texts. -/
theorem between_any (a b : ByteArray) (w : World) (ha : a.size ≤ maxLen) (hb : b.size ≤ maxLen) :
    Calls Try.prog 10 #[.string a, .string b] w fun e w' => ∃ s : ByteArray, e = .returned (.tuple #[.string s, .int .i64 (er (btw a.toList b.toList))]) ∧ s.toList = btw a.toList b.toList ∧ Below w.heap.size w w' := by
  cases hr : rtb a.toList b.toList
  · have hbd := bounds_any a b w ha hb
    rw [hr] at hbd
    rw [btw_no hr, er_none rfl]
    clear hr
    go_enter Try.func10, Try.ntmps10
    go_wp2_with (first
      | (go_at_call 16; refine hbd.mono ?_; rintro e w' ⟨rfl, rfl⟩))
    go_ret2
    exact ⟨_, rfl, tl_empty, Below.refl _ _⟩
  · rw [btw_yes hr]
    exact between_yes a b w ha hb hr
end Go.Proofs.Ytbjeienmhglddaa
