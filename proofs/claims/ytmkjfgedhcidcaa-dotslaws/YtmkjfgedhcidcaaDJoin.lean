/- Rising, Minus, Meet: what they answer, in new memory. -/
import Derived.Test.YtmkjfgedhcidcaaDRow
import Derived.WalkKit
import Derived.WalkSpells
import Derived.WalkLawsBesides
namespace Go.Proofs.Ytmkjfgedhcidcaa
open Go.RowKit Go.Sort Go.Maps

theorem Own.base {w : World} {b b' g n c : Nat} {L : List Dt} (h : Own w b g n c L) (hb : b' ≤ b) : Own w b' g n c L := by
  obtain ⟨h1, h2⟩ := h
  refine ⟨h1, ?_⟩
  rcases h2 with h2 | ⟨g', cap', cur, hv, hg, r⟩
  · exact .inl h2
  · exact .inr ⟨g', cap', cur, hv, Nat.le_trans hb hg, r⟩

theorem below2 {w w1 w2 : World} (h : Below w.heap.size w w1) (k : Below w1.heap.size w1 w2) : Below w.heap.size w w2 := h.trans (k.mono h.size)

/-- A call answers a new slice that holds L. -/
def Gives (w : World) (L : List Dt) (e : Ending) (w' : World) : Prop :=
  ∃ g c, e = .returned (.slice (some ⟨g, 0, none⟩) L.length c) ∧ Own w' w.heap.size g L.length c L ∧ Below w.heap.size w w'

set_option maxHeartbeats 1000000 in
theorem rising_any (hsort : SortSays) (a : Option Addr) (n c : Nat) (L : List Dt) (w : World) (hs : PS w a n c L) (hd : Dws L) (hn : n ≤ 1000000) :
    Calls Try.prog 14 #[.slice a n c] w (Gives w (rise L)) := by
  have hp := places_any a n c L w hs hd hn
  go_enter Try.func14, Try.ntmps14
  go_wp2_with (first
    | (go_at_call 30; refine (row_any hsort _ n (pl L) L w1 hdm (fun d _ => pl_some L d) hd hn).mono ?_; rintro e w2 ⟨g, c2, rfl, ho, b2⟩)
    | (go_at_call 20; refine hp.mono ?_; rintro e w1 ⟨rfl, hdm, b1⟩))
  go_ret
  exact ⟨g, c2, rfl, ho.base b1.size, below2 b1 b2⟩

set_option maxHeartbeats 2000000 in
theorem minus_any (hsort : SortSays) (a : Option Addr) (n c : Nat) (L : List Dt) (a' : Option Addr) (n' c' : Nat) (M : List Dt) (w : World) (hs : PS w a n c L) (hd : Dws L) (hn : n ≤ 1000000) (hs' : PS w a' n' c' M) (hd' : Dws M) (hn' : n' ≤ 1000000) :
    Calls Try.prog 19 #[.slice a n c, .slice a' n' c'] w (Gives w (mis L M)) := by
  have hp := places_any a n c L w hs hd hn
  have hlen := hs'.len
  go_enter Try.func19, Try.ntmps19
  go_wp2_with (first
    | (go_at_call 20; refine hp.mono ?_; rintro e w1 ⟨rfl, hdm, b1⟩))
  have hsz := b1.size
  have hsb := hdm.lt
  go_loopw [12] (fun i wr => ∃ k : Nat, k ≤ n' ∧ i = .int .i64 k ∧ DM wr w.heap.size n (fun d => if d ∈ M.take k then none else pl L d) ∧ Below w.heap.size w wr) (fun i _ => n' - (intOf i).toNat)
  case atStart => exact ⟨0, by omega, rfl, by simpa using hdm, b1⟩
  case round =>
    obtain ⟨k, hk, rfl, hdm, hbl⟩ := hrel
    by_cases hlt : k < n'
    · obtain ⟨g, o, rfl, hg, hcell⟩ := (hs'.below hbl).at (by omega)
      obtain ⟨hc0, hc1⟩ := hcell k (by omega)
      have hdk : Dw (M[k]'(by omega)) := hd' _ (List.getElem_mem _)
      have hts : Hid _ := hid (take_snoc (L := M) (k := k) (by omega))
      generalize (M[k]'(by omega)) = d at hc0 hc1 hdk hts
      obtain ⟨D, hown, hT⟩ := hdm
      clear hs hd hcell hs' hp
      go_wp2_with (first
        | (at_delete; refine wpList_delete_own _ rfl _ _ 33 23 rfl 3 law Try.underlying33 _ w.heap.size n D rfl (hown.alloc _) _ _ rfl (keyOf_dot hdk) ?_; intro w2 hown2 hturn2))
      go_roundw
      case rel =>
        refine ⟨k + 1, by omega, by go_num, ⟨_, hown2, ?_⟩, (hbl.alloc hbl.size _).grown hturn2.grown (hbl.alloc hbl.size _).size (fun j hj => by cases hj; exact Nat.le_refl _)⟩
        refine (hT.del hdk).congr fun e => ?_
        rw [hts.out]
        by_cases hed : e = d
        · simp [hed]
        · simp [hed]
      case measure => simp [intOf]; omega
    · obtain rfl : k = n' := by omega
      have hr := row_any hsort _ n _ (L.filter fun d => !decide (d ∈ M)) wr hdm (fun d _ => by
        rw [← hlen, List.take_length]
        by_cases hdM : d ∈ M
        · simp [hdM]
        · simp [hdM, pl_some]) (fun d hd2 => hd d (List.mem_filter.1 hd2).1) hn
      clear hs hd hs' hp
      go_wp2_with (first
        | (go_at_call 30; refine hr.mono ?_; rintro e w2 ⟨g, c2, rfl, ho, b2⟩))
      go_ret
      exact ⟨g, c2, rfl, ho.base hbl.size, below2 hbl b2⟩

/-- What is left in the first map, as a function of what is still to come. -/
def Sel (L M : List Dt) (D : DataW Unit) (left : Lit → Bool) : Prop := ∀ d, Dw d → Maps.has D (kl d) = (decide (d ∈ L) && (left (kl d) || decide (d ∈ M)))

theorem Sel.stay {L M : List Dt} {D : DataW Unit} {left : Lit → Bool} (h : Sel L M D left) {x : Dt} (hx : Dw x) (hM : x ∈ M) : Sel L M D (fun z => left z && !z.sameKey (kl x)) := by
  intro d hd
  rw [h d hd]
  show _ = (decide (d ∈ L) && ((left (kl d) && !(kl d).sameKey (kl x)) || decide (d ∈ M)))
  by_cases hdx : d = x
  · subst hdx
    simp [hM]
  · rw [sameKey_ne (fun e => hdx (kl_inj hd hx e))]
    simp

theorem Sel.drop {L M : List Dt} {D : DataW Unit} {left : Lit → Bool} (h : Sel L M D left) {x : Dt} (hx : Dw x) (hM : x ∉ M) : Sel L M (D.del (kl x)) (fun z => left z && !z.sameKey (kl x)) := by
  intro d hd
  show _ = (decide (d ∈ L) && ((left (kl d) && !(kl d).sameKey (kl x)) || decide (d ∈ M)))
  by_cases hdx : d = x
  · subst hdx
    rw [has_del_same, WideAt.sameKey_self (kl_isKey _)]
    simp [hM]
  · have hne : kl d ≠ kl x := fun e => hdx (kl_inj hd hx e)
    rw [has_del_other hne, sameKey_ne hne, h d hd]
    simp

set_option maxRecDepth 100000 in
set_option maxHeartbeats 2000000 in
theorem meet_any (hsort : SortSays) (a : Option Addr) (n c : Nat) (L : List Dt) (a' : Option Addr) (n' c' : Nat) (M : List Dt) (w : World) (hs : PS w a n c L) (hd : Dws L) (hn : n ≤ 1000000) (hs' : PS w a' n' c' M) (hd' : Dws M) (hn' : n' ≤ 1000000) :
    Calls Try.prog 17 #[.slice a n c, .slice a' n' c'] w (Gives w (mee L M)) := by
  have hp := places_any a n c L w hs hd hn
  go_enter Try.func17, Try.ntmps17
  go_wp2_with (first
    | (go_at_call 20; have hq := b1; refine (places_any a' n' c' M w1 (hs'.below b1) hd' hn').mono ?_; rintro e w2 ⟨rfl, hdm2, b2⟩; obtain ⟨D, hown, hT⟩ := hdm)
    | (go_at_call 20; refine hp.mono ?_; rintro e w1 ⟨rfl, hdm, b1⟩)
    | (at_range; refine wpList_range_own _ rfl _ 33 rfl 23 3 law Try.underlying33 _ w.heap.size n D rfl (World.ownsMap.kept hown (row := none) ⟨b2.os, b2.tape, b2.output, b2.size, fun i hi _ => b2.block i hi⟩ (by simp)) ?_; intro w0 hrg0 hg0 hs0)
    | go_in)
  go_frame
  have hB1 : w.heap.size < w1.heap.size := hown.lt
  have hB2 : w1.heap.size < w2.heap.size := hdm2.lt
  have hbe0 : Below w.heap.size w w0 := (below2 b1 b2).grown hg0 (below2 b1 b2).size (fun j hj => by cases hj)
  obtain ⟨D2, hown2, hT2⟩ := hdm2
  have hsel0 : Sel L M D (Maps.has D) := fun d hdw => by
    have h1 := (hT d hdw).1
    have h2 := pl_some L d
    rw [h1]
    by_cases hdl : d ∈ L
    · simp [h2.2 hdl, hdl]
    · have h3 : (pl L d).isSome = false := by
        cases hh : (pl L d).isSome
        · rfl
        · exact absurd (h2.1 hh) hdl
      simp [h3, hdl]
  have hown20 := hown2.kept hg0 (by simp)
  clear hs hs' hp hT hown hq hown2 hs0
  go_loopw [16] (fun _ wr => ∃ (left : Lit → Bool) (cnt : Nat) (D : DataW Unit), wr.ranges Try.prog 23 (plainElem (H := Unit) Try.prog 3) w.heap.size w2.heap.size n D left cnt ∧
      wr.ownsMap Try.prog 23 (plainElem (H := Unit) Try.prog 3) w1.heap.size n' D2 ∧ Sel L M D left ∧ Below w.heap.size w wr)
    (fun _ wr => wr.rangeLeft w.heap.size w2.heap.size)
  case atStart => exact ⟨_, _, D, hrg0, hown20, hsel0, hbe0⟩
  case round =>
    obtain ⟨left, cnt, D, hrg, hown2, hsel, hnx⟩ := hrel
    go_wp2_with (first
      | (at_next; refine wpList_next_ranges _ rfl _ rfl 23 law (plainElem (H := Unit) Try.prog 3) dv (Value.int .i64) (fun key kl hk => by obtain ⟨x, hx, _⟩ := keyOf_dot_inv hk; exact ⟨x, hx⟩) (fun v y hv => by obtain ⟨c, rfl, _⟩ := plainElem_int_inv Try.underlying3 hv; exact ⟨c, rfl⟩) w.heap.size w2.heap.size n _ _ _ rfl hrg ?_ ?_)
      | go_in)
    · intro hc0 hl0
      have hr := row_has hsort w.heap.size n D (L.filter fun d => decide (d ∈ M)) wr hrg.owns (fun d hdw => by
        rw [hsel d hdw, hl0]
        simp) (fun d hd2 => hd d (List.mem_filter.1 hd2).1) hn
      clear hc0 hl0
      go_wp2_with (first
        | (go_at_call 30; refine hr.mono ?_; rintro e w3 ⟨g, c2, rfl, ho, b3⟩))
      go_ret
      exact ⟨g, c2, rfl, ho.base hnx.size, below2 hnx b3⟩
    · intro x1 x2 cc kk yd yp w3 cnt3 hkey hlk hv hat hrg3 hlt hg3 hs3 hen
      obtain ⟨x', ex, hxw, rfl⟩ := keyOf_dot_inv hkey
      obtain rfl : (x1, x2) = x' := (agg_eq (x1, x2) x').1 ex
      have hown3 := hown2.kept hg3 (by simp; omega)
      have hnx3 : Below w.heap.size w w3 := hnx.grown hg3 hnx.size (fun j hj => by cases hj; omega)
      have hhas2 := (hT2 _ hxw).1
      clear hs3
      by_cases hM : (x1, x2) ∈ M
      · have hh : Maps.has D2 (kl (x1, x2)) = true := by rw [hhas2]; exact (pl_some M _).2 hM
        clear hhas2
        go_wp2_with (first
          | (at_lookup; refine wpList_lookup_own_ok_int _ rfl _ _ 33 rfl 23 3 .i64 law Try.underlying33 Try.underlying3 (zero3 _) w1.heap.size n' D2 rfl (hown3.alloc _) _ _ rfl (keyOf_dot hxw) ?_; intro c4 hat4 hwc4; rw [hh]; clear hat4)
          | go_in)
        go_roundw
        case rel =>
          refine ⟨_, cnt3, D, hrg3.alloc _, hown3.alloc _, hsel.stay hxw hM, hnx3.alloc hnx3.size _⟩
        case measure => rw [(hrg3.alloc _).left_eq, hrg.left_eq]; exact hlt
      · have hh : Maps.has D2 (kl (x1, x2)) = false := by
          rw [hhas2]
          cases hq : (pl M (x1, x2)).isSome
          · rfl
          · exact absurd ((pl_some M _).1 hq) hM
        clear hhas2
        go_wp2_with (first
          | (at_lookup; refine wpList_lookup_own_ok_int _ rfl _ _ 33 rfl 23 3 .i64 law Try.underlying33 Try.underlying3 (zero3 _) w1.heap.size n' D2 rfl (hown3.alloc _) _ _ rfl (keyOf_dot hxw) ?_; intro c4 hat4 hwc4; rw [hh]; clear hat4)
          | (at_delete; refine wpList_delete_ranges _ rfl _ _ 33 23 rfl 3 law Try.underlying33 _ w.heap.size w2.heap.size n D _ _ rfl (hrg3.alloc _) _ _ rfl (keyOf_dot hxw) ?_; intro w4 cnt4 hrg4 hle4 hturn4)
          | go_in)
        rw [strike_twice] at hrg4
        go_roundw
        case rel =>
          refine ⟨_, cnt4, _, hrg4, (hown3.alloc _).kept hturn4.grown (by simp; omega), hsel.drop hxw hM, (hnx3.alloc hnx3.size _).grown hturn4.grown (hnx3.alloc hnx3.size _).size (fun j hj => by cases hj; exact Nat.le_refl _)⟩
        case measure => rw [hrg4.left_eq, hrg.left_eq]; omega

end Go.Proofs.Ytmkjfgedhcidcaa
