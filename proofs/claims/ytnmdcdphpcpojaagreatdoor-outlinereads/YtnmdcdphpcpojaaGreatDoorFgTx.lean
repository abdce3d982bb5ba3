/- A text in memory. No function of the program. -/
import Derived.Test.YtnmdcdphpcpojaaGreatDoorTrMath
import Derived.Test.YtnmdcdphpcpojaaGreatDoorTrInsD
import Derived.Test.YtnmdcdphpcpojaaGreatDoorOParts
import Derived.Shelf.SlSortCmp.QuietGrown
import Derived.BigQuiet
import Derived.Deep.CutRange
import Derived.Maps.OwnSet
import Derived.Sort.KeysCollected
namespace Go.Proofs.YtnmdcdphpcpojaaGreatDoor
section

/-- A character: its identity, under which one it lies and at which side (true: the right one), its char, whether it is seen. -/
structure Cr where
  id : Dt
  at_ : Dt
  sd : Bool
  ch : Int
  seen : Bool

/-- Those at a side of one, in order. -/
def kids (T : List Cr) (d : Dt) (s : Bool) : List Dt := rise ((T.filter (fun c => decide (c.at_ = d) && (c.sd == s))).map Cr.id)

theorem kids_up (T : List Cr) (d : Dt) (s : Bool) : Up (kids T d s) := up_rise _

theorem mem_kids {T : List Cr} {d : Dt} {s : Bool} {k : Dt} : k ∈ kids T d s ↔ ∃ c ∈ T, c.at_ = d ∧ c.sd = s ∧ c.id = k := by
  unfold kids
  rw [mem_rise, List.mem_map]
  constructor
  · rintro ⟨c, hc, rfl⟩
    obtain ⟨h1, h2⟩ := List.mem_filter.1 hc
    simp only [Bool.and_eq_true, decide_eq_true_eq, beq_iff_eq] at h2
    exact ⟨c, h1, h2.1, h2.2, rfl⟩
  · rintro ⟨c, hc, h1, h2, rfl⟩
    exact ⟨c, List.mem_filter.2 ⟨hc, by simp [h1, h2]⟩, rfl⟩

theorem kids_snoc (T : List Cr) (c : Cr) (d : Dt) (s : Bool) : kids (T ++ [c]) d s = if c.at_ = d ∧ c.sd = s then ins (kids T d s) c.id else kids T d s := by
  unfold kids
  rw [List.filter_append, List.map_append]
  by_cases h : c.at_ = d ∧ c.sd = s
  · rw [if_pos h, List.filter_cons_of_pos (by simp [h.1, h.2]), List.filter_nil, List.map_cons, List.map_nil, rise_snoc]
  · rw [if_neg h, List.filter_cons_of_neg (by simp only [Bool.and_eq_true, decide_eq_true_eq, beq_iff_eq]; exact h), List.filter_nil, List.map_nil, List.append_nil]

theorem kids_len (T : List Cr) (d : Dt) (s : Bool) : (kids T d s).length ≤ T.length := by
  unfold kids
  refine Nat.le_trans (rise_length _) ?_
  rw [List.length_map]
  exact List.length_filter_le _ _

/-- The root, or a character. -/
def nodes (T : List Cr) (d : Dt) : Prop := d = (0, 0) ∨ ∃ c ∈ T, c.id = d

theorem nodes_snoc {T : List Cr} {c : Cr} {d : Dt} : nodes (T ++ [c]) d ↔ nodes T d ∨ c.id = d := by
  unfold nodes
  constructor
  · rintro (h | ⟨x, hx, e⟩)
    · exact Or.inl (Or.inl h)
    · rcases List.mem_append.1 hx with hx | hx
      · exact Or.inl (Or.inr ⟨x, hx, e⟩)
      · simp at hx; rw [hx] at e; exact Or.inr e
  · rintro ((h | ⟨x, hx, e⟩) | h)
    · exact Or.inl h
    · exact Or.inr ⟨x, List.mem_append_left _ hx, e⟩
    · exact Or.inr ⟨c, by simp, h⟩

/-- Characters as they may have come. -/
structure WT (T : List Cr) : Prop where
  ids : (T.map Cr.id).Nodup
  nz : ∀ c ∈ T, c.id ≠ (0, 0)
  dw : ∀ c ∈ T, Dw c.id
  under : ∀ (i : Nat) (c : Cr), T[i]? = some c → nodes (T.take i) c.at_
  root : ∀ c ∈ T, c.at_ = (0, 0) → c.sd = true

theorem WT.nil : WT [] := ⟨List.nodup_nil, by simp, by simp, by simp, by simp⟩

theorem WT.node {T : List Cr} (h : WT T) {c : Cr} (hc : c ∈ T) : nodes T c.at_ := by
  obtain ⟨i, hi⟩ := List.mem_iff_getElem?.1 hc
  rcases h.under i c hi with e | ⟨x, hx, e⟩
  · exact Or.inl e
  · exact Or.inr ⟨x, List.mem_of_mem_take hx, e⟩

theorem WT.snoc {T : List Cr} {c : Cr} (h : WT T) (hn : c.id ≠ (0, 0)) (hd : Dw c.id) (hf : ∀ x ∈ T, x.id ≠ c.id) (hu : nodes T c.at_) (hr : c.at_ = (0, 0) → c.sd = true) : WT (T ++ [c]) := by
  refine ⟨?_, fun x hx => ?_, fun x hx => ?_, fun i x hx => ?_, fun x hx => ?_⟩
  · rw [List.map_append, List.nodup_append]
    refine ⟨h.ids, by simp, fun a ha b hb e => ?_⟩
    obtain ⟨x, hx, rfl⟩ := List.mem_map.1 ha
    simp at hb
    exact hf x hx (by rw [e, hb])
  · rcases List.mem_append.1 hx with hx | hx
    · exact h.nz x hx
    · simp at hx; rw [hx]; exact hn
  · rcases List.mem_append.1 hx with hx | hx
    · exact h.dw x hx
    · simp at hx; rw [hx]; exact hd
  · by_cases hi : i < T.length
    · rw [List.getElem?_append_left hi] at hx
      rw [List.take_append_of_le_length (by omega)]
      exact h.under i x hx
    · rw [List.getElem?_append_right (by omega)] at hx
      have hkk : i - T.length = 0 := by
        have := (List.getElem?_eq_some_iff.1 hx).1
        simp at this
        omega
      rw [hkk] at hx
      simp at hx
      subst hx
      have : i = T.length := by omega
      subst this
      rw [List.take_append_of_le_length (Nat.le_refl _), List.take_length]
      exact hu
  · rcases List.mem_append.1 hx with hx | hx
    · exact h.root x hx
    · simp at hx; rw [hx]; exact hr

/-- Nothing lies under one that is new. -/
theorem WT.fresh {T : List Cr} (h : WT T) {d : Dt} (hf : ∀ x ∈ T, x.id ≠ d) (hz : d ≠ (0, 0)) (s : Bool) : kids T d s = [] := by
  apply List.eq_nil_iff_forall_not_mem.2
  intro k hk
  obtain ⟨c, hc, h1, _, _⟩ := mem_kids.1 hk
  rcases h.node hc with e | ⟨x, hx, e⟩
  · exact hz (by rw [← h1, e])
  · exact hf x hx (by rw [e, h1])

theorem ids_one {T : List Cr} (h : (T.map Cr.id).Nodup) {a b : Cr} (ha : a ∈ T) (hb : b ∈ T) (e : a.id = b.id) : a = b := by
  obtain ⟨i, hi⟩ := List.mem_iff_getElem?.1 ha
  obtain ⟨j, hj⟩ := List.mem_iff_getElem?.1 hb
  have h1 : (T.map Cr.id)[i]? = (T.map Cr.id)[j]? := by rw [List.getElem?_map, List.getElem?_map, hi, hj]; simp [e]
  have hil : i < (T.map Cr.id).length := by simpa using (List.getElem?_eq_some_iff.1 hi).1
  have := (List.getElem?_inj hil h).1 h1
  subst this
  rw [hi] at hj
  cases hj
  rfl
end

section
open Go.RowKit
open Go.Sort (grow)

set_option maxHeartbeats 1000000 in
theorem fgless_any (a b : Dt) (w : World) : Tells 124 #[dv a, dv b] w (.bool (dl a b)) := by
  obtain ⟨a1, a2⟩ := a
  obtain ⟨b1, b2⟩ := b
  by_cases h : a1 = b1
  · subst h
    go_enter Tryz.func124, Tryz.ntmps124
    go_wp2
    go_ret
    exact ⟨by simp [dl], ((Far.refl w).alloc _).alloc _⟩
  · go_enter Tryz.func124, Tryz.ntmps124
    go_wp2
    go_ret
    exact ⟨by simp [dl, h], ((Far.refl w).alloc _).alloc _⟩

/-- A pointer to a block. -/
abbrev pvFc (g : Nat) : Value := .pointer (some ⟨g, 0, none⟩)
def prowc (gs : List Nat) : List Value := gs.map pvFc

/-- What a character's block says first: its identity. -/
structure IdAt (w : World) (g : Nat) (d : Dt) : Prop where
  c0 : w.cell? ⟨g, 0, none⟩ = some (.int .i64 d.1)
  c1 : w.cell? ⟨g, 1, none⟩ = some (.int .i64 d.2)

theorem IdAt.lt {w : World} {g : Nat} {d : Dt} (h : IdAt w g d) : g < w.heap.size := cell_in h.c0
theorem IdAt.below {w w' : World} {g : Nat} {d : Dt} (h : IdAt w g d) (hb : RowKit.Below w.heap.size w w') : IdAt w' g d := ⟨(hb.cell h.lt).trans h.c0, (hb.cell h.lt).trans h.c1⟩

set_option maxRecDepth 100000 in
set_option maxHeartbeats 1000000 in
theorem fgorder_any (g1 g2 : Nat) (d1 d2 : Dt) (w : World) (h1 : IdAt w g1 d1) (h2 : IdAt w g2 d2) :
    Calls Tryz.prog 95 #[pvFc g1, pvFc g2] w fun e w' => e = .returned (.int .i64 (if dl d1 d2 = true then -1 else 1)) ∧ RowKit.Below w.heap.size w w' := by
  have mixed := mixed
  haveI : Nonempty (Wb w) := ⟨⟨w, Below.refl _ _⟩⟩
  have a0 := fun p : Wb w => (h1.below p.h).c0
  have a1 := fun p : Wb w => (h1.below p.h).c1
  have b0 := fun p : Wb w => (h2.below p.h).c0
  have b1 := fun p : Wb w => (h2.below p.h).c1
  have hL : ∀ p : Wb w, Calls Tryz.prog 124 #[.agg #[.int .i64 d1.1, .int .i64 d1.2], .agg #[.int .i64 d2.1, .int .i64 d2.2]] p.u fun e w' => e = .returned (.bool (dl d1 d2)) ∧ ∃ p' : Wb w, w' = p'.u := fun p => far_q (fgless_any d1 d2 p.u)
  cases hb : dl d1 d2
  · rw [hb] at hL
    go_enter Tryz.func95, Tryz.ntmps95
    go_upto_region 1 with fail
    refine wp_region_below mixed (by kernel_rfl) ?_
    repeat (go_big_quiet_step (first | (go_at_call 124; exact hL _)))
    refine wpQuiet_nil ?_
    intro _ hw'
    obtain ⟨p, hw''⟩ := hw'
    subst hw''
    go_wp2
    go_ret
    exact ⟨by first | rfl | simp, p.h⟩
  · rw [hb] at hL
    go_enter Tryz.func95, Tryz.ntmps95
    go_upto_region 1 with fail
    refine wp_region_below mixed (by kernel_rfl) ?_
    repeat (go_big_quiet_step (first | (go_at_call 124; exact hL _)))
    refine wpQuiet_nil ?_
    intro _ hw'
    obtain ⟨p, hw''⟩ := hw'
    subst hw''
    go_wp2
    go_ret
    exact ⟨by first | rfl | simp, p.h⟩

/-- How many come ahead. -/
def aheadOf (ds : List Dt) (y : Dt) : Nat := (ds.takeWhile (fun d => dl d y)).length

theorem aheadOf_le (ds : List Dt) (y : Dt) : aheadOf ds y ≤ ds.length := (List.takeWhile_prefix _).length_le

theorem ins_at (y : Dt) : ∀ ds : List Dt, y ∉ ds → ins ds y = ds.take (aheadOf ds y) ++ [y] ++ ds.drop (aheadOf ds y)
  | [], _ => rfl
  | d :: r, h => by
    have hne : d ≠ y := fun e => h (by rw [e]; simp)
    have hr : y ∉ r := fun hm => h (List.mem_cons_of_mem _ hm)
    have ih := ins_at y r hr
    unfold ins
    cases hd : dl d y
    · have ha : aheadOf (d :: r) y = 0 := by simp [aheadOf, List.takeWhile, hd]
      rw [ha]
      simp [hne]
    · have ha : aheadOf (d :: r) y = aheadOf r y + 1 := by simp [aheadOf, List.takeWhile, hd]
      rw [ha, if_pos rfl, ih]
      simp

theorem up_get {ds : List Dt} (h : Up ds) {i j : Nat} {a b : Dt} (hij : i < j) (ha : ds[i]? = some a) (hb : ds[j]? = some b) : dl a b = true := by
  obtain ⟨hi, rfl⟩ := List.getElem?_eq_some_iff.1 ha
  obtain ⟨hj, rfl⟩ := List.getElem?_eq_some_iff.1 hb
  exact (List.pairwise_iff_getElem.1 h) i j hi hj hij

theorem aheadOf_unique {ds : List Dt} {y : Dt} {lo : Nat} (hl : lo ≤ ds.length) (h1 : ∀ t d, t < lo → ds[t]? = some d → dl d y = true) (h2 : ∀ d, ds[lo]? = some d → dl d y = false) : lo = aheadOf ds y := by
  induction ds generalizing lo with
  | nil => simp at hl; simp [hl, aheadOf]
  | cons d r ih =>
    cases lo with
    | zero =>
      have := h2 d rfl
      simp [aheadOf, List.takeWhile, this]
    | succ lo =>
      have hd := h1 0 d (by omega) rfl
      have := ih (lo := lo) (by simpa using hl) (fun t e ht he => h1 (t + 1) e (by omega) (by simpa using he)) (fun e he => h2 e (by simpa using he))
      simp [aheadOf, List.takeWhile, hd] at this ⊢
      exact this

/-- A row of characters: their blocks, their identities. -/
structure CR (w : World) (gs : List Nat) (ds : List Dt) : Prop where
  len : gs.length = ds.length
  at_ : ∀ (i : Nat) (g : Nat) (d : Dt), gs[i]? = some g → ds[i]? = some d → IdAt w g d

theorem CR.below {w w' : World} {gs : List Nat} {ds : List Dt} (h : CR w gs ds) (hb : RowKit.Below w.heap.size w w') : CR w' gs ds := ⟨h.len, fun i g d h1 h2 => (h.at_ i g d h1 h2).below hb⟩

/-- A slice that holds pointers. -/
structure PPc (w : World) (a : Option Addr) (n c : Nat) (gs : List Nat) : Prop where
  len : gs.length = n
  cap : n ≤ c
  max : c ≤ maxLen
  at_ : 0 < n → ∃ g o, a = some ⟨g, o, none⟩ ∧ g < w.heap.size ∧ ∀ i (hi : i < gs.length), w.cell? ⟨g, o + i, none⟩ = some (pvFc gs[i])

theorem PPc.below {w w' : World} {a : Option Addr} {n c : Nat} {gs : List Nat} (h : PPc w a n c gs) (hb : RowKit.Below w.heap.size w w') : PPc w' a n c gs :=
  ⟨h.len, h.cap, h.max, fun hp => by
    obtain ⟨g, o, e, hg, hx⟩ := h.at_ hp
    exact ⟨g, o, e, Nat.lt_of_lt_of_le hg hb.size, fun i hi => (hb.cell hg).trans (hx i hi)⟩⟩

theorem own_ppc {w : World} {base n : Nat} {v : Value} {gs : List Nat} (h : w.ownsRow base 128 1 v n (prowc gs)) : ∃ a c, v = .slice a n c ∧ PPc w a n c gs := by
  have hl : gs.length = n := by have := h.1; simpa [prowc] using this
  rcases h.2 with ⟨rfl, rfl⟩ | ⟨g, cap, cur, rfl, hb, hg, hn, hc, hs, ht⟩
  · exact ⟨none, 0, rfl, hl, Nat.le_refl _, Nat.zero_le _, fun hp => absurd hp (by omega)⟩
  · refine ⟨_, _, rfl, hl, hn, hc, fun _ => ⟨g, 0, rfl, (Array.getElem?_eq_some_iff.1 hg).1, fun i hi => ?_⟩⟩
    rw [Nat.zero_add, World.ownsRow.cellAt h i (by omega)]
    simp [prowc, List.getElem?_eq_getElem hi]

set_option maxRecDepth 100000 in
set_option maxHeartbeats 2000000 in
theorem fgsearch_any (a : Option Addr) (n c : Nat) (gs : List Nat) (ds : List Dt) (gc : Nat) (y : Dt) (w : World) (hs : PPc w a n c gs) (hr : CR w gs ds) (hy : IdAt w gc y) (hn : n ≤ 1000000) (ha : Up ds) :
    Calls Tryz.prog 94 #[.slice a n c, pvFc gc, .func (.func 95) #[] #[]] w fun e w' => e = .returned (.tuple #[.int .i64 (aheadOf ds y : Nat), .bool false]) ∧ RowKit.Below w.heap.size w w' := by
  have HL := hid hs.len
  have HR := hid hr.len
  have HA := hid ha
  clear ha
  go_enter Tryz.func94, Tryz.ntmps94
  go_wp2
  go_loopw [9, 10] (fun i j wr => ∃ lo hi : Nat, i = .int .i64 lo ∧ j = .int .i64 hi ∧ lo ≤ hi ∧ hi ≤ n ∧ Hid (∀ t d, t < lo → ds[t]? = some d → dl d y = true) ∧ Hid (∀ t d, hi ≤ t → ds[t]? = some d → dl d y = false) ∧ Hid (RowKit.Below w.heap.size w wr)) (fun i j _ => (intOf j).toNat - (intOf i).toNat)
  case atStart => exact ⟨0, n, rfl, rfl, by omega, by omega, hid (fun t d ht => by omega), hid (fun t d ht hd => by
      have := (List.getElem?_eq_some_iff.1 hd).1
      have := HL.out
      have := HR.out
      omega), hid (Below.refl _ _)⟩
  case round =>
    obtain ⟨lo, hi, rfl, rfl, hlh, hin, hlow, hhigh, hW⟩ := hrel
    have hyr := hy.below hW.out
    by_cases hlt : lo < hi
    · have hmn : (lo + hi) / 2 < gs.length := by have := HL.out; omega
      obtain ⟨g, o, rfl, hg, hcell⟩ := (hs.below hW.out).at_ (by omega)
      have hc0 := hcell ((lo + hi) / 2) hmn
      have hmd : (lo + hi) / 2 < ds.length := by have := HR.out; omega
      have hLk : Hid _ := hid (List.getElem?_eq_getElem (l := ds) (i := (lo + hi) / 2) hmd)
      have hid0 := (hr.below hW.out).at_ _ _ _ (List.getElem?_eq_getElem hmn) (List.getElem?_eq_getElem hmd)
      generalize ds[(lo + hi) / 2] = d at hLk hid0
      generalize gs[(lo + hi) / 2] = gm at hc0 hid0
      have hG := fgorder_any gm gc d y wr hid0 hyr
      clear hs hr hcell hid0 hyr
      have hl := HL.out
      cases hd : dl d y
      · rw [hd] at hG
        simp only [Bool.false_eq_true, if_false] at hG
        go_wp2_with (first | (go_at_call 95; refine hG.mono ?_; rintro e w1 ⟨rfl, hF1⟩))
        go_roundw
        case rel => exact ⟨lo, (lo + hi) / 2, rfl, by rw [show ((lo : Int) + (hi : Int)) / 2 = (((lo + hi) / 2 : Nat) : Int) by omega], by omega, by omega, hlow, hid (fun t e ht he => by
          by_cases ht0 : t = (lo + hi) / 2
          · rw [ht0, hLk.out] at he; cases he; exact hd
          · cases hc : dl e y with
            | false => rfl
            | true =>
              have h1 : dl d e = true := up_get HA.out (by omega) hLk.out he
              rw [dl_trans h1 hc] at hd
              cases hd), hid (below2 hW.out hF1)⟩
        case measure => simp [intOf]; omega
      · rw [hd] at hG
        simp only [if_true] at hG
        go_wp2_with (first | (go_at_call 95; refine hG.mono ?_; rintro e w1 ⟨rfl, hF1⟩))
        go_roundw
        case rel => exact ⟨(lo + hi) / 2 + 1, hi, by rw [show ((lo : Int) + (hi : Int)) / 2 + 1 = (((lo + hi) / 2 + 1 : Nat) : Int) by omega], rfl, by omega, hin, hid (fun t e ht he => by
          by_cases ht0 : t = (lo + hi) / 2
          · rw [ht0, hLk.out] at he; cases he; exact hd
          · exact dl_trans (up_get HA.out (by omega) he hLk.out) hd), hhigh, hid (below2 hW.out hF1)⟩
        case measure => simp [intOf]; omega
    · obtain rfl : hi = lo := by omega
      have hres : Hid (hi = aheadOf ds y) := hid (aheadOf_unique (by have := HL.out; have := HR.out; omega) hlow.out (fun d hd => hhigh.out hi d (Nat.le_refl _) hd))
      by_cases hln : hi < n
      · have hmn : hi < gs.length := by have := HL.out; omega
        obtain ⟨g, o, rfl, hg, hcell⟩ := (hs.below hW.out).at_ (by omega)
        have hc0 := hcell hi hmn
        have hmd : hi < ds.length := by have := HR.out; omega
        have hid0 := (hr.below hW.out).at_ _ _ _ (List.getElem?_eq_getElem hmn) (List.getElem?_eq_getElem hmd)
        have hdf := hhigh.out hi _ (Nat.le_refl _) (List.getElem?_eq_getElem hmd)
        generalize ds[hi] = d at hid0 hdf
        generalize gs[hi] = gm at hc0 hid0
        have hG := fgorder_any gm gc d y wr hid0 hyr
        rw [hdf] at hG
        simp only [Bool.false_eq_true, if_false] at hG
        clear hs hr hcell hid0 hyr
        go_wp2_with (first | (go_at_call 95; refine hG.mono ?_; rintro e w1 ⟨rfl, hF1⟩))
        go_ret2
        exact ⟨by rw [← hres.out]; rfl, below2 hW.out hF1⟩
      · obtain rfl : hi = n := by omega
        clear hs
        go_wp2_with fail
        go_ret2
        exact ⟨by rw [← hres.out]; rfl, hW.out⟩
end

section
open Go.RowKit Go.Sort Go.Maps

/-- A pointer to a block, or none. -/
def pvoc : Option Nat → Value
  | none => .pointer none
  | some g => .pointer (some ⟨g, 0, none⟩)
def pzc : Option Nat → DataW Unit
  | none => .lit (.int .i64 (-1))
  | some g => .lit (.int .i64 (g : Int))
/-- How such a one reads, as an element of a map: as a number. -/
def pRc (v : Value) : Option (DataW Unit × List MemPlace) :=
  match v with
  | .pointer none => some (pzc none, [])
  | .pointer (some ⟨g, 0, none⟩) => some (pzc (some g), [])
  | _ => none

theorem pRc_mk (o : Option Nat) : pRc (pvoc o) = some (pzc o, []) := by cases o <;> rfl

theorem pzc_inj {o p : Option Nat} (h : pzc o = pzc p) : o = p := by
  cases o <;> cases p
  · rfl
  · simp [pzc] at h
  · simp [pzc] at h
  · simp [pzc] at h; congr 1; omega

theorem pRc_inv {v : Value} {o : Option Nat} {ps : List MemPlace} (h : pRc v = some (pzc o, ps)) : v = pvoc o := by
  unfold pRc at h
  split at h
  · have h1 : pzc none = pzc o := by simpa using congrArg Prod.fst (Option.some.inj h)
    rw [← pzc_inj h1]; rfl
  · rename_i g
    have h1 : pzc (some g) = pzc o := by simpa using congrArg Prod.fst (Option.some.inj h)
    rw [← pzc_inj h1]; rfl
  · cases h

/-- Block b is a map of at most n dots to blocks, that tells G. -/
def PMc (w : World) (b n : Nat) (G : Dt → Option Nat) : Prop := ∃ D : DataW Unit, w.ownsMap Tryz.prog 24 pRc b n D ∧ ∀ d, Dw d → Maps.has D (kl d) = (G d).isSome ∧ D.atKey (kl d) (pzc none) = pzc (G d)

theorem zeroPtrc (w : World) : (zeroValue 128).run Tryz.prog w = .ok (pvoc none) w := Tryz.zeroValue128 w

theorem PMc.made (w : World) : PMc (w.alloc (.map #[] 0)) w.heap.size 0 (fun _ => none) := ⟨_, World.ownsMap_made _ _ _ _, fun _ _ => ⟨rfl, rfl⟩⟩

theorem PMc.lt {w : World} {b n : Nat} {G : Dt → Option Nat} (h : PMc w b n G) : b < w.heap.size := by
  obtain ⟨D, ho, _⟩ := h
  exact ho.lt

theorem PMc.same {w w' : World} {b n : Nat} {G : Dt → Option Nat} (h : PMc w b n G) (hs : w'.heap[b]? = w.heap[b]?) : PMc w' b n G := by
  obtain ⟨D, ⟨es, clock, h1, h2⟩, hT⟩ := h
  exact ⟨D, ⟨es, clock, by rw [hs]; exact h1, h2⟩, hT⟩

theorem PMc.look {w : World} {b n : Nat} {G : Dt → Option Nat} (h : PMc w b n G) {d : Dt} (hd : Dw d) : (Instr.lookup 120 (.map (some b)) (dv d) false).run Tryz.prog w = .ok (pvoc (G d)) w := by
  obtain ⟨D, ho, hT⟩ := h
  obtain ⟨v, ps, hr, hv⟩ := ho.lookup law Tryz.underlying120 (zeroPtrc w) (pRc_mk none) (keyOf_dot hd)
  rw [(hT d hd).2] at hv
  rw [hr, pRc_inv hv]

theorem PMc.put {w : World} {b n : Nat} {G : Dt → Option Nat} (h : PMc w b n G) {d : Dt} (hd : Dw d) (g : Nat) (hn : n < maxLen) : ∃ w', (Instr.mapUpdate 120 (.map (some b)) (dv d) (pvFc g)).run Tryz.prog w = .ok () w' ∧ PMc w' b (n + 1) (fun e => if e = d then some g else G e) ∧ w.grownBy w' (some b) := by
  obtain ⟨D, ho, hT⟩ := h
  obtain ⟨w', hr, ho', hg⟩ := ho.update law Tryz.underlying120 hn (keyOf_dot hd) (pRc_mk (some g))
  refine ⟨w', hr, ⟨_, ho', fun e he => ?_⟩, hg⟩
  by_cases hea : e = d
  · subst hea
    simp only [if_true]
    exact ⟨by rw [has_put_same ho.isMap (kl_isKey _)]; rfl, atKey_put_same ho.isMap (kl_isKey _) _ _⟩
  · have hne : kl e ≠ kl d := fun h' => hea (kl_inj he hd h')
    simp only [hea, if_false]
    exact ⟨by rw [has_put_other hne]; exact (hT e he).1, by rw [atKey_put_other hne]; exact (hT e he).2⟩

theorem nodup_kl9 : ∀ {S : List Dt}, S.Nodup → Dws S → (S.map kl).Nodup
  | [], _, _ => List.nodup_nil
  | x :: r, h, hw => by
    obtain ⟨h1, h2⟩ := List.nodup_cons.1 h
    refine List.nodup_cons.2 ⟨fun hm => ?_, nodup_kl9 h2 (fun d hd => hw d (List.mem_cons_of_mem _ hd))⟩
    obtain ⟨d, hd, e⟩ := List.mem_map.1 hm
    exact h1 (kl_inj (hw d (List.mem_cons_of_mem _ hd)) (hw x (List.mem_cons_self ..)) e ▸ hd)

/-- How many entries: as many as there are dots. -/
theorem PMc.size {w : World} {b n : Nat} {G : Dt → Option Nat} (h : PMc w b n G) {S : List Dt} (hS : S.Nodup) (hw : Dws S) (hm : ∀ d, Dw d → ((G d).isSome = true ↔ d ∈ S)) : ∃ D, w.ownsMap Tryz.prog 24 pRc b n D ∧ Maps.size D = S.length := by
  obtain ⟨D, hown, hT⟩ := h
  refine ⟨D, hown, ?_⟩
  obtain ⟨es, hD, hpw, _⟩ := hown.entries law
  obtain ⟨es', hD', hko⟩ := hown.keysOf
  obtain rfl : es = es' := by rw [hD] at hD'; simpa using hD'
  subst hD
  have hp : (es.map Prod.fst).Perm (S.map kl) := by
    refine (List.perm_ext_iff_of_nodup ?_ ?_).2 fun x => ?_
    · exact List.pairwise_map.2 hpw
    · exact nodup_kl9 hS hw
    · constructor
      · intro hx
        obtain ⟨p, hp, rfl⟩ := List.mem_map.1 hx
        obtain ⟨v, hv⟩ := hko p hp
        obtain ⟨d, _, hdw, hk⟩ := keyOf_dot_inv hv
        have hh : Maps.has (.map es) (kl d) = true := List.any_eq_true.2 ⟨p, hp, by rw [hk]; exact WideAt.sameKey_self (kl_isKey d)⟩
        rw [(hT d hdw).1] at hh
        exact List.mem_map.2 ⟨d, (hm d hdw).1 hh, hk.symm⟩
      · intro hx
        obtain ⟨d, hd, rfl⟩ := List.mem_map.1 hx
        have hh := (hm d (hw d hd)).2 hd
        rw [← (hT d (hw d hd)).1] at hh
        obtain ⟨p, hp, hs⟩ := List.any_eq_true.1 hh
        exact List.mem_map.2 ⟨p, hp, WideAt.sameKey_eq hs⟩
  have := hp.length_eq
  simpa [Maps.size] using this
end

section
open Go.RowKit
open Go.Sort (grow)

theorem below_grownN {w w' : World} (h : RowKit.Below w.heap.size w w') (r : Option Nat) : w.grownBy w' r := ⟨h.os, h.tape, h.output, h.size, fun k hk _ => h.block k hk⟩

theorem own_keepP {w w' : World} {base e z : Nat} {v : Value} {n : Nat} {xs : List Value} (h : w.ownsRow base e z v n xs) (hb : RowKit.Below w.heap.size w w') : w'.ownsRow base e z v n xs := World.ownsRow.kept h (below_grownN hb none) (by cases v.ownBlock <;> simp)

theorem prow_one (gs : List Nat) : ∀ y ∈ prowc gs, y.oneCell' = true := fun y hy => by
  obtain ⟨g, _, rfl⟩ := List.mem_map.1 hy
  rfl

theorem prowc_ins (gs : List Nat) (k g : Nat) : (prowc gs).take k ++ [pvFc g] ++ (prowc gs).drop k = prowc (gs.take k ++ [g] ++ gs.drop k) := by simp [prowc]

set_option maxRecDepth 100000 in
set_option maxHeartbeats 2000000 in
theorem among_any (base : Nat) (v : Value) (n : Nat) (gs : List Nat) (ds : List Dt) (gc : Nat) (y : Dt) (w : World) (hown : w.ownsRow base 128 1 v n (prowc gs)) (hr : CR w gs ds) (hy : IdAt w gc y) (hn : n ≤ 1000000) (hbase : base ≤ w.heap.size) (ha : Up ds) :
    Calls Tryz.prog 59 #[v, pvFc gc] w fun e w' => ∃ g c, e = .returned (.slice (some ⟨g, 0, none⟩) (n + 1) c) ∧ w'.ownsRow base 128 1 (.slice (some ⟨g, 0, none⟩) (n + 1) c) (n + 1) (prowc (gs.take (aheadOf ds y) ++ [gc] ++ gs.drop (aheadOf ds y))) ∧ w.grownBy w' v.ownBlock ∧ (v.ownBlock = some g ∨ w.heap.size ≤ g) := by
  obtain ⟨a, c, rfl, hpp⟩ := own_ppc hown
  have hk : aheadOf ds y ≤ n := by have := aheadOf_le ds y; have := hr.len; have := hpp.len; omega
  have hS := fgsearch_any a n c gs ds gc y w hpp hr hy hn ha
  have HOWN := hid hown
  have hob : ∀ b, (Value.slice a n c).ownBlock = some b → b < w.heap.size := fun b hb => (World.ownsRow.lt hown b hb).2
  have HOB := hid hob
  have hI : ∀ w1, RowKit.Below w.heap.size w w1 → Calls Tryz.prog 96 #[.slice a n c, .int .i64 (aheadOf ds y : Nat), .slice (some ⟨w1.heap.size, 0, none⟩) 1 1] (w1.alloc (.cells #[pvFc gc] 128)) fun e w' =>
      ∃ g c', e = .returned (.slice (some ⟨g, 0, none⟩) (n + 1) c') ∧ w'.ownsRow base 128 1 (.slice (some ⟨g, 0, none⟩) (n + 1) c') (n + 1) (prowc (gs.take (aheadOf ds y) ++ [gc] ++ gs.drop (aheadOf ds y))) ∧ w.grownBy w' (Value.slice a n c).ownBlock ∧ ((Value.slice a n c).ownBlock = some g ∨ w.heap.size ≤ g) := fun w1 hb => by
    have hA : RowKit.Below w.heap.size w (w1.alloc (.cells #[pvFc gc] 128)) := below2 hb ((Far.refl w1).alloc _).below
    refine (fginsert_any base (.slice a n c) n (aheadOf ds y) w1.heap.size (prowc gs) (pvFc gc) _ hk hn (Nat.le_trans hbase hA.size) (own_keepP HOWN.out hA) (fun e => by have := HOB.out _ e; have := hb.size; omega) (MapKept.heap_alloc w1 _).1 (prow_one gs) rfl).mono ?_
    rintro e w' ⟨g, c', rfl, h2, h3, h4⟩
    refine ⟨g, c', rfl, by rw [← prowc_ins]; exact h2, (below_grownN hA _).trans h3, ?_⟩
    rcases h4 with h4 | h4
    · exact Or.inl h4
    · exact Or.inr (by rw [h4]; exact hA.size)
  generalize aheadOf ds y = k at *
  generalize gs.take k ++ [gc] ++ gs.drop k = gs' at *
  have HI := hid hI
  have hcm := hpp.cap
  have hcx := hpp.max
  unfold maxLen at hcx
  clear hown hpp hr hob hI hy
  go_enter Tryz.func59, Tryz.ntmps59
  go_wp2_with (first
    | (go_at_call 96; refine (HI.out _ hB1).mono ?_; rintro e w2 ⟨g, c', rfl, h2, h3, h4⟩)
    | (go_at_call 94; refine hS.mono ?_; rintro e w1 ⟨rfl, hB1⟩))
  go_ret
  exact ⟨g, c', rfl, h2, h3, h4⟩
end

section
open Go.RowKit
open Go.Sort (grow)

/-- A character's cells; the text's. -/
def Cr.cells (c : Cr) (l r : Value) : Array Value := #[.int .i64 c.id.1, .int .i64 c.id.2, .int .i64 c.ch, .bool c.seen, l, r]
def txCells (fm l r : Value) : Array Value := #[fm, .int .i64 0, .int .i64 0, .int .i64 0, .bool false, l, r]

/-- Block t is a text of the characters T, that lie where G tells; R: the rows of both sides of each one; the map tells M. -/
structure TX (w : World) (t : Nat) (T : List Cr) (G M : Dt → Option Nat) (n : Nat) (R : Dt → Bool → Value) : Prop where
  wt : WT T
  tb : ∃ fm, w.heap[t]? = some (.cells (txCells fm (R (0, 0) false) (R (0, 0) true)) 126 (0, 0)) ∧ ((T = [] ∧ fm = .map none) ∨ ∃ mb, fm = .map (some mb) ∧ t < mb ∧ PMc w mb n M)
  gd : ∀ d, Dw d → ((G d).isSome = true ↔ ∃ c ∈ T, c.id = d)
  ch : ∀ c ∈ T, ∃ g, G c.id = some g ∧ t < g ∧ w.heap[g]? = some (.cells (c.cells (R c.id false) (R c.id true)) 124 (0, 0))
  rows : ∀ d s, nodes T d → ∃ gs : List Nat, gs.map some = (kids T d s).map G ∧ w.ownsRow t 128 1 (R d s) (kids T d s).length (prowc gs)
  apart : ∀ d s d' s', nodes T d → nodes T d' → (d, s) ≠ (d', s') → (R d s).ownBlock = none ∨ (R d s).ownBlock ≠ (R d' s').ownBlock

theorem TX.lt {w : World} {t : Nat} {T : List Cr} {G M : Dt → Option Nat} {n : Nat} {R : Dt → Bool → Value} (h : TX w t T G M n R) : t < w.heap.size := by
  obtain ⟨fm, h1, _⟩ := h.tb
  exact (Array.getElem?_eq_some_iff.1 h1).1

/-- New memory leaves a text as it is. -/
theorem TX.below {w w' : World} {t : Nat} {T : List Cr} {G M : Dt → Option Nat} {n : Nat} {R : Dt → Bool → Value} (h : TX w t T G M n R) (hb : RowKit.Below w.heap.size w w') : TX w' t T G M n R := by
  refine ⟨h.wt, ?_, h.gd, fun c hc => ?_, fun d s hd => ?_, h.apart⟩
  · obtain ⟨fm, h1, h2⟩ := h.tb
    refine ⟨fm, (hb.block _ (Array.getElem?_eq_some_iff.1 h1).1).trans h1, ?_⟩
    rcases h2 with h2 | ⟨mb, e, hm, hp⟩
    · exact Or.inl h2
    · exact Or.inr ⟨mb, e, hm, hp.same (hb.block _ hp.lt)⟩
  · obtain ⟨g, h1, h2, h3⟩ := h.ch c hc
    exact ⟨g, h1, h2, (hb.block _ (Array.getElem?_eq_some_iff.1 h3).1).trans h3⟩
  · obtain ⟨gs, h1, h2⟩ := h.rows d s hd
    exact ⟨gs, h1, own_keepP h2 hb⟩

/-- The block of a row that is there: it holds pointers. -/
theorem own_block {w : World} {base n : Nat} {v : Value} {xs : List Value} {k : Nat} (h : w.ownsRow base 128 1 v n xs) (hk : v.ownBlock = some k) : ∃ cur, w.heap[k]? = some (.cells cur 128 (0, 0)) := by
  rcases h.2 with ⟨rfl, _⟩ | ⟨g, cap, cur, rfl, _, hg, _⟩
  · cases hk
  · simp only [Value.ownBlock, Option.some.injEq] at hk
    subst hk
    exact ⟨cur, hg⟩

theorem TX.id_at {w : World} {t : Nat} {T : List Cr} {G M : Dt → Option Nat} {n : Nat} {R : Dt → Bool → Value} (h : TX w t T G M n R) {c : Cr} (hc : c ∈ T) {g : Nat} (hg : G c.id = some g) : IdAt w g c.id := by
  obtain ⟨g', h1, _, h3⟩ := h.ch c hc
  rw [hg] at h1
  cases h1
  exact ⟨by simp [World.cell?, h3, Cr.cells], by simp [World.cell?, h3, Cr.cells]⟩

/-- The characters of a row. -/
theorem TX.cr {w : World} {t : Nat} {T : List Cr} {G M : Dt → Option Nat} {n : Nat} {R : Dt → Bool → Value} (h : TX w t T G M n R) {d : Dt} {s : Bool} {gs : List Nat} (he : gs.map some = (kids T d s).map G) : CR w gs (kids T d s) := by
  have hl : gs.length = (kids T d s).length := by simpa using congrArg List.length he
  refine ⟨hl, fun i g k hg hk => ?_⟩
  have h1 : ((gs.map some)[i]? : Option (Option Nat)) = ((kids T d s).map G)[i]? := by rw [he]
  rw [List.getElem?_map, List.getElem?_map, hg, hk] at h1
  simp at h1
  obtain ⟨c, hc, _, _, rfl⟩ := mem_kids.1 (List.mem_of_getElem? hk)
  exact h.id_at hc h1.symm

/-- Two characters lie in two blocks. -/
theorem TX.inj {w : World} {t : Nat} {T : List Cr} {G M : Dt → Option Nat} {n : Nat} {R : Dt → Bool → Value} (h : TX w t T G M n R) {a b : Cr} (ha : a ∈ T) (hb : b ∈ T) {g : Nat} (h1 : G a.id = some g) (h2 : G b.id = some g) : a.id = b.id := by
  have x := h.id_at ha h1
  have y := h.id_at hb h2
  have e0 := x.c0.symm.trans y.c0
  have e1 := x.c1.symm.trans y.c1
  simp at e0 e1
  exact Prod.ext e0 e1

theorem fset_other {w : World} {q r j : Nat} (h : r ≠ q) (v : Value) : (w.setCell ⟨q, j, none⟩ v).heap[r]? = w.heap[r]? := heap_setCell_other w ⟨q, j, none⟩ r v (fun e => h (by simpa using e))
theorem fset_block {w : World} {q j : Nat} {cs : Array Value} {t : TypeId} (h : w.heap[q]? = some (.cells cs t (0, 0))) (u : Value) : (w.setCell ⟨q, j, none⟩ u).heap[q]? = some (.cells (cs.setIfInBounds j u) t (0, 0)) := by
  simp [World.setCell, Array.getElem?_modify, h]
theorem fgrown_set (w : World) (q j : Nat) (v : Value) : w.grownBy (w.setCell ⟨q, j, none⟩ v) (some q) := ⟨rfl, rfl, rfl, by simp, fun k _ hk => heap_setCell_other w ⟨q, j, none⟩ k v (fun e => hk (by simp [e]))⟩

/-- Where the rows of one stand: in which block, from which cell on. -/
def spotOf (t : Nat) (G : Dt → Option Nat) (d : Dt) : Nat × Nat := if d = (0, 0) then (t, 5) else ((G d).getD 0, 4)

/-- One more: its block is there, the map tells of it, its row is made and stored. -/
theorem TX.more {w2 w3 : World} {t : Nat} {T : List Cr} {G : Dt → Option Nat} {n : Nat} {R : Dt → Bool → Value} {c : Cr} {gc : Nat} (h : TX w2 t T G (fun e => if e = c.id then some gc else G e) n R)
    (hnz : c.id ≠ (0, 0)) (hdw : Dw c.id) (hfr : ∀ x ∈ T, x.id ≠ c.id) (hnd : nodes T c.at_) (hrt : c.at_ = (0, 0) → c.sd = true)
    (hmap : ∃ fm mb, w2.heap[t]? = some (.cells (txCells fm (R (0, 0) false) (R (0, 0) true)) 126 (0, 0)) ∧ fm = .map (some mb) ∧ t < mb ∧ PMc w2 mb n (fun e => if e = c.id then some gc else G e))
    (hgc : w2.heap[gc]? = some (.cells (c.cells (.slice none 0 0) (.slice none 0 0)) 124 (0, 0))) (htg : t < gc)
    {gs : List Nat} (hgs : gs.map some = (kids T c.at_ c.sd).map G) {q m cq : Nat}
    (hg3 : w2.grownBy w3 (R c.at_ c.sd).ownBlock) (ho3 : w3.ownsRow t 128 1 (.slice (some ⟨q, 0, none⟩) m cq) m (prowc (gs.take (aheadOf (kids T c.at_ c.sd) c.id) ++ [gc] ++ gs.drop (aheadOf (kids T c.at_ c.sd) c.id)))) (hm : m = (kids T c.at_ c.sd).length + 1)
    (hq : (R c.at_ c.sd).ownBlock = some q ∨ w2.heap.size ≤ q) :
    TX (w3.setCell ⟨(spotOf t G c.at_).1, (spotOf t G c.at_).2 + (if c.sd then 1 else 0), none⟩ (.slice (some ⟨q, 0, none⟩) m cq)) t (T ++ [c]) (fun e => if e = c.id then some gc else G e) (fun e => if e = c.id then some gc else G e) n
      (fun d s => if d = c.id then .slice none 0 0 else if d = c.at_ ∧ s = c.sd then .slice (some ⟨q, 0, none⟩) m cq else R d s) := by
  have hat : c.at_ ≠ c.id := fun e => by
    rcases hnd with h0 | ⟨x, hx, e'⟩
    · exact hnz (by rw [← e, h0])
    · exact hfr x hx (by rw [e', e])
  have h00 : ((0, 0) : Dt) ≠ c.id := fun e => hnz e.symm
  have hGg : ∀ {d : Dt}, d ≠ c.id → (if d = c.id then some gc else G d) = G d := fun hd => if_neg hd
  -- the row of one's own is of pointers: other blocks are as they were
  have hown0 := h.rows c.at_ c.sd hnd
  have hkeep : ∀ (k : Nat) (cs : Array Value) (ty : TypeId), w2.heap[k]? = some (Obj.cells cs ty (0, 0)) → ty ≠ 128 → w3.heap[k]? = w2.heap[k]? := fun k cs ty hk hty => by
    refine hg3.block k (Array.getElem?_eq_some_iff.1 hk).1 (fun e => ?_)
    obtain ⟨gs0, _, ho⟩ := hown0
    obtain ⟨cur, hc⟩ := own_block ho e.symm
    rw [hk] at hc
    simp at hc
    exact hty hc.2
  have hkeepM : ∀ {k n' : Nat} {M : Dt → Option Nat}, PMc w2 k n' M → w3.heap[k]? = w2.heap[k]? := fun {k n' M} hp => by
    refine hg3.block k hp.lt (fun e => ?_)
    obtain ⟨gs0, _, ho⟩ := hown0
    obtain ⟨cur, hc⟩ := own_block ho e.symm
    obtain ⟨D, ⟨es, clock, h1, _⟩, _⟩ := hp
    rw [h1] at hc
    cases hc
  -- in which block the new row's value is stored
  obtain ⟨j4, hj4⟩ : ∃ j4, j4 = (spotOf t G c.at_).2 + (if c.sd then 1 else 0) := ⟨_, rfl⟩
  rw [← hj4]
  obtain ⟨newv, hnewv⟩ : ∃ newv : Value, newv = .slice (some ⟨q, 0, none⟩) m cq := ⟨_, rfl⟩
  have hnb : ∃ cs ty, w2.heap[(spotOf t G c.at_).1]? = some (Obj.cells cs ty (0, 0)) ∧ ty ≠ 128 := by
    unfold spotOf
    by_cases h0 : c.at_ = (0, 0)
    · rw [if_pos h0]
      obtain ⟨fm, h1, _⟩ := h.tb
      exact ⟨_, _, h1, by decide⟩
    · rw [if_neg h0]
      rcases hnd with e | ⟨x, hx, e⟩
      · exact absurd e h0
      · obtain ⟨g, h1, _, h3⟩ := h.ch x hx
        rw [e] at h1
        rw [h1]
        exact ⟨_, _, h3, by decide⟩
  obtain ⟨ncs, nty, hnb2, hnty⟩ := hnb
  have hnb3 := (hkeep _ _ _ hnb2 hnty).trans hnb2
  have hqn : q ≠ (spotOf t G c.at_).1 := fun e => by
    obtain ⟨cur, hc⟩ := own_block ho3 (k := q) rfl
    rw [e, hnb3] at hc
    simp at hc
    exact hnty hc.2
  have hrow4 : ∀ {v : Value} {k : Nat} {xs : List Value}, w3.ownsRow t 128 1 v k xs → (w3.setCell ⟨(spotOf t G c.at_).1, j4, none⟩ newv).ownsRow t 128 1 v k xs := fun {v k xs} hv => by
    refine World.ownsRow.kept hv (fgrown_set _ _ _ _) ?_
    cases hb : v.ownBlock with
    | none => exact Or.inl rfl
    | some b =>
      right
      intro e
      cases e
      obtain ⟨cur, hc⟩ := own_block hv hb
      rw [hnb3] at hc
      simp at hc
      exact hnty hc.2
  have hck : ∀ k ∈ kids T c.at_ c.sd, k ≠ c.id := fun k hk e => by
    obtain ⟨x, hx, _, _, e'⟩ := mem_kids.1 hk
    exact hfr x hx (by rw [e', e])
  rw [← hnewv] at ho3 ⊢
  refine ⟨h.wt.snoc hnz hdw hfr hnd hrt, ?_, fun d hd => ?_, fun x hx => ?_, fun d s hd => ?_, fun d s d' s' hd hd' hne => ?_⟩
  · obtain ⟨fm, mb, h1, hfm, htm, hp⟩ := hmap
    have hp3 : PMc w3 mb n (fun e => if e = c.id then some gc else G e) := hp.same (hkeepM hp)
    have hmn : mb ≠ (spotOf t G c.at_).1 := fun e => by
      obtain ⟨D, ⟨es, clock, h5, _⟩, _⟩ := hp
      rw [e, hnb2] at h5
      cases h5
    have h13 := (hkeep _ _ _ h1 (by decide)).trans h1
    refine ⟨fm, ?_, Or.inr ⟨mb, hfm, htm, hp3.same (fset_other hmn _)⟩⟩
    simp only [if_neg h00]
    by_cases h0 : c.at_ = (0, 0)
    · have hsd := hrt h0
      have e1 : spotOf t G c.at_ = (t, 5) := by unfold spotOf; rw [if_pos h0]
      have e2 : j4 = 6 := by rw [hj4, e1, hsd]; rfl
      rw [e1, e2, h0, hsd]
      simp only [true_and, Bool.false_eq_true, if_false, if_true]
      rw [fset_block h13]
      simp [txCells]
    · have hne : t ≠ (spotOf t G c.at_).1 := by
        unfold spotOf
        rw [if_neg h0]
        rcases hnd with e | ⟨x, hx, e⟩
        · exact absurd e h0
        · obtain ⟨g, g1, g2, _⟩ := h.ch x hx
          rw [e] at g1
          rw [g1]
          show t ≠ g
          omega
      rw [fset_other hne, h13]
      have : ¬ ((0, 0) : Dt) = c.at_ := fun e => h0 e.symm
      simp [this]
  · by_cases e : d = c.id
    · subst e
      simp only [if_true, Option.isSome_some, true_iff]
      exact ⟨c, by simp, rfl⟩
    · rw [if_neg e, h.gd d hd]
      constructor
      · rintro ⟨x, hx, e'⟩
        exact ⟨x, List.mem_append_left _ hx, e'⟩
      · rintro ⟨x, hx, e'⟩
        rcases List.mem_append.1 hx with hx | hx
        · exact ⟨x, hx, e'⟩
        · simp at hx
          rw [hx] at e'
          exact absurd e'.symm e
  · rcases List.mem_append.1 hx with hx | hx
    · have hxi := hfr x hx
      obtain ⟨g, g1, g2, g3⟩ := h.ch x hx
      have g4 := (hkeep _ _ _ g3 (by decide)).trans g3
      refine ⟨g, by rw [if_neg hxi]; exact g1, g2, ?_⟩
      simp only [if_neg hxi]
      by_cases ha : x.id = c.at_
      · have hz : c.at_ ≠ (0, 0) := fun e => h.wt.nz x hx (by rw [ha, e])
        have e1 : spotOf t G c.at_ = (g, 4) := by unfold spotOf; rw [if_neg hz, ← ha, g1]; rfl
        have e2 : j4 = 4 + (if c.sd then 1 else 0) := by rw [hj4, e1]
        rw [e1, fset_block g4, e2]
        cases hs : c.sd <;> simp [ha, Cr.cells]
      · have hne : g ≠ (spotOf t G c.at_).1 := by
          unfold spotOf
          by_cases h0 : c.at_ = (0, 0)
          · rw [if_pos h0]; show g ≠ t; omega
          · rw [if_neg h0]
            rcases hnd with e | ⟨y, hy, e⟩
            · exact absurd e h0
            · obtain ⟨g', k1, _, _⟩ := h.ch y hy
              rw [← e, k1]
              show g ≠ g'
              intro e2
              rw [← e2] at k1
              exact ha (by rw [← e]; exact h.inj hx hy g1 k1)
        rw [fset_other hne, g4]
        simp [ha]
    · have hx' : x = c := by simpa using hx
      rw [hx']
      refine ⟨gc, by rw [if_pos rfl], htg, ?_⟩
      simp only [if_true]
      have hne : gc ≠ (spotOf t G c.at_).1 := by
        unfold spotOf
        by_cases h0 : c.at_ = (0, 0)
        · rw [if_pos h0]; show gc ≠ t; omega
        · rw [if_neg h0]
          rcases hnd with e | ⟨y, hy, e⟩
          · exact absurd e h0
          · obtain ⟨g', k1, _, k3⟩ := h.ch y hy
            rw [← e, k1]
            show gc ≠ g'
            intro e2
            rw [← e2, hgc] at k3
            simp [Cr.cells] at k3
            exact hfr y hy (Prod.ext k3.1.symm k3.2.1.symm)
      rw [fset_other hne, hkeep _ _ _ hgc (by decide)]
      exact hgc
  · by_cases hdc : d = c.id
    · subst hdc
      have hk : kids (T ++ [c]) c.id s = [] := by rw [kids_snoc, if_neg (fun e => hat e.1), h.wt.fresh hfr hnz]
      rw [hk]
      refine ⟨[], rfl, ?_⟩
      simp only [if_true]
      exact World.ownsRow_nil _ _ _ _
    · have hdT : nodes T d := by
        rcases nodes_snoc.1 hd with hd | hd
        · exact hd
        · exact absurd hd.symm hdc
      by_cases htgt : d = c.at_ ∧ s = c.sd
      · obtain ⟨rfl, rfl⟩ := htgt
        have hk : kids (T ++ [c]) c.at_ c.sd = (kids T c.at_ c.sd).take (aheadOf (kids T c.at_ c.sd) c.id) ++ [c.id] ++ (kids T c.at_ c.sd).drop (aheadOf (kids T c.at_ c.sd) c.id) := by rw [kids_snoc, if_pos ⟨rfl, rfl⟩, ins_at c.id _ (fun hm' => hck _ hm' rfl)]
        rw [hk]
        refine ⟨gs.take (aheadOf (kids T c.at_ c.sd) c.id) ++ [gc] ++ gs.drop (aheadOf (kids T c.at_ c.sd) c.id), ?_, ?_⟩
        · have hmap2 : (kids T c.at_ c.sd).map (fun e => if e = c.id then some gc else G e) = (kids T c.at_ c.sd).map G := List.map_congr_left (fun k hk => if_neg (hck k hk))
          rw [List.map_append, List.map_append, List.map_append, List.map_append, List.map_take, List.map_drop, List.map_take, List.map_drop, hmap2, hgs]
          simp
        · simp only [if_neg hdc, and_self, if_true]
          have hl : (List.take (aheadOf (kids T c.at_ c.sd) c.id) (kids T c.at_ c.sd) ++ [c.id] ++ List.drop (aheadOf (kids T c.at_ c.sd) c.id) (kids T c.at_ c.sd)).length = m := by
            have := aheadOf_le (kids T c.at_ c.sd) c.id
            simp
            omega
          rw [hl]
          exact hrow4 ho3
      · obtain ⟨gs0, k1, k2⟩ := h.rows d s hdT
        have hks : kids (T ++ [c]) d s = kids T d s := by rw [kids_snoc, if_neg (fun e => htgt ⟨e.1.symm, e.2.symm⟩)]
        refine ⟨gs0, ?_, ?_⟩
        · rw [hks, k1]
          refine (List.map_congr_left (fun k hk => if_neg (fun e => ?_))).symm
          obtain ⟨x, hx, _, _, e'⟩ := mem_kids.1 hk
          exact hfr x hx (by rw [e', e])
        · rw [hks]
          simp only [if_neg hdc, if_neg htgt]
          refine hrow4 (World.ownsRow.kept k2 hg3 (h.apart d s c.at_ c.sd hdT hnd (fun e => htgt (by simpa using e))))
  · by_cases hdc : d = c.id
    · rw [if_pos hdc]
      exact Or.inl rfl
    · by_cases hdc' : d' = c.id
      · rw [if_pos hdc']
        cases ((if d = c.id then Value.slice none 0 0 else if d = c.at_ ∧ s = c.sd then newv else R d s)).ownBlock with
        | none => exact Or.inl rfl
        | some b => exact Or.inr (by simp [Value.ownBlock])
      · have hdT : nodes T d := by
          rcases nodes_snoc.1 hd with hd | hd
          · exact hd
          · exact absurd hd.symm hdc
        have hdT' : nodes T d' := by
          rcases nodes_snoc.1 hd' with hd' | hd'
          · exact hd'
          · exact absurd hd'.symm hdc'
        have hlt : ∀ {e s0}, nodes T e → ∀ b, (R e s0).ownBlock = some b → b < w2.heap.size := fun {e s0} he b hb => by
          obtain ⟨gs0, _, k2⟩ := h.rows e s0 he
          exact (World.ownsRow.lt k2 b hb).2
        have hnq : newv.ownBlock = some q := by rw [hnewv]; rfl
        rw [if_neg hdc, if_neg hdc']
        by_cases h1 : d = c.at_ ∧ s = c.sd
        · rw [if_pos h1, if_neg (fun e => hne (by rw [h1.1, h1.2, e.1, e.2])), hnq]
          right
          intro e
          rcases hq with hq | hq
          · obtain ⟨rfl, rfl⟩ := h1
            rcases h.apart c.at_ c.sd d' s' hnd hdT' hne with k | k
            · rw [hq] at k; cases k
            · exact k (by rw [hq, e])
          · have := hlt hdT' q e.symm
            omega
        · rw [if_neg h1]
          by_cases h2 : d' = c.at_ ∧ s' = c.sd
          · rw [if_pos h2, hnq]
            obtain ⟨rfl, rfl⟩ := h2
            rcases hq with hq | hq
            · rw [← hq]
              exact h.apart d s c.at_ c.sd hdT hnd hne
            · cases hb : (R d s).ownBlock with
              | none => exact Or.inl rfl
              | some b =>
                right
                intro e
                cases e
                have := hlt hdT q hb
                omega
          · rw [if_neg h2]
            exact h.apart d s d' s' hdT hdT' hne
end
end Go.Proofs.YtnmdcdphpcpojaaGreatDoor
