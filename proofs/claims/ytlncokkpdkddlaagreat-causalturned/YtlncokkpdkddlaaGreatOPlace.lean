/- Whether an Insert's place, and a Move's Parent, may be. -/
import Derived.Test.YtlncokkpdkddlaaGreatRows
import Derived.Test.YtlncokkpdkddlaaGreatWBel
import Derived.WalkKit
import Derived.WalkSpells
import Derived.WalkLawsBesides
import Derived.Test.YtlncokkpdkddlaaGreatVSame
import Derived.Sort.AtCall
import Derived.Deep.CutBlock
import Derived.Deep.CutRange
namespace Go.Proofs.YtlncokkpdkddlaaGreat
section
open Go.RowKit

abbrev Bs := List UInt8

/-- A key. -/
structure Ky (k : Bs) : Prop where
  ne : k ≠ []
  len : k.length ≤ 200
  rng : ∀ c ∈ k, 97 ≤ c.toNat ∧ c.toNat ≤ 122
  last : ∀ i (h : i < k.length), i + 1 = k.length → k[i].toNat ≠ 97

/-- Whether a row of bytes is a key. -/
def kyb (k : Bs) : Bool := !(k == []) && decide (k.length ≤ 200) && k.all (fun c => decide (97 ≤ c.toNat) && decide (c.toNat ≤ 122)) && !(k.getLast? == some 97)

theorem kyb_iff (k : Bs) : kyb k = true ↔ Ky k := by
  unfold kyb
  simp only [Bool.and_eq_true, Bool.not_eq_true', beq_eq_false_iff_ne, decide_eq_true_eq, List.all_eq_true]
  constructor
  · rintro ⟨⟨⟨h1, h2⟩, h3⟩, h4⟩
    refine ⟨h1, h2, h3, fun i hi he hc => h4 ?_⟩
    rw [List.getLast?_eq_getElem?, show k.length - 1 = i by omega, List.getElem?_eq_getElem hi]
    congr 1
    exact UInt8.toNat_inj.1 hc
  · intro h
    refine ⟨⟨⟨h.ne, h.len⟩, h.rng⟩, fun hc => ?_⟩
    have hp : 0 < k.length := by
      rcases Nat.eq_zero_or_pos k.length with h0 | h0
      · exact absurd (List.eq_nil_of_length_eq_zero h0) h.ne
      · exact h0
    rw [List.getLast?_eq_getElem?, List.getElem?_eq_getElem (by omega : k.length - 1 < k.length)] at hc
    have := h.last (k.length - 1) (by omega) (by omega)
    rw [Option.some.inj hc] at this
    exact this rfl

theorem kyb_false {k : Bs} (h : ¬ Ky k) : kyb k = false := by
  cases hk : kyb k with
  | false => rfl
  | true => exact absurd ((kyb_iff k).1 hk) h

theorem tl_length (s : ByteArray) : s.toList.length = s.size := by rw [ByteArray.toList_eq]; rfl
theorem tl_get (s : ByteArray) (i : Nat) (h : i < s.size) : s.toList[i]'(by rw [tl_length]; exact h) = s[i] := by
  have e := ByteArray.toList_eq s
  simp only [e]
  rfl
theorem tl_mem (s : ByteArray) (i : Nat) (h : i < s.size) : s[i] ∈ s.toList := by
  rw [← tl_get s i h]; exact List.getElem_mem _
theorem tl_nil (s : ByteArray) : s.toList = [] ↔ s.size = 0 := by
  rw [← tl_length, List.length_eq_zero_iff]
theorem ret_bool {a b : Bool} (h : a = b) : Ending.returned (.bool a) = .returned (.bool b) := by rw [h]

theorem ky_short (s : ByteArray) (h : s.size = 0) : kyb s.toList = false := kyb_false fun k => k.ne ((tl_nil s).2 h)
theorem ky_long (s : ByteArray) (h : 200 < s.size) : kyb s.toList = false := kyb_false fun k => by have := k.len; rw [tl_length] at this; omega
theorem ky_out (s : ByteArray) (i : Nat) (h : i < s.size) (ho : s[i].toNat < 97 ∨ 122 < s[i].toNat) : kyb s.toList = false :=
  kyb_false fun k => by have := k.rng _ (tl_mem s i h); omega
theorem ky_last (s : ByteArray) (i : Nat) (h : i < s.size) (hi : i + 1 = s.size) (h97 : s[i].toNat = 97) : kyb s.toList = false :=
  kyb_false fun k => k.last i (by rw [tl_length]; exact h) (by rw [tl_length]; exact hi) (by rw [tl_get s i h]; exact h97)
theorem ky_all (s : ByteArray) (i : Nat) (h : i < s.size) (hi : i + 1 = s.size) (h200 : s.size ≤ 200) (hr : ∀ j (hj : j < s.size), 97 ≤ s[j].toNat ∧ s[j].toNat ≤ 122) (h97 : s[i].toNat ≠ 97) : kyb s.toList = true := by
  rw [kyb_iff]
  refine ⟨fun e => by rw [tl_nil] at e; omega, by rw [tl_length]; exact h200, fun c hc => ?_, fun j hj he => ?_⟩
  · obtain ⟨j, hj, rfl⟩ := List.mem_iff_getElem.1 hc
    have hj' : j < s.size := by rw [tl_length] at hj; exact hj
    rw [tl_get s j hj']; exact hr j hj'
  · have hj' : j < s.size := by rw [tl_length] at hj; exact hj
    obtain rfl : j = i := by rw [tl_length] at he; omega
    rw [tl_get s j hj']; exact h97

set_option maxHeartbeats 400000 in
theorem kmay_any (s : ByteArray) (w : World) (hs : s.size ≤ maxLen) :
    Calls Tryz.prog 79 #[.string s] w fun e w' => e = .returned (.bool (kyb s.toList)) ∧ w = w' := by
  unfold maxLen at hs
  by_cases h0 : s.size = 0
  · rw [ky_short s h0]
    have hz : ((s.size : Int) == 0) = true := by rw [h0]; rfl
    clear h0
    go_enter Tryz.func79, Tryz.ntmps79
    go_wp2
    go_ret
    exact ⟨rfl, rfl⟩
  by_cases h2 : 200 < s.size
  · rw [ky_long s h2]
    go_enter Tryz.func79, Tryz.ntmps79
    go_wp2
    go_ret
    exact ⟨rfl, rfl⟩
  have hp : 0 < s.size := by omega
  have hz : ((s.size : Int) == 0) = false := beq_eq_false_iff_ne.2 (by omega)
  clear h0
  go_enter Tryz.func79, Tryz.ntmps79
  go_wp2
  go_loop [14, 3] (fun i j => ∃ k : Nat, k ≤ s.size ∧ i = .int .i64 k ∧ Hid (∀ j (hj : j < s.size), j < k → 97 ≤ s[j].toNat ∧ s[j].toNat ≤ 122)) (fun i _ => s.size - (intOf i).toNat)
  case atStart => exact ⟨0, Nat.zero_le _, rfl, hid (fun j _ h => by omega)⟩
  case round =>
    obtain ⟨k, hk, rfl, HH⟩ := hrel
    by_cases hlt : k < s.size
    · by_cases h1 : s[k].toNat < 97
      · have e := hid (ky_out s k hlt (.inl h1))
        go_wp2
        go_ret
        rw [e.out]
        exact ⟨rfl, rfl⟩
      by_cases h3 : 122 < s[k].toNat
      · have e := hid (ky_out s k hlt (.inr h3))
        go_wp2
        go_ret
        rw [e.out]
        exact ⟨rfl, rfl⟩
      go_wp2
      go_round
      case rel => exact ⟨k + 1, by omega, by go_num, hid (fun j hj h => by
        by_cases hjk : j = k
        · subst hjk; omega
        · exact HH.out j hj (by omega))⟩
      case measure => simp [intOf]; omega
    · obtain ⟨m, hm⟩ : ∃ m, m + 1 = s.size := ⟨s.size - 1, by omega⟩
      have hml : m < s.size := by omega
      have e1 : (s.size : Int) - 1 = m := by omega
      by_cases h97 : s[m].toNat = 97
      · have e := hid (ky_last s m hml hm h97)
        go_wp2
        go_ret
        rw [e.out]
        exact ⟨by simp, rfl⟩
      · have e := hid (ky_all s m hml hm (by omega) (fun j hj => HH.out j hj (by omega)) h97)
        go_wp2
        go_ret
        rw [e.out]
        exact ⟨by simp; omega, rfl⟩

set_option maxHeartbeats 400000 in
theorem rkmay_any (s : ByteArray) (w : World) (hs : s.size ≤ maxLen) :
    Calls Tryz.prog 56 #[.string s] w fun e w' => e = .returned (.bool (kyb s.toList)) ∧ w = w' := by
  unfold maxLen at hs
  by_cases h0 : s.size = 0
  · rw [ky_short s h0]
    have hz : ((s.size : Int) == 0) = true := by rw [h0]; rfl
    clear h0
    go_enter Tryz.func56, Tryz.ntmps56
    go_wp2
    go_ret
    exact ⟨rfl, rfl⟩
  by_cases h2 : 200 < s.size
  · rw [ky_long s h2]
    have hz : ((s.size : Int) == 0) = false := beq_eq_false_iff_ne.2 (by omega)
    have hd : decide ((200 : Int) < (s.size : Int)) = true := decide_eq_true (by omega)
    go_enter Tryz.func56, Tryz.ntmps56
    go_wp2
    go_ret
    exact ⟨rfl, rfl⟩
  have hp : 0 < s.size := by omega
  have hz : ((s.size : Int) == 0) = false := beq_eq_false_iff_ne.2 (by omega)
  have hd : decide ((200 : Int) < (s.size : Int)) = false := decide_eq_false (by omega)
  clear h0
  obtain ⟨m, hm⟩ : ∃ m, m + 1 = s.size := ⟨s.size - 1, by omega⟩
  have hml : m < s.size := by omega
  have e1 : (s.size : Int) - 1 = m := by omega
  by_cases h97 : s[m].toNat = 97
  · rw [ky_last s m hml hm h97]
    have H97 : ((s[m].toNat : Int) == 97) = true := by rw [h97]; rfl
    clear hm
    go_enter Tryz.func56, Tryz.ntmps56
    go_wp2
    go_ret
    exact ⟨rfl, rfl⟩
  have H97 : ((s[m].toNat : Int) == 97) = false := beq_eq_false_iff_ne.2 (by omega)
  have Hm := hid hm
  clear hm
  go_enter Tryz.func56, Tryz.ntmps56
  go_wp2
  clear e1
  go_loop [3] (fun i => ∃ k : Nat, k ≤ s.size ∧ i = .int .i64 k ∧ Hid (∀ j (hj : j < s.size), j < k → 97 ≤ s[j].toNat ∧ s[j].toNat ≤ 122)) (fun i => s.size - (intOf i).toNat)
  case atStart => exact ⟨0, Nat.zero_le _, rfl, hid (fun j _ h => by omega)⟩
  case round =>
    obtain ⟨k, hk, rfl, HH⟩ := hrel
    by_cases hlt : k < s.size
    · by_cases h1 : s[k].toNat < 97
      · have e := hid (ky_out s k hlt (.inl h1))
        go_wp2
        go_ret
        rw [e.out]
        exact ⟨rfl, rfl⟩
      by_cases h3 : 122 < s[k].toNat
      · have e := hid (ky_out s k hlt (.inr h3))
        go_wp2
        go_ret
        rw [e.out]
        exact ⟨rfl, rfl⟩
      go_wp2
      go_round
      case rel => exact ⟨k + 1, by omega, by go_num, hid (fun j hj h => by
        by_cases hjk : j = k
        · subst hjk; omega
        · exact HH.out j hj (by omega))⟩
      case measure => simp [intOf]; omega
    · have e := hid (ky_all s m hml Hm.out (by omega) (fun j hj => HH.out j hj (by omega)) h97)
      go_wp2
      go_ret
      rw [e.out]
      exact ⟨rfl, rfl⟩
end

section
open Go.RowKit
open Go.Sort (grow)

abbrev OpIn.id (o : OpIn) : Dt := (o.id0, o.id1)
abbrev OpIn.blk (o : OpIn) : Dt := (o.bl0, o.bl1)
abbrev OpIn.at (o : OpIn) : Dt := (o.at0, o.at1)
abbrev OpIn.par (o : OpIn) : Dt := (o.pa0, o.pa1)

/-- The head. -/
def headb (o : OpIn) (V : List Dt) : Bool := mayd o.id && decide (1 ≤ o.time) && decide (o.time ≤ 1099511627776) && vmb V && decide (gt V o.id0 = o.id1 - 1)

/-- What a kind has: At, Side and Char, Parent and Key. -/
def pat (k : Int) : Bool := decide (k = 1) || decide (k = 2)
def pch (k : Int) : Bool := decide (k = 1)
def ppl (k : Int) : Bool := decide (k = 3)

/-- Empty where the kind has no parts. -/
def barb (o : OpIn) : Bool := (pat o.kind || ((o.at0 == 0) && (o.at1 == 0))) && (pch o.kind || ((o.side == 0) && (o.char == 0))) && (ppl o.kind || ((o.pa0 == 0) && (o.pa1 == 0) && o.key.toList.isEmpty))

def besb (o : OpIn) (V : List Dt) : Bool := if o.at0 = 0 ∧ o.at1 = 0 then (o.side == 1) else hasv V o.at && ((o.side == 0) || (o.side == 1))
def charb (c : Int) : Bool := decide (0 ≤ c) && decide (c ≤ 1114111) && (decide (c < 55296) || decide (57343 < c))
def parb (o : OpIn) (V : List Dt) : Bool := (((o.pa0 == 0) && (o.pa1 == -1)) || ((o.pa0 == 0) && (o.pa1 == -2)) || hasv V o.par) && !((o.pa0 == o.bl0) && (o.pa1 == o.bl1))

/-- What a kind has may be. -/
def partb (o : OpIn) (V : List Dt) : Bool :=
  if o.kind = 1 then hasv V o.blk && besb o V && charb o.char
  else if o.kind = 2 then hasv V o.blk && hasv V o.at
  else if o.kind = 3 then (((o.bl0 == o.id0) && (o.bl1 == o.id1)) || hasv V o.blk) && parb o V && kyb o.key.toList
  else false

/-- May it be? -/
def chk (o : OpIn) (V : List Dt) : Bool := headb o V && barb o && partb o V

/-- The cells of an operation lie in block q. -/
structure OpAt (w : World) (q : Nat) (o : OpIn) (v : Value) : Prop where
  c0 : w.cell? ⟨q, 0, none⟩ = some (.int .i64 o.id0)
  c1 : w.cell? ⟨q, 1, none⟩ = some (.int .i64 o.id1)
  c2 : w.cell? ⟨q, 2, none⟩ = some (.int .i64 o.time)
  c3 : w.cell? ⟨q, 3, none⟩ = some v
  c4 : w.cell? ⟨q, 4, none⟩ = some (.int .i64 o.kind)
  c5 : w.cell? ⟨q, 5, none⟩ = some (.int .i64 o.bl0)
  c6 : w.cell? ⟨q, 6, none⟩ = some (.int .i64 o.bl1)
  c7 : w.cell? ⟨q, 7, none⟩ = some (.int .i64 o.at0)
  c8 : w.cell? ⟨q, 8, none⟩ = some (.int .i64 o.at1)
  c9 : w.cell? ⟨q, 9, none⟩ = some (.int .i64 o.side)
  c10 : w.cell? ⟨q, 10, none⟩ = some (.int .i64 o.char)
  c11 : w.cell? ⟨q, 11, none⟩ = some (.int .i64 o.pa0)
  c12 : w.cell? ⟨q, 12, none⟩ = some (.int .i64 o.pa1)
  c13 : w.cell? ⟨q, 13, none⟩ = some (.string o.key)

theorem OpAt.lt {w : World} {q : Nat} {o : OpIn} {v : Value} (h : OpAt w q o v) : q < w.heap.size := cell_in h.c0

theorem OpAt.below {w w' : World} {q : Nat} {o : OpIn} {v : Value} (h : OpAt w q o v) (hb : RowKit.Below w.heap.size w w') : OpAt w' q o v := by
  have hl := h.lt
  exact ⟨(hb.cell hl).trans h.c0, (hb.cell hl).trans h.c1, (hb.cell hl).trans h.c2, (hb.cell hl).trans h.c3, (hb.cell hl).trans h.c4, (hb.cell hl).trans h.c5, (hb.cell hl).trans h.c6,
    (hb.cell hl).trans h.c7, (hb.cell hl).trans h.c8, (hb.cell hl).trans h.c9, (hb.cell hl).trans h.c10, (hb.cell hl).trans h.c11, (hb.cell hl).trans h.c12, (hb.cell hl).trans h.c13⟩

theorem OpAt.far {w w' : World} {q : Nat} {o : OpIn} {v : Value} (h : OpAt w q o v) (hf : Far w w') : OpAt w' q o v := h.below hf.below

theorem OpAt.grow {w : World} {q : Nat} {o : OpIn} {v : Value} (h : OpAt w q o v) (m : Nat) (os : Array Obj) : OpAt (grow (w.drewN m) os) q o v := h.far ⟨m, os, rfl⟩

theorem opAt_alloc (w : World) (o : OpIn) (v : Value) (t : TypeId) : OpAt (w.alloc (.cells (o.cells v) t)) w.heap.size o v := by
  constructor <;> (unfold OpIn.cells; go_simp)

/-- An operation as a value. -/
abbrev ov (o : OpIn) (v : Value) : Value := .agg (o.cells v)

theorem bool_and {a b : Bool} : (a && b) = true ↔ a = true ∧ b = true := by simp
end

section
open Go.RowKit
open Go.Sort (grow)

theorem mayChar_any (c : Int) (w : World) : Calls Tryz.prog 77 #[.int .i64 c] w fun e w' => e = .returned (.bool (charb c)) ∧ w = w' := by
  by_cases h0 : 0 ≤ c
  · by_cases h1 : c ≤ 1114111
    · by_cases h2 : c < 55296
      · go_enter Tryz.func77, Tryz.ntmps77
        go_wp2
        go_ret
        exact ⟨by simp [charb]; omega, rfl⟩
      · go_enter Tryz.func77, Tryz.ntmps77
        go_wp2
        go_ret
        exact ⟨by simp [charb, h0, h1]; omega, rfl⟩
    · go_enter Tryz.func77, Tryz.ntmps77
      go_wp2
      go_ret
      exact ⟨by simp [charb]; omega, rfl⟩
  · go_enter Tryz.func77, Tryz.ntmps77
    go_wp2
    go_ret
    exact ⟨by simp [charb]; omega, rfl⟩

set_option maxRecDepth 100000 in
set_option maxHeartbeats 2000000 in
theorem mayHead_any (o : OpIn) (a : Option Addr) (n c : Nat) (V : List Dt) (w : World) (hs : PS w a n c V) (hn : n ≤ 1000000) : Tells 60 #[ov o (.slice a n c)] w (.bool (headb o V)) := by
  have mixed := mixed
  have hA := opAt_alloc w o (.slice a n c) 36
  have hF := (Far.refl w).alloc (.cells (o.cells (.slice a n c)) 36)
  have hs1 := hs.far hF
  go_enter Tryz.func60, Tryz.ntmps60
  go_wp2_with fail
  generalize w.alloc (.cells (o.cells (.slice a n c)) 36) = W1 at hA hF hs1 ⊢
  generalize w.heap.size = q at hA ⊢
  have E0 := fun m os => (hA.grow m os).c0
  have E1 := fun m os => (hA.grow m os).c1
  have E2 := fun m os => (hA.grow m os).c2
  have E3 := fun m os => (hA.grow m os).c3
  have hM := fun m os => tells_q (may_any o.id (grow (W1.drewN m) os))
  have hV := fun m os => tells_q (vmay_any a n c V _ (hs1.far ⟨m, os, rfl⟩) (Nat.le_trans hn (by decide)))
  have hG := fun (hv : vmb V = true) m os => tells_q (get_any a n c V o.id0 _ (hs1.far ⟨m, os, rfl⟩) (Nat.le_trans hn (by decide)) ((vmb_iff V).1 hv).ac)
  have hg := fun (hv : vmb V = true) => ((vmb_iff V).1 hv).gt_bounds o.id0
  have hi := fun h => (mayd_iff o.id).1 h
  have hb : Hid (headb o V = (mayd o.id && decide (1 ≤ o.time) && decide (o.time ≤ 1099511627776) && vmb V && decide (gt V o.id0 = o.id1 - 1))) := hid rfl
  generalize mayd o.id = r at hM hb hi
  generalize vmb V = s at hV hb hG hg
  clear hA hs hs1 hn
  generalize gt V o.id0 = g at hb hG hg
  obtain ⟨i0, i1, time⟩ := o
  simp only [OpIn.id] at *
  cases r
  · clear hG hg hi
    refine wp_region_quiet_grown mixed (by kernel_rfl) ?_
    repeat (go_big_quiet_step ((first | (go_at_call 37; exact hM _ _) | (go_at_call 74; exact hV _ _) | (go_at_call 59; exact hG _ _))))
    refine wpQuiet_nil ?_
    intro _ hw'
    obtain ⟨⟨nq, osq⟩, hw''⟩ := hw'
    subst hw''
    simp only []
    go_wp2
    go_ret
    exact ⟨by have hb := hb.out; rw [hb]; first | (simp [h1, h2, h3.out]; done) | (simp; intros; omega) | simp_all, hF.more nq osq⟩
  · by_cases h1 : 1 ≤ time
    · by_cases h2 : time ≤ 1099511627776
      · cases s
        · clear hG hg hi
          refine wp_region_quiet_grown mixed (by kernel_rfl) ?_
          repeat (go_big_quiet_step ((first | (go_at_call 37; exact hM _ _) | (go_at_call 74; exact hV _ _) | (go_at_call 59; exact hG _ _))))
          refine wpQuiet_nil ?_
          intro _ hw'
          obtain ⟨⟨nq, osq⟩, hw''⟩ := hw'
          subst hw''
          simp only []
          go_wp2
          go_ret
          exact ⟨by have hb := hb.out; rw [hb]; first | (simp [h1, h2, h3.out]; done) | (simp; intros; omega) | simp_all, hF.more nq osq⟩
        · have hG := hG rfl
          have hg := hg rfl
          have hi := hi rfl
          by_cases h3 : g = i1 - 1
          · have hb3 : (g == i1 - 1) = true := by simp [h3]
            replace h3 := hid h3
            refine wp_region_quiet_grown mixed (by kernel_rfl) ?_
            repeat (go_big_quiet_step ((first | (go_at_call 37; exact hM _ _) | (go_at_call 74; exact hV _ _) | (go_at_call 59; exact hG _ _))))
            refine wpQuiet_nil ?_
            intro _ hw'
            obtain ⟨⟨nq, osq⟩, hw''⟩ := hw'
            subst hw''
            simp only []
            go_wp2
            go_ret
            exact ⟨by have hb := hb.out; rw [hb]; first | (simp [h1, h2, h3.out]; done) | (simp; intros; omega) | simp_all, hF.more nq osq⟩
          · have hb3 : (g == i1 - 1) = false := by simp [h3]
            refine wp_region_quiet_grown mixed (by kernel_rfl) ?_
            repeat (go_big_quiet_step ((first | (go_at_call 37; exact hM _ _) | (go_at_call 74; exact hV _ _) | (go_at_call 59; exact hG _ _))))
            refine wpQuiet_nil ?_
            intro _ hw'
            obtain ⟨⟨nq, osq⟩, hw''⟩ := hw'
            subst hw''
            simp only []
            go_wp2
            go_ret
            exact ⟨by have hb := hb.out; rw [hb]; first | (simp [h1, h2, h3.out]; done) | (simp; intros; omega) | simp_all, hF.more nq osq⟩
      · clear hG hg hi
        refine wp_region_quiet_grown mixed (by kernel_rfl) ?_
        repeat (go_big_quiet_step ((first | (go_at_call 37; exact hM _ _) | (go_at_call 74; exact hV _ _) | (go_at_call 59; exact hG _ _))))
        refine wpQuiet_nil ?_
        intro _ hw'
        obtain ⟨⟨nq, osq⟩, hw''⟩ := hw'
        subst hw''
        simp only []
        go_wp2
        go_ret
        exact ⟨by have hb := hb.out; rw [hb]; first | (simp [h1, h2, h3.out]; done) | (simp; intros; omega) | simp_all, hF.more nq osq⟩
    · clear hG hg hi
      refine wp_region_quiet_grown mixed (by kernel_rfl) ?_
      repeat (go_big_quiet_step ((first | (go_at_call 37; exact hM _ _) | (go_at_call 74; exact hV _ _) | (go_at_call 59; exact hG _ _))))
      refine wpQuiet_nil ?_
      intro _ hw'
      obtain ⟨⟨nq, osq⟩, hw''⟩ := hw'
      subst hw''
      simp only []
      go_wp2
      go_ret
      exact ⟨by have hb := hb.out; rw [hb]; first | (simp [h1, h2, h3.out]; done) | (simp; intros; omega) | simp_all, hF.more nq osq⟩
end

section
open Go.RowKit
open Go.Sort (grow)

/-- What a kind has, as a value. -/
abbrev pv (k : Int) : Value := .agg #[.bool (pat k), .bool (pch k), .bool (ppl k)]

theorem root_any (w : World) : Tells 17 #[] w (dv (0, -1)) := by
  go_enter Tryz.func17, Tryz.ntmps17
  go_wp2
  exact bodyPost_ret (v := dv (0, -1)) (by simp [results, Tryz.results17, go_sem]) rfl ⟨rfl, (Far.refl w).alloc _⟩

theorem trash_any (w : World) : Tells 18 #[] w (dv (0, -2)) := by
  go_enter Tryz.func18, Tryz.ntmps18
  go_wp2
  exact bodyPost_ret (v := dv (0, -2)) (by simp [results, Tryz.results18, go_sem]) rfl ⟨rfl, (Far.refl w).alloc _⟩

theorem partsOf_any (k : Int) (w : World) : Tells 75 #[.int .i64 k] w (pv k) := by
  by_cases h1 : k = 1
  · subst h1
    go_enter Tryz.func75, Tryz.ntmps75
    go_wp2
    exact bodyPost_ret (v := pv 1) (by simp [results, Tryz.results75, go_sem, pat, pch, ppl]) rfl ⟨rfl, ((Far.refl w).alloc _).alloc _⟩
  by_cases h2 : k = 2
  · subst h2
    go_enter Tryz.func75, Tryz.ntmps75
    go_wp2
    exact bodyPost_ret (v := pv 2) (by simp [results, Tryz.results75, go_sem, pat, pch, ppl]) rfl ⟨rfl, ((Far.refl w).alloc _).alloc _⟩
  by_cases h3 : k = 3
  · subst h3
    go_enter Tryz.func75, Tryz.ntmps75
    go_wp2
    exact bodyPost_ret (v := pv 3) (by simp [results, Tryz.results75, go_sem, pat, pch, ppl]) rfl ⟨rfl, ((Far.refl w).alloc _).alloc _⟩
  go_enter Tryz.func75, Tryz.ntmps75
  go_wp2
  exact bodyPost_ret (v := pv k) (by simp [results, Tryz.results75, go_sem, pat, pch, ppl, h1, h2, h3]) rfl ⟨rfl, ((Far.refl w).alloc _).alloc _⟩

set_option maxRecDepth 100000 in
set_option maxHeartbeats 1000000 in
theorem bare_any (o : OpIn) (v : Value) (w : World) : Tells 61 #[ov o v] w (.bool (barb o)) := by
  have hA := opAt_alloc w o v 36
  have hF := (Far.refl w).alloc (.cells (o.cells v) 36)
  have E4 := hA.c4
  have hP := fun W => partsOf_any o.kind W
  have hb : Hid (barb o = ((pat o.kind || ((o.at0 == 0) && (o.at1 == 0))) && (pch o.kind || ((o.side == 0) && (o.char == 0))) && (ppl o.kind || ((o.pa0 == 0) && (o.pa1 == 0) && o.key.toList.isEmpty)))) := hid rfl
  unfold pv at hP
  generalize pat o.kind = p1 at hP hb
  generalize pch o.kind = p2 at hP hb
  generalize ppl o.kind = p3 at hP hb
  go_enter Tryz.func61, Tryz.ntmps61
  go_wp2_with (first
    | (go_at_call 75; refine (hP _).mono ?_; rintro e w1 ⟨rfl, hF1⟩; have hB := hA.far hF1; have e7 := hB.c7; have e8 := hB.c8; have e9 := hB.c9; have e10 := hB.c10; have e11 := hB.c11; have e12 := hB.c12; have e13 := hB.c13; have hF2 := hF.trans hF1; have hlt := hB.lt; clear hF hF1 hA hP))
  all_goals clear hB E4
  all_goals go_ret
  all_goals (refine ⟨?_, (hF2.alloc _).alloc _⟩; have hb := hb.out; clear e7 e8 e9 e10 e11 e12 e13 hF2 hlt; rw [hb]; simp_all)

end

section
open Go.RowKit
open Go.Sort (grow)

set_option maxRecDepth 100000 in
set_option maxHeartbeats 1000000 in
theorem mayBeside_any (o : OpIn) (a : Option Addr) (n c : Nat) (V : List Dt) (w : World) (hs : PS w a n c V) (hn : n ≤ 1000000) (hv : Ac V) : Tells 76 #[ov o (.slice a n c)] w (.bool (besb o V)) := by
  have hA := opAt_alloc w o (.slice a n c) 36
  have hF := (Far.refl w).alloc (.cells (o.cells (.slice a n c)) 36)
  have hH := fun x y => has_any a n c V (x, y) _ (hs.far hF) (Nat.le_trans hn (by decide)) hv
  have E3 := hA.c3
  have E7 := hA.c7
  have E8 := hA.c8
  have E9 := hA.c9
  have hb : Hid (besb o V = if o.at0 = 0 ∧ o.at1 = 0 then (o.side == 1) else hasv V o.at && ((o.side == 0) || (o.side == 1))) := hid rfl
  clear hs hn hv
  go_enter Tryz.func76, Tryz.ntmps76
  go_wp2_with (first
    | (go_at_call 39; refine (hH _ _).mono ?_; rintro e w1 ⟨rfl, hF1⟩; have e9 := (hA.far hF1).c9))
  all_goals go_ret
  all_goals (refine ⟨?_, by first | exact hF.trans hF1 | exact hF⟩; have hb := hb.out; rw [hb]; clear hb hA hF hH E3 E7 E8 E9; try clear e9 hF1)
  all_goals (try unfold OpIn.at)
  all_goals simp_all

set_option maxRecDepth 100000 in
set_option maxHeartbeats 1000000 in
theorem mayParent_any (o : OpIn) (a : Option Addr) (n c : Nat) (V : List Dt) (w : World) (hs : PS w a n c V) (hn : n ≤ 1000000) (hv : Ac V) : Tells 78 #[ov o (.slice a n c)] w (.bool (parb o V)) := by
  have mixed := mixed
  have hA := opAt_alloc w o (.slice a n c) 36
  have hF := (Far.refl w).alloc (.cells (o.cells (.slice a n c)) 36)
  have hs1 := hs.far hF
  go_enter Tryz.func78, Tryz.ntmps78
  go_wp2_with fail
  generalize w.alloc (.cells (o.cells (.slice a n c)) 36) = W1 at hA hF hs1 ⊢
  generalize w.heap.size = q at hA ⊢
  have E3 := fun m os => (hA.grow m os).c3
  have E11 := fun m os => (hA.grow m os).c11
  have E12 := fun m os => (hA.grow m os).c12
  have hR := fun m os => tells_q (root_any (grow (W1.drewN m) os))
  have hT := fun m os => tells_q (trash_any (grow (W1.drewN m) os))
  have hH := fun m os => tells_q (has_any a n c V o.par _ (hs1.far ⟨m, os, rfl⟩) (Nat.le_trans hn (by decide)) hv)
  have hb : Hid (parb o V = ((((o.pa0 == 0) && (o.pa1 == -1)) || ((o.pa0 == 0) && (o.pa1 == -2)) || hasv V o.par) && !((o.pa0 == o.bl0) && (o.pa1 == o.bl1)))) := hid rfl
  generalize hasv V o.par = r at hH hb
  clear hs hn hv hs1
  by_cases h0 : o.pa0 = 0
  · have g0 : (o.pa0 == 0) = true := by simp [h0]
    clear h0
    by_cases h1 : o.pa1 = -1
    · have g : (o.pa1 == -1) = true := by simp [h1]
      clear h1
      refine wp_region_quiet_grown mixed (by kernel_rfl) ?_
      repeat (go_big_quiet_step ((first | (go_at_call 17; exact hR _ _) | (go_at_call 18; exact hT _ _) | (go_at_call 39; exact hH _ _))))
      refine wpQuiet_nil ?_
      intro _ hw'
      obtain ⟨⟨nq, osq⟩, hw''⟩ := hw'
      subst hw''
      simp only []
      have hB := hA.grow nq osq
      have e5 := hB.c5
      have e6 := hB.c6
      have e11 := hB.c11
      have e12 := hB.c12
      have hF2 := hF.more nq osq
      clear hA hF E3 E11 E12 hR hT hH hB
      try cases r
      all_goals go_wp2
      all_goals go_ret
      all_goals (refine ⟨?_, hF2⟩; have hb := hb.out; rw [hb]; clear hb e5 e6 e11 e12 hF2; simp_all)
    · have g : (o.pa1 == -1) = false := by simp [h1]
      clear h1
      by_cases h2 : o.pa1 = -2
      · have g2 : (o.pa1 == -2) = true := by simp [h2]
        clear h2
        refine wp_region_quiet_grown mixed (by kernel_rfl) ?_
        repeat (go_big_quiet_step ((first | (go_at_call 17; exact hR _ _) | (go_at_call 18; exact hT _ _) | (go_at_call 39; exact hH _ _))))
        refine wpQuiet_nil ?_
        intro _ hw'
        obtain ⟨⟨nq, osq⟩, hw''⟩ := hw'
        subst hw''
        simp only []
        have hB := hA.grow nq osq
        have e5 := hB.c5
        have e6 := hB.c6
        have e11 := hB.c11
        have e12 := hB.c12
        have hF2 := hF.more nq osq
        clear hA hF E3 E11 E12 hR hT hH hB
        try cases r
        all_goals go_wp2
        all_goals go_ret
        all_goals (refine ⟨?_, hF2⟩; have hb := hb.out; rw [hb]; clear hb e5 e6 e11 e12 hF2; simp_all)
      · have g2 : (o.pa1 == -2) = false := by simp [h2]
        clear h2
        refine wp_region_quiet_grown mixed (by kernel_rfl) ?_
        repeat (go_big_quiet_step ((first | (go_at_call 17; exact hR _ _) | (go_at_call 18; exact hT _ _) | (go_at_call 39; exact hH _ _))))
        refine wpQuiet_nil ?_
        intro _ hw'
        obtain ⟨⟨nq, osq⟩, hw''⟩ := hw'
        subst hw''
        simp only []
        have hB := hA.grow nq osq
        have e5 := hB.c5
        have e6 := hB.c6
        have e11 := hB.c11
        have e12 := hB.c12
        have hF2 := hF.more nq osq
        clear hA hF E3 E11 E12 hR hT hH hB
        try cases r
        all_goals go_wp2
        all_goals go_ret
        all_goals (refine ⟨?_, hF2⟩; have hb := hb.out; rw [hb]; clear hb e5 e6 e11 e12 hF2; simp_all)
  · have g0 : (o.pa0 == 0) = false := by simp [h0]
    clear h0
    refine wp_region_quiet_grown mixed (by kernel_rfl) ?_
    repeat (go_big_quiet_step ((first | (go_at_call 17; exact hR _ _) | (go_at_call 18; exact hT _ _) | (go_at_call 39; exact hH _ _))))
    refine wpQuiet_nil ?_
    intro _ hw'
    obtain ⟨⟨nq, osq⟩, hw''⟩ := hw'
    subst hw''
    simp only []
    have hB := hA.grow nq osq
    have e5 := hB.c5
    have e6 := hB.c6
    have e11 := hB.c11
    have e12 := hB.c12
    have hF2 := hF.more nq osq
    clear hA hF E3 E11 E12 hR hT hH hB
    try cases r
    all_goals go_wp2
    all_goals go_ret
    all_goals (refine ⟨?_, hF2⟩; have hb := hb.out; rw [hb]; clear hb e5 e6 e11 e12 hF2; simp_all)
end
end Go.Proofs.YtlncokkpdkddlaaGreat
