/- Stories: what is made, raw; abs and Latest. -/
import Derived.Test.YtbpepmajpojacaaMCmp
import Derived.Test.YtbpepmajpojacaaFgArg
import Derived.Test.YtbpepmajpojacaaSMath
import Derived.Test.YtbpepmajpojacaaMPlaces
import Derived.Test.YtbpepmajpojacaaFgMath
namespace Go.Proofs.Ytbpepmajpojacaa
section
set_option linter.unusedVariables false
open Go.RowKit
open Go.Sort (grow)

set_option maxHeartbeats 2000000 in
theorem fsame_drew (a : Option Addr) (n c : Nat) (L : List Dt) (a' : Option Addr) (n' c' : Nat) (M : List Dt) (w : World) (hs : PS w a n c L) (hs' : PS w a' n' c' M) (hn : n ≤ 9223372036854775807) (hn' : n' ≤ 9223372036854775807) :
    Calls Try.prog 21 #[.slice a n c, .slice a' n' c'] w fun e w' => e = .returned (.bool (decide (L = M))) ∧ ∃ q, w' = w.drewN q := by
  have mixed := mixed
  have hl := hs.len
  have hl' := hs'.len
  by_cases hnn : n = n'
  · subst hnn
    go_enter Try.func21, Try.ntmps21
    go_wp2
    have HL := hid hl
    have HL' := hid hl'
    clear hl hl'
    go_loopw [5] (fun i wr => ∃ k : Nat, k ≤ n ∧ i = .int .i64 k ∧ L.take k = M.take k ∧ ∃ q, wr = w.drewN q) (fun i _ => n - (intOf i).toNat)
    case atStart => exact ⟨0, by omega, rfl, by simp, 0, rfl⟩
    case round =>
      obtain ⟨k, hk, rfl, htk0, hw0⟩ := hrel
      have hW := hid hw0
      clear hw0
      have htk := hid htk0
      clear htk0
      by_cases hlt : k < n
      · have hl := HL.out
        have hl' := HL'.out
        have hs1 : PS wr a n c L := by obtain ⟨q, hq⟩ := hW.out; rw [hq]; exact hs.drewN q
        have hs1' : PS wr a' n c' M := by obtain ⟨q, hq⟩ := hW.out; rw [hq]; exact hs'.drewN q
        obtain ⟨g, o, rfl, hg, hcell⟩ := hs1.at (by omega)
        obtain ⟨g', o', rfl, hg', hcell'⟩ := hs1'.at (by omega)
        obtain ⟨hc0, hc1⟩ := hcell k (by omega)
        obtain ⟨hd0, hd1⟩ := hcell' k (by omega)
        have hts : Hid _ := hid (take_snoc (L := L) (k := k) (by omega))
        have hts' : Hid _ := hid (take_snoc (L := M) (k := k) (by omega))
        have hLk : Hid _ := hid (List.getElem?_eq_getElem (l := L) (i := k) (by omega))
        have hMk : Hid _ := hid (List.getElem?_eq_getElem (l := M) (i := k) (by omega))
        generalize (L[k]'(by omega)) = d at hc0 hc1 hts hLk
        generalize (M[k]'(by omega)) = e at hd0 hd1 hts' hMk
        clear hs hs' hcell hcell' hl hl' hs1 hs1'
        obtain ⟨d1, d2⟩ := d
        obtain ⟨e1, e2⟩ := e
        have C0 : ∀ m, (wr.drewN m).cell? ⟨g, o + k * 2, none⟩ = some (.int .i64 d1) := fun _ => hc0
        have C1 : ∀ m, (wr.drewN m).cell? ⟨g, o + k * 2 + 1, none⟩ = some (.int .i64 d2) := fun _ => hc1
        have E0 : ∀ m, (wr.drewN m).cell? ⟨g', o' + k * 2, none⟩ = some (.int .i64 e1) := fun _ => hd0
        have E1 : ∀ m, (wr.drewN m).cell? ⟨g', o' + k * 2 + 1, none⟩ = some (.int .i64 e2) := fun _ => hd1
        have hk1 : (k : Int) < (n : Int) := by omega
        have hk0 : (0 : Int) ≤ (k : Int) := by omega
        by_cases h1 : d1 = e1
        · subst h1
          by_cases h2 : d2 = e2
          · subst h2
            go_wp2_with fail
            go_quiet (fail)
            go_wp2
            go_roundw
            case rel => exact ⟨k + 1, by omega, by go_num, by rw [hts.out, hts'.out, htk.out], drew_more hW.out _⟩
            case measure => simp [intOf]; omega
          · go_wp2_with fail
            go_quiet (fail)
            go_wp2
            go_ret
            refine ⟨?_, drew_more hW.out _⟩
            have : L ≠ M := fun e => by
              have h := hLk.out
              rw [e, hMk.out] at h
              simp at h
              exact h2 h.symm
            simp [this]
        · go_wp2_with fail
          go_quiet (fail)
          go_wp2
          go_ret
          refine ⟨?_, drew_more hW.out _⟩
          have : L ≠ M := fun e => by
            have h := hLk.out
            rw [e, hMk.out] at h
            simp at h
            exact h1 h.1.symm
          simp [this]
      · obtain rfl : k = n := by omega
        go_wp2
        go_ret
        have h := htk.out
        rw [List.take_of_length_le (by rw [HL.out]; exact Nat.le_refl _), List.take_of_length_le (by rw [HL'.out]; exact Nat.le_refl _)] at h
        exact ⟨by simp [h], hW.out⟩
  · have hz : L ≠ M := fun e => hnn (by rw [← hl, ← hl', e])
    clear hl hl' hs hs'
    go_enter Try.func21, Try.ntmps21
    go_wp2
    go_ret
    exact ⟨by simp [hz], 0, rfl⟩


theorem fsame_any {a a' : Option Addr} {n c n' c' : Nat} {L M : List Dt} {w : World} (hs : PS w a n c L) (hn : n ≤ 9223372036854775807) (hs' : PS w a' n' c' M) (hn' : n' ≤ 9223372036854775807) : Calls Try.prog 21 #[.slice a n c, .slice a' n' c'] w fun e w' => e = .returned (.bool (decide (L = M))) ∧ Below w.heap.size w w' :=
  (fsame_drew a n c L a' n' c' M w hs hs' hn hn').mono fun _ _ ⟨he, hw⟩ => ⟨he, (far_of_drew hw).below⟩

/-- A slice holds these numbers. -/
structure IS (w : World) (a : Option Addr) (n c : Nat) (L : List Int) : Prop where
  len : L.length = n
  cap : n ≤ c
  max : c ≤ maxLen
  at_ : 0 < n → ∃ g o, a = some ⟨g, o, none⟩ ∧ g < w.heap.size ∧ ∀ i (hi : i < L.length), w.cell? ⟨g, o + i, none⟩ = some (.int .i64 L[i])

theorem IS.drewN {w : World} {a : Option Addr} {n c : Nat} {L : List Int} (h : IS w a n c L) (q : Nat) : IS (w.drewN q) a n c L := ⟨h.len, h.cap, h.max, h.at_⟩
theorem IS.below {w w' : World} {a : Option Addr} {n c : Nat} {L : List Int} (h : IS w a n c L) (hb : Below w.heap.size w w') : IS w' a n c L :=
  ⟨h.len, h.cap, h.max, fun hp => by
    obtain ⟨g, o, e, hg, hx⟩ := h.at_ hp
    exact ⟨g, o, e, Nat.lt_of_lt_of_le hg hb.size, fun i hi => by rw [hb.cell (p := ⟨g, o + i, none⟩) hg]; exact hx i hi⟩⟩
theorem itake_snoc {L : List Int} {k : Nat} (h : k < L.length) : L.take (k + 1) = L.take k ++ [L[k]] := List.take_succ_eq_append_getElem h

/-- A row of numbers of one's own. -/
theorem own_is {w : World} {base n : Nat} {v : Value} {L : List Int} (h : w.ownsRow base 3 1 v n (L.map (Value.int .i64))) : ∃ a c, v = .slice a n c ∧ IS w a n c L := by
  have hl : L.length = n := by have := h.1; simpa using this
  rcases h.2 with ⟨rfl, h0⟩ | ⟨g, cap, cur, rfl, hB, hg, hn, hc, hcs, ht⟩
  · subst h0
    exact ⟨none, 0, rfl, hl, Nat.le_refl _, Nat.zero_le _, fun h => absurd h (by omega)⟩
  · refine ⟨some ⟨g, 0, none⟩, cap, rfl, hl, hn, hc, fun _ => ⟨g, 0, rfl, (Array.getElem?_eq_some_iff.1 hg).1, fun i hi => ?_⟩⟩
    have := h.cellAt i (by omega)
    simp only [Nat.zero_add]
    rw [this]
    simp [List.getElem?_eq_getElem hi]

set_option maxHeartbeats 2000000 in
theorem ints_drew (a : Option Addr) (n c : Nat) (L : List Int) (a' : Option Addr) (n' c' : Nat) (M : List Int) (w : World) (hs : IS w a n c L) (hs' : IS w a' n' c' M) (hn : n ≤ 9223372036854775807) (hn' : n' ≤ 9223372036854775807) :
    Calls Try.prog 26 #[.slice a n c, .slice a' n' c'] w fun e w' => e = .returned (.bool (decide (L = M))) ∧ ∃ q, w' = w.drewN q := by
  have mixed := mixed
  have hl := hs.len
  have hl' := hs'.len
  by_cases hnn : n = n'
  · subst hnn
    go_enter Try.func26, Try.ntmps26
    go_wp2
    have HL := hid hl
    have HL' := hid hl'
    clear hl hl'
    go_loopw [5] (fun i wr => ∃ k : Nat, k ≤ n ∧ i = .int .i64 k ∧ L.take k = M.take k ∧ ∃ q, wr = w.drewN q) (fun i _ => n - (intOf i).toNat)
    case atStart => exact ⟨0, by omega, rfl, by simp, 0, rfl⟩
    case round =>
      obtain ⟨k, hk, rfl, htk0, hw0⟩ := hrel
      have hW := hid hw0
      clear hw0
      have htk := hid htk0
      clear htk0
      by_cases hlt : k < n
      · have hl := HL.out
        have hl' := HL'.out
        have hs1 : IS wr a n c L := by obtain ⟨q, hq⟩ := hW.out; rw [hq]; exact hs.drewN q
        have hs1' : IS wr a' n c' M := by obtain ⟨q, hq⟩ := hW.out; rw [hq]; exact hs'.drewN q
        obtain ⟨g, o, rfl, hg, hcell⟩ := hs1.at_ (by omega)
        obtain ⟨g', o', rfl, hg', hcell'⟩ := hs1'.at_ (by omega)
        have hc0 := hcell k (by omega)
        have hd0 := hcell' k (by omega)
        have hts : Hid _ := hid (itake_snoc (L := L) (k := k) (by omega))
        have hts' : Hid _ := hid (itake_snoc (L := M) (k := k) (by omega))
        have hLk : Hid _ := hid (List.getElem?_eq_getElem (l := L) (i := k) (by omega))
        have hMk : Hid _ := hid (List.getElem?_eq_getElem (l := M) (i := k) (by omega))
        generalize (L[k]'(by omega)) = d1 at hc0 hts hLk
        generalize (M[k]'(by omega)) = e1 at hd0 hts' hMk
        clear hs hs' hcell hcell' hl hl' hs1 hs1'
        have C0 : ∀ m, (wr.drewN m).cell? ⟨g, o + k, none⟩ = some (.int .i64 d1) := fun _ => hc0
        have E0 : ∀ m, (wr.drewN m).cell? ⟨g', o' + k, none⟩ = some (.int .i64 e1) := fun _ => hd0
        have hk1 : (k : Int) < (n : Int) := by omega
        have hk0 : (0 : Int) ≤ (k : Int) := by omega
        by_cases h1 : d1 = e1
        · subst h1
          go_wp2_with fail
          go_quiet (fail)
          go_wp2
          go_roundw
          case rel => exact ⟨k + 1, by omega, by go_num, by rw [hts.out, hts'.out, htk.out], drew_more hW.out _⟩
          case measure => simp [intOf]; omega
        · go_wp2_with fail
          go_quiet (fail)
          go_wp2
          go_ret
          refine ⟨?_, drew_more hW.out _⟩
          have : L ≠ M := fun e => by
            have h := hLk.out
            rw [e, hMk.out] at h
            simp at h
            exact h1 h.symm
          simp [this]
      · obtain rfl : k = n := by omega
        go_wp2
        go_ret
        have h := htk.out
        rw [List.take_of_length_le (by rw [HL.out]; exact Nat.le_refl _), List.take_of_length_le (by rw [HL'.out]; exact Nat.le_refl _)] at h
        exact ⟨by simp [h], hW.out⟩
  · have hz : L ≠ M := fun e => hnn (by rw [← hl, ← hl', e])
    clear hl hl' hs hs'
    go_enter Try.func26, Try.ntmps26
    go_wp2
    go_ret
    exact ⟨by simp [hz], 0, rfl⟩


theorem ints_any {a a' : Option Addr} {n c n' c' : Nat} {L M : List Int} {w : World} (hs : IS w a n c L) (hn : n ≤ 9223372036854775807) (hs' : IS w a' n' c' M) (hn' : n' ≤ 9223372036854775807) : Calls Try.prog 26 #[.slice a n c, .slice a' n' c'] w fun e w' => e = .returned (.bool (decide (L = M))) ∧ Below w.heap.size w w' :=
  (ints_drew a n c L a' n' c' M w hs hs' hn hn').mono fun _ _ ⟨he, hw⟩ => ⟨he, (far_of_drew hw).below⟩
end

section
open Go.RowKit
open Go.Sort (grow)

/-- What an actor does, raw. -/
structure Md where
  act : Int
  kn : Int
  kd : Int
  ma : Int
  mb : Int
  key : ByteArray

def Md.cells (m : Md) : Array Value := #[.int .i64 m.act, .int .i64 m.kn, .int .i64 m.kd, .int .i64 m.ma, .int .i64 m.mb, .string m.key]
abbrev mv (m : Md) : Value := .agg m.cells

/-- A number that fits. -/
def F64 (n : Int) : Prop := -9223372036854775808 ≤ n ∧ n ≤ 9223372036854775807

theorem f64_of {n : Int} (h : (Lit.int .i64 n).wf = true) : F64 n := by
  simp [Lit.wf] at h
  unfold F64
  exact h

structure Md.Fits (m : Md) : Prop where
  act : F64 m.act
  kn : F64 m.kn
  kd : F64 m.kd
  ma : F64 m.ma
  mb : F64 m.mb
  key : m.key.size ≤ maxLen

structure MdAt (w : World) (q : Nat) (m : Md) : Prop where
  c0 : w.cell? ⟨q, 0, none⟩ = some (.int .i64 m.act)
  c1 : w.cell? ⟨q, 1, none⟩ = some (.int .i64 m.kn)
  c2 : w.cell? ⟨q, 2, none⟩ = some (.int .i64 m.kd)
  c3 : w.cell? ⟨q, 3, none⟩ = some (.int .i64 m.ma)
  c4 : w.cell? ⟨q, 4, none⟩ = some (.int .i64 m.mb)
  c5 : w.cell? ⟨q, 5, none⟩ = some (.string m.key)

theorem mdAt_of {w : World} {q : Nat} {m : Md} {t : TypeId} (h : w.heap[q]? = some (.cells m.cells t)) : MdAt w q m := by
  constructor <;> simp [World.cell?, h, Md.cells]

def absI (n : Int) : Int := if n < 0 then -(n + 1) else n

theorem absI_bounds {n : Int} (h : F64 n) : 0 ≤ absI n ∧ absI n ≤ 9223372036854775807 := by
  unfold F64 at h
  unfold absI
  split <;> omega

theorem abs_any (n : Int) (h : F64 n) (w : World) : Calls Try.prog 40 #[.int .i64 n] w fun e w' => e = .returned (.int .i64 (absI n)) ∧ w = w' := by
  unfold F64 at h
  have hv : Hid (absI n = if n < 0 then -(n + 1) else n) := hid rfl
  by_cases h0 : n < 0
  · have hb : decide (n < 0) = true := by simpa using h0
    have H0 := hid h0
    go_enter Try.func40, Try.ntmps40
    go_wp2
    go_ret
    refine ⟨?_, rfl⟩
    rw [hv.out, if_pos (by have := H0.out; omega)]
    first | rfl | (congr 2; omega)
  · have hb : decide (n < 0) = false := by simpa using h0
    have H0 := hid h0
    go_enter Try.func40, Try.ntmps40
    go_wp2
    go_ret
    refine ⟨?_, rfl⟩
    rw [hv.out, if_neg (by have := H0.out; omega)]
    rfl

/-- The greatest time of those that are had. -/
def latI (V : List Dt) : List Mo → Int → Int
  | [], t => t
  | x :: r, t => latI V r (if hasv V x.o.id = true ∧ t < x.o.time then x.o.time else t)

theorem latI_append (V : List Dt) (l m : List Mo) (t : Int) : latI V (l ++ m) t = latI V m (latI V l t) := by
  induction l generalizing t with
  | nil => rfl
  | cons x r ih => exact ih _

theorem latI_ge (V : List Dt) (l : List Mo) (t : Int) : t ≤ latI V l t ∧ ∀ x ∈ l, hasv V x.o.id = true → x.o.time ≤ latI V l t := by
  induction l generalizing t with
  | nil => exact ⟨Int.le_refl _, fun x hx => by simp at hx⟩
  | cons x r ih =>
    have h := ih (if hasv V x.o.id = true ∧ t < x.o.time then x.o.time else t)
    show t ≤ latI V r _ ∧ ∀ y ∈ x :: r, hasv V y.o.id = true → y.o.time ≤ latI V r _
    refine ⟨Int.le_trans ?_ h.1, fun y hy hh => ?_⟩
    · split <;> omega
    · rcases List.mem_cons.1 hy with rfl | hy
      · refine Int.le_trans ?_ h.1
        split
        · exact Int.le_refl _
        · rename_i hn
          have : ¬ t < y.o.time := fun h' => hn ⟨hh, h'⟩
          omega
      · exact h.2 y hy hh

theorem latI_le (V : List Dt) (l : List Mo) (t : Int) {M : Int} (ht : t ≤ M) (hl : ∀ x ∈ l, x.o.time ≤ M) : latI V l t ≤ M := by
  induction l generalizing t with
  | nil => exact ht
  | cons x r ih =>
    refine ih _ ?_ (fun y hy => hl y (List.mem_cons_of_mem _ hy))
    split
    · exact hl x (by simp)
    · exact ht

set_option maxRecDepth 100000 in
set_option maxHeartbeats 4000000 in
theorem latest_any (a : Option Addr) (n c : Nat) (L : List Mo) (xa : Option Addr) (xn xc : Nat) (V : List Dt) (w : World) (hs : OS w a n c L) (hv : PS w xa xn xc V) (hn : n ≤ 1000) (hxn : xn ≤ 1000000) :
    Tells 62 #[.slice a n c, .slice xa xn xc] w (.int .i64 (latI V L 0)) := by
  have hlen := hs.len
  go_enter Try.func62, Try.ntmps62
  go_wp2
  go_loopw [6, 5] (fun i t wr => ∃ (k : Nat) (z : Int), k ≤ n ∧ i = .int .i64 k ∧ t = .int .i64 z ∧ Hid (z = latI V (L.take k) 0) ∧ Hid (Far w wr)) (fun i _ _ => n - (intOf i).toNat)
  case atStart => exact ⟨0, 0, by omega, rfl, rfl, hid rfl, hid (Far.refl _)⟩
  case round =>
    obtain ⟨k, z, hk, rfl, rfl, hz, hFr⟩ := hrel
    by_cases hlt : k < n
    · have hkl : k < L.length := by omega
      have hsr := hs.far hFr.out
      obtain ⟨g, o, rfl, hg, hcell⟩ := hsr.at (by omega)
      have hX := hid (hcell k hkl)
      have c0 := hX.out.c0
      have c1 := hX.out.c1
      have c2 := hX.out.c2
      have hst : Hid (latI V (L.take (k + 1)) 0 = if hasv V L[k].o.id = true ∧ z < L[k].o.time then L[k].o.time else z) := hid (by rw [List.take_succ_eq_append_getElem hkl, latI_append, ← hz.out]; rfl)
      generalize L[k] = x at *
      have hH := rhas_any xa xn xc V x.o.id wr (hv.far hFr.out) (by omega)
      generalize hasv V x.o.id = r at *
      clear hcell hsr
      cases r
      · go_wp2_with (first
          | (go_at_call 63; refine hH.mono ?_; rintro e w1 ⟨rfl, hF1⟩; have d2 := (hX.out.below hF1.below hg).c2))
        go_roundw
        case rel => exact ⟨k + 1, z, by omega, by go_num, rfl, hid (by rw [hst.out]; simp), hid (hFr.out.trans hF1)⟩
        case measure => simp [intOf]; omega
      · by_cases ht : z < x.o.time
        · have hb : decide (z < x.o.time) = true := by simpa using ht
          have HT := hid ht
          go_wp2_with (first
            | (go_at_call 63; refine hH.mono ?_; rintro e w1 ⟨rfl, hF1⟩; have d2 := (hX.out.below hF1.below hg).c2))
          go_roundw
          case rel => exact ⟨k + 1, x.o.time, by omega, by go_num, rfl, hid (by rw [hst.out, if_pos ⟨by first | rfl | trivial, by have := HT.out; omega⟩]), hid (hFr.out.trans hF1)⟩
          case measure => simp [intOf]; omega
        · have hb : decide (z < x.o.time) = false := by simpa using ht
          have HT := hid ht
          go_wp2_with (first
            | (go_at_call 63; refine hH.mono ?_; rintro e w1 ⟨rfl, hF1⟩; have d2 := (hX.out.below hF1.below hg).c2))
          go_roundw
          case rel => exact ⟨k + 1, z, by omega, by go_num, rfl, hid (by rw [hst.out, if_neg (fun h => by have h2 := h.2; have := HT.out; omega)]), hid (hFr.out.trans hF1)⟩
          case measure => simp [intOf]; omega
    · obtain rfl : k = n := by omega
      have hz' := hz.out
      rw [← hlen, List.take_length] at hz'
      have HZ := hid hz'
      clear hz' hz
      go_wp2
      go_ret
      exact ⟨by rw [← HZ.out]; rfl, hFr.out⟩
end
end Go.Proofs.Ytbpepmajpojacaa
