/- The reference: a text as a row of characters; where one lies. -/
import Derived.Test.YtbpepmajpojacaaFgSame
import Derived.Shelf.SlSortCmp.QuietGrown
import Derived.BigQuiet
set_option linter.unusedVariables false
namespace Go.Proofs.Ytbpepmajpojacaa
open Go.RowKit
open Go.Sort (grow)

/-- A character's cells, as the reference lays them. -/
def Cr.rc (c : Cr) : Array Value := #[.int .i64 c.id.1, .int .i64 c.id.2, .int .i64 c.at_.1, .int .i64 c.at_.2, .int .i64 (if c.sd then 1 else 0), .int .i64 c.ch, .bool c.seen]

/-- A slice holds these characters. -/
structure RT (w : World) (a : Option Addr) (n c : Nat) (T : List Cr) : Prop where
  len : T.length = n
  cap : n ≤ c
  max : c ≤ maxLen
  nil : a = none → n = 0 ∧ c = 0
  at_ : 0 < n → ∃ g o, a = some ⟨g, o, none⟩ ∧ g < w.heap.size ∧ ∀ i (hi : i < T.length) (j : Nat) (u : Value), (T[i]).rc.toList[j]? = some u → w.cell? ⟨g, o + i * 7 + j, none⟩ = some u

theorem RT.below {w w' : World} {a : Option Addr} {n c : Nat} {T : List Cr} (h : RT w a n c T) (hb : Below w.heap.size w w') : RT w' a n c T :=
  ⟨h.len, h.cap, h.max, h.nil, fun hp => by
    obtain ⟨g, o, e, hg, hx⟩ := h.at_ hp
    exact ⟨g, o, e, Nat.lt_of_lt_of_le hg hb.size, fun i hi j u hj => by rw [hb.cell (p := ⟨g, o + i * 7 + j, none⟩) hg]; exact hx i hi j u hj⟩⟩

/-- One of its characters. -/
structure RcAt (w : World) (g o : Nat) (x : Cr) : Prop where
  lt : g < w.heap.size
  c0 : w.cell? ⟨g, o, none⟩ = some (.int .i64 x.id.1)
  c1 : w.cell? ⟨g, o + 1, none⟩ = some (.int .i64 x.id.2)
  c2 : w.cell? ⟨g, o + 2, none⟩ = some (.int .i64 x.at_.1)
  c3 : w.cell? ⟨g, o + 3, none⟩ = some (.int .i64 x.at_.2)
  c4 : w.cell? ⟨g, o + 4, none⟩ = some (.int .i64 (if x.sd then 1 else 0))
  c5 : w.cell? ⟨g, o + 5, none⟩ = some (.int .i64 x.ch)
  c6 : w.cell? ⟨g, o + 6, none⟩ = some (.bool x.seen)

theorem RT.at {w : World} {a : Option Addr} {n c : Nat} {T : List Cr} (h : RT w a n c T) {k : Nat} (hk : k < n) : ∃ g o, a = some ⟨g, o, none⟩ ∧ RcAt w g (o + k * 7) (T[k]'(by rw [h.len]; exact hk)) := by
  obtain ⟨g, o, e, hg, hx⟩ := h.at_ (by omega)
  have hk' : k < T.length := by rw [h.len]; exact hk
  exact ⟨g, o, e, hg, hx k hk' 0 _ rfl, hx k hk' 1 _ rfl, hx k hk' 2 _ rfl, hx k hk' 3 _ rfl, hx k hk' 4 _ rfl, hx k hk' 5 _ rfl, hx k hk' 6 _ rfl⟩

/-- Where a character lies in the row; -1: there is none. -/
def atI (T : List Cr) (d : Dt) : Int := if ∃ c ∈ T, c.id = d then (T.findIdx (fun c => decide (c.id = d)) : Int) else -1

theorem atI_at {T : List Cr} {d : Dt} {k : Nat} {x : Cr} (hx : T[k]? = some x) (he : x.id = d) (hb : ∀ c ∈ T.take k, c.id ≠ d) : atI T d = k := by
  unfold atI
  rw [if_pos ⟨x, List.mem_of_getElem? hx, he⟩]
  congr 1
  have hk := (List.getElem?_eq_some_iff.1 hx).1
  refine (List.findIdx_eq hk).2 ⟨?_, fun j hj => ?_⟩
  · have : T[k] = x := (List.getElem?_eq_some_iff.1 hx).2
    rw [this]
    simpa using he
  · simp only [decide_eq_false_iff_not]
    refine hb _ ?_
    rw [List.mem_take_iff_getElem]
    exact ⟨j, by omega, rfl⟩

theorem atI_no {T : List Cr} {d : Dt} (h : ∀ c ∈ T, c.id ≠ d) : atI T d = -1 := by
  unfold atI
  rw [if_neg (fun ⟨c, hc, e⟩ => h c hc e)]

set_option maxRecDepth 100000 in
set_option maxHeartbeats 2000000 in
theorem rat_any (a : Option Addr) (n c : Nat) (T : List Cr) (d : Dt) (w : World) (h : RT w a n c T) (hn : n ≤ 1000000) :
    Calls Try.prog 30 #[.agg #[.slice a n c], dv d] w fun e w' => e = .returned (.int .i64 (atI T d)) ∧ Below w.heap.size w w' := by
  obtain ⟨d1, d2⟩ := d
  have mixed := mixed
  obtain ⟨W0, hW0⟩ : ∃ W0, W0 = (w.alloc (.cells #[.slice a n c] 30)).alloc (.cells #[.int .i64 d1, .int .i64 d2] 24) := ⟨_, rfl⟩
  have hB0 : Below w.heap.size w W0 := by rw [hW0]; exact ((Below.refl _ w).alloc (Nat.le_refl _) _).alloc (by simp) _
  have hb1 : W0.heap[w.heap.size]? = some (.cells #[.slice a n c] 30 (0, 0)) := by rw [hW0]; exact (Below.heap_alloc _ _ _ (by simp)).trans (World.alloc_heap_new w _)
  have hb2 : W0.heap[w.heap.size + 1]? = some (.cells #[.int .i64 d1, .int .i64 d2] 24 (0, 0)) := by
    rw [hW0]
    have := World.alloc_heap_new (w.alloc (.cells #[.slice a n c] 30)) (.cells #[.int .i64 d1, .int .i64 d2] 24)
    rwa [World.size_alloc] at this
  have hcap := h.cap
  have hmax := h.max
  unfold maxLen at hmax
  have HL := hid h.len
  go_enter Try.func30, Try.ntmps30
  go_wp2
  rw [← hW0]
  have hWH := hid hW0
  clear hW0
  go_loopw [5] (fun i wr => ∃ k : Nat, k ≤ n ∧ i = .int .i64 k ∧ Hid (∀ x ∈ T.take k, x.id ≠ (d1, d2)) ∧ Hid (∃ q, wr = W0.drewN q)) (fun i _ => n - (intOf i).toNat)
  case atStart => exact ⟨0, by omega, rfl, hid (by simp), hid ⟨0, rfl⟩⟩
  case round =>
    obtain ⟨k, hk, rfl, hno, hq⟩ := hrel
    have hBr : Below w.heap.size w wr := by obtain ⟨q, e⟩ := hq.out; rw [e]; exact hB0.trans (((Far.refl W0).drewN q).below.mono hB0.size)
    have e1 : ∀ m, (wr.drewN m).cell? ⟨w.heap.size, 0, none⟩ = some (.slice a n c) := fun m => by obtain ⟨q, e⟩ := hq.out; subst e; show W0.cell? ⟨w.heap.size, 0, none⟩ = _; simp [World.cell?, hb1]
    have e2 : ∀ m, (wr.drewN m).cell? ⟨w.heap.size + 1, 0, none⟩ = some (.int .i64 d1) := fun m => by obtain ⟨q, e⟩ := hq.out; subst e; show W0.cell? ⟨w.heap.size + 1, 0, none⟩ = _; simp [World.cell?, hb2]
    have e3 : ∀ m, (wr.drewN m).cell? ⟨w.heap.size + 1, 1, none⟩ = some (.int .i64 d2) := fun m => by obtain ⟨q, e⟩ := hq.out; subst e; show W0.cell? ⟨w.heap.size + 1, 1, none⟩ = _; simp [World.cell?, hb2]
    have e10 : wr.cell? ⟨w.heap.size, 0, none⟩ = some (.slice a n c) := e1 0
    by_cases hlt : k < n
    · obtain ⟨g, o, rfl, hat⟩ := (h.below hBr).at hlt
      have hkT : k < T.length := by rw [HL.out]; exact hlt
      obtain ⟨x, hx⟩ : ∃ x, x = T[k]'hkT := ⟨_, rfl⟩
      have hxk : Hid (T[k]? = some x) := hid (by rw [hx]; exact List.getElem?_eq_getElem hkT)
      have hts : Hid (T.take (k + 1) = T.take k ++ [x]) := hid (by rw [hx]; exact List.take_succ_eq_append_getElem hkT)
      rw [← hx] at hat
      clear hx hkT
      have C0 : ∀ m, (wr.drewN m).cell? ⟨g, o + k * 7, none⟩ = some (.int .i64 x.id.1) := fun _ => hat.c0
      have C1 : ∀ m, (wr.drewN m).cell? ⟨g, o + k * 7 + 1, none⟩ = some (.int .i64 x.id.2) := fun _ => hat.c1
      obtain ⟨x1, hx1⟩ : ∃ x1, x1 = x.id.1 := ⟨_, rfl⟩
      obtain ⟨x2, hx2⟩ : ∃ x2, x2 = x.id.2 := ⟨_, rfl⟩
      have hxi : Hid (x.id = (x1, x2)) := hid (by rw [hx1, hx2])
      rw [← hx1] at C0
      rw [← hx2] at C1
      clear hx1 hx2 hat
      have hk1 : (k : Int) < (n : Int) := by omega
      have hk0 : (0 : Int) ≤ (k : Int) := by omega
      by_cases h1 : x1 = d1
      · subst h1
        by_cases h2 : x2 = d2
        · subst h2
          have hat := hid (atI_at hxk.out hxi.out hno.out)
          go_wp2_with fail
          go_quiet (fail)
          go_wp2
          go_ret
          exact ⟨by rw [hat.out]; rfl, hBr.trans (((Far.refl wr).drewN _).below.mono hBr.size)⟩
        · have hne : x.id ≠ (x1, d2) := fun e => h2 (by rw [hxi.out] at e; exact (Prod.mk.inj e).2)
          have hnx : Hid (∀ y ∈ T.take (k + 1), y.id ≠ (x1, d2)) := hid (fun y hy => by rw [hts.out] at hy; rcases List.mem_append.1 hy with h | h; exact hno.out y h; simp at h; rw [h]; exact hne)
          clear hne
          go_wp2_with fail
          go_quiet (fail)
          go_wp2
          go_roundw
          case rel => exact ⟨k + 1, by omega, by go_num, hnx, hid (drew_more hq.out _)⟩
          case measure => simp [intOf]; omega
      · have hne : x.id ≠ (d1, d2) := fun e => h1 (by rw [hxi.out] at e; exact (Prod.mk.inj e).1)
        have hnx : Hid (∀ y ∈ T.take (k + 1), y.id ≠ (d1, d2)) := hid (fun y hy => by rw [hts.out] at hy; rcases List.mem_append.1 hy with h | h; exact hno.out y h; simp at h; rw [h]; exact hne)
        clear hne
        go_wp2_with fail
        go_quiet (fail)
        go_wp2
        go_roundw
        case rel => exact ⟨k + 1, by omega, by go_num, hnx, hid (drew_more hq.out _)⟩
        case measure => simp [intOf]; omega
    · obtain rfl : k = n := by omega
      have hat := hid (atI_no (T := T) (d := (d1, d2)) (by have := hno.out; rw [List.take_of_length_le (by rw [HL.out]; exact Nat.le_refl _)] at this; exact this))
      go_wp2
      go_ret
      exact ⟨by rw [hat.out]; rfl, hBr⟩
end Go.Proofs.Ytbpepmajpojacaa
