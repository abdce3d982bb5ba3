/- A row of spots of one's own. No function of the program. -/
import Derived.Test.YtplcohjpchfkkaaTrAwk
import Derived.Test.YtplcohjpchfkkaaTrAwake
import Derived.Shelf.SlSortCmp.QuietGrown
import Derived.BigQuiet
import Derived.Test.YtplcohjpchfkkaaMKeys
import Derived.WalkKit
import Derived.WalkSpells
import Derived.WalkLawsBesides
import Derived.Test.YtplcohjpchfkkaaTrInsD
namespace Go.Proofs.Ytplcohjpchfkkaa
section
set_option linter.unusedVariables false
open Go.RowKit

theorem MvS.look {w : World} {a : Option Addr} {n c : Nat} {L : List Mv} (h : MvS w a n c L) {k : Nat} {i1 i2 tm b1 b2 p1 p2 : Int} {ky : ByteArray} (hk : L[k]? = some (⟨(i1, i2), tm, (b1, b2), (p1, p2), ky⟩ : Mv)) : ∃ g o, a = some ⟨g, o, none⟩ ∧ g < w.heap.size ∧ ∀ V : World, V.heap[g]? = w.heap[g]? → (V.cell? ⟨g, o + k * 8, none⟩ = some (.int .i64 i1) ∧ V.cell? ⟨g, o + k * 8 + 1, none⟩ = some (.int .i64 i2) ∧ V.cell? ⟨g, o + k * 8 + 2, none⟩ = some (.int .i64 tm) ∧ V.cell? ⟨g, o + k * 8 + 3, none⟩ = some (.int .i64 b1) ∧ V.cell? ⟨g, o + k * 8 + 4, none⟩ = some (.int .i64 b2) ∧ V.cell? ⟨g, o + k * 8 + 5, none⟩ = some (.int .i64 p1) ∧ V.cell? ⟨g, o + k * 8 + 6, none⟩ = some (.int .i64 p2) ∧ V.cell? ⟨g, o + k * 8 + 7, none⟩ = some (.string ky)) := by
  have hkl := (List.getElem?_eq_some_iff.1 hk).1
  obtain ⟨g, o, e, hg, hx⟩ := h.at_ (by have := h.len; omega)
  refine ⟨g, o, e, hg, fun V hV => ?_⟩
  have hc : ∀ j u, ((⟨(i1, i2), tm, (b1, b2), (p1, p2), ky⟩ : Mv)).cells[j]? = some u → V.cell? ⟨g, o + k * 8 + j, none⟩ = some u := fun j u hu => by
    have := hx k hkl j u (by rw [(List.getElem?_eq_some_iff.1 hk).2]; exact hu)
    simp only [World.cell?] at this ⊢
    rw [hV]
    exact this
  exact ⟨hc 0 _ rfl, hc 1 _ rfl, hc 2 _ rfl, hc 3 _ rfl, hc 4 _ rfl, hc 5 _ rfl, hc 6 _ rfl, hc 7 _ rfl⟩

/-- Cells of a dot in a row. -/
theorem PS.look {w : World} {a : Option Addr} {n c : Nat} {L : List Dt} (h : PS w a n c L) {k : Nat} {d1 d2 : Int} (hk : L[k]? = some (d1, d2)) : ∃ g o, a = some ⟨g, o, Option.none⟩ ∧ g < w.heap.size ∧ k < n ∧ ∀ V : World, V.heap[g]? = w.heap[g]? → V.cell? ⟨g, o + k * 2, Option.none⟩ = some (.int .i64 d1) ∧ V.cell? ⟨g, o + k * 2 + 1, Option.none⟩ = some (.int .i64 d2) := by
  have hkl := (List.getElem?_eq_some_iff.1 hk).1
  obtain ⟨g, o, e, hg, hx⟩ := h.at (by have := h.len; omega)
  refine ⟨g, o, e, hg, by have := h.len; omega, fun V hV => ?_⟩
  have := hx k hkl
  rw [(List.getElem?_eq_some_iff.1 hk).2] at this
  simp only [World.cell?] at this ⊢
  rw [hV]
  exact this

theorem PS.same {w w' : World} {a : Option Addr} {n c : Nat} {L : List Dt} (h : PS w a n c L) (hk : ∀ ad, a = some ad → w'.heap[ad.block]? = w.heap[ad.block]?) : PS w' a n c L :=
  ⟨h.len, h.cap, h.max, h.nil, fun ad ha j u hj => by
    have := h.cells ad ha j u hj
    have hb : (ad.add j).block = ad.block := by unfold Addr.add; split <;> rfl
    simp only [World.cell?] at this ⊢
    rw [hb] at this ⊢
    rw [hk ad ha]
    exact this⟩
end

section
set_option linter.unusedVariables false
open Go.RowKit
open Go.Sort (grow)

/-- A spot's cells, as the reference lays them. -/
def Sp.rc (s : Sp) : Array Value := #[.int .i64 s.b.1, .int .i64 s.b.2, .int .i64 s.p.1, .int .i64 s.p.2, .string s.k]

/-- A slice holds these spots. -/
structure SpR (w : World) (a : Option Addr) (n c : Nat) (T : List Sp) : Prop where
  len : T.length = n
  cap : n ≤ c
  max : c ≤ maxLen
  nil : a = none → n = 0 ∧ c = 0
  at_ : 0 < n → ∃ g o, a = some ⟨g, o, none⟩ ∧ g < w.heap.size ∧ ∀ i (hi : i < T.length) (j : Nat) (u : Value), (T[i]).rc.toList[j]? = some u → w.cell? ⟨g, o + i * 5 + j, none⟩ = some u

theorem SpR.below {w w' : World} {a : Option Addr} {n c : Nat} {T : List Sp} (h : SpR w a n c T) (hb : Below w.heap.size w w') : SpR w' a n c T :=
  ⟨h.len, h.cap, h.max, h.nil, fun hp => by
    obtain ⟨g, o, e, hg, hx⟩ := h.at_ hp
    exact ⟨g, o, e, Nat.lt_of_lt_of_le hg hb.size, fun i hi j u hj => by rw [hb.cell (p := ⟨g, o + i * 5 + j, none⟩) hg]; exact hx i hi j u hj⟩⟩

/-- One of its spots. -/
structure SpAt (w : World) (g o : Nat) (x : Sp) : Prop where
  lt : g < w.heap.size
  c0 : w.cell? ⟨g, o, none⟩ = some (.int .i64 x.b.1)
  c1 : w.cell? ⟨g, o + 1, none⟩ = some (.int .i64 x.b.2)
  c2 : w.cell? ⟨g, o + 2, none⟩ = some (.int .i64 x.p.1)
  c3 : w.cell? ⟨g, o + 3, none⟩ = some (.int .i64 x.p.2)
  c4 : w.cell? ⟨g, o + 4, none⟩ = some (.string x.k)

theorem SpR.at {w : World} {a : Option Addr} {n c : Nat} {T : List Sp} (h : SpR w a n c T) {k : Nat} (hk : k < n) : ∃ g o, a = some ⟨g, o, none⟩ ∧ SpAt w g (o + k * 5) (T[k]'(by rw [h.len]; exact hk)) := by
  obtain ⟨g, o, e, hg, hx⟩ := h.at_ (by omega)
  have hk' : k < T.length := by rw [h.len]; exact hk
  exact ⟨g, o, e, hg, hx k hk' 0 _ rfl, hx k hk' 1 _ rfl, hx k hk' 2 _ rfl, hx k hk' 3 _ rfl, hx k hk' 4 _ rfl⟩

/-- Where a block lies in the row; -1: it isn't there. -/
def spI (T : List Sp) (d : Dt) : Int := if ∃ c ∈ T, c.b = d then (T.findIdx (fun c => decide (c.b = d)) : Int) else -1

theorem spI_at {T : List Sp} {d : Dt} {k : Nat} {x : Sp} (hx : T[k]? = some x) (he : x.b = d) (hb : ∀ c ∈ T.take k, c.b ≠ d) : spI T d = k := by
  unfold spI
  rw [if_pos ⟨x, List.mem_of_getElem? hx, he⟩]
  congr 1
  have hk := (List.getElem?_eq_some_iff.1 hx).1
  refine (List.findIdx_eq hk).2 ⟨?_, fun j hj => ?_⟩
  · have : T[k] = x := (List.getElem?_eq_some_iff.1 hx).2
    rw [this]
    simpa using he
  · simp only [decide_eq_false_iff_not]
    refine hb _ ?_
    rw [List.mem_take_iff_getElem]
    exact ⟨j, by omega, rfl⟩

theorem spI_no {T : List Sp} {d : Dt} (h : ∀ c ∈ T, c.b ≠ d) : spI T d = -1 := by
  unfold spI
  rw [if_neg (fun ⟨c, hc, e⟩ => h c hc e)]

/-- What lies there is what lk tells. -/
theorem spI_lk : ∀ (T : List Sp) (d : Dt), (lk T d = none ∧ spI T d = -1) ∨ ∃ (k : Nat) (x : Sp), T[k]? = some x ∧ spI T d = k ∧ x.b = d ∧ lk T d = some (x.p, x.k) := by
  intro T d
  cases hf : T.find? (fun s => decide (s.b = d)) with
  | none =>
    left
    have hn : lk T d = none := by unfold lk; rw [hf]; rfl
    exact ⟨hn, spI_no (lk_none.1 hn)⟩
  | some x =>
    right
    obtain ⟨hx, k, hk, e, hb⟩ := List.find?_eq_some_iff_getElem.1 hf
    have hd : x.b = d := by simpa using hx
    have hg : T[k]? = some x := by rw [List.getElem?_eq_getElem hk, e]
    refine ⟨k, x, hg, spI_at hg hd (fun c hc => ?_), hd, by unfold lk; rw [hf]; rfl⟩
    obtain ⟨j, hj, rfl⟩ := List.mem_take_iff_getElem.1 hc
    have := hb j (by omega)
    simpa using this

set_option maxRecDepth 100000 in
set_option maxHeartbeats 2000000 in
theorem trat_any (la ka : Option Addr) (ln lc kn kc : Nat) (a : Option Addr) (n c : Nat) (T : List Sp) (d : Dt) (w : World) (h : SpR w a n c T) (hn : n ≤ 1000000) :
    Calls Try.prog 34 #[.agg #[.slice la ln lc, .slice a n c, .slice ka kn kc], dv d] w fun e w' => e = .returned (.int .i64 (spI T d)) ∧ Below w.heap.size w w' := by
  obtain ⟨d1, d2⟩ := d
  have mixed := mixed
  obtain ⟨W0, hW0⟩ : ∃ W0, W0 = (w.alloc (.cells #[.slice la ln lc, .slice a n c, .slice ka kn kc] 31)).alloc (.cells #[.int .i64 d1, .int .i64 d2] 24) := ⟨_, rfl⟩
  have hB0 : Below w.heap.size w W0 := by rw [hW0]; exact ((Below.refl _ w).alloc (Nat.le_refl _) _).alloc (by simp) _
  have hb1 : W0.heap[w.heap.size]? = some (.cells #[.slice la ln lc, .slice a n c, .slice ka kn kc] 31 (0, 0)) := by rw [hW0]; exact (Below.heap_alloc _ _ _ (by simp)).trans (World.alloc_heap_new w _)
  have hb2 : W0.heap[w.heap.size + 1]? = some (.cells #[.int .i64 d1, .int .i64 d2] 24 (0, 0)) := by
    rw [hW0]
    have := World.alloc_heap_new (w.alloc (.cells #[.slice la ln lc, .slice a n c, .slice ka kn kc] 31)) (.cells #[.int .i64 d1, .int .i64 d2] 24)
    rwa [World.size_alloc] at this
  have hcap := h.cap
  have hmax := h.max
  unfold maxLen at hmax
  have HL := hid h.len
  go_enter Try.func34, Try.ntmps34
  go_wp2
  rw [← hW0]
  have hWH := hid hW0
  clear hW0
  go_loopw [5] (fun i wr => ∃ k : Nat, k ≤ n ∧ i = .int .i64 k ∧ Hid (∀ x ∈ T.take k, x.b ≠ (d1, d2)) ∧ Hid (∃ q, wr = W0.drewN q)) (fun i _ => n - (intOf i).toNat)
  case atStart => exact ⟨0, by omega, rfl, hid (by simp), hid ⟨0, rfl⟩⟩
  case round =>
    obtain ⟨k, hk, rfl, hno, hq⟩ := hrel
    have hBr : Below w.heap.size w wr := by obtain ⟨q, e⟩ := hq.out; rw [e]; exact hB0.trans (((Far.refl W0).drewN q).below.mono hB0.size)
    have e1 : ∀ m, (wr.drewN m).cell? ⟨w.heap.size, 1, none⟩ = some (.slice a n c) := fun m => by obtain ⟨q, e⟩ := hq.out; subst e; show W0.cell? ⟨w.heap.size, 1, none⟩ = _; simp [World.cell?, hb1]
    have e2 : ∀ m, (wr.drewN m).cell? ⟨w.heap.size + 1, 0, none⟩ = some (.int .i64 d1) := fun m => by obtain ⟨q, e⟩ := hq.out; subst e; show W0.cell? ⟨w.heap.size + 1, 0, none⟩ = _; simp [World.cell?, hb2]
    have e3 : ∀ m, (wr.drewN m).cell? ⟨w.heap.size + 1, 1, none⟩ = some (.int .i64 d2) := fun m => by obtain ⟨q, e⟩ := hq.out; subst e; show W0.cell? ⟨w.heap.size + 1, 1, none⟩ = _; simp [World.cell?, hb2]
    have e10 : wr.cell? ⟨w.heap.size, 1, none⟩ = some (.slice a n c) := e1 0
    by_cases hlt : k < n
    · obtain ⟨g, o, rfl, hat⟩ := (h.below hBr).at hlt
      have hkT : k < T.length := by rw [HL.out]; exact hlt
      obtain ⟨x, hx⟩ : ∃ x, x = T[k]'hkT := ⟨_, rfl⟩
      have hxk : Hid (T[k]? = some x) := hid (by rw [hx]; exact List.getElem?_eq_getElem hkT)
      have hts : Hid (T.take (k + 1) = T.take k ++ [x]) := hid (by rw [hx]; exact List.take_succ_eq_append_getElem hkT)
      rw [← hx] at hat
      clear hx hkT
      have C0 : ∀ m, (wr.drewN m).cell? ⟨g, o + k * 5, none⟩ = some (.int .i64 x.b.1) := fun _ => hat.c0
      have C1 : ∀ m, (wr.drewN m).cell? ⟨g, o + k * 5 + 1, none⟩ = some (.int .i64 x.b.2) := fun _ => hat.c1
      obtain ⟨x1, hx1⟩ : ∃ x1, x1 = x.b.1 := ⟨_, rfl⟩
      obtain ⟨x2, hx2⟩ : ∃ x2, x2 = x.b.2 := ⟨_, rfl⟩
      have hxi : Hid (x.b = (x1, x2)) := hid (by rw [hx1, hx2])
      rw [← hx1] at C0
      rw [← hx2] at C1
      clear hx1 hx2 hat
      have hk1 : (k : Int) < (n : Int) := by omega
      have hk0 : (0 : Int) ≤ (k : Int) := by omega
      by_cases h1 : x1 = d1
      · subst h1
        by_cases h2 : x2 = d2
        · subst h2
          have hat := hid (spI_at hxk.out hxi.out hno.out)
          go_wp2_with fail
          go_quiet (fail)
          go_wp2
          go_ret
          exact ⟨by rw [hat.out]; rfl, hBr.trans (((Far.refl wr).drewN _).below.mono hBr.size)⟩
        · have hne : x.b ≠ (x1, d2) := fun e => h2 (by rw [hxi.out] at e; exact (Prod.mk.inj e).2)
          have hnx : Hid (∀ y ∈ T.take (k + 1), y.b ≠ (x1, d2)) := hid (fun y hy => by rw [hts.out] at hy; rcases List.mem_append.1 hy with h | h; exact hno.out y h; simp at h; rw [h]; exact hne)
          clear hne
          go_wp2_with fail
          go_quiet (fail)
          go_wp2
          go_roundw
          case rel => exact ⟨k + 1, by omega, by go_num, hnx, hid (drew_more hq.out _)⟩
          case measure => simp [intOf]; omega
      · have hne : x.b ≠ (d1, d2) := fun e => h1 (by rw [hxi.out] at e; exact (Prod.mk.inj e).1)
        have hnx : Hid (∀ y ∈ T.take (k + 1), y.b ≠ (d1, d2)) := hid (fun y hy => by rw [hts.out] at hy; rcases List.mem_append.1 hy with h | h; exact hno.out y h; simp at h; rw [h]; exact hne)
        clear hne
        go_wp2_with fail
        go_quiet (fail)
        go_wp2
        go_roundw
        case rel => exact ⟨k + 1, by omega, by go_num, hnx, hid (drew_more hq.out _)⟩
        case measure => simp [intOf]; omega
    · obtain rfl : k = n := by omega
      have hat := hid (spI_no (T := T) (d := (d1, d2)) (by have := hno.out; rw [List.take_of_length_le (by rw [HL.out]; exact Nat.le_refl _)] at this; exact this))
      go_wp2
      go_ret
      exact ⟨by rw [hat.out]; rfl, hBr⟩
end

section
set_option linter.unusedVariables false
open Go.RowKit
open Go.Sort (grow)

set_option maxHeartbeats 2000000 in
theorem fsame_drew (a : Option Addr) (n c : Nat) (L : List Dt) (a' : Option Addr) (n' c' : Nat) (M : List Dt) (w : World) (hs : PS w a n c L) (hs' : PS w a' n' c' M) (hn : n ≤ 9223372036854775807) (hn' : n' ≤ 9223372036854775807) :
    Calls Try.prog 15 #[.slice a n c, .slice a' n' c'] w fun e w' => e = .returned (.bool (decide (L = M))) ∧ ∃ q, w' = w.drewN q := by
  have mixed := mixed
  have hl := hs.len
  have hl' := hs'.len
  by_cases hnn : n = n'
  · subst hnn
    go_enter Try.func15, Try.ntmps15
    go_wp2
    have HL := hid hl
    have HL' := hid hl'
    clear hl hl'
    go_loopw [5] (fun i wr => ∃ k : Nat, k ≤ n ∧ i = .int .i64 k ∧ L.take k = M.take k ∧ ∃ q, wr = w.drewN q) (fun i _ => n - (intOf i).toNat)
    case atStart => exact ⟨0, by omega, rfl, by simp, 0, rfl⟩
    case round =>
      obtain ⟨k, hk, rfl, htk0, hw0⟩ := hrel
      have hW := hid hw0
      clear hw0
      have htk := hid htk0
      clear htk0
      by_cases hlt : k < n
      · have hl := HL.out
        have hl' := HL'.out
        have hs1 : PS wr a n c L := by obtain ⟨q, hq⟩ := hW.out; rw [hq]; exact hs.drewN q
        have hs1' : PS wr a' n c' M := by obtain ⟨q, hq⟩ := hW.out; rw [hq]; exact hs'.drewN q
        obtain ⟨g, o, rfl, hg, hcell⟩ := hs1.at (by omega)
        obtain ⟨g', o', rfl, hg', hcell'⟩ := hs1'.at (by omega)
        obtain ⟨hc0, hc1⟩ := hcell k (by omega)
        obtain ⟨hd0, hd1⟩ := hcell' k (by omega)
        have hts : Hid _ := hid (take_snoc (L := L) (k := k) (by omega))
        have hts' : Hid _ := hid (take_snoc (L := M) (k := k) (by omega))
        have hLk : Hid _ := hid (List.getElem?_eq_getElem (l := L) (i := k) (by omega))
        have hMk : Hid _ := hid (List.getElem?_eq_getElem (l := M) (i := k) (by omega))
        generalize (L[k]'(by omega)) = d at hc0 hc1 hts hLk
        generalize (M[k]'(by omega)) = e at hd0 hd1 hts' hMk
        clear hs hs' hcell hcell' hl hl' hs1 hs1'
        obtain ⟨d1, d2⟩ := d
        obtain ⟨e1, e2⟩ := e
        have C0 : ∀ m, (wr.drewN m).cell? ⟨g, o + k * 2, none⟩ = some (.int .i64 d1) := fun _ => hc0
        have C1 : ∀ m, (wr.drewN m).cell? ⟨g, o + k * 2 + 1, none⟩ = some (.int .i64 d2) := fun _ => hc1
        have E0 : ∀ m, (wr.drewN m).cell? ⟨g', o' + k * 2, none⟩ = some (.int .i64 e1) := fun _ => hd0
        have E1 : ∀ m, (wr.drewN m).cell? ⟨g', o' + k * 2 + 1, none⟩ = some (.int .i64 e2) := fun _ => hd1
        have hk1 : (k : Int) < (n : Int) := by omega
        have hk0 : (0 : Int) ≤ (k : Int) := by omega
        by_cases h1 : d1 = e1
        · subst h1
          by_cases h2 : d2 = e2
          · subst h2
            go_wp2_with fail
            go_quiet (fail)
            go_wp2
            go_roundw
            case rel => exact ⟨k + 1, by omega, by go_num, by rw [hts.out, hts'.out, htk.out], drew_more hW.out _⟩
            case measure => simp [intOf]; omega
          · go_wp2_with fail
            go_quiet (fail)
            go_wp2
            go_ret
            refine ⟨?_, drew_more hW.out _⟩
            have : L ≠ M := fun e => by
              have h := hLk.out
              rw [e, hMk.out] at h
              simp at h
              exact h2 h.symm
            simp [this]
        · go_wp2_with fail
          go_quiet (fail)
          go_wp2
          go_ret
          refine ⟨?_, drew_more hW.out _⟩
          have : L ≠ M := fun e => by
            have h := hLk.out
            rw [e, hMk.out] at h
            simp at h
            exact h1 h.1.symm
          simp [this]
      · obtain rfl : k = n := by omega
        go_wp2
        go_ret
        have h := htk.out
        rw [List.take_of_length_le (by rw [HL.out]; exact Nat.le_refl _), List.take_of_length_le (by rw [HL'.out]; exact Nat.le_refl _)] at h
        exact ⟨by simp [h], hW.out⟩
  · have hz : L ≠ M := fun e => hnn (by rw [← hl, ← hl', e])
    clear hl hl' hs hs'
    go_enter Try.func15, Try.ntmps15
    go_wp2
    go_ret
    exact ⟨by simp [hz], 0, rfl⟩


theorem fsame_any {a a' : Option Addr} {n c n' c' : Nat} {L M : List Dt} {w : World} (hs : PS w a n c L) (hn : n ≤ 9223372036854775807) (hs' : PS w a' n' c' M) (hn' : n' ≤ 9223372036854775807) : Calls Try.prog 15 #[.slice a n c, .slice a' n' c'] w fun e w' => e = .returned (.bool (decide (L = M))) ∧ Below w.heap.size w w' :=
  (fsame_drew a n c L a' n' c' M w hs hs' hn hn').mono fun _ _ ⟨he, hw⟩ => ⟨he, (far_of_drew hw).below⟩
end

section
open Go.RowKit
open Go.Sort (grow)

theorem insAt3 (d : Dt) : ∀ (L : List Dt) (k : Nat), k ≤ L.length → (∀ e ∈ L.take k, dl e d = true) → (∀ e, L[k]? = some e → dl e d = false) → ins L d = if L[k]? = some d then L else L.take k ++ d :: L.drop k
  | [], k, hk, _, _ => by
    have : k = 0 := by simpa using hk
    subst this
    simp [ins]
  | x :: r, 0, _, _, hstop => by
    have hx : dl x d = false := hstop x (by simp)
    unfold ins
    rw [hx]
    by_cases h : x = d
    · simp [h]
    · simp [h]
  | x :: r, k + 1, hk, hlt, hstop => by
    have hx : dl x d = true := hlt x (by simp)
    have ih := insAt3 d r k (by simpa using hk) (fun e he => hlt e (by simp [he])) (fun e he => hstop e (by simpa using he))
    unfold ins
    rw [hx, ih]
    by_cases h : r[k]? = some d
    · simp [h]
    · simp [h]

theorem fbox_of {w w3 : World} {x y : Int} (h : RowKit.Below (w.heap.size + 1) (w.alloc (.cells #[.int .i64 x, .int .i64 y] 24)) w3) :
    w3.cell? ⟨w.heap.size, 0, none⟩ = some (.int .i64 x) ∧ w3.cell? ⟨w.heap.size, 1, none⟩ = some (.int .i64 y) :=
  ⟨(h.cell (p := ⟨w.heap.size, 0, none⟩) (show w.heap.size < w.heap.size + 1 by omega)).trans (by go_simp), (h.cell (p := ⟨w.heap.size, 1, none⟩) (show w.heap.size < w.heap.size + 1 by omega)).trans (by go_simp)⟩

theorem fins_len {L : List Dt} {x : Dt} {k : Nat} (h : ins L x = L.take k ++ x :: L.drop k) (hk : k ≤ L.length) : (ins L x).length = k + 1 + (L.length - k) := by
  rw [h]
  simp
  omega
end

section
set_option linter.unusedVariables false
open Go.RowKit
open Go.Sort (grow)

/-- A move as a value. -/
def Mv.val (m : Mv) : Value := .agg #[.int .i64 m.id.1, .int .i64 m.id.2, .int .i64 m.time, .int .i64 m.block.1, .int .i64 m.block.2, .int .i64 m.parent.1, .int .i64 m.parent.2, .string m.key]

set_option maxRecDepth 100000 in
set_option maxHeartbeats 2000000 in
theorem trahead_any (x y : Mv) (w : World) : Calls Try.prog 28 #[x.val, y.val] w fun e w' => e = .returned (.bool (mvl x y)) ∧ Below w.heap.size w w' := by
  obtain ⟨⟨i1, i2⟩, tm, ⟨b1, b2⟩, ⟨p1, p2⟩, ky⟩ := x
  obtain ⟨⟨j1, j2⟩, tn, ⟨c1, c2⟩, ⟨q1, q2⟩, kz⟩ := y
  obtain ⟨M, hM⟩ : ∃ M, M = mvl ⟨(i1, i2), tm, (b1, b2), (p1, p2), ky⟩ ⟨(j1, j2), tn, (c1, c2), (q1, q2), kz⟩ := ⟨_, rfl⟩
  rw [← hM]
  have hiff := mvl_iff ⟨(i1, i2), tm, (b1, b2), (p1, p2), ky⟩ ⟨(j1, j2), tn, (c1, c2), (q1, q2), kz⟩
  rw [← hM] at hiff
  have HI : Hid (M = true ↔ tm < tn ∨ (tm = tn ∧ dl (i1, i2) (j1, j2) = true)) := hid hiff
  clear hM hiff
  have mixed := mixed
  obtain ⟨W0, hW0⟩ : ∃ W0, W0 = (w.alloc (.cells #[.int .i64 i1, .int .i64 i2, .int .i64 tm, .int .i64 b1, .int .i64 b2, .int .i64 p1, .int .i64 p2, .string ky] 33)).alloc (.cells #[.int .i64 j1, .int .i64 j2, .int .i64 tn, .int .i64 c1, .int .i64 c2, .int .i64 q1, .int .i64 q2, .string kz] 33) := ⟨_, rfl⟩
  have hB0 : Below w.heap.size w W0 := by rw [hW0]; exact ((Below.refl _ w).alloc (Nat.le_refl _) _).alloc (by simp) _
  have HB0 := hid hB0
  have HLs : Calls Try.prog 24 #[.agg #[.int .i64 i1, .int .i64 i2], .agg #[.int .i64 j1, .int .i64 j2]] W0 (fun e w' => e = .returned (.bool (dl (i1, i2) (j1, j2))) ∧ Hid (Below w.heap.size w w')) := (rless_any (i1, i2) (j1, j2) W0).mono (fun e w' h => ⟨h.1, hid (hB0.trans (h.2.below.mono hB0.size))⟩)
  clear hB0
  show Calls Try.prog 28 #[.agg #[.int .i64 i1, .int .i64 i2, .int .i64 tm, .int .i64 b1, .int .i64 b2, .int .i64 p1, .int .i64 p2, .string ky], .agg #[.int .i64 j1, .int .i64 j2, .int .i64 tn, .int .i64 c1, .int .i64 c2, .int .i64 q1, .int .i64 q2, .string kz]] w _
  go_enter Try.func28, Try.ntmps28
  by_cases ht : tm = tn
  · subst ht
    have HD : Hid (dl (i1, i2) (j1, j2) = M) := hid (by
      have h1 := HI.out
      rw [Bool.eq_iff_iff]
      refine ⟨fun h => h1.2 (Or.inr ⟨rfl, h⟩), fun h => ?_⟩
      rcases h1.1 h with h | h
      · omega
      · exact h.2)
    go_wp2_with (go_at_call 24; rw [← hW0]; refine HLs.mono ?_; rintro e w2 ⟨rfl, h2⟩)
    go_ret
    exact ⟨by rw [HD.out]; rfl, h2.out⟩
  · have hbe : (tm == tn) = false := by simpa using ht
    have HD : Hid (decide (tm < tn) = M) := hid (by
      have h1 := HI.out
      rw [Bool.eq_iff_iff, decide_eq_true_iff]
      refine ⟨fun h => h1.2 (Or.inl h), fun h => ?_⟩
      rcases h1.1 h with h | h
      · exact h
      · exact absurd h.1 ht)
    go_wp2
    go_ret
    exact ⟨by rw [← HD.out]; rfl, by rw [← hW0]; exact HB0.out⟩
end

section
set_option linter.unusedVariables false
open Go.RowKit
open Go.Sort (grow)

/-- How long a slice is. -/
def lenV : Value → Nat
  | .slice _ n _ => n
  | _ => 0

theorem slice_form {w : World} {base n : Nat} {v : Value} {L : List Dt} (h : w.ownsRow base 24 2 v n (flat L)) : ∃ a c, v = .slice a n c := by
  rcases h.2 with ⟨e, h0⟩ | ⟨g, cap, cur, e, _⟩
  · exact ⟨none, 0, by rw [e, h0]⟩
  · exact ⟨_, _, e⟩

set_option maxRecDepth 100000 in
set_option maxHeartbeats 4000000 in
theorem trpath_any (la ka : Option Addr) (ln lc kn kc : Nat) (a : Option Addr) (n c : Nat) (T : List Sp) (b : Dt) (w : World) (h : SpR w a n c T) (hn : n ≤ 100000) :
    Calls Try.prog 35 #[.agg #[.slice la ln lc, .slice a n c, .slice ka kn kc], dv b] w fun e w' => ∃ v, e = .returned v ∧ w'.ownsRow w.heap.size 24 2 v (pth T b).length (flat (pth T b)) ∧ Below w.heap.size w w' := by
  obtain ⟨b1, b2⟩ := b
  have mixed := mixed
  obtain ⟨W0, hW0⟩ : ∃ W0, W0 = (w.alloc (.cells #[.slice la ln lc, .slice a n c, .slice ka kn kc] 31)).alloc (.cells #[.int .i64 b1, .int .i64 b2] 24) := ⟨_, rfl⟩
  have hB0 : Below w.heap.size w W0 := by rw [hW0]; exact ((Below.refl _ w).alloc (Nat.le_refl _) _).alloc (by simp) _
  have hz0 : w.heap.size < W0.heap.size := by rw [hW0]; simp; omega
  have hb1 : W0.heap[w.heap.size]? = some (.cells #[.slice la ln lc, .slice a n c, .slice ka kn kc] 31 (0, 0)) := by rw [hW0]; exact (Below.heap_alloc _ _ _ (by simp)).trans (World.alloc_heap_new w _)
  have hcap := h.cap
  have hmax := h.max
  unfold maxLen at hmax
  have HL := hid h.len
  have HS := hid h
  have HB0 := hid hB0
  have Hz0 := hid hz0
  have HBX : Hid (∀ U, Below W0.heap.size W0 U → U.cell? ⟨w.heap.size, 0, none⟩ = some (.slice la ln lc) ∧ U.cell? ⟨w.heap.size, 1, none⟩ = some (.slice a n c) ∧ U.cell? ⟨w.heap.size, 2, none⟩ = some (.slice ka kn kc)) := hid (fun U hU => by
    have e := hU.block w.heap.size hz0
    rw [hb1] at e
    exact ⟨by simp [World.cell?, e], by simp [World.cell?, e], by simp [World.cell?, e]⟩)
  have HAT : Hid (∀ (d : Dt) U, Below W0.heap.size W0 U → Calls Try.prog 34 #[.agg #[.slice la ln lc, .slice a n c, .slice ka kn kc], dv d] U fun e w' => e = .returned (.int .i64 (spI T d)) ∧ Below U.heap.size U w') := hid (fun d U hU => trat_any la ka ln lc kn kc a n c T d U (h.below (hB0.trans (hU.mono hB0.size))) (by omega))
  have HC0 := HAT.out (b1, b2) W0 (Below.refl _ _)
  obtain ⟨k0, hk0⟩ : ∃ k0, k0 = spI T (b1, b2) := ⟨_, rfl⟩
  rw [← hk0] at HC0
  have HK0 := hid hk0
  clear hB0 hb1 hz0 h hk0
  go_enter Try.func35, Try.ntmps35
  go_wp2_with (go_at_call 34; rw [← hW0]; refine HC0.mono ?_; rintro e W1 ⟨rfl, hB1⟩)
  clear hW0 HC0
  go_loopw [5, 6] (fun v i wr => ∃ (oa : Option Addr) (m oc : Nat) (O : List Dt) (d : Dt) (k : Int), v = .slice oa m oc ∧ m ≤ n + 1 ∧ i = .int .i64 k ∧ Hid (m = O.length) ∧ Hid (k = spI T d) ∧ Hid (wr.ownsRow W0.heap.size 24 2 (.slice oa m oc) m (flat O)) ∧ Hid (O ++ up (lk T) (n + 1 - m) d = pth T (b1, b2)) ∧ Hid (Below W0.heap.size W0 wr)) (fun v _ _ => n + 1 - lenV v)
  case atStart => exact ⟨none, 0, 0, [], (b1, b2), k0, rfl, by omega, rfl, hid rfl, HK0, hid (World.ownsRow_nil _ _ _ _), hid (by rw [List.nil_append, Nat.sub_zero, ← HL.out]; rfl), hid hB1⟩
  case round =>
    obtain ⟨oa, m, oc, O, d, k, rfl, hm, rfl, HM, HK, HO, HP, HB⟩ := hrel
    clear HK0 hB1
    have HF : Hid (∀ (v : Value) (wr' : World), v = .slice oa m oc → wr' = wr → up (lk T) (n + 1 - m) d = [] → ∃ v', Ending.returned v = .returned v' ∧ wr'.ownsRow w.heap.size 24 2 v' (pth T (b1, b2)).length (flat (pth T (b1, b2))) ∧ Below w.heap.size w wr') := hid (fun v wr' hv hw hu => by
      subst hv hw
      have hp := HP.out
      rw [hu, List.append_nil] at hp
      have ho := HO.out
      rw [hp, HM.out, hp] at ho
      refine ⟨_, rfl, ?_, HB0.out.trans (HB.out.mono HB0.out.size)⟩
      rw [HM.out, hp]
      refine ⟨ho.1, ?_⟩
      rcases ho.2 with h' | ⟨g, cap, cur, e, hb, r⟩
      · exact Or.inl h'
      · exact Or.inr ⟨g, cap, cur, e, Nat.le_trans HB0.out.size hb, r⟩)
    obtain ⟨e0, e1, e2⟩ := HBX.out _ HB.out
    rcases spI_lk T d with ⟨hl, hs⟩ | ⟨kn', x, hx, hs, hxb, hl⟩
    · have hk : k = -1 := by rw [HK.out, hs]
      subst hk
      go_wp2
      go_ret
      refine HF.out _ _ rfl rfl ?_
      cases n + 1 - m with
      | zero => rfl
      | succ q => unfold up; rw [hl]
    · have hk : k = (kn' : Int) := by rw [HK.out, hs]
      subst hk
      have hkn : kn' < n := by have := (List.getElem?_eq_some_iff.1 hx).1; rw [HL.out] at this; exact this
      have hge : decide ((kn' : Int) ≥ 0) = true := by simp
      by_cases hmn : m ≤ n
      · have hle : decide ((m : Int) ≤ (n : Int)) = true := by simp; omega
        have hnx : Hid (up (lk T) (n + 1 - m) d = x.p :: up (lk T) (n + 1 - (m + 1)) x.p) := hid (by
          rw [show n + 1 - m = (n + 1 - (m + 1)) + 1 by omega]
          conv => lhs; unfold up
          rw [hl])
        obtain ⟨g, o, rfl, hat⟩ := (HS.out.below (HB0.out.trans (HB.out.mono HB0.out.size))).at hkn
        have hxe : T[kn']'(by rw [HL.out]; exact hkn) = x := (List.getElem?_eq_some_iff.1 hx).2
        rw [hxe] at hat
        have HSa : Hid (∀ U, Below W0.heap.size W0 U → SpAt U g (o + kn' * 5) x) := hid (fun U hU => by
          obtain ⟨g', o', e', ha⟩ := (HS.out.below (HB0.out.trans (hU.mono HB0.out.size))).at hkn
          cases e'
          rw [hxe] at ha
          exact ha)
        obtain ⟨xb, ⟨p1, p2⟩, ky⟩ := x
        have c2 := hat.c2
        have c3 := hat.c3
        clear hx hs hxe hat hl hxb
        go_wp2_with (first
          | (at_builtin; refine wpList_append_dots rfl _ _ 29 Try.underlying29 rfl W0.heap.size _ m (flat O) rfl (HO.out.alloc _) (some ⟨wr.heap.size, 0, none⟩) 1 1 [(p1, p2)] rfl (ps_one wr (p1, p2)) (by omega) (by have := HB.out.size; simp; omega) ?_; intro v5 w5 ho5 hg5))
        obtain ⟨oa', oc', rfl⟩ := slice_form (L := O ++ [(p1, p2)]) (by rw [flat_append]; exact ho5)
        have hB5 : Below W0.heap.size W0 w5 := (HB.out.alloc HB.out.size _).grown hg5 (HB.out.alloc HB.out.size _).size (fun j hj => (HO.out.lt j hj).1)
        have HO5 : Hid (w5.ownsRow W0.heap.size 24 2 (.slice oa' (m + 1) oc') (m + 1) (flat (O ++ [(p1, p2)]))) := hid (by rw [flat_append]; exact ho5)
        have HP5 : Hid ((O ++ [(p1, p2)]) ++ up (lk T) (n + 1 - (m + 1)) (p1, p2) = pth T (b1, b2)) := hid (by rw [← HP.out, hnx.out, List.append_assoc]; rfl)
        haveI : Nonempty (Wb w5) := ⟨⟨w5, Below.refl _ _⟩⟩
        have HBU : Hid (∀ pp : Wb w5, Below W0.heap.size W0 pp.u) := hid (fun pp => hB5.trans (pp.h.mono hB5.size))
        have q0 : ∀ pp : Wb w5, pp.u.cell? ⟨w.heap.size, 0, none⟩ = some (.slice la ln lc) := fun pp => (HBX.out _ (HBU.out pp)).1
        have q1 : ∀ pp : Wb w5, pp.u.cell? ⟨w.heap.size, 1, none⟩ = some (.slice (some ⟨g, o, none⟩) n c) := fun pp => (HBX.out _ (HBU.out pp)).2.1
        have q2 : ∀ pp : Wb w5, pp.u.cell? ⟨w.heap.size, 2, none⟩ = some (.slice ka kn kc) := fun pp => (HBX.out _ (HBU.out pp)).2.2
        have r2 : ∀ pp : Wb w5, pp.u.cell? ⟨g, o + kn' * 5 + 2, none⟩ = some (.int .i64 p1) := fun pp => (HSa.out _ (HBU.out pp)).c2
        have r3 : ∀ pp : Wb w5, pp.u.cell? ⟨g, o + kn' * 5 + 3, none⟩ = some (.int .i64 p2) := fun pp => (HSa.out _ (HBU.out pp)).c3
        obtain ⟨k', hk'⟩ : ∃ k', k' = spI T (p1, p2) := ⟨_, rfl⟩
        have kA : ∀ pp : Wb w5, Calls Try.prog 34 #[.agg #[.slice la ln lc, .slice (some ⟨g, o, none⟩) n c, .slice ka kn kc], .agg #[.int .i64 p1, .int .i64 p2]] pp.u fun e w'' => e = .returned (.int .i64 k') ∧ ∃ p' : Wb w5, w'' = p'.u := fun pp => by
          rw [hk']
          exact below_q (HAT.out (p1, p2) pp.u (HBU.out pp))
        have HK' := hid hk'
        have HOU : Hid (∀ pp : Wb w5, pp.u.ownsRow W0.heap.size 24 2 (.slice oa' (m + 1) oc') (m + 1) (flat (O ++ [(p1, p2)]))) := hid (fun pp => by
          have h5 := HO5.out
          refine ⟨h5.1, ?_⟩
          rcases h5.2 with h' | ⟨g', cap, cur, e, hb, hg, r⟩
          · exact Or.inl h'
          · exact Or.inr ⟨g', cap, cur, e, hb, (pp.h.block g' (Array.getElem?_eq_some_iff.1 hg).1).trans hg, r⟩)
        clear ho5 hg5 hB5 hk' e0 e1 e2 c2 c3
        refine wp_region_below mixed (by kernel_rfl) ?_
        repeat (go_big_quiet_step (first | (go_at_call 34; exact kA _)))
        refine wpQuiet_nil ?_
        intro _ hw'
        obtain ⟨pp, hw''⟩ := hw'
        subst hw''
        go_wp2
        go_roundw
        case rel => exact ⟨oa', m + 1, oc', O ++ [(p1, p2)], (p1, p2), k', rfl, by omega, rfl, hid (by rw [List.length_append, HM.out]; rfl), HK', hid (HOU.out pp), HP5, hid (HBU.out pp)⟩
        case measure => simp [lenV]; omega
      · have hle : decide ((m : Int) ≤ (n : Int)) = false := by simp; omega
        go_wp2
        go_ret
        refine HF.out _ _ rfl rfl ?_
        rw [show n + 1 - m = 0 by omega]
        rfl
end

section
set_option linter.unusedVariables false
set_option linter.unusedSimpArgs false
open Go.RowKit

theorem Try.infoS : (Try.prog.info? 81).map (fun i => (i.zero, i.size, i.bytes)) = some (some (.agg #[.int .i64 0, .int .i64 0, .int .i64 0, .int .i64 0, .string ⟨#[]⟩]), 5, 48) := by kernel_rfl

/-- The cells of a row of characters. -/
def flS (T : List Sp) : List Value := T.flatMap (fun c => c.rc.toList)

theorem sc_len (c : Sp) : c.rc.toList.length = 5 := rfl

theorem flS_length (T : List Sp) : (flS T).length = T.length * 5 := by
  unfold flS
  induction T with
  | nil => rfl
  | cons c r ih => rw [List.flatMap_cons, List.length_append, ih, sc_len, List.length_cons]; omega

theorem flS_append (T U : List Sp) : flS (T ++ U) = flS T ++ flS U := by unfold flS; rw [List.flatMap_append]

theorem flS_get : ∀ (T : List Sp) (i : Nat) (hi : i < T.length) (j : Nat), j < 5 → (flS T)[i * 5 + j]? = (T[i]).rc.toList[j]?
  | [], i, hi, _, _ => by simp at hi
  | c :: r, 0, _, j, hj => by
    unfold flS
    rw [List.flatMap_cons, Nat.zero_mul, Nat.zero_add, List.getElem?_append_left (by rw [sc_len]; exact hj)]
    rfl
  | c :: r, i + 1, hi, j, hj => by
    have ih := flS_get r i (by simpa using hi) j hj
    unfold flS at ih ⊢
    rw [List.flatMap_cons, List.getElem?_append_right (by rw [sc_len]; omega), sc_len, show (i + 1) * 5 + j - 5 = i * 5 + j by omega, ih]
    rfl

theorem flS_one (T : List Sp) : ∀ u ∈ flS T, u.oneCell' = true := by
  intro u hu
  unfold flS at hu
  obtain ⟨c, _, hc⟩ := List.mem_flatMap.1 hu
  simp [Sp.rc] at hc
  rcases hc with rfl | rfl | rfl | rfl | rfl <;> rfl

theorem own_sps {w : World} {base n : Nat} {v : Value} {T : List Sp} (h : w.ownsRow base 81 5 v n (flS T)) : ∃ a c, v = .slice a n c ∧ SpR w a n c T := by
  have hl : T.length = n := by have := h.1; rw [flS_length] at this; omega
  rcases h.2 with ⟨rfl, h0⟩ | ⟨g, cap, cur, rfl, hB, hg, hn, hc, hcs, ht⟩
  · subst h0
    exact ⟨none, 0, rfl, hl, Nat.le_refl _, Nat.zero_le _, fun _ => ⟨rfl, rfl⟩, fun hp => absurd hp (by omega)⟩
  · refine ⟨_, _, rfl, hl, hn, hc, (fun e => by cases e), (fun hp => ⟨g, 0, rfl, (Array.getElem?_eq_some_iff.1 hg).1, fun i hi j u hj => ?_⟩)⟩
    have hj5 : j < 5 := by have := (List.getElem?_eq_some_iff.1 hj).1; rwa [sc_len] at this
    have := h.cells (g := g) rfl (i * 5 + j) u (by rw [flS_get T i hi j hj5]; exact hj)
    have e : (⟨g, 0, none⟩ : Addr).add (i * 5 + j) = ⟨g, 0 + i * 5 + j, none⟩ := by
      unfold Addr.add
      split
      · rename_i h0
        simp only [Addr.mk.injEq, true_and, and_true]
        omega
      · simp only [Addr.mk.injEq, true_and, and_true]
        omega
    rw [e] at this
    exact this

theorem SpR.allcells {w : World} {a : Option Addr} {n c : Nat} {T : List Sp} (h : SpR w a n c T) {g o : Nat} (ha : a = some ⟨g, o, none⟩) (hp : 0 < n) : ∀ j u, (flS T)[j]? = some u → w.cell? ((⟨g, o, none⟩ : Addr).add j) = some u := by
  intro j u hj
  obtain ⟨g', o', e, hg, hx⟩ := h.at_ hp
  rw [ha] at e
  cases e
  have hjl := (List.getElem?_eq_some_iff.1 hj).1
  rw [flS_length] at hjl
  have hd := Nat.div_add_mod j 5
  have hm := Nat.mod_lt j (show 0 < 5 by omega)
  have hi : j / 5 < T.length := by omega
  have e1 : j = j / 5 * 5 + j % 5 := by omega
  have e2 := flS_get T (j / 5) hi (j % 5) hm
  rw [← e1, hj] at e2
  have e3 := hx (j / 5) hi (j % 5) u e2.symm
  have e : (⟨g, o, none⟩ : Addr).add j = ⟨g, o + j / 5 * 5 + j % 5, none⟩ := by
    unfold Addr.add
    split
    · rename_i h0
      simp only [Addr.mk.injEq, true_and, and_true]
      omega
    · simp only [Addr.mk.injEq, true_and, and_true]
      omega
  rw [e]
  exact e3

/-- append of a row of moves to a row of one's own. -/
theorem wpList_append_sps {w : World} {ops : Array Oper} {rest : List Oper} {o : Oper} {a : Act} {Q : Exit → Act → World → Prop} (hgd : o.guard = none) (s x : Operand) (t : TypeId) (ht : Try.prog.underlying t = some (.slice 81))
    (ho : o.op = .call { callee := .builtin .append, args := #[s, x], argTypes := #[t, t] }) (base : Nat) (v : Value) (n : Nat) (U : List Sp) (hs : a.eval s = v) (hown : w.ownsRow base 81 5 v n (flS U))
    (ao : Option Addr) (m c : Nat) (T : List Sp) (hx : a.eval x = .slice ao m c) (hT : SpR w ao m c T) (hb : n + m ≤ 2000000) (hbase : base ≤ w.heap.size)
    (h : ∀ v' w', w'.ownsRow base 81 5 v' (n + m) (flS (U ++ T)) → w.grownBy w' v.ownBlock → wpList Try.prog ops Q rest (a.put o.dst v') w') : wpList Try.prog ops Q (o :: rest) a w := by
  obtain ⟨i0, hi, hz0, hz1, hz2⟩ := info_parts Try.infoS
  have hl := hT.len
  rcases Nat.eq_zero_or_pos m with hm | hm
  · subst hm
    have e : T = [] := List.eq_nil_of_length_eq_zero hl
    subst e
    cases ao with
    | none =>
      obtain ⟨_, rfl⟩ := hT.nil rfl
      refine wpList_append_own_none hgd s x t ho base 81 i0 5 ht hi v n _ hs hown hx ?_
      exact h v w (by rw [List.append_nil]; exact hown) (World.grownBy.refl _ _)
    | some ad =>
      exact wpList_append_own w hgd s x t ho base 81 i0 _ 5 48 ht hi hz0 hz1 hz2 rfl (by decide) v n (flS U) hs hown ad 0 c [] hx (by simp) (fun j u hj => by simp at hj) (by simp) (by unfold maxLen; omega) (by omega) hbase
        (fun v' w' h1 h2 _ => h v' w' (by simpa using h1) h2)
  · obtain ⟨g, o', e, hg, hc⟩ := hT.at_ hm
    subst e
    exact wpList_append_own w hgd s x t ho base 81 i0 _ 5 48 ht hi hz0 hz1 hz2 rfl (by decide) v n (flS U) hs hown ⟨g, o', none⟩ m c (flS T) hx (by rw [flS_length, hl]) (hT.allcells rfl hm) (flS_one T) (by unfold maxLen; omega) (by omega) hbase
      (fun v' w' h1 h2 _ => h v' w' (by rw [flS_append]; exact h1) h2)
end
end Go.Proofs.Ytplcohjpchfkkaa
