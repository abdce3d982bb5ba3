/- Rows of dots held against one another. -/
import Derived.Test.YtplcohjpchfkkaaTrTr
import Derived.Test.YtplcohjpchfkkaaTrArg
import Derived.Test.YtplcohjpchfkkaaTrAwake
import Derived.Test.YtplcohjpchfkkaaOLess
import Derived.BigQuiet
namespace Go.Proofs.Ytplcohjpchfkkaa
section
set_option linter.unusedVariables false
open Go.RowKit

theorem MvS.look {w : World} {a : Option Addr} {n c : Nat} {L : List Mv} (h : MvS w a n c L) {k : Nat} {i1 i2 tm b1 b2 p1 p2 : Int} {ky : ByteArray} (hk : L[k]? = some (⟨(i1, i2), tm, (b1, b2), (p1, p2), ky⟩ : Mv)) : ∃ g o, a = some ⟨g, o, none⟩ ∧ g < w.heap.size ∧ ∀ V : World, V.heap[g]? = w.heap[g]? → (V.cell? ⟨g, o + k * 8, none⟩ = some (.int .i64 i1) ∧ V.cell? ⟨g, o + k * 8 + 1, none⟩ = some (.int .i64 i2) ∧ V.cell? ⟨g, o + k * 8 + 2, none⟩ = some (.int .i64 tm) ∧ V.cell? ⟨g, o + k * 8 + 3, none⟩ = some (.int .i64 b1) ∧ V.cell? ⟨g, o + k * 8 + 4, none⟩ = some (.int .i64 b2) ∧ V.cell? ⟨g, o + k * 8 + 5, none⟩ = some (.int .i64 p1) ∧ V.cell? ⟨g, o + k * 8 + 6, none⟩ = some (.int .i64 p2) ∧ V.cell? ⟨g, o + k * 8 + 7, none⟩ = some (.string ky)) := by
  have hkl := (List.getElem?_eq_some_iff.1 hk).1
  obtain ⟨g, o, e, hg, hx⟩ := h.at_ (by have := h.len; omega)
  refine ⟨g, o, e, hg, fun V hV => ?_⟩
  have hc : ∀ j u, ((⟨(i1, i2), tm, (b1, b2), (p1, p2), ky⟩ : Mv)).cells[j]? = some u → V.cell? ⟨g, o + k * 8 + j, none⟩ = some u := fun j u hu => by
    have := hx k hkl j u (by rw [(List.getElem?_eq_some_iff.1 hk).2]; exact hu)
    simp only [World.cell?] at this ⊢
    rw [hV]
    exact this
  exact ⟨hc 0 _ rfl, hc 1 _ rfl, hc 2 _ rfl, hc 3 _ rfl, hc 4 _ rfl, hc 5 _ rfl, hc 6 _ rfl, hc 7 _ rfl⟩

/-- A tree is made, behind what was. -/
theorem tnew_any {w w1 : World} (hb : Below w.heap.size w w1) : Calls Try.prog 10 #[] w1 fun e w2 => ∃ t, e = .returned (.pointer (some ⟨t, 0, none⟩)) ∧ Hid (TP w2 t (tr []) (fun j => j < w.heap.size) ∧ Below w.heap.size w w2) :=
  (new_tp w1).mono (fun e w2 h => ⟨_, h.1, hid ⟨h.2.1.mono (fun j hj => Nat.lt_of_lt_of_le hj hb.size), hb.trans (h.2.2.mono hb.size)⟩⟩)

/-- One more move. -/
theorem tmove_any {w W : World} {t : Nat} {L : List Mv} {m : Mv} (h : TP W t (tr L) (fun j => j < w.heap.size) ∧ Below w.heap.size w W) (hm : m.Fits) (hs : L.length < 900) :
    Calls Try.prog 12 #[.pointer (some ⟨t, 0, none⟩), dv m.id, .int .i64 m.time, dv m.block, dv m.parent, .string m.key] W fun e W' => e = .returned (.int .i64 (mvE (tr L) m)) ∧ Hid (TP W' t (tr (L ++ [m])) (fun j => j < w.heap.size) ∧ Below w.heap.size w W') := by
  refine (move_tp m h.1 ⟨hm.id, hm.block, hm.parent⟩ (by have := tr_len L; omega)).mono ?_
  rintro e W' ⟨e1, h2, h3⟩
  rw [tr_snoc]
  exact ⟨e1, hid ⟨h2, h.2.trans (KP.bel h3)⟩⟩

/-- Cells of a dot in a row. -/
theorem PS.look {w : World} {a : Option Addr} {n c : Nat} {L : List Dt} (h : PS w a n c L) {k : Nat} {d1 d2 : Int} (hk : L[k]? = some (d1, d2)) : ∃ g o, a = some ⟨g, o, Option.none⟩ ∧ g < w.heap.size ∧ k < n ∧ ∀ V : World, V.heap[g]? = w.heap[g]? → V.cell? ⟨g, o + k * 2, Option.none⟩ = some (.int .i64 d1) ∧ V.cell? ⟨g, o + k * 2 + 1, Option.none⟩ = some (.int .i64 d2) := by
  have hkl := (List.getElem?_eq_some_iff.1 hk).1
  obtain ⟨g, o, e, hg, hx⟩ := h.at (by have := h.len; omega)
  refine ⟨g, o, e, hg, by have := h.len; omega, fun V hV => ?_⟩
  have := hx k hkl
  rw [(List.getElem?_eq_some_iff.1 hk).2] at this
  simp only [World.cell?] at this ⊢
  rw [hV]
  exact this

theorem PS.same {w w' : World} {a : Option Addr} {n c : Nat} {L : List Dt} (h : PS w a n c L) (hk : ∀ ad, a = some ad → w'.heap[ad.block]? = w.heap[ad.block]?) : PS w' a n c L :=
  ⟨h.len, h.cap, h.max, h.nil, fun ad ha j u hj => by
    have := h.cells ad ha j u hj
    have hb : (ad.add j).block = ad.block := by unfold Addr.add; split <;> rfl
    simp only [World.cell?] at this ⊢
    rw [hb] at this ⊢
    rw [hk ad ha]
    exact this⟩
end

section
set_option linter.unusedVariables false
open Go.RowKit
open Go.Sort (grow)

set_option maxHeartbeats 2000000 in
theorem fsame_drew (a : Option Addr) (n c : Nat) (L : List Dt) (a' : Option Addr) (n' c' : Nat) (M : List Dt) (w : World) (hs : PS w a n c L) (hs' : PS w a' n' c' M) (hn : n ≤ 9223372036854775807) (hn' : n' ≤ 9223372036854775807) :
    Calls Try.prog 15 #[.slice a n c, .slice a' n' c'] w fun e w' => e = .returned (.bool (decide (L = M))) ∧ ∃ q, w' = w.drewN q := by
  have mixed := mixed
  have hl := hs.len
  have hl' := hs'.len
  by_cases hnn : n = n'
  · subst hnn
    go_enter Try.func15, Try.ntmps15
    go_wp2
    have HL := hid hl
    have HL' := hid hl'
    clear hl hl'
    go_loopw [5] (fun i wr => ∃ k : Nat, k ≤ n ∧ i = .int .i64 k ∧ L.take k = M.take k ∧ ∃ q, wr = w.drewN q) (fun i _ => n - (intOf i).toNat)
    case atStart => exact ⟨0, by omega, rfl, by simp, 0, rfl⟩
    case round =>
      obtain ⟨k, hk, rfl, htk0, hw0⟩ := hrel
      have hW := hid hw0
      clear hw0
      have htk := hid htk0
      clear htk0
      by_cases hlt : k < n
      · have hl := HL.out
        have hl' := HL'.out
        have hs1 : PS wr a n c L := by obtain ⟨q, hq⟩ := hW.out; rw [hq]; exact hs.drewN q
        have hs1' : PS wr a' n c' M := by obtain ⟨q, hq⟩ := hW.out; rw [hq]; exact hs'.drewN q
        obtain ⟨g, o, rfl, hg, hcell⟩ := hs1.at (by omega)
        obtain ⟨g', o', rfl, hg', hcell'⟩ := hs1'.at (by omega)
        obtain ⟨hc0, hc1⟩ := hcell k (by omega)
        obtain ⟨hd0, hd1⟩ := hcell' k (by omega)
        have hts : Hid _ := hid (take_snoc (L := L) (k := k) (by omega))
        have hts' : Hid _ := hid (take_snoc (L := M) (k := k) (by omega))
        have hLk : Hid _ := hid (List.getElem?_eq_getElem (l := L) (i := k) (by omega))
        have hMk : Hid _ := hid (List.getElem?_eq_getElem (l := M) (i := k) (by omega))
        generalize (L[k]'(by omega)) = d at hc0 hc1 hts hLk
        generalize (M[k]'(by omega)) = e at hd0 hd1 hts' hMk
        clear hs hs' hcell hcell' hl hl' hs1 hs1'
        obtain ⟨d1, d2⟩ := d
        obtain ⟨e1, e2⟩ := e
        have C0 : ∀ m, (wr.drewN m).cell? ⟨g, o + k * 2, none⟩ = some (.int .i64 d1) := fun _ => hc0
        have C1 : ∀ m, (wr.drewN m).cell? ⟨g, o + k * 2 + 1, none⟩ = some (.int .i64 d2) := fun _ => hc1
        have E0 : ∀ m, (wr.drewN m).cell? ⟨g', o' + k * 2, none⟩ = some (.int .i64 e1) := fun _ => hd0
        have E1 : ∀ m, (wr.drewN m).cell? ⟨g', o' + k * 2 + 1, none⟩ = some (.int .i64 e2) := fun _ => hd1
        have hk1 : (k : Int) < (n : Int) := by omega
        have hk0 : (0 : Int) ≤ (k : Int) := by omega
        by_cases h1 : d1 = e1
        · subst h1
          by_cases h2 : d2 = e2
          · subst h2
            go_wp2_with fail
            go_quiet (fail)
            go_wp2
            go_roundw
            case rel => exact ⟨k + 1, by omega, by go_num, by rw [hts.out, hts'.out, htk.out], drew_more hW.out _⟩
            case measure => simp [intOf]; omega
          · go_wp2_with fail
            go_quiet (fail)
            go_wp2
            go_ret
            refine ⟨?_, drew_more hW.out _⟩
            have : L ≠ M := fun e => by
              have h := hLk.out
              rw [e, hMk.out] at h
              simp at h
              exact h2 h.symm
            simp [this]
        · go_wp2_with fail
          go_quiet (fail)
          go_wp2
          go_ret
          refine ⟨?_, drew_more hW.out _⟩
          have : L ≠ M := fun e => by
            have h := hLk.out
            rw [e, hMk.out] at h
            simp at h
            exact h1 h.1.symm
          simp [this]
      · obtain rfl : k = n := by omega
        go_wp2
        go_ret
        have h := htk.out
        rw [List.take_of_length_le (by rw [HL.out]; exact Nat.le_refl _), List.take_of_length_le (by rw [HL'.out]; exact Nat.le_refl _)] at h
        exact ⟨by simp [h], hW.out⟩
  · have hz : L ≠ M := fun e => hnn (by rw [← hl, ← hl', e])
    clear hl hl' hs hs'
    go_enter Try.func15, Try.ntmps15
    go_wp2
    go_ret
    exact ⟨by simp [hz], 0, rfl⟩


theorem fsame_any {a a' : Option Addr} {n c n' c' : Nat} {L M : List Dt} {w : World} (hs : PS w a n c L) (hn : n ≤ 9223372036854775807) (hs' : PS w a' n' c' M) (hn' : n' ≤ 9223372036854775807) : Calls Try.prog 15 #[.slice a n c, .slice a' n' c'] w fun e w' => e = .returned (.bool (decide (L = M))) ∧ Below w.heap.size w w' :=
  (fsame_drew a n c L a' n' c' M w hs hs' hn hn').mono fun _ _ ⟨he, hw⟩ => ⟨he, (far_of_drew hw).below⟩

end
end Go.Proofs.Ytplcohjpchfkkaa
