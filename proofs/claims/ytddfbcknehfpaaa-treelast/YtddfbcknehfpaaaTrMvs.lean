/- Moves that came in, as they are read; a tree that is made; one more move. -/
import Derived.Test.YtddfbcknehfpaaaTrTr
import Derived.Test.YtddfbcknehfpaaaTrArg
import Derived.Test.YtddfbcknehfpaaaTrAwake
set_option linter.unusedVariables false
namespace Go.Proofs.Ytddfbcknehfpaaa
open Go.RowKit

theorem MvS.look {w : World} {a : Option Addr} {n c : Nat} {L : List Mv} (h : MvS w a n c L) {k : Nat} {i1 i2 tm b1 b2 p1 p2 : Int} {ky : ByteArray} (hk : L[k]? = some (⟨(i1, i2), tm, (b1, b2), (p1, p2), ky⟩ : Mv)) : ∃ g o, a = some ⟨g, o, none⟩ ∧ g < w.heap.size ∧ ∀ V : World, V.heap[g]? = w.heap[g]? → (V.cell? ⟨g, o + k * 8, none⟩ = some (.int .i64 i1) ∧ V.cell? ⟨g, o + k * 8 + 1, none⟩ = some (.int .i64 i2) ∧ V.cell? ⟨g, o + k * 8 + 2, none⟩ = some (.int .i64 tm) ∧ V.cell? ⟨g, o + k * 8 + 3, none⟩ = some (.int .i64 b1) ∧ V.cell? ⟨g, o + k * 8 + 4, none⟩ = some (.int .i64 b2) ∧ V.cell? ⟨g, o + k * 8 + 5, none⟩ = some (.int .i64 p1) ∧ V.cell? ⟨g, o + k * 8 + 6, none⟩ = some (.int .i64 p2) ∧ V.cell? ⟨g, o + k * 8 + 7, none⟩ = some (.string ky)) := by
  have hkl := (List.getElem?_eq_some_iff.1 hk).1
  obtain ⟨g, o, e, hg, hx⟩ := h.at_ (by have := h.len; omega)
  refine ⟨g, o, e, hg, fun V hV => ?_⟩
  have hc : ∀ j u, ((⟨(i1, i2), tm, (b1, b2), (p1, p2), ky⟩ : Mv)).cells[j]? = some u → V.cell? ⟨g, o + k * 8 + j, none⟩ = some u := fun j u hu => by
    have := hx k hkl j u (by rw [(List.getElem?_eq_some_iff.1 hk).2]; exact hu)
    simp only [World.cell?] at this ⊢
    rw [hV]
    exact this
  exact ⟨hc 0 _ rfl, hc 1 _ rfl, hc 2 _ rfl, hc 3 _ rfl, hc 4 _ rfl, hc 5 _ rfl, hc 6 _ rfl, hc 7 _ rfl⟩

/-- A tree is made, behind what was. -/
theorem tnew_any {w w1 : World} (hb : Below w.heap.size w w1) : Calls Try.prog 10 #[] w1 fun e w2 => ∃ t, e = .returned (.pointer (some ⟨t, 0, none⟩)) ∧ Hid (TP w2 t (tr []) (fun j => j < w.heap.size) ∧ Below w.heap.size w w2) :=
  (new_tp w1).mono (fun e w2 h => ⟨_, h.1, hid ⟨h.2.1.mono (fun j hj => Nat.lt_of_lt_of_le hj hb.size), hb.trans (h.2.2.mono hb.size)⟩⟩)

/-- One more move. -/
theorem tmove_any {w W : World} {t : Nat} {L : List Mv} {m : Mv} (h : TP W t (tr L) (fun j => j < w.heap.size) ∧ Below w.heap.size w W) (hm : m.Fits) (hs : L.length < 900) :
    Calls Try.prog 12 #[.pointer (some ⟨t, 0, none⟩), dv m.id, .int .i64 m.time, dv m.block, dv m.parent, .string m.key] W fun e W' => e = .returned (.int .i64 (mvE (tr L) m)) ∧ Hid (TP W' t (tr (L ++ [m])) (fun j => j < w.heap.size) ∧ Below w.heap.size w W') := by
  refine (move_tp m h.1 ⟨hm.id, hm.block, hm.parent⟩ (by have := tr_len L; omega)).mono ?_
  rintro e W' ⟨e1, h2, h3⟩
  rw [tr_snoc]
  exact ⟨e1, hid ⟨h2, h.2.trans (KP.bel h3)⟩⟩

/-- Cells of a dot in a row. -/
theorem PS.look {w : World} {a : Option Addr} {n c : Nat} {L : List Dt} (h : PS w a n c L) {k : Nat} {d1 d2 : Int} (hk : L[k]? = some (d1, d2)) : ∃ g o, a = some ⟨g, o, Option.none⟩ ∧ g < w.heap.size ∧ k < n ∧ ∀ V : World, V.heap[g]? = w.heap[g]? → V.cell? ⟨g, o + k * 2, Option.none⟩ = some (.int .i64 d1) ∧ V.cell? ⟨g, o + k * 2 + 1, Option.none⟩ = some (.int .i64 d2) := by
  have hkl := (List.getElem?_eq_some_iff.1 hk).1
  obtain ⟨g, o, e, hg, hx⟩ := h.at (by have := h.len; omega)
  refine ⟨g, o, e, hg, by have := h.len; omega, fun V hV => ?_⟩
  have := hx k hkl
  rw [(List.getElem?_eq_some_iff.1 hk).2] at this
  simp only [World.cell?] at this ⊢
  rw [hV]
  exact this

theorem PS.same {w w' : World} {a : Option Addr} {n c : Nat} {L : List Dt} (h : PS w a n c L) (hk : ∀ ad, a = some ad → w'.heap[ad.block]? = w.heap[ad.block]?) : PS w' a n c L :=
  ⟨h.len, h.cap, h.max, h.nil, fun ad ha j u hj => by
    have := h.cells ad ha j u hj
    have hb : (ad.add j).block = ad.block := by unfold Addr.add; split <;> rfl
    simp only [World.cell?] at this ⊢
    rw [hb] at this ⊢
    rw [hk ad ha]
    exact this⟩
end Go.Proofs.Ytddfbcknehfpaaa
