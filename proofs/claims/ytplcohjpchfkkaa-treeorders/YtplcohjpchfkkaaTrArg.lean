/- What came in: moves, numbers. -/
import Derived.Test.YtplcohjpchfkkaaOLess
import Derived.Test.YtplcohjpchfkkaaRows
import Derived.Deep.SlicePairs
import Derived.ProofKit
import Derived.OpenShut
import Derived.Test.YtplcohjpchfkkaaTrLog
import Derived.Test.YtplcohjpchfkkaaVBase
import Derived.Lib.SmallJoins
namespace Go.Proofs.Ytplcohjpchfkkaa
section
open Go.RowKit

theorem dotCells : Try.prog.cellsOf 24 = 2 := by kernel_rfl
theorem intCells : Try.prog.cellsOf 3 = 1 := by kernel_rfl

theorem flat_map_get (f : Nat → Dt) (len : Nat) (j : Nat) (u : Value) (h : (flat ((List.range len).map f))[j]? = some u) : j < len * 2 ∧ ((j = j / 2 * 2 ∧ u = .int .i64 (f (j / 2)).1) ∨ (j = j / 2 * 2 + 1 ∧ u = .int .i64 (f (j / 2)).2)) := by
  have hj : j < len * 2 := by
    rcases Nat.lt_or_ge j (len * 2) with h' | h'
    · exact h'
    · rw [List.getElem?_eq_none (by rw [flat_length]; simpa using h')] at h; cases h
  refine ⟨hj, ?_⟩
  obtain ⟨f1, f2⟩ := flat_get ((List.range len).map f) (j / 2) (by simp; omega)
  rcases Nat.mod_two_eq_zero_or_one j with hm | hm
  · left
    have e : j = j / 2 * 2 := by omega
    refine ⟨e, ?_⟩
    rw [e] at h
    rw [f1] at h
    simpa using h.symm
  · right
    have e : j = j / 2 * 2 + 1 := by omega
    refine ⟨e, ?_⟩
    rw [e] at h
    rw [f2] at h
    simpa using h.symm

theorem open_dots {H : Type} {enc : TypeId × Value → H} {W : World} {a : Option Addr} {len cap : Nat} {d : DataW H} {p : List MemPlace} (h : DataW.Trod enc Try.prog W 0 (fun _ => true) true 29 (.slice a len cap) d p) :
    ∃ L, PS W a len cap L ∧ Dws L := by
  obtain ⟨fuel, hf⟩ := h
  rcases Go.Deep.open_slice_pairs Try.underlying29 Try.underlying24 dotCells rfl rfl intCells intCells hf with ⟨hcs, _⟩ | ⟨x, l, c, m, n, V0, V1, D0, D1, P0, P1, hcs, _, hl, hm, hmm, _, hx⟩
  · simp [Value.cells] at hcs
    obtain ⟨rfl, rfl, rfl⟩ := hcs
    exact ⟨[], PS.none W, fun d hd => by simp at hd⟩
  · simp [Value.cells] at hcs
    obtain ⟨rfl, rfl, rfl⟩ := hcs
    simp at hmm
    subst hmm
    have each : ∀ i, i < m → ∃ q : Dt, W.cell? (x.add (i * 2)) = some (.int .i64 q.1) ∧ W.cell? (x.add (i * 2 + 1)) = some (.int .i64 q.2) ∧ Dw q := by
      intro i hi
      obtain ⟨h0, h1, t0, t1⟩ := hx i hi
      obtain ⟨n0, e0, _, w0⟩ := DataW.trod_int Try.underlying3 t0
      obtain ⟨n1, e1, _, w1⟩ := DataW.trod_int Try.underlying3 t1
      simp at e0 e1
      rw [e0] at h0
      rw [e1] at h1
      exact ⟨(n0, n1), h0, h1, w0, w1⟩
    obtain ⟨f, hf⟩ := Go.Deep.choose_lt each
    refine ⟨(List.range len).map f, ⟨by simp, hl, hm, fun h => by simp at h, fun ad ha j u hj => ?_⟩, fun d hd => ?_⟩
    · cases ha
      obtain ⟨hj2, hc⟩ := flat_map_get f len j u hj
      have := hf (j / 2) (by omega)
      rcases hc with ⟨e, rfl⟩ | ⟨e, rfl⟩
      · rw [e, show j / 2 * 2 / 2 = j / 2 by omega]; exact this.1
      · rw [e, show (j / 2 * 2 + 1) / 2 = j / 2 by omega]; exact this.2.1
    · obtain ⟨i, hi, rfl⟩ := List.mem_map.1 hd
      exact (hf i (by have := List.mem_range.1 hi; omega)).2.2

end

section
set_option linter.unusedVariables false
open Go.RowKit

def Mv.cells (x : Mv) : List Value := [.int .i64 x.id.1, .int .i64 x.id.2, .int .i64 x.time, .int .i64 x.block.1, .int .i64 x.block.2, .int .i64 x.parent.1, .int .i64 x.parent.2, .string x.key]

def T64 (n : Int) : Prop := -9223372036854775808 ≤ n ∧ n ≤ 9223372036854775807
theorem t64_wf {n : Int} (h : (Lit.int .i64 n).wf = true) : T64 n := by
  simp [Lit.wf] at h
  unfold T64
  exact h

structure Mv.Fits (x : Mv) : Prop where
  id : Dw x.id
  time : T64 x.time
  block : Dw x.block
  parent : Dw x.parent
  key : x.key.data.size ≤ maxLen

/-- A slice of moves. -/
structure MvS (w : World) (a : Option Addr) (n c : Nat) (L : List Mv) : Prop where
  len : L.length = n
  cap : n ≤ c
  max : c ≤ maxLen
  nil : a = none → n = 0 ∧ c = 0
  at_ : 0 < n → ∃ g o, a = some ⟨g, o, none⟩ ∧ g < w.heap.size ∧ ∀ i (hi : i < L.length) (j : Nat) (u : Value), (L[i]).cells[j]? = some u → w.cell? ⟨g, o + i * 8 + j, none⟩ = some u

theorem MvS.same {w w' : World} {a : Option Addr} {n c : Nat} {L : List Mv} (h : MvS w a n c L) (hz : w.heap.size ≤ w'.heap.size) (hb : ∀ ad, a = some ad → w'.heap[ad.block]? = w.heap[ad.block]?) : MvS w' a n c L :=
  ⟨h.len, h.cap, h.max, h.nil, fun hp => by
    obtain ⟨g, o, e, hg, hx⟩ := h.at_ hp
    refine ⟨g, o, e, Nat.lt_of_lt_of_le hg hz, fun i hi j u hj => ?_⟩
    have := hx i hi j u hj
    simp only [World.cell?] at this ⊢
    rw [hb _ e]
    exact this⟩

theorem tadd_none (g o k : Nat) : (⟨g, o, none⟩ : Addr).add k = ⟨g, o + k, none⟩ := by unfold Addr.add; split <;> simp_all

section
open Go.ChangeShapes Go.WideShapes
variable {H : Type} {enc : TypeId × Value → H} {P : Program} {w : World} {base : Nat} {spare : Nat → Bool} {held : Bool}

theorem open_mvl {tM tDot tInt tStr : TypeId} {fs : Array Field} {g0 g1 : Field} {L : List Value} {fuel : Nat} {x : DataW H × List MemPlace}
    (hO : P.underlying tM = some (.struct fs)) (hF : fs.toList.map (fun f => (f.type, f.offset)) = [(tDot, 0), (tInt, 2), (tDot, 3), (tDot, 5), (tStr, 7)])
    (hD : P.underlying tDot = some (.struct #[g0, g1])) (hg : g0.type = tInt ∧ g0.offset = 0 ∧ g1.type = tInt ∧ g1.offset = 1)
    (hI : P.underlying tInt = some (.int .i64)) (hS : P.underlying tStr = some .string) (cO : P.cellsOf tM = 8) (cD : P.cellsOf tDot = 2) (cI : P.cellsOf tInt = 1) (cS : P.cellsOf tStr = 1)
    (hf : DataW.trod enc P w base spare held fuel tM L = some x) :
    ∃ m : Mv, L = m.cells ∧ m.Fits := by
  obtain ⟨xs, n, _, hx, hl, hlen, hq⟩ := DataW.trod_struct hO hf
  have F := fun i t o hi => fld (enc := enc) (w := w) (base := base) (spare := spare) (held := held) hF hlen hq i (t := t) (o := o) hi
  obtain ⟨y0, f0, _⟩ := F 0 _ _ rfl
  obtain ⟨y1, f1, _⟩ := F 1 _ _ rfl
  obtain ⟨y2, f2, _⟩ := F 2 _ _ rfl
  obtain ⟨y3, f3, _⟩ := F 3 _ _ rfl
  obtain ⟨y4, f4, _⟩ := F 4 _ _ rfl
  rw [cI] at f1
  rw [cD] at f0 f2 f3
  rw [cS] at f4
  obtain ⟨a0, s0, e0, u0, v0, _⟩ := dot_part hD hg hI cI f0
  obtain ⟨z1, e1, _, u1⟩ := DataW.trod_int hI f1
  obtain ⟨a2, s2, e2, u2, v2, _⟩ := dot_part hD hg hI cI f2
  obtain ⟨a3, s3, e3, u3, v3, _⟩ := dot_part hD hg hI cI f3
  obtain ⟨k, e4, _, u4⟩ := DataW.trod_string hS f4
  refine ⟨⟨(a0, s0), z1, (a2, s2), (a3, s3), k⟩, ?_, ⟨⟨u0, v0⟩, t64_wf u1, ⟨u2, v2⟩, ⟨u3, v3⟩, u4⟩⟩
  have p0 := part_two e0
  have p1 := part_one e1
  have p2 := part_two e2
  have p3 := part_two e3
  have p4 := part_one e4
  rw [cO] at hl
  apply List.ext_getElem?
  intro i
  match i with
  | 0 => exact p0.1
  | 1 => exact p0.2
  | 2 => exact p1
  | 3 => exact p2.1
  | 4 => exact p2.2
  | 5 => exact p3.1
  | 6 => exact p3.2
  | 7 => exact p4
  | i + 8 => rw [List.getElem?_eq_none (by omega), List.getElem?_eq_none (by simp [Mv.cells])]
end

theorem cellsMv : Try.prog.cellsOf 33 = 8 := by kernel_rfl
theorem tcells9 : Try.prog.cellsOf 9 = 1 := by kernel_rfl

set_option maxRecDepth 100000 in
theorem open_moves {H : Type} {enc : TypeId × Value → H} {W : World} {a : Option Addr} {len cap : Nat} {d : DataW H} {p : List MemPlace} (h : DataW.Trod enc Try.prog W 0 (fun _ => true) true 22 (.slice a len cap) d p) :
    ∃ L, MvS W a len cap L ∧ ∀ m ∈ L, m.Fits := by
  obtain ⟨fuel, hf⟩ := h
  rcases Go.Deep.open_slice Try.underlying22 hf with ⟨hcs, _⟩ | ⟨x, l, c, m, n, D, Pl, hcs, _, hl, hm, hmm, _, hx⟩
  · simp [Value.cells] at hcs
    obtain ⟨rfl, rfl, rfl⟩ := hcs
    exact ⟨[], ⟨rfl, Nat.le_refl _, Nat.zero_le _, fun _ => ⟨rfl, rfl⟩, fun h => absurd h (by omega)⟩, fun x hx => by simp at hx⟩
  · simp [Value.cells] at hcs
    obtain ⟨rfl, rfl, rfl⟩ := hcs
    have hlm : len ≤ m := by rw [hmm]; split <;> omega
    have each : ∀ i, i < m → ∃ y : Mv, (∀ j u, y.cells[j]? = some u → W.cell? ((x.add (i * 8)).add j) = some u) ∧ y.Fits := by
      intro i hi
      obtain ⟨cs, h1, h2⟩ := hx i hi
      rw [cellsMv] at h1
      obtain ⟨_, hlen, hcell⟩ := World.cells?_some h1
      obtain ⟨y, rfl, hfit⟩ := open_mvl Try.underlying33 rfl Try.underlying24 ⟨rfl, rfl, rfl, rfl⟩ Try.underlying3 Try.underlying9 cellsMv dotCells intCells tcells9 h2
      refine ⟨y, fun j u hj => ?_, hfit⟩
      have hj8 : j < 8 := by
        rcases Nat.lt_or_ge j 8 with h' | h'
        · exact h'
        · rw [List.getElem?_eq_none (by simpa [Mv.cells] using h')] at hj; cases hj
      have := hcell j hj8
      rw [this]
      exact hj
    haveI : Inhabited Mv := ⟨⟨(0, 0), 0, (0, 0), (0, 0), ByteArray.empty⟩⟩
    obtain ⟨q, hq⟩ := Go.Deep.choose_lt each
    refine ⟨(List.range len).map q, ⟨by simp, hl, hm, (fun e => by cases e), fun hp => ?_⟩, fun y hy => ?_⟩
    · obtain ⟨g, o, sp⟩ := x
      have h0 := (hq 0 (by omega)).1 0 (.int .i64 (q 0).id.1) rfl
      have hs : sp = none := by simpa [Addr.add] using World.cell?_spot h0
      subst hs
      refine ⟨g, o, rfl, by have := cell_in h0; simpa [Addr.add] using this, fun i hi j u hj => ?_⟩
      have hil : i < len := by simpa using hi
      have hi' := (hq i (by omega)).1
      rw [List.getElem_map, List.getElem_range] at hj
      have := hi' j u hj
      rw [tadd_none, tadd_none] at this
      exact this
    · obtain ⟨i, hi, rfl⟩ := List.mem_map.1 hy
      exact (hq i (by have := List.mem_range.1 hi; omega)).2
end
end Go.Proofs.Ytplcohjpchfkkaa
