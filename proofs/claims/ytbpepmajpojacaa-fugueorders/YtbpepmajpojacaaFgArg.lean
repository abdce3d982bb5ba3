/- What came in: what is done to a text, raw; numbers. -/
import Derived.Test.YtbpepmajpojacaaVArg
import Derived.Test.YtbpepmajpojacaaVMath
import Derived.Test.YtbpepmajpojacaaSMath
import Derived.Test.YtbpepmajpojacaaRows
import Derived.ProofKit
import Derived.OpenShut
import Derived.Deep.SlicePairs
import Derived.Lib.SmallJoins
namespace Go.Proofs.Ytbpepmajpojacaa
open Go.RowKit

/-- Something that is done to a text. -/
structure Fo where
  kind : Int
  i0 : Int
  i1 : Int
  a0 : Int
  a1 : Int
  side : Int
  char : Int

def Fo.id (x : Fo) : Dt := (x.i0, x.i1)
def Fo.at_ (x : Fo) : Dt := (x.a0, x.a1)
def Fo.cells (x : Fo) : Array Value := #[.int .i64 x.kind, .int .i64 x.i0, .int .i64 x.i1, .int .i64 x.a0, .int .i64 x.a1, .int .i64 x.side, .int .i64 x.char]

structure Fo.Fits (x : Fo) : Prop where
  kind : (Lit.int .i64 x.kind).wf = true
  id : Dw x.id
  at_ : Dw x.at_
  side : (Lit.int .i64 x.side).wf = true
  char : (Lit.int .i64 x.char).wf = true

theorem i64_wf {n : Int} (h : (Lit.int .i64 n).wf = true) : I64 n := by
  simp [Lit.wf] at h
  unfold I64
  exact h

/-- A slice of such. -/
structure FoS (w : World) (a : Option Addr) (n c : Nat) (L : List Fo) : Prop where
  len : L.length = n
  cap : n ≤ c
  max : c ≤ maxLen
  at_ : 0 < n → ∃ g o, a = some ⟨g, o, none⟩ ∧ g < w.heap.size ∧ ∀ i (hi : i < L.length) (j : Nat) (u : Value), (L[i]).cells.toList[j]? = some u → w.cell? ⟨g, o + i * 7 + j, none⟩ = some u

theorem FoS.below {w w' : World} {a : Option Addr} {n c : Nat} {L : List Fo} (h : FoS w a n c L) (hb : Below w.heap.size w w') : FoS w' a n c L :=
  ⟨h.len, h.cap, h.max, fun hp => by
    obtain ⟨g, o, e, hg, hx⟩ := h.at_ hp
    exact ⟨g, o, e, Nat.lt_of_lt_of_le hg hb.size, fun i hi j u hj => by rw [hb.cell (p := ⟨g, o + i * 7 + j, none⟩) hg]; exact hx i hi j u hj⟩⟩

theorem fadd_none (g o k : Nat) : (⟨g, o, none⟩ : Addr).add k = ⟨g, o + k, none⟩ := by unfold Addr.add; split <;> simp_all

section
open Go.ChangeShapes Go.WideShapes
variable {H : Type} {enc : TypeId × Value → H} {P : Program} {w : World} {base : Nat} {spare : Nat → Bool} {held : Bool}

theorem open_acl {tM tDot tInt : TypeId} {fs : Array Field} {g0 g1 : Field} {L : List Value} {fuel : Nat} {x : DataW H × List MemPlace}
    (hO : P.underlying tM = some (.struct fs)) (hF : fs.toList.map (fun f => (f.type, f.offset)) = [(tInt, 0), (tDot, 1), (tDot, 3), (tInt, 5), (tInt, 6)])
    (hD : P.underlying tDot = some (.struct #[g0, g1])) (hg : g0.type = tInt ∧ g0.offset = 0 ∧ g1.type = tInt ∧ g1.offset = 1)
    (hI : P.underlying tInt = some (.int .i64)) (cO : P.cellsOf tM = 7) (cD : P.cellsOf tDot = 2) (cI : P.cellsOf tInt = 1)
    (hf : DataW.trod enc P w base spare held fuel tM L = some x) :
    ∃ m : Fo, L = m.cells.toList ∧ m.Fits := by
  obtain ⟨xs, n, _, hx, hl, hlen, hq⟩ := DataW.trod_struct hO hf
  have F := fun i t o hi => fld (enc := enc) (w := w) (base := base) (spare := spare) (held := held) hF hlen hq i (t := t) (o := o) hi
  obtain ⟨y0, f0, _⟩ := F 0 _ _ rfl
  obtain ⟨y1, f1, _⟩ := F 1 _ _ rfl
  obtain ⟨y2, f2, _⟩ := F 2 _ _ rfl
  obtain ⟨y3, f3, _⟩ := F 3 _ _ rfl
  obtain ⟨y4, f4, _⟩ := F 4 _ _ rfl
  rw [cI] at f0 f3 f4
  rw [cD] at f1 f2
  obtain ⟨z0, e0, _, u0⟩ := DataW.trod_int hI f0
  obtain ⟨a1, s1, e1, u1, v1, _⟩ := dot_part hD hg hI cI f1
  obtain ⟨a2, s2, e2, u2, v2, _⟩ := dot_part hD hg hI cI f2
  obtain ⟨z3, e3, _, u3⟩ := DataW.trod_int hI f3
  obtain ⟨z4, e4, _, u4⟩ := DataW.trod_int hI f4
  refine ⟨⟨z0, a1, s1, a2, s2, z3, z4⟩, ?_, ⟨u0, ⟨u1, v1⟩, ⟨u2, v2⟩, u3, u4⟩⟩
  have p0 := part_one e0
  have p1 := part_two e1
  have p2 := part_two e2
  have p3 := part_one e3
  have p4 := part_one e4
  rw [cO] at hl
  apply List.ext_getElem?
  intro i
  match i with
  | 0 => exact p0
  | 1 => exact p1.1
  | 2 => exact p1.2
  | 3 => exact p2.1
  | 4 => exact p2.2
  | 5 => exact p3
  | 6 => exact p4
  | i + 7 => rw [List.getElem?_eq_none (by omega), List.getElem?_eq_none (by simp [Fo.cells])]

theorem open_ac {r : Reach} {b0 : Nat} {tM tDot tInt : TypeId} {fs : Array Field} {g0 g1 : Field} {v : Value} {d : DataW H} {p : List MemPlace}
    (hO : P.underlying tM = some (.struct fs)) (hF : fs.toList.map (fun f => (f.type, f.offset)) = [(tInt, 0), (tDot, 1), (tDot, 3), (tInt, 5), (tInt, 6)])
    (hD : P.underlying tDot = some (.struct #[g0, g1])) (hg : g0.type = tInt ∧ g0.offset = 0 ∧ g1.type = tInt ∧ g1.offset = 1)
    (hI : P.underlying tInt = some (.int .i64)) (cO : P.cellsOf tM = 7) (cD : P.cellsOf tDot = 2) (cI : P.cellsOf tInt = 1)
    (hv : Value.okWide P w r b0 tM v) (h : DataW.Trod enc P w base spare held tM v d p) : ∃ m : Fo, v = .agg m.cells ∧ m.Fits := by
  obtain ⟨cs, rfl, hsz⟩ := okWide_struct hO hv
  obtain ⟨fuel, hf⟩ := h
  obtain ⟨m, e, hm⟩ := open_acl hO hF hD hg hI cO cD cI hf
  have hc : (Value.agg cs).cells.toList = cs.toList := by simp [Value.cells]
  rw [hc] at e
  exact ⟨m, by congr 1; exact Array.ext' e, hm⟩
end

theorem cellsAc : Try.prog.cellsOf 32 = 7 := by kernel_rfl

set_option maxRecDepth 100000 in
theorem open_act {H : Type} {enc : TypeId × Value → H} {W : World} {r : Reach} {b0 : Nat} {v : Value} {d : DataW H} {p : List MemPlace} (hv : Value.okWide Try.prog W r b0 32 v) (h : DataW.Trod enc Try.prog W 0 (fun _ => true) true 32 v d p) :
    ∃ m : Fo, v = .agg m.cells ∧ m.Fits := open_ac Try.underlying32 rfl Try.underlying24 ⟨rfl, rfl, rfl, rfl⟩ Try.underlying3 cellsAc dotCells intCells hv h

set_option maxRecDepth 100000 in
theorem open_acts {H : Type} {enc : TypeId × Value → H} {W : World} {a : Option Addr} {len cap : Nat} {d : DataW H} {p : List MemPlace} (h : DataW.Trod enc Try.prog W 0 (fun _ => true) true 22 (.slice a len cap) d p) :
    ∃ L, FoS W a len cap L ∧ ∀ m ∈ L, m.Fits := by
  obtain ⟨fuel, hf⟩ := h
  rcases Go.Deep.open_slice Try.underlying22 hf with ⟨hcs, _⟩ | ⟨x, l, c, m, n, D, Pl, hcs, _, hl, hm, hmm, _, hx⟩
  · simp [Value.cells] at hcs
    obtain ⟨rfl, rfl, rfl⟩ := hcs
    exact ⟨[], ⟨rfl, Nat.le_refl _, Nat.zero_le _, fun h => absurd h (by omega)⟩, fun x hx => by simp at hx⟩
  · simp [Value.cells] at hcs
    obtain ⟨rfl, rfl, rfl⟩ := hcs
    have hlm : len ≤ m := by rw [hmm]; split <;> omega
    have each : ∀ i, i < m → ∃ y : Fo, (∀ j u, y.cells.toList[j]? = some u → W.cell? ((x.add (i * 7)).add j) = some u) ∧ y.Fits := by
      intro i hi
      obtain ⟨cs, h1, h2⟩ := hx i hi
      rw [cellsAc] at h1
      obtain ⟨_, hlen, hcell⟩ := World.cells?_some h1
      obtain ⟨y, rfl, hfit⟩ := open_acl Try.underlying32 rfl Try.underlying24 ⟨rfl, rfl, rfl, rfl⟩ Try.underlying3 cellsAc dotCells intCells h2
      refine ⟨y, fun j u hj => ?_, hfit⟩
      have hj7 : j < 7 := by
        rcases Nat.lt_or_ge j 7 with h' | h'
        · exact h'
        · rw [List.getElem?_eq_none (by simpa [Fo.cells] using h')] at hj; cases hj
      have := hcell j hj7
      rw [this]
      exact hj
    haveI : Inhabited Fo := ⟨⟨0, 0, 0, 0, 0, 0, 0⟩⟩
    obtain ⟨q, hq⟩ := Go.Deep.choose_lt each
    refine ⟨(List.range len).map q, ⟨by simp, hl, hm, fun hp => ?_⟩, fun y hy => ?_⟩
    · obtain ⟨g, o, sp⟩ := x
      have h0 := (hq 0 (by omega)).1 0 (.int .i64 (q 0).kind) rfl
      have hs : sp = none := by simpa [Addr.add] using World.cell?_spot h0
      subst hs
      refine ⟨g, o, rfl, by have := cell_in h0; simpa [Addr.add] using this, fun i hi j u hj => ?_⟩
      have hil : i < len := by simpa using hi
      have hi' := (hq i (by omega)).1
      rw [List.getElem_map, List.getElem_range] at hj
      have := hi' j u hj
      rw [fadd_none, fadd_none] at this
      exact this
    · obtain ⟨i, hi, rfl⟩ := List.mem_map.1 hy
      exact (hq i (by have := List.mem_range.1 hi; omega)).2

/-- Numbers that came in. -/
structure NumS (w : World) (a : Option Addr) (n c : Nat) (L : List Int) : Prop where
  len : L.length = n
  cap : n ≤ c
  max : c ≤ maxLen
  i64 : ∀ x ∈ L, I64 x
  at_ : 0 < n → ∃ g o, a = some ⟨g, o, none⟩ ∧ g < w.heap.size ∧ ∀ i (hi : i < L.length), w.cell? ⟨g, o + i, none⟩ = some (.int .i64 L[i])

theorem NumS.below {w w' : World} {a : Option Addr} {n c : Nat} {L : List Int} (h : NumS w a n c L) (hb : Below w.heap.size w w') : NumS w' a n c L :=
  ⟨h.len, h.cap, h.max, h.i64, fun hp => by
    obtain ⟨g, o, e, hg, hx⟩ := h.at_ hp
    exact ⟨g, o, e, Nat.lt_of_lt_of_le hg hb.size, fun i hi => by rw [hb.cell (p := ⟨g, o + i, none⟩) hg]; exact hx i hi⟩⟩

set_option maxRecDepth 100000 in
theorem open_numS {H : Type} {enc : TypeId × Value → H} {W : World} {a : Option Addr} {len cap : Nat} {d : DataW H} {p : List MemPlace} (h : DataW.Trod enc Try.prog W 0 (fun _ => true) true 45 (.slice a len cap) d p) :
    ∃ z, NumS W a len cap z := by
  obtain ⟨fuel, hf⟩ := h
  rcases Go.ChangeShapes.open_ints Try.underlying45 Try.underlying3 (by kernel_rfl) hf with ⟨hcs, _⟩ | ⟨x, l, c, zs, hcs, _, hl, hm, hz, _, hcell, hwz⟩
  · simp [Value.cells] at hcs
    obtain ⟨rfl, rfl, rfl⟩ := hcs
    exact ⟨[], rfl, Nat.le_refl _, Nat.zero_le _, by simp, fun h => absurd h (by omega)⟩
  · simp [Value.cells] at hcs
    obtain ⟨rfl, rfl, rfl⟩ := hcs
    have hz' : zs.length = cap := by simpa using hz
    refine ⟨zs.take len, by rw [List.length_take]; omega, hl, hm, ?_, fun hp => ?_⟩
    · intro y hy
      exact i64_wf (hwz y (List.mem_of_mem_take hy))
    obtain ⟨g, o, sp⟩ := x
    have h0 := hcell 0 (by omega)
    have hs : sp = none := by simpa [Addr.add] using World.cell?_spot h0
    subst hs
    refine ⟨g, o, rfl, by have := cell_in h0; simpa [Addr.add] using this, fun i hi => ?_⟩
    have hil : i < zs.length := by rw [List.length_take] at hi; omega
    have := hcell i (by omega)
    rw [fadd_none] at this
    rw [List.getElem_take]
    simpa [List.getD, List.getElem?_eq_getElem hil] using this

end Go.Proofs.Ytbpepmajpojacaa
