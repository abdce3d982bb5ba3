/- An operation that came in by value: its fourteen cells, each with its reading. No function of the program. -/
import Derived.WalkKit
import Derived.ChangeSame
import Derived.ChangeArms
import Derived.ChangeMaps5
import Derived.WideShapes
import Derived.Lib.SmallJoins
namespace Go.Proofs.Ytbpepmajpojacaa
open Go.ChangeShapes Go.WideShapes

section
variable {H : Type} {enc : TypeId × Value → H} {P : Program} {w : World} {base : Nat} {spare : Nat → Bool} {held : Bool}

/-- Which types an operation's fields have, and where they lie. -/
abbrev opShape (tDot tInt tVec tStr : TypeId) : List (TypeId × Nat) := [(tDot, 0), (tInt, 2), (tVec, 3), (tInt, 4), (tDot, 5), (tDot, 7), (tInt, 9), (tInt, 10), (tDot, 11), (tStr, 13)]

theorem part_one {α : Type} {l : List α} {o : Nat} {x : α} (h : (l.drop o).take 1 = [x]) : l[o]? = some x := by
  have := congrArg (fun k => k[0]?) h
  simpa using this
theorem part_two {α : Type} {l : List α} {o : Nat} {x y : α} (h : (l.drop o).take 2 = [x, y]) : l[o]? = some x ∧ l[o + 1]? = some y := by
  have h0 := congrArg (fun k => k[0]?) h
  have h1 := congrArg (fun k => k[1]?) h
  simp at h0 h1
  exact ⟨h0, h1⟩

theorem field_at {fs : Array Field} {l : List (TypeId × Nat)} (h : fs.toList.map (fun f => (f.type, f.offset)) = l) {i : Nat} {t : TypeId} {o : Nat} (hi : l[i]? = some (t, o)) : ∃ f, fs[i]? = some f ∧ f.type = t ∧ f.offset = o := by
  subst h
  simp only [List.getElem?_map, Option.map_eq_some_iff] at hi
  obtain ⟨f, h1, h2⟩ := hi
  simp only [Prod.mk.injEq] at h2
  exact ⟨f, by simpa using h1, h2.1, h2.2⟩

/-- A dot among the cells. -/
theorem dot_part {tDot tInt : TypeId} {g0 g1 : Field} {n : Nat} {c : List Value} {y : DataW H × List MemPlace} (hD : P.underlying tDot = some (.struct #[g0, g1])) (hg : g0.type = tInt ∧ g0.offset = 0 ∧ g1.type = tInt ∧ g1.offset = 1)
    (hI : P.underlying tInt = some (.int .i64)) (cI : P.cellsOf tInt = 1) (h : DataW.trod enc P w base spare held n tDot (c.take 2) = some y) : ∃ a s : Int, c.take 2 = [.int .i64 a, .int .i64 s] ∧ (Lit.int .i64 a).wf = true ∧ (Lit.int .i64 s).wf = true ∧ y.2 = [] := by
  obtain ⟨y0, y1, m, rfl, hl, h0, h1⟩ := trod_struct2 hD h
  obtain ⟨q1, q2, q3, q4⟩ := hg
  rw [q1, q2, cI] at h0
  rw [q3, q4, cI] at h1
  obtain ⟨a, e0, rfl, w0⟩ := DataW.trod_int hI h0
  obtain ⟨s, e1, rfl, w1⟩ := DataW.trod_int hI h1
  refine ⟨a, s, ?_, w0, w1, rfl⟩
  have p0 := part_one e0
  have p1 := part_one e1
  have hl2 : (c.take 2).length ≤ 2 := by rw [List.length_take]; exact Nat.min_le_left _ _
  match hc : c.take 2 with
  | [] => rw [hc] at p0; simp at p0
  | [x] => rw [hc] at p1; simp at p1
  | [x, z] =>
    rw [hc] at p0 p1
    simp at p0 p1
    rw [p0, p1]
  | x :: z :: u :: r => rw [hc] at hl2; simp at hl2

/-- An operation, as the walks are told of it. -/
structure OpIn where
  id0 : Int
  id1 : Int
  time : Int
  kind : Int
  bl0 : Int
  bl1 : Int
  at0 : Int
  at1 : Int
  side : Int
  char : Int
  pa0 : Int
  pa1 : Int
  key : ByteArray

/-- Its cells, with the value of its Deps. -/
def OpIn.cells (o : OpIn) (v : Value) : Array Value := #[.int .i64 o.id0, .int .i64 o.id1, .int .i64 o.time, v, .int .i64 o.kind, .int .i64 o.bl0, .int .i64 o.bl1, .int .i64 o.at0, .int .i64 o.at1, .int .i64 o.side, .int .i64 o.char, .int .i64 o.pa0, .int .i64 o.pa1, .string o.key]

/-- Its numbers fit, and its key isn't too long. -/
structure OpIn.Fits (o : OpIn) : Prop where
  id0 : (Lit.int .i64 o.id0).wf = true
  id1 : (Lit.int .i64 o.id1).wf = true
  time : (Lit.int .i64 o.time).wf = true
  kind : (Lit.int .i64 o.kind).wf = true
  bl0 : (Lit.int .i64 o.bl0).wf = true
  bl1 : (Lit.int .i64 o.bl1).wf = true
  at0 : (Lit.int .i64 o.at0).wf = true
  at1 : (Lit.int .i64 o.at1).wf = true
  side : (Lit.int .i64 o.side).wf = true
  char : (Lit.int .i64 o.char).wf = true
  pa0 : (Lit.int .i64 o.pa0).wf = true
  pa1 : (Lit.int .i64 o.pa1).wf = true
  key : o.key.size ≤ maxLen

/-- A field's reading. -/
theorem fld {fs : Array Field} {l : List (TypeId × Nat)} {xs : List (DataW H × List MemPlace)} {n : Nat} {L : List Value} (hF : fs.toList.map (fun f => (f.type, f.offset)) = l) (hlen : xs.length = fs.size)
    (hq : ∀ (i : Nat) (f : Field), fs[i]? = some f → DataW.trod enc P w base spare held n f.type ((L.drop f.offset).take (P.cellsOf f.type)) = xs[i]?) (i : Nat) {t : TypeId} {o : Nat} (hi : l[i]? = some (t, o)) :
    ∃ y, DataW.trod enc P w base spare held n t ((L.drop o).take (P.cellsOf t)) = some y ∧ y ∈ xs := by
  obtain ⟨f, h1, rfl, rfl⟩ := field_at hF hi
  have hlt : i < xs.length := by rw [hlen]; exact (Array.getElem?_eq_some_iff.1 h1).1
  refine ⟨xs[i], ?_, List.getElem_mem _⟩
  rw [hq i f h1, List.getElem?_eq_getElem hlt]

theorem open_op {r : Reach} {b0 : Nat} {tOp tDot tInt tVec tStr te : TypeId} {fs : Array Field} {g0 g1 : Field} {v : Value} {d : DataW H} {p : List MemPlace}
    (hO : P.underlying tOp = some (.struct fs)) (hF : fs.toList.map (fun f => (f.type, f.offset)) = opShape tDot tInt tVec tStr)
    (hD : P.underlying tDot = some (.struct #[g0, g1])) (hg : g0.type = tInt ∧ g0.offset = 0 ∧ g1.type = tInt ∧ g1.offset = 1) (hI : P.underlying tInt = some (.int .i64)) (hS : P.underlying tStr = some .string) (hV : P.underlying tVec = some (.slice te))
    (cO : P.cellsOf tOp = 14) (cD : P.cellsOf tDot = 2) (cI : P.cellsOf tInt = 1) (cV : P.cellsOf tVec = 1) (cS : P.cellsOf tStr = 1)
    (hv : Value.okWide P w r b0 tOp v) (h : DataW.Trod enc P w base spare held tOp v d p) :
    ∃ (o : OpIn) (a : Option Addr) (len cap : Nat) (du : DataW H) (pu : List MemPlace), v = .agg (o.cells (.slice a len cap)) ∧ o.Fits ∧ DataW.Trod enc P w base spare held tVec (.slice a len cap) du pu ∧ (∀ x ∈ pu, x ∈ p) := by
  obtain ⟨cs, rfl, hsz⟩ := okWide_struct hO hv
  obtain ⟨fuel, hf⟩ := h
  obtain ⟨xs, n, _, hx, hl, hlen, hq⟩ := DataW.trod_struct hO hf
  have hc : (Value.agg cs).cells.toList = cs.toList := by simp [Value.cells]
  rw [hc] at hl hq
  generalize hL : cs.toList = L at hl hq
  have F := fun i t o hi => fld (enc := enc) (w := w) (base := base) (spare := spare) (held := held) hF hlen hq i (t := t) (o := o) hi
  obtain ⟨y0, f0, _⟩ := F 0 _ _ rfl
  obtain ⟨y1, f1, _⟩ := F 1 _ _ rfl
  obtain ⟨y2, f2, m2⟩ := F 2 _ _ rfl
  obtain ⟨y3, f3, _⟩ := F 3 _ _ rfl
  obtain ⟨y4, f4, _⟩ := F 4 _ _ rfl
  obtain ⟨y5, f5, _⟩ := F 5 _ _ rfl
  obtain ⟨y6, f6, _⟩ := F 6 _ _ rfl
  obtain ⟨y7, f7, _⟩ := F 7 _ _ rfl
  obtain ⟨y8, f8, _⟩ := F 8 _ _ rfl
  obtain ⟨y9, f9, _⟩ := F 9 _ _ rfl
  rw [cD] at f0 f4 f5 f8
  rw [cI] at f1 f3 f6 f7
  rw [cV] at f2
  rw [cS] at f9
  obtain ⟨a0, s0, e0, u0, v0, _⟩ := dot_part hD hg hI cI f0
  obtain ⟨a4, s4, e4, u4, v4, _⟩ := dot_part hD hg hI cI f4
  obtain ⟨a5, s5, e5, u5, v5, _⟩ := dot_part hD hg hI cI f5
  obtain ⟨a8, s8, e8, u8, v8, _⟩ := dot_part hD hg hI cI f8
  obtain ⟨z1, e1, _, u1⟩ := DataW.trod_int hI f1
  obtain ⟨z3, e3, _, u3⟩ := DataW.trod_int hI f3
  obtain ⟨z6, e6, _, u6⟩ := DataW.trod_int hI f6
  obtain ⟨z7, e7, _, u7⟩ := DataW.trod_int hI f7
  obtain ⟨k, e9, _, u9⟩ := DataW.trod_string hS f9
  obtain ⟨a, len, cap, e2⟩ := Go.Joins.slice_form hV f2
  refine ⟨⟨a0, s0, z1, z3, a4, s4, a5, s5, z6, z7, a8, s8, k⟩, a, len, cap, y2.1, y2.2, ?_, ⟨u0, v0, u1, u3, u4, v4, u5, v5, u6, u7, u8, v8, u9⟩, ⟨n, by rw [e2] at f2; exact f2⟩, ?_⟩
  · have p0 := part_two e0
    have p4 := part_two e4
    have p5 := part_two e5
    have p8 := part_two e8
    have p1 := part_one e1
    have p3 := part_one e3
    have p6 := part_one e6
    have p7 := part_one e7
    have p9 := part_one e9
    have p2 := part_one e2
    rw [cO] at hl
    congr 1
    apply Array.ext'
    rw [hL]
    apply List.ext_getElem?
    intro i
    match i with
    | 0 => exact p0.1
    | 1 => exact p0.2
    | 2 => exact p1
    | 3 => exact p2
    | 4 => exact p3
    | 5 => exact p4.1
    | 6 => exact p4.2
    | 7 => exact p5.1
    | 8 => exact p5.2
    | 9 => exact p6
    | 10 => exact p7
    | 11 => exact p8.1
    | 12 => exact p8.2
    | 13 => exact p9
    | i + 14 => rw [List.getElem?_eq_none (by omega)]; rfl
  · intro x hx'
    have : p = xs.flatMap (fun x => x.2) := congrArg Prod.snd hx
    rw [this]
    exact List.mem_flatMap.2 ⟨y2, m2, hx'⟩
end
end Go.Proofs.Ytbpepmajpojacaa
