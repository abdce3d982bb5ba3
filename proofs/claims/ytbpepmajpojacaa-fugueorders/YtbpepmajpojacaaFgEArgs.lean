/- What came in: what actors do, raw; numbers. -/
import Derived.Test.YtbpepmajpojacaaSOneA
import Derived.Test.YtbpepmajpojacaaSOneP
import Derived.Test.YtbpepmajpojacaaSOneQ
import Derived.Test.YtbpepmajpojacaaSOneR
import Derived.Test.YtbpepmajpojacaaSStory
import Derived.Test.YtbpepmajpojacaaSOneB
import Derived.Test.YtbpepmajpojacaaFgArg
import Derived.Test.YtbpepmajpojacaaRows
import Derived.ProofKit
import Derived.OpenShut
namespace Go.Proofs.Ytbpepmajpojacaa
section
open Go.RowKit

theorem one_any (a : Option Addr) (n c : Nat) (L : List Mo) (xa : Option Addr) (xn xc : Nat) (V : List Dt) (act : Int) (m : Md) (w : World) (hs : OS w a n c L) (hv : PS w xa xn xc V) (hn : n ≤ 1000) (hxn : xn ≤ 1000000) (hV : VM V) (hm : m.Fits) (ha : F64 act) (hL : ∀ x ∈ L, x.o.Fits ∧ x.o.time ≤ 1099511627776 ∧ 1 ≤ x.o.id0) :
    Calls Try.prog 43 #[.slice a n c, .slice xa xn xc, .int .i64 act, mv m] w fun e w' => ∃ o', e = .returned (ov o' (.slice xa xn xc)) ∧ o'.Fits ∧ o'.id0 = act ∧ o'.id1 = gt V act + 1 ∧ o'.time = latI V L 0 + 1 ∧ KD (L.map Mo.m) o' V ∧ RowKit.Below w.heap.size w w' := by
  by_cases h1 : blkL V L = [] ∨ 1 + absI m.kd % 3 = 3
  · exact one_a_ a n c L xa xn xc V act m w hs hv hn hxn hV hm ha hL h1
  · have h2 : ¬ blkL V L = [] ∧ ¬ 1 + absI m.kd % 3 = 3 := ⟨fun h => h1 (Or.inl h), fun h => h1 (Or.inr h)⟩
    have hb := absI_bounds hm.kd
    by_cases h3 : 1 + absI m.kd % 3 = 1
    · by_cases h5 : absI m.mb % 5 = 0
      · exact one_p a n c L xa xn xc V act m w hs hv hn hxn hV hm ha hL ⟨h2.1, h2.2, h3, h5⟩
      · exact one_q a n c L xa xn xc V act m w hs hv hn hxn hV hm ha hL ⟨h2.1, h2.2, h3, h5⟩
    · have h4 := h2.2
      exact one_r a n c L xa xn xc V act m w hs hv hn hxn hV hm ha hL ⟨h2.1, h2.2, by omega⟩

theorem story_any : StorySays := story_of fun a n c L xa xn xc V act m w hs hv hn hxn hV hm ha hL => one_any a n c L xa xn xc V act m w hs hv hn hxn hV hm ha hL

end

section
open Go.RowKit

theorem f64_wf {n : Int} (h : (Lit.int .i64 n).wf = true) : F64 n := f64_of h

section
open Go.ChangeShapes Go.WideShapes
variable {H : Type} {enc : TypeId × Value → H} {P : Program} {w : World} {base : Nat} {spare : Nat → Bool} {held : Bool}

theorem open_madel {tM tInt tStr : TypeId} {fs : Array Field} {L : List Value} {fuel : Nat} {x : DataW H × List MemPlace}
    (hO : P.underlying tM = some (.struct fs)) (hF : fs.toList.map (fun f => (f.type, f.offset)) = [(tInt, 0), (tInt, 1), (tInt, 2), (tInt, 3), (tInt, 4), (tStr, 5)])
    (hI : P.underlying tInt = some (.int .i64)) (hS : P.underlying tStr = some .string) (cO : P.cellsOf tM = 6) (cI : P.cellsOf tInt = 1) (cS : P.cellsOf tStr = 1)
    (hf : DataW.trod enc P w base spare held fuel tM L = some x) :
    ∃ m : Md, L = m.cells.toList ∧ m.Fits := by
  obtain ⟨xs, n, _, hx, hl, hlen, hq⟩ := DataW.trod_struct hO hf
  have F := fun i t o hi => fld (enc := enc) (w := w) (base := base) (spare := spare) (held := held) hF hlen hq i (t := t) (o := o) hi
  obtain ⟨y0, f0, _⟩ := F 0 _ _ rfl
  obtain ⟨y1, f1, _⟩ := F 1 _ _ rfl
  obtain ⟨y2, f2, _⟩ := F 2 _ _ rfl
  obtain ⟨y3, f3, _⟩ := F 3 _ _ rfl
  obtain ⟨y4, f4, _⟩ := F 4 _ _ rfl
  obtain ⟨y5, f5, _⟩ := F 5 _ _ rfl
  rw [cI] at f0 f1 f2 f3 f4
  rw [cS] at f5
  obtain ⟨z0, e0, _, u0⟩ := DataW.trod_int hI f0
  obtain ⟨z1, e1, _, u1⟩ := DataW.trod_int hI f1
  obtain ⟨z2, e2, _, u2⟩ := DataW.trod_int hI f2
  obtain ⟨z3, e3, _, u3⟩ := DataW.trod_int hI f3
  obtain ⟨z4, e4, _, u4⟩ := DataW.trod_int hI f4
  obtain ⟨k, e5, _, u5⟩ := DataW.trod_string hS f5
  refine ⟨⟨z0, z1, z2, z3, z4, k⟩, ?_, ⟨f64_wf u0, f64_wf u1, f64_wf u2, f64_wf u3, f64_wf u4, u5⟩⟩
  have p0 := part_one e0
  have p1 := part_one e1
  have p2 := part_one e2
  have p3 := part_one e3
  have p4 := part_one e4
  have p5 := part_one e5
  rw [cO] at hl
  apply List.ext_getElem?
  intro i
  match i with
  | 0 => exact p0
  | 1 => exact p1
  | 2 => exact p2
  | 3 => exact p3
  | 4 => exact p4
  | 5 => exact p5
  | i + 6 => rw [List.getElem?_eq_none (by omega), List.getElem?_eq_none (by simp [Md.cells])]
end

theorem cells9 : Try.prog.cellsOf 9 = 1 := by kernel_rfl

theorem cellsMade : Try.prog.cellsOf 82 = 6 := by kernel_rfl

theorem open_mades {H : Type} {enc : TypeId × Value → H} {W : World} {a : Option Addr} {len cap : Nat} {d : DataW H} {p : List MemPlace} (h : DataW.Trod enc Try.prog W 0 (fun _ => true) true 44 (.slice a len cap) d p) :
    ∃ L, MS W a len cap L ∧ ∀ m ∈ L, m.Fits := by
  obtain ⟨fuel, hf⟩ := h
  rcases Go.Deep.open_slice Try.underlying44 hf with ⟨hcs, _⟩ | ⟨x, l, c, m, n, D, Pl, hcs, _, hl, hm, hmm, _, hx⟩
  · simp [Value.cells] at hcs
    obtain ⟨rfl, rfl, rfl⟩ := hcs
    exact ⟨[], ⟨rfl, Nat.le_refl _, Nat.zero_le _, fun h => absurd h (by omega)⟩, fun x hx => by simp at hx⟩
  · simp [Value.cells] at hcs
    obtain ⟨rfl, rfl, rfl⟩ := hcs
    have hlm : len ≤ m := by rw [hmm]; split <;> omega
    have each : ∀ i, i < m → ∃ y : Md, (∀ j u, y.cells.toList[j]? = some u → W.cell? ((x.add (i * 6)).add j) = some u) ∧ y.Fits := by
      intro i hi
      obtain ⟨cs, h1, h2⟩ := hx i hi
      rw [cellsMade] at h1
      obtain ⟨_, hlen, hcell⟩ := World.cells?_some h1
      obtain ⟨y, rfl, hfit⟩ := open_madel Try.underlying82 rfl Try.underlying3 Try.underlying9 cellsMade intCells cells9 h2
      refine ⟨y, fun j u hj => ?_, hfit⟩
      have hj6 : j < 6 := by
        rcases Nat.lt_or_ge j 6 with h' | h'
        · exact h'
        · rw [List.getElem?_eq_none (by simpa [Md.cells] using h')] at hj; cases hj
      have := hcell j hj6
      rw [this]
      exact hj
    haveI : Inhabited Md := ⟨⟨0, 0, 0, 0, 0, ByteArray.empty⟩⟩
    obtain ⟨q, hq⟩ := Go.Deep.choose_lt each
    refine ⟨(List.range len).map q, ⟨by simp, hl, hm, fun hp => ?_⟩, fun y hy => ?_⟩
    · obtain ⟨g, o, sp⟩ := x
      have h0 := (hq 0 (by omega)).1 0 (.int .i64 (q 0).act) rfl
      have hs : sp = none := by simpa [Addr.add] using World.cell?_spot h0
      subst hs
      refine ⟨g, o, rfl, by have := cell_in h0; simpa [Addr.add] using this, fun i hi => ?_⟩
      have hil : i < len := by simpa using hi
      have hi' := (hq i (by omega)).1
      rw [List.getElem_map, List.getElem_range]
      have key : ∀ j u, (q i).cells.toList[j]? = some u → W.cell? ⟨g, o + i * 6 + j, none⟩ = some u := fun j u hj => by
        have := hi' j u hj
        rw [add_none, add_none] at this
        exact this
      exact ⟨key 0 _ rfl, key 1 _ rfl, key 2 _ rfl, key 3 _ rfl, key 4 _ rfl, key 5 _ rfl⟩
    · obtain ⟨i, hi, rfl⟩ := List.mem_map.1 hy
      exact (hq i (by have := List.mem_range.1 hi; omega)).2
end
end Go.Proofs.Ytbpepmajpojacaa
