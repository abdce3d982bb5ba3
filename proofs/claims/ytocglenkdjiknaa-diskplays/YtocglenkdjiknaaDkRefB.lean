/- The reference: what makes disks. -/
import Derived.Test.YtocglenkdjiknaaDkNew
import Derived.Lib.SlBytesConst
import Derived.Test.YtocglenkdjiknaaDkMay
import Derived.WalkKit
import Derived.ProofKit
import Derived.OpenShut
import Derived.ShutString
import Derived.ChangeOld
import Derived.Below
import Derived.ChangeMaps5
import Derived.Deep.Matrix
import Derived.ChangeSame
import Derived.ChangeArms
import Derived.WideShapes
import Derived.Lib.SmallJoins
import Derived.Deep.SlicePairs
import Derived.Lib.Strings
import Derived.Laws.ResultCell
import Derived.Laws.Rows
namespace Go.Proofs.Ytocglenkdjiknaa
section
set_option linter.unusedVariables false
set_option linter.unusedSimpArgs false
open Go.RowKit Go.Sort Go.Maps Go.Shelf

theorem src_new (w : World) (C : Array Value) (fr : Nat × Nat) (L : List Int) (hC : C = (L.map (Value.int .u8)).toArray) : Src (w.alloc (.cells C 5 fr)) (some ⟨w.heap.size, 0, none⟩) L.length L := by
  refine ⟨rfl, fun hp => ⟨_, rfl, fun j x hj => ?_⟩⟩
  have h := heap_new w (.cells C 5 fr)
  have e : (⟨w.heap.size, 0, none⟩ : Addr).add j = ⟨w.heap.size, j, none⟩ := by
    unfold Addr.add
    split
    · rename_i h0
      rw [h0]
    · simp
  rw [e]
  exact cell_blk h (by rw [hC]; simp [hj])
/-- Bytes that were just made are appended. -/
theorem append_new {w : World} {d : Nat} {D : Dk} {P : Nat → Prop} (h : DK w d D P) (n : Nm) (L : List Int) (C : Array Value) (fr : Nat × Nat) (hC : C = (L.map (Value.int .u8)).toArray) (hn : n.length ≤ maxLen) (hL : Bts L) (hl : L.length ≤ 1000) :
    Calls Try.prog 13 #[.pointer (some ⟨d, 0, none⟩), encStr n, .slice (some ⟨w.heap.size, 0, none⟩) L.length L.length] (w.alloc (.cells C 5 fr)) fun e w' => ∃ x : Nat, e = .returned (.int .i64 (x : Int)) ∧ x = (operD (eApp D.room n L) D).2 ∧ DK w' d (operD (eApp D.room n L) D).1 P ∧ KP w w' P := by
  have hb := new_below w (.cells C 5 fr)
  have h1 := h.more hb
  refine (append_any d n L (some ⟨w.heap.size, 0, none⟩) L.length D _ _ h1 hn (src_new w C fr L hC) (fun _ ad e => ?_) (fun e => by cases e) ⟨Nat.le_refl _, by unfold maxLen; omega⟩ hL).mono ?_
  · obtain rfl := Option.some.inj e
    exact Or.inr ⟨Nat.le_refl _, by simp⟩
  · rintro e w' ⟨x, rfl, q1, q2, q3⟩
    exact ⟨x, rfl, q1, q2.less (fun j hj => Or.inl hj), (KP.below hb).trans (q3.less (fun j hj => Or.inl hj))⟩

def aw1 : Dk := ⟨100, false, none, []⟩
def aw2 : Dk := ⟨100, false, none, [([97], ⟨[97, 98], 0⟩)]⟩
def aw3 : Dk := ⟨100, false, none, [([97], ⟨[97, 98], 2⟩)]⟩
def aw4 : Dk := ⟨100, false, none, [([97], ⟨[97, 98, 99, 100], 2⟩)]⟩
def aw5 : Dk := ⟨100, false, some (0, 1, 1), [([97], ⟨[97, 98, 99, 100], 2⟩)]⟩
def aw6 : Dk := ⟨100, true, none, [([97], ⟨[97, 98, 99], 3⟩)]⟩
def aw7 : Dk := ⟨100, false, none, [([97], ⟨[97, 98, 99], 3⟩)]⟩
theorem as2 : operD (eApp aw1.room [97] [97, 98]) aw1 = (aw2, 0) := by kernel_rfl
theorem as3 : operD (eSync [97]) aw2 = (aw3, 0) := by kernel_rfl
theorem as4 : operD (eApp aw3.room [97] [99, 100]) aw3 = (aw4, 0) := by kernel_rfl
theorem as5 : cutD aw4 0 1 1 = (aw5, 0) := by kernel_rfl
theorem as6 : operD (eApp aw5.room [97] [101, 102]) aw5 = (aw6, 71) := by kernel_rfl
theorem as7 : readD aw7 [97] = ([97, 98, 99], 0) := by kernel_rfl

theorem kp_below {w w' : World} (h : KP w w' (fun j => j < w.heap.size)) : Below w.heap.size w w' := ⟨h.sm.1, h.sm.2.1, h.sm.2.2, h.size, fun j hj => h.keep j hj hj⟩

theorem bts2 (a b : Int) (h : (0 ≤ a ∧ a < 256) ∧ 0 ≤ b ∧ b < 256) : Bts [a, b] := fun x hx => by
  simp at hx
  rcases hx with rfl | rfl
  · exact h.1
  · exact h.2

set_option maxRecDepth 100000 in
set_option maxHeartbeats 4000000 in
theorem awake_any (w : World) : Calls Try.prog 8 #[] w fun e w' => e = .returned (.bool true) ∧ Below w.heap.size w w' := by
  have hst : strOfNums [97, 98, 99] = ⟨#[97, 98, 99]⟩ := by kernel_rfl
  have kc := fun (w : World) (C : Array Value) (n c : Nat) => Lib.run_convert_bytes_const (P := Try.prog) w 31 5 C n c Try.underlying31 Try.underlying5
  go_enter Try.func8, Try.ntmps8
  go_wp2_with (first
    | (go_at_call 23; have hq := K8.out; refine (room_dk _ _ _ _ hq.1).mono ?_; rintro e w9 ⟨rfl, hb9⟩; have K9 := hid (hq.2.trans (KP.below hb9)); clear hq hb9)
    | (go_at_call 18; have hq := K7.out; refine (read_any _ [97] _ _ _ hq.1 (nl (by simp))).mono ?_; rintro e w8 ⟨a8, c8, x8, rfl, hx8, hr8, hb8⟩; rw [as7] at hx8 hr8 ⊢; subst hx8; obtain ⟨_, _, e8, hs8, _⟩ := own_src hr8; cases e8; have hcv : (convert 31 9 (.slice a8 3 c8)).run Try.prog w8 = .ok (.string ⟨#[97, 98, 99]⟩) w8 := (conv_src hs8 c8).trans (by rw [hst]); have K8 := hid (And.intro (hq.1.below hb8) (hq.2.trans (KP.below hb8))); clear hq hb8 hr8 hs8)
    | (go_at_call 17; have hq := K6.out; refine (on_any _ _ _ _ hq.1).mono ?_; rintro e w7 ⟨rfl, q1, q2⟩; have K7 : Hid (DK w7 _ aw7 (fun j => j < w.heap.size) ∧ KP w w7 (fun j => j < w.heap.size)) := hid (And.intro q1 (hq.2.trans q2)); clear hq q1 q2)
    | (go_at_call 16; have hq := K6.out; refine (off_any _ _ _ _ hq.1).mono ?_; rintro e w6' ⟨rfl, rfl⟩; clear hq)
    | (go_at_call 13; have hq := K5.out; refine (append_new hq.1 [97] [101, 102] _ _ rfl (nl (by simp)) (bts2 _ _ (by decide)) (by simp)).mono ?_; rintro e w6 ⟨x, rfl, hx, q1, q2⟩; rw [as6] at hx q1; subst hx; have K6 := hid (And.intro q1 (hq.2.trans q2)); clear hq q1 q2)
    | (go_at_call 15; have hq := K4.out; refine (cut_any _ 0 1 1 _ _ _ hq.1 (by omega) (by omega) (by omega)).mono ?_; rintro e w5 ⟨x, rfl, hx, q1, q2⟩; rw [as5] at hx q1; subst hx; have K5 := hid (And.intro q1 (hq.2.trans q2)); clear hq q1 q2)
    | (go_at_call 13; have hq := K3.out; refine (append_new hq.1 [97] [99, 100] _ _ rfl (nl (by simp)) (bts2 _ _ (by decide)) (by simp)).mono ?_; rintro e w4 ⟨x, rfl, hx, q1, q2⟩; rw [as4] at hx q1; subst hx; have K4 := hid (And.intro q1 (hq.2.trans q2)); clear hq q1 q2)
    | (go_at_call 14; have hq := K2.out; refine (sync_any _ [97] _ _ _ hq.1 (nl (by simp))).mono ?_; rintro e w3 ⟨x, rfl, hx, q1, q2⟩; rw [as3] at hx q1; subst hx; have K3 := hid (And.intro q1 (hq.2.trans q2)); clear hq q1 q2)
    | (go_at_call 13; have hq := K1.out; refine (append_new hq.1 [97] [97, 98] _ _ rfl (nl (by simp)) (bts2 _ _ (by decide)) (by simp)).mono ?_; rintro e w2 ⟨x, rfl, hx, q1, q2⟩; rw [as2] at hx q1; subst hx; have K2 := hid (And.intro q1 (hq.2.trans q2)); clear hq q1 q2)
    | (go_at_call 9; refine (new_any 100 (by omega) _).mono ?_; rintro e w1 ⟨d, rfl, hb1, q1⟩; have K1 : Hid (DK w1 d aw1 (fun j => j < w.heap.size) ∧ KP w w1 (fun j => j < w.heap.size)) := hid (And.intro q1 (KP.below hb1)); clear hb1 q1))
  go_ret
  exact ⟨rfl, kp_below K9.out⟩
end

section
set_option linter.unusedVariables false
set_option linter.unusedSimpArgs false
open Go.RowKit Go.Sort Go.Maps

theorem own_src_at {w : World} {B n c : Nat} {a : Option Addr} {L : List Int} (h : w.ownsRow B 5 1 (.slice a n c) L.length (L.map (Value.int .u8))) (hn : n = L.length) : Src w a L.length L := by
  obtain ⟨a', c', e, hs, _⟩ := own_src h
  subst hn
  cases e
  exact hs
end

section
set_option linter.unusedVariables false
set_option linter.unusedSimpArgs false
open Go.RowKit Go.Sort Go.Maps

theorem set_below {w w' : World} (h : Below w.heap.size w w') {g : Nat} (hg : w.heap.size ≤ g) (i : Nat) (v : Value) : Below w.heap.size w (w'.setCell ⟨g, i, none⟩ v) := ⟨h.os, h.tape, h.output, by simpa using h.size, fun k hk => (Below.heap_setCell _ _ _ _ (by simp; omega)).trans (h.block k hk)⟩
end

section
set_option linter.unusedVariables false
open Go.RowKit
open Go.ChangeShapes Go.WideShapes Go.ChangeAt

theorem open_byt {H : Type} {enc : TypeId × Value → H} {W : World} {a : Option Addr} {len cap : Nat} {d : DataW H} {p : List MemPlace} (h : DataW.Trod enc Try.prog W 0 (fun _ => true) true 31 (.slice a len cap) d p) : ∃ zs, IsRow .u8 W a len cap zs := by
  obtain ⟨fuel, hf⟩ := h
  rcases open_ints Try.underlying31 Try.underlying5 (by kernel_rfl) hf with ⟨hcs, _⟩ | ⟨x, l, c, zs, hcs, _, hl, hm, hz, _, hcell, hwz⟩
  · simp [Value.cells] at hcs
    obtain ⟨rfl, rfl, rfl⟩ := hcs
    exact ⟨[], .inl ⟨rfl, rfl, rfl, rfl⟩⟩
  · simp [Value.cells] at hcs
    obtain ⟨rfl, rfl, rfl⟩ := hcs
    exact ⟨zs, .inr ⟨_, rfl, hl, hm, by simpa using hz, hcell, hwz⟩⟩
end

section
set_option linter.unusedVariables false
open Go.RowKit
open Go.ChangeShapes Go.WideShapes

/-- Something that is done: its kind, its names, its bytes (and where they lie), its numbers. -/
structure AI where
  kind : Int
  name : ByteArray
  to : ByteArray
  a : Option Addr
  c : Nat
  B : List Int
  n : Int
  part : Int
  keep : Int
/-- Its cells. -/
def AI.cells (x : AI) : List Value := [.int .i64 x.kind, .string x.name, .string x.to, .slice x.a x.B.length x.c, .int .i64 x.n, .int .i64 x.part, .int .i64 x.keep]
/-- What holds of it. -/
structure AI.Ok (x : AI) (w : World) : Prop where
  kind : (Lit.int .i64 x.kind).wf = true
  name : x.name.size ≤ maxLen
  to : x.to.size ≤ maxLen
  src : Src w x.a x.B.length x.B
  bts : Bts x.B
  cap : x.B.length ≤ x.c ∧ x.c ≤ maxLen
  nil : x.a = none → x.c = 0
  n : (Lit.int .i64 x.n).wf = true
  part : (Lit.int .i64 x.part).wf = true
  keep : (Lit.int .i64 x.keep).wf = true
theorem AI.Ok.below {x : AI} {w w' : World} (h : x.Ok w) (hb : Below w.heap.size w w') : x.Ok w' := ⟨h.kind, h.name, h.to, h.src.below hb, h.bts, h.cap, h.nil, h.n, h.part, h.keep⟩

/-- A row of them that came in. -/
def ASrc (w : World) (a : Option Addr) (len : Nat) (X : List AI) : Prop :=
  X.length = len ∧ (∀ x ∈ X, x.Ok w) ∧ (0 < len → ∃ g off, a = some ⟨g, off, none⟩ ∧ ∀ (i : Nat) (x : AI), X[i]? = some x → ∀ (j : Nat) (u : Value), x.cells[j]? = some u → w.cell? ⟨g, off + i * 7 + j, none⟩ = some u)

section
variable {H : Type} {enc : TypeId × Value → H} {P : Program} {w : World} {base : Nat} {spare : Nat → Bool} {held : Bool}

/-- Which types the fields have, and where they lie. -/
abbrev actShape (tInt tStr tSl : TypeId) : List (TypeId × Nat) := [(tInt, 0), (tStr, 1), (tStr, 2), (tSl, 3), (tInt, 4), (tInt, 5), (tInt, 6)]

theorem part_one {α : Type} {l : List α} {o : Nat} {x : α} (h : (l.drop o).take 1 = [x]) : l[o]? = some x := by
  have := congrArg (fun k => k[0]?) h
  simpa using this
theorem field_at {fs : Array Field} {l : List (TypeId × Nat)} (h : fs.toList.map (fun f => (f.type, f.offset)) = l) {i : Nat} {t : TypeId} {o : Nat} (hi : l[i]? = some (t, o)) : ∃ f, fs[i]? = some f ∧ f.type = t ∧ f.offset = o := by
  subst h
  simp only [List.getElem?_map, Option.map_eq_some_iff] at hi
  obtain ⟨f, h1, h2⟩ := hi
  simp only [Prod.mk.injEq] at h2
  exact ⟨f, by simpa using h1, h2.1, h2.2⟩
theorem fld {fs : Array Field} {l : List (TypeId × Nat)} {xs : List (DataW H × List MemPlace)} {n : Nat} {L : List Value} (hF : fs.toList.map (fun f => (f.type, f.offset)) = l) (hlen : xs.length = fs.size)
    (hq : ∀ (i : Nat) (f : Field), fs[i]? = some f → DataW.trod enc P w base spare held n f.type ((L.drop f.offset).take (P.cellsOf f.type)) = xs[i]?) (i : Nat) {t : TypeId} {o : Nat} (hi : l[i]? = some (t, o)) :
    ∃ y, DataW.trod enc P w base spare held n t ((L.drop o).take (P.cellsOf t)) = some y ∧ y ∈ xs := by
  obtain ⟨f, h1, rfl, rfl⟩ := field_at hF hi
  have hlt : i < xs.length := by rw [hlen]; exact (Array.getElem?_eq_some_iff.1 h1).1
  refine ⟨xs[i], ?_, List.getElem_mem _⟩
  rw [hq i f h1, List.getElem?_eq_getElem hlt]

theorem open_actl {tA tInt tStr tSl te : TypeId} {fs : Array Field} {L : List Value} {fuel : Nat} {x : DataW H × List MemPlace}
    (hO : P.underlying tA = some (.struct fs)) (hF : fs.toList.map (fun f => (f.type, f.offset)) = actShape tInt tStr tSl) (hI : P.underlying tInt = some (.int .i64)) (hS : P.underlying tStr = some .string) (hV : P.underlying tSl = some (.slice te))
    (cO : P.cellsOf tA = 7) (cI : P.cellsOf tInt = 1) (cV : P.cellsOf tSl = 1) (cS : P.cellsOf tStr = 1) (hf : DataW.trod enc P w base spare held fuel tA L = some x) :
    ∃ (k n p q : Int) (nm to : ByteArray) (a : Option Addr) (len cap : Nat) (du : DataW H) (pu : List MemPlace), L = [.int .i64 k, .string nm, .string to, .slice a len cap, .int .i64 n, .int .i64 p, .int .i64 q] ∧ (Lit.int .i64 k).wf = true ∧ (Lit.int .i64 n).wf = true ∧ (Lit.int .i64 p).wf = true ∧ (Lit.int .i64 q).wf = true ∧ nm.size ≤ maxLen ∧ to.size ≤ maxLen ∧ DataW.Trod enc P w base spare held tSl (.slice a len cap) du pu := by
  obtain ⟨xs, n, _, hx, hl, hlen, hq⟩ := DataW.trod_struct hO hf
  have F := fun i t o hi => fld (enc := enc) (w := w) (base := base) (spare := spare) (held := held) hF hlen hq i (t := t) (o := o) hi
  obtain ⟨y0, f0, _⟩ := F 0 _ _ rfl
  obtain ⟨y1, f1, _⟩ := F 1 _ _ rfl
  obtain ⟨y2, f2, _⟩ := F 2 _ _ rfl
  obtain ⟨y3, f3, _⟩ := F 3 _ _ rfl
  obtain ⟨y4, f4, _⟩ := F 4 _ _ rfl
  obtain ⟨y5, f5, _⟩ := F 5 _ _ rfl
  obtain ⟨y6, f6, _⟩ := F 6 _ _ rfl
  rw [cI] at f0 f4 f5 f6
  rw [cV] at f3
  rw [cS] at f1 f2
  obtain ⟨z0, e0, _, u0⟩ := DataW.trod_int hI f0
  obtain ⟨z4, e4, _, u4⟩ := DataW.trod_int hI f4
  obtain ⟨z5, e5, _, u5⟩ := DataW.trod_int hI f5
  obtain ⟨z6, e6, _, u6⟩ := DataW.trod_int hI f6
  obtain ⟨k1, e1, _, u1⟩ := DataW.trod_string hS f1
  obtain ⟨k2, e2, _, u2⟩ := DataW.trod_string hS f2
  obtain ⟨a, len, cap, e3⟩ := Go.Joins.slice_form hV f3
  refine ⟨z0, z4, z5, z6, k1, k2, a, len, cap, y3.1, y3.2, ?_, u0, u4, u5, u6, u1, u2, ⟨n, by rw [e3] at f3; exact f3⟩⟩
  have p0 := part_one e0
  have p1 := part_one e1
  have p2 := part_one e2
  have p3 := part_one e3
  have p4 := part_one e4
  have p5 := part_one e5
  have p6 := part_one e6
  rw [cO] at hl
  apply List.ext_getElem?
  intro i
  match i with
  | 0 => exact p0
  | 1 => exact p1
  | 2 => exact p2
  | 3 => exact p3
  | 4 => exact p4
  | 5 => exact p5
  | 6 => exact p6
  | i + 7 => rw [List.getElem?_eq_none (by omega)]; rfl
end

theorem cellsAct : Try.prog.cellsOf 33 = 7 := by kernel_rfl
theorem cells3 : Try.prog.cellsOf 3 = 1 := by kernel_rfl
theorem cells9 : Try.prog.cellsOf 9 = 1 := by kernel_rfl
theorem cells31 : Try.prog.cellsOf 31 = 1 := by kernel_rfl

set_option maxRecDepth 100000 in
theorem open_acts {H : Type} {enc : TypeId × Value → H} {W : World} {a : Option Addr} {len cap : Nat} {d : DataW H} {p : List MemPlace} (h : DataW.Trod enc Try.prog W 0 (fun _ => true) true 22 (.slice a len cap) d p) :
    ∃ X, ASrc W a len X ∧ len ≤ maxLen := by
  obtain ⟨fuel, hf⟩ := h
  rcases Go.Deep.open_slice Try.underlying22 hf with ⟨hcs, _⟩ | ⟨x, l, c, m, n, D, Pl, hcs, _, hl, hm, hmm, _, hx⟩
  · simp [Value.cells] at hcs
    obtain ⟨rfl, rfl, rfl⟩ := hcs
    exact ⟨[], ⟨rfl, fun x hx => by simp at hx, fun h => absurd h (by omega)⟩, by unfold maxLen; omega⟩
  · simp [Value.cells] at hcs
    obtain ⟨rfl, rfl, rfl⟩ := hcs
    have hlm : len ≤ m := by rw [hmm]; split <;> omega
    have each : ∀ i, i < m → ∃ y : AI, (∀ j u, y.cells[j]? = some u → W.cell? ((x.add (i * 7)).add j) = some u) ∧ y.Ok W := by
      intro i hi
      obtain ⟨cs, h1, h2⟩ := hx i hi
      rw [cellsAct] at h1
      obtain ⟨_, hlen, hcell⟩ := World.cells?_some h1
      obtain ⟨k, n1, p1, q1, nm, to, a1, len1, cap1, du, pu, rfl, u1, u2, u3, u4, v1, v2, ht⟩ := open_actl Try.underlying33 rfl Try.underlying3 Try.underlying9 Try.underlying31 cellsAct cells3 cells31 cells9 h2
      obtain ⟨zs, hz⟩ := open_byt ht
      obtain ⟨s0, b0, c0, d0⟩ := hz.src
      have n0 : a1 = none → cap1 = 0 := by
        rcases hz with ⟨_, _, h, _⟩ | ⟨y, h, _⟩
        · exact fun _ => h
        · exact fun e => by rw [h] at e; cases e
      have hlen1 : (zs.take len1).length = len1 := s0.1
      refine ⟨⟨k, nm, to, a1, cap1, zs.take len1, n1, p1, q1⟩, fun j u hj => ?_, ⟨u1, v1, v2, by rw [hlen1]; exact s0, b0, ⟨by rw [hlen1]; exact c0, by unfold maxLen; omega⟩, n0, u2, u3, u4⟩⟩
      have hj7 : j < 7 := by
        rcases Nat.lt_or_ge j 7 with h' | h'
        · exact h'
        · rw [List.getElem?_eq_none (by simpa [AI.cells] using h')] at hj; cases hj
      have := hcell j hj7
      rw [this]
      simp only [AI.cells, hlen1] at hj
      exact hj
    haveI : Inhabited AI := ⟨⟨0, ByteArray.empty, ByteArray.empty, none, 0, [], 0, 0, 0⟩⟩
    obtain ⟨q, hq⟩ := Go.Deep.choose_lt each
    refine ⟨(List.range len).map q, ⟨by simp, fun y hy => ?_, fun hp => ?_⟩, by omega⟩
    · obtain ⟨i, hi, rfl⟩ := List.mem_map.1 hy
      exact (hq i (by have := List.mem_range.1 hi; omega)).2
    · have h0 := (hq 0 (by omega)).1 0 _ rfl
      have hsp : x.spot = none := by
        rcases hxs : x.spot with _ | s
        · rfl
        · exfalso
          have e : (x.add (0 * 7)).add 0 = x := by simp [Addr.add]
          rw [e] at h0
          unfold World.cell? at h0
          split at h0
          · rw [hxs] at h0
            simp at h0
          · cases h0
      obtain ⟨g, off, sp⟩ := x
      simp only at hsp
      subst hsp
      refine ⟨g, off, rfl, fun i y hy j u hj => ?_⟩
      have hi : i < len := by
        rcases Nat.lt_or_ge i len with h' | h'
        · exact h'
        · rw [List.getElem?_eq_none (by simpa using h')] at hy; cases hy
      rw [List.getElem?_map, List.getElem?_range hi] at hy
      obtain rfl := Option.some.inj hy
      have := (hq i (by omega)).1 j u hj
      rw [Addr.add_lit, Addr.add_lit] at this
      exact this
end

section
set_option linter.unusedVariables false
set_option linter.unusedSimpArgs false
open Go.RowKit Go.Sort Go.Maps

/-- Names in a row, as they are told. -/
theorem names_row {w : World} {B : Nat} {v : Value} {N : List Nm} (h : w.ownsRow B 9 1 v N.length (N.map encStr)) : ∃ a c, v = .slice a N.length c ∧ ∀ k n, N[k]? = some n → ∃ g, a = some ⟨g, 0, none⟩ ∧ B ≤ g ∧ w.cell? ⟨g, k, none⟩ = some (encStr n) := by
  rcases h.2 with ⟨e, h0⟩ | ⟨g, cap, cur, e, hb, hg, hn, hc, hs, ht⟩
  · refine ⟨none, 0, by rw [e, h0], fun k n hk => ?_⟩
    obtain rfl : N = [] := List.eq_nil_of_length_eq_zero h0
    cases hk
  · refine ⟨_, _, e, fun k n hk => ⟨g, rfl, hb, ?_⟩⟩
    have hkl := (List.getElem?_eq_some_iff.1 hk).1
    have hx : (N.map encStr)[k]? = some (encStr n) := by rw [List.getElem?_map, hk]; rfl
    rw [← ht] at hx
    rw [List.getElem?_take_of_lt (by omega)] at hx
    exact cell_blk hg (by simpa using hx)

theorem sl (s : ByteArray) (h : s.size ≤ maxLen) : s.data.toList.length ≤ maxLen := by rw [tl_length]; exact h
theorem str_enc' (s : ByteArray) : (Value.string s) = encStr s.data.toList := by
  cases s
  simp [encStr]
theorem remove_s (d : Nat) (n : ByteArray) (D : Dk) (P : Nat → Prop) (w : World) (h : DK w d D P) (hn : n.size ≤ maxLen) : Calls Try.prog 20 #[.pointer (some ⟨d, 0, none⟩), .string n] w (Told (eRem n.data.toList) d D P w) := by
  rw [str_enc']
  exact remove_any d _ D P w h (sl n hn)
theorem rename_s (d : Nat) (n t : ByteArray) (D : Dk) (P : Nat → Prop) (w : World) (h : DK w d D P) (hn : n.size ≤ maxLen) (ht : t.size ≤ maxLen) : Calls Try.prog 19 #[.pointer (some ⟨d, 0, none⟩), .string n, .string t] w (Told (eRen n.data.toList t.data.toList) d D P w) := by
  rw [str_enc' n, str_enc' t]
  exact rename_any d _ _ D P w h (sl n hn) (sl t ht)
theorem shorten_s (d : Nat) (n : ByteArray) (k : Int) (D : Dk) (P : Nat → Prop) (w : World) (h : DK w d D P) (hn : n.size ≤ maxLen) (hk : k ≤ 9223372036854775807) : Calls Try.prog 21 #[.pointer (some ⟨d, 0, none⟩), .string n, .int .i64 k] w (Told (eSho n.data.toList k) d D P w) := by
  rw [str_enc']
  exact shorten_op d _ k D P w h (sl n hn) hk
theorem sync_s (d : Nat) (n : ByteArray) (D : Dk) (P : Nat → Prop) (w : World) (h : DK w d D P) (hn : n.size ≤ maxLen) : Calls Try.prog 14 #[.pointer (some ⟨d, 0, none⟩), .string n] w (Told (eSync n.data.toList) d D P w) := by
  rw [str_enc']
  exact sync_any d _ D P w h (sl n hn)
theorem append_s (d : Nat) (n : ByteArray) (L : List Int) (ao : Option Addr) (cc : Nat) (D : Dk) (P : Nat → Prop) (w : World) (h : DK w d D P) (hn : n.size ≤ maxLen) (hsr : Src w ao L.length L) (hsb : 0 < L.length → ∀ ad, ao = some ad → P ad.block) (hao : ao = none → cc = 0) (hlc : L.length ≤ cc ∧ cc ≤ maxLen) (hL : Bts L) : Calls Try.prog 13 #[.pointer (some ⟨d, 0, none⟩), .string n, .slice ao L.length cc] w (Told (eApp D.room n.data.toList L) d D P w) := by
  rw [str_enc']
  exact append_any d _ L ao cc D P w h (sl n hn) hsr hsb hao hlc hL
end

section
set_option linter.unusedVariables false
set_option linter.unusedSimpArgs false
open Go.RowKit
set_option linter.unusedSectionVars false

/-- Where the reference may lie: blocks that satisfy Q, all from b on among them. -/
structure Sep where
  Q : Nat → Prop
  b : Nat
  up : ∀ j, b ≤ j → Q j
variable {sp : Sep}


/-- A file of the reference: its bytes, how many are sure, where they lie. -/
structure RFi where
  b : List Int
  s : Nat
  a : Option Addr
  c : Nat
def RFi.fl (f : RFi) : Fl := ⟨f.b, f.s⟩
/-- A file's bytes, where they lie. -/
def RFi.Ok (f : RFi) (sp : Sep) (w : World) : Prop := Src w f.a f.b.length f.b ∧ (f.b.length ≤ f.c ∧ f.c ≤ maxLen) ∧ (f.a = none → f.c = 0) ∧ ∀ ad, 0 < f.b.length → f.a = some ad → sp.Q ad.block
theorem RFi.Ok.below {f : RFi} {w w' : World} (h : f.Ok sp w) (hb : Below w.heap.size w w') : f.Ok sp w' := ⟨h.1.below hb, h.2⟩

/-- A name as a text. -/
def bs (n : Nm) : ByteArray := ⟨n.toArray⟩
theorem bs_list (n : Nm) : (bs n).toList = n := by
  rw [Lib.toList_data]
  simp [bs]
theorem bs_of (s : ByteArray) : s = bs s.data.toList := by
  cases s
  simp [bs]
theorem bs_size (n : Nm) : (bs n).size = n.length := by simp [bs, ByteArray.size]

/-- A row of files. -/
structure FR (sp : Sep) (w : World) (v : Value) (R : List (Nm × RFi)) : Prop where
  ok : ∀ p ∈ R, p.2.Ok sp w
  row : ∃ a c, v = .slice a R.length c ∧ ∀ i p, R[i]? = some p → ∃ g, a = some ⟨g, 0, none⟩ ∧ w.cell? ⟨g, i * 3, none⟩ = some (.string (bs p.1)) ∧ w.cell? ⟨g, i * 3 + 1, none⟩ = some (.slice p.2.a p.2.b.length p.2.c) ∧ w.cell? ⟨g, i * 3 + 2, none⟩ = some (.int .i64 (p.2.s : Int))
  loc : ∀ g n c, v = .slice (some ⟨g, 0, none⟩) n c → R ≠ [] → sp.Q g
  base : sp.b ≤ w.heap.size
theorem FR.below {w w' : World} {v : Value} {R : List (Nm × RFi)} (h : FR sp w v R) (hb : Below w.heap.size w w') : FR sp w' v R := by
  refine ⟨fun p hp => (h.ok p hp).below hb, ?_, h.loc, Nat.le_trans h.base hb.size⟩
  obtain ⟨a, c, e, hr⟩ := h.row
  refine ⟨a, c, e, fun i p hi => ?_⟩
  obtain ⟨g, e1, c0, c1, c2⟩ := hr i p hi
  exact ⟨g, e1, (hb.cell (cell_block c0)).trans c0, (hb.cell (cell_block c1)).trans c1, (hb.cell (cell_block c2)).trans c2⟩
theorem FR.nil (w : World) (hb : sp.b ≤ w.heap.size) : FR sp w (.slice none 0 0) [] := ⟨fun p hp => by simp at hp, ⟨none, 0, rfl, fun i p hi => by simp at hi⟩, fun _ _ _ _ h => absurd rfl h, hb⟩

theorem sm_app (f : RFi → Nat) (R S : List (Nm × RFi)) : sm f (R ++ S) = sm f R + sm f S := by
  induction R with
  | nil => simp [sm]
  | cons p r ih =>
    simp only [List.cons_append, sm, ih]
    omega
theorem sm_take2 (R : List (Nm × RFi)) (k : Nat) (p : Nm × RFi) (h : R[k]? = some p) : sm (fun f => f.b.length) (R.take (k + 1)) = sm (fun f => f.b.length) (R.take k) + p.2.b.length := by
  rw [List.take_add_one, sm_app, h]
  simp [sm]
theorem sm_take2_le (R : List (Nm × RFi)) (k : Nat) : sm (fun f => f.b.length) (R.take k) ≤ sm (fun f => f.b.length) R := by
  have := sm_app (fun f => f.b.length) (R.take k) (R.drop k)
  rw [List.take_append_drop] at this
  omega

set_option maxRecDepth 100000 in
set_option maxHeartbeats 4000000 in
theorem rroom_any (vl : Value) (R : List (Nm × RFi)) (room : Nat) (off due : Bool) (o p k : Int) (w : World) (h : FR sp w vl R) (hs : sm (fun f => f.b.length) R ≤ room) (hr : room ≤ 1000000) (hl : R.length ≤ 1000) :
    Calls Try.prog 24 #[.agg #[vl, .int .i64 (room : Int), .bool off, .bool due, .int .i64 o, .int .i64 p, .int .i64 k]] w fun e w' => e = .returned (.int .i64 ((room - sm (fun f => f.b.length) R : Nat) : Int)) ∧ Below w.heap.size w w' := by
  obtain ⟨a, c, rfl, hrow⟩ := h.row
  have hb1 := new_below w (.cells #[.slice a R.length c, .int .i64 (room : Int), .bool off, .bool due, .int .i64 o, .int .i64 p, .int .i64 k] 28)
  have hn1 := heap_new w (.cells #[.slice a R.length c, .int .i64 (room : Int), .bool off, .bool due, .int .i64 o, .int .i64 p, .int .i64 k] 28)
  obtain ⟨w1, hw1⟩ : ∃ w1, w1 = w.alloc (.cells #[.slice a R.length c, .int .i64 (room : Int), .bool off, .bool due, .int .i64 o, .int .i64 p, .int .i64 k] 28) := ⟨_, rfl⟩
  rw [← hw1] at hb1 hn1
  have d0 : w1.cell? ⟨w.heap.size, 0, none⟩ = some (.slice a R.length c) := cell_blk hn1 rfl
  have d1 : w1.cell? ⟨w.heap.size, 1, none⟩ = some (.int .i64 (room : Int)) := cell_blk hn1 rfl
  have HR := hid hrow
  have HB1 := hid hb1
  have HW := hid hw1
  clear h hrow hb1 hn1 hw1
  go_enter Try.func24, Try.ntmps24
  go_wp2
  go_loopw [3, 4] (fun vn vi wr => ∃ k : Nat, vi = .int .i64 (k : Int) ∧ k ≤ R.length ∧ vn = .int .i64 ((room - sm (fun f => f.b.length) (R.take k) : Nat) : Int) ∧ Hid (Below w1.heap.size w1 wr)) (fun _ vi _ => R.length - (intOf vi).toNat)
  case atStart => exact ⟨0, rfl, Nat.zero_le _, by simp [sm], hid (by rw [HW.out]; exact Below.refl _ _)⟩
  case round =>
    obtain ⟨k, rfl, hk, rfl, HB⟩ := hrel
    have c0 : wr.cell? ⟨w.heap.size, 0, none⟩ = some (.slice a R.length c) := (HB.out.cell (cell_block d0)).trans d0
    have hgo := hid (HB1.out.trans (HB.out.mono HB1.out.size))
    by_cases hlt : k < R.length
    · have e5 : decide ((k : Int) < (R.length : Int)) = true := decide_eq_true (by omega)
      obtain ⟨q, hq⟩ : ∃ q, R[k]? = some q := ⟨R[k], List.getElem?_eq_getElem hlt⟩
      obtain ⟨g, ea, x0, x1, x2⟩ := HR.out k q hq
      subst ea
      have y1 : wr.cell? ⟨g, k * 3 + 1, none⟩ = some (.slice q.2.a q.2.b.length q.2.c) := (hgo.out.cell (cell_block x1)).trans x1
      have hst := sm_take2 R k q hq
      have hle := sm_take2_le R (k + 1)
      obtain ⟨T, hT⟩ : ∃ T, T = sm (fun f : RFi => f.b.length) (R.take k) := ⟨_, rfl⟩
      rw [← hT] at hst ⊢
      have HST := hid hst
      have hw1 : IntKind.i64.wrap (((room - T : Nat) : Int) - (q.2.b.length : Int)) = ((room - (T + q.2.b.length) : Nat) : Int) := by rw [IntKind.wrap_i64]; omega
      have hw2 : wrap64 (((room - T : Nat) : Int) - (q.2.b.length : Int)) = ((room - (T + q.2.b.length) : Nat) : Int) := by unfold wrap64; omega
      clear hst hle hT x0 x1 x2 hq
      go_wp2
      go_roundw
      case rel =>
        refine ⟨k + 1, by go_num, by omega, ?_, HB⟩
        rw [HST.out]
        try (first | rfl | (rw [hw2]) | (rw [hw1]))
      case measure => simp [intOf]; omega
    · obtain rfl : k = R.length := by omega
      have e5 : decide ((R.length : Int) < (R.length : Int)) = false := by simp
      rw [List.take_of_length_le (Nat.le_refl _)]
      go_wp2
      go_ret
      exact ⟨rfl, hgo.out⟩

theorem lk_none_of {α : Type} (R : List (Nm × α)) (n : Nm) (h : ∀ p ∈ R, p.1 ≠ n) : lk R n = none := by
  induction R with
  | nil => rfl
  | cons p r ih =>
    obtain ⟨m, f⟩ := p
    simp only [lk]
    rw [if_neg (h (m, f) (List.mem_cons_self ..)), ih (fun q hq => h q (List.mem_cons_of_mem _ hq))]
theorem lk_some_of {α : Type} (R : List (Nm × α)) (n : Nm) {p : Nm × α} (h : p ∈ R) (e : p.1 = n) : (lk R n).isSome = true := by
  rw [← mem_nms, ← e]
  exact List.mem_map.2 ⟨p, h, rfl⟩

set_option maxRecDepth 100000 in
set_option maxHeartbeats 4000000 in
theorem rat_any (vl : Value) (R : List (Nm × RFi)) (room : Nat) (off due : Bool) (o p k : Int) (n : Nm) (w : World) (h : FR sp w vl R) (hl : R.length ≤ 1000) :
    Calls Try.prog 25 #[.agg #[vl, .int .i64 (room : Int), .bool off, .bool due, .int .i64 o, .int .i64 p, .int .i64 k], .string (bs n)] w fun e w' => ∃ i : Int, e = .returned (.int .i64 i) ∧ decide (0 ≤ i) = (lk R n).isSome ∧ Below w.heap.size w w' := by
  obtain ⟨a, c, rfl, hrow⟩ := h.row
  have hb1 := new_below w (.cells #[.slice a R.length c, .int .i64 (room : Int), .bool off, .bool due, .int .i64 o, .int .i64 p, .int .i64 k] 28)
  have hn1 := heap_new w (.cells #[.slice a R.length c, .int .i64 (room : Int), .bool off, .bool due, .int .i64 o, .int .i64 p, .int .i64 k] 28)
  obtain ⟨w1, hw1⟩ : ∃ w1, w1 = w.alloc (.cells #[.slice a R.length c, .int .i64 (room : Int), .bool off, .bool due, .int .i64 o, .int .i64 p, .int .i64 k] 28) := ⟨_, rfl⟩
  rw [← hw1] at hb1 hn1
  have d0 : w1.cell? ⟨w.heap.size, 0, none⟩ = some (.slice a R.length c) := cell_blk hn1 rfl
  have HR := hid hrow
  have HB1 := hid hb1
  have HW := hid hw1
  clear h hrow hb1 hn1 hw1
  go_enter Try.func25, Try.ntmps25
  go_wp2
  go_loopw [5] (fun vi wr => ∃ k : Nat, vi = .int .i64 (k : Int) ∧ k ≤ R.length ∧ Hid (∀ i q, i < k → R[i]? = some q → q.1 ≠ n) ∧ Hid (Below w1.heap.size w1 wr)) (fun vi _ => R.length - (intOf vi).toNat)
  case atStart => exact ⟨0, rfl, Nat.zero_le _, hid (fun i q hi => by omega), hid (by rw [HW.out]; exact Below.refl _ _)⟩
  case round =>
    obtain ⟨k, rfl, hk, HN, HB⟩ := hrel
    have c0 : wr.cell? ⟨w.heap.size, 0, none⟩ = some (.slice a R.length c) := (HB.out.cell (cell_block d0)).trans d0
    have hgo := hid (HB1.out.trans (HB.out.mono HB1.out.size))
    by_cases hlt : k < R.length
    · have e5 : decide ((k : Int) < (R.length : Int)) = true := decide_eq_true (by omega)
      obtain ⟨q, hq⟩ : ∃ q, R[k]? = some q := ⟨R[k], List.getElem?_eq_getElem hlt⟩
      obtain ⟨g, ea, x0, x1, x2⟩ := HR.out k q hq
      subst ea
      have y0 : wr.cell? ⟨g, k * 3, none⟩ = some (.string (bs q.1)) := (hgo.out.cell (cell_block x0)).trans x0
      have hqm := List.mem_of_getElem? hq
      have HQ := hid hq
      clear x0 x1 x2 hq
      by_cases hqn : q.1 = n
      · have hs := hid (lk_some_of R n hqm hqn)
        have hk0 : decide ((0 : Int) ≤ (k : Int)) = true := decide_eq_true (by omega)
        rw [hqn] at y0
        clear hqm hqn
        go_wp2
        go_ret
        exact ⟨_, rfl, by rw [hs.out]; exact hk0, hgo.out⟩
      · have hb : ((bs q.1).toList == (bs n).toList) = false := by rw [bs_list, bs_list]; simpa using hqn
        clear hqm
        go_wp2
        go_roundw
        case rel => exact ⟨k + 1, by go_num, by omega, hid (fun i q' hi hq' => by
          by_cases hik : i = k
          · subst hik
            rw [HQ.out] at hq'
            obtain rfl := Option.some.inj hq'
            exact hqn
          · exact HN.out i q' (by omega) hq'), HB⟩
        case measure => simp [intOf]; omega
    · obtain rfl : k = R.length := by omega
      have e5 : decide ((R.length : Int) < (R.length : Int)) = false := by simp
      have hno : lk R n = none := lk_none_of R n (fun p hp => by
        obtain ⟨i, hi, rfl⟩ := List.mem_iff_getElem.1 hp
        exact HN.out i _ hi (List.getElem?_eq_getElem hi))
      have HNO := hid hno
      clear hno
      go_wp2
      go_ret
      exact ⟨_, rfl, by rw [HNO.out]; rfl, hgo.out⟩

set_option maxRecDepth 100000 in
set_option maxHeartbeats 8000000 in
theorem rmay_any (s : ByteArray) (w : World) (hs : s.size ≤ maxLen) : Calls Try.prog 52 #[.string s] w fun e w' => e = .returned (.bool (mayB s.data.toList)) ∧ w = w' := by
  unfold maxLen at hs
  by_cases h0 : s.size < 1 ∨ 32 < s.size
  · rw [may_short s h0]
    rcases h0 with h0 | h0
    · have e0 : s.size = 0 := by omega
      go_enter Try.func52, Try.ntmps52
      go_wp2
      all_goals first
        | (go_ret; exact ⟨rfl, rfl⟩)
        | (exfalso; omega)
    · have e0 : decide ((32 : Int) < (s.size : Int)) = true := decide_eq_true (by omega)
      go_enter Try.func52, Try.ntmps52
      go_wp2
      all_goals first
        | (go_ret; exact ⟨rfl, rfl⟩)
        | (exfalso; omega)
  have hp : 1 ≤ s.size := by omega
  have hq : s.size ≤ 32 := by omega
  have e0 : decide ((32 : Int) < (s.size : Int)) = false := decide_eq_false (by omega)
  have e1 : ((s.size : Int) == 0) = false := by
    have : (s.size : Int) ≠ 0 := by omega
    simpa using this
  have e2 : ¬ s.size = 0 := by omega
  clear h0
  go_enter Try.func52, Try.ntmps52
  go_wp2
  go_loop [3] (fun i => ∃ k : Nat, k ≤ s.size ∧ i = .int .i64 k ∧ Hid (∀ j (hj : j < s.size), j < k → stB (s[j].toNat) = true)) (fun i => s.size - (intOf i).toNat)
  case atStart => exact ⟨0, Nat.zero_le _, rfl, hid (fun j _ h => by omega)⟩
  case round =>
    obtain ⟨k, hk, rfl, HH⟩ := hrel
    by_cases hlt : k < s.size
    · have hb0 : ∃ b, stB (s[k].toNat) = b := ⟨_, rfl⟩
      by_cases h45 : s[k].toNat = 45
      · have n45 : ((s[k].toNat : Int) != 45) = false := by rw [h45]; rfl
        have n46 : ((s[k].toNat : Int) != 46) = true := by rw [h45]; rfl
        have hbt : stB (s[k].toNat) = true := by rw [h45]; rfl
        have HN : Hid (∀ j (hj : j < s.size), j < k + 1 → stB (s[j].toNat) = true) := hid (fun j hj h => by
          by_cases hjk : j = k
          · subst hjk; exact hbt
          · exact HH.out j hj (by omega))
        have hb := hid hbt
        have hi45 : (s[k].toNat : Int) = 45 := by omega
        clear h45 hbt hb0
        go_wp2
        all_goals first
          | (exfalso; have h9 := hb.out; simp [stB] at h9; omega)
          | skip
        all_goals
          go_roundw
          case rel => exact ⟨k + 1, by omega, by go_num, HN⟩
          case measure => simp [intOf]; omega
      by_cases h46 : s[k].toNat = 46
      · have n45 : ((s[k].toNat : Int) != 45) = true := by rw [h46]; rfl
        have n46 : ((s[k].toNat : Int) != 46) = false := by rw [h46]; rfl
        have hbt : stB (s[k].toNat) = true := by rw [h46]; rfl
        have HN : Hid (∀ j (hj : j < s.size), j < k + 1 → stB (s[j].toNat) = true) := hid (fun j hj h => by
          by_cases hjk : j = k
          · subst hjk; exact hbt
          · exact HH.out j hj (by omega))
        have hb := hid hbt
        have hi46 : (s[k].toNat : Int) = 46 := by omega
        clear h46 hbt hb0
        go_wp2
        all_goals first
          | (exfalso; have h9 := hb.out; simp [stB] at h9; omega)
          | skip
        all_goals
          go_roundw
          case rel => exact ⟨k + 1, by omega, by go_num, HN⟩
          case measure => simp [intOf]; omega
      have i45 : ¬ (s[k].toNat : Int) = 45 := by omega
      have i46 : ¬ (s[k].toNat : Int) = 46 := by omega
      have n45 : ((s[k].toNat : Int) != 45) = true := by simpa using i45
      have n46 : ((s[k].toNat : Int) != 46) = true := by simpa using i46
      cases hb : stB (s[k].toNat)
      · have e := hid (may_out s k hlt hb)
        have hb := hid hb
        go_wp2
        all_goals first
          | (exfalso; have h9 := hb.out; simp [stB] at h9; omega)
          | skip
        all_goals
          go_ret
          rw [e.out]
          exact ⟨rfl, rfl⟩
      · have HN : Hid (∀ j (hj : j < s.size), j < k + 1 → stB (s[j].toNat) = true) := hid (fun j hj h => by
          by_cases hjk : j = k
          · subst hjk; exact hb
          · exact HH.out j hj (by omega))
        have hb := hid hb
        go_wp2
        all_goals first
          | (exfalso; have h9 := hb.out; simp [stB] at h9; omega)
          | skip
        all_goals
          go_roundw
          case rel => exact ⟨k + 1, by omega, by go_num, HN⟩
          case measure => simp [intOf]; omega
    · have e := hid (may_in s hp hq (fun j hj => HH.out j hj (by omega)))
      go_wp2
      go_ret
      rw [e.out]
      exact ⟨rfl, rfl⟩
end

section
set_option linter.unusedVariables false
set_option linter.unusedSimpArgs false
open Go.RowKit
set_option linter.unusedSectionVars false
variable {sp : Sep}


theorem size28 : (Try.prog.info? 28).map (·.size) = some 7 := by kernel_rfl
theorem res1 {fn : Func} {p : Tmp} (h : fn.results = #[.cell p 28]) (tmps : Array Value) (w : World) (g : Nat) (cs : Array Value) (hp : tmps.getD p undef = .pointer (some ⟨g, 0, none⟩)) (hg : w.heap[g]? = some (.cells cs 28 (0, 0))) (hs : cs.size = 7) : (results fn tmps).run Try.prog w = .ok (.agg cs) w :=
  results_cell_row h tmps w g 28 cs (0, 0) _ hp hg Try.underlying28 rfl (by rw [hs]; exact size28)
theorem res2 {fn : Func} {p u : Tmp} (h : fn.results = #[.cell p 28, .tmp u]) (tmps : Array Value) (w : World) (g : Nat) (cs : Array Value) (hp : tmps.getD p undef = .pointer (some ⟨g, 0, none⟩)) (hg : w.heap[g]? = some (.cells cs 28 (0, 0))) (hs : cs.size = 7) : (results fn tmps).run Try.prog w = .ok (.tuple #[.agg cs, tmps.getD u undef]) w := by
  rw [results_cell_tmp h, hp]
  have := run_loadVar_row (P := Try.prog) w g 28 28 cs (0, 0) _ hg Try.underlying28 rfl (by rw [hs]; exact size28)
  simp [asAddr, this]
theorem heap_last1 (w : World) (a b : Obj) : ((w.alloc a).alloc b).heap[w.heap.size + 1]? = some b := (heap_new2 w a b).2
theorem below2 (w : World) (a b : Obj) : Below w.heap.size w ((w.alloc a).alloc b) := ((Below.refl _ w).alloc (Nat.le_refl _) _).alloc (by simp) _

set_option maxRecDepth 100000 in
set_option maxHeartbeats 4000000 in
theorem ron_any (a : Option Addr) (n c : Nat) (room : Nat) (off due : Bool) (o p k : Int) (w : World) : Calls Try.prog 28 #[.agg #[.slice a n c, .int .i64 (room : Int), .bool off, .bool due, .int .i64 o, .int .i64 p, .int .i64 k]] w fun e w' => e = .returned (.agg #[.slice a n c, .int .i64 (room : Int), .bool false, .bool false, .int .i64 0, .int .i64 0, .int .i64 0]) ∧ Below w.heap.size w w' := by
  go_enter Try.func28, Try.ntmps28
  go_wp2
  exact bodyPost_ret (res1 rfl _ _ (w.heap.size + 1) _ rfl (heap_last1 _ _ _) rfl) rfl ⟨rfl, below2 _ _ _⟩

set_option maxRecDepth 100000 in
set_option maxHeartbeats 4000000 in
theorem rdue_no (a : Option Addr) (n c : Nat) (room : Nat) (off due : Bool) (o p k : Int) (w : World) : Calls Try.prog 43 #[.agg #[.slice a n c, .int .i64 (room : Int), .bool off, .bool false, .int .i64 o, .int .i64 p, .int .i64 k]] w fun e w' => e = .returned (.tuple #[.agg #[.slice a n c, .int .i64 (room : Int), .bool off, .bool false, .int .i64 o, .int .i64 p, .int .i64 k], .bool false]) ∧ Below w.heap.size w w' := by
  go_enter Try.func43, Try.ntmps43
  go_wp2
  exact bodyPost_ret (res2 rfl _ _ (w.heap.size + 1) _ rfl (heap_last1 _ _ _) rfl) rfl ⟨rfl, below2 _ _ _⟩

set_option maxRecDepth 100000 in
set_option maxHeartbeats 4000000 in
theorem rdue_yes (a : Option Addr) (n c : Nat) (room : Nat) (off due : Bool) (o p k : Int) (w : World) (h : ¬ 0 < o) : Calls Try.prog 43 #[.agg #[.slice a n c, .int .i64 (room : Int), .bool off, .bool true, .int .i64 o, .int .i64 p, .int .i64 k]] w fun e w' => e = .returned (.tuple #[.agg #[.slice a n c, .int .i64 (room : Int), .bool off, .bool true, .int .i64 o, .int .i64 p, .int .i64 k], .bool true]) ∧ Below w.heap.size w w' := by
  have e1 : decide (0 < o) = false := decide_eq_false h
  go_enter Try.func43, Try.ntmps43
  go_wp2
  exact bodyPost_ret (res2 rfl _ _ (w.heap.size + 1) _ rfl (heap_last1 _ _ _) rfl) rfl ⟨rfl, below2 _ _ _⟩

set_option maxRecDepth 100000 in
set_option maxHeartbeats 4000000 in
theorem rdue_dec (a : Option Addr) (n c : Nat) (room : Nat) (off due : Bool) (o p k : Int) (w : World) (h : 0 < o) (h2 : o ≤ 9223372036854775807) : Calls Try.prog 43 #[.agg #[.slice a n c, .int .i64 (room : Int), .bool off, .bool true, .int .i64 o, .int .i64 p, .int .i64 k]] w fun e w' => e = .returned (.tuple #[.agg #[.slice a n c, .int .i64 (room : Int), .bool off, .bool true, .int .i64 (o - 1), .int .i64 p, .int .i64 k], .bool false]) ∧ Below w.heap.size w w' := by
  have e1 : decide (0 < o) = true := decide_eq_true h
  have e2 : wrap64 (o - 1) = o - 1 := by unfold wrap64; omega
  have e3 : IntKind.i64.wrap (o - 1) = o - 1 := by rw [IntKind.wrap_i64]; omega
  go_enter Try.func43, Try.ntmps43
  go_wp2
  exact bodyPost_ret (res2 rfl _ _ (w.heap.size + 1) _ rfl (heap_last1 _ _ _) rfl) rfl ⟨rfl, below2 _ _ _⟩

set_option maxRecDepth 100000 in
set_option maxHeartbeats 4000000 in
theorem rcut_neg1 (a : Option Addr) (n c : Nat) (room : Nat) (off due : Bool) (o p k : Int) (w : World) (o2 p2 k2 : Int) (h : o2 < 0) : Calls Try.prog 27 #[.agg #[.slice a n c, .int .i64 (room : Int), .bool off, .bool due, .int .i64 o, .int .i64 p, .int .i64 k], .int .i64 o2, .int .i64 p2, .int .i64 k2] w fun e w' => e = .returned (.tuple #[.agg #[.slice a n c, .int .i64 (room : Int), .bool off, .bool due, .int .i64 o, .int .i64 p, .int .i64 k], .int .i64 1]) ∧ Below w.heap.size w w' := by
  have e1 : decide (o2 < 0) = true := decide_eq_true h
  go_enter Try.func27, Try.ntmps27
  go_wp2
  exact bodyPost_ret (res2 rfl _ _ (w.heap.size + 1) _ rfl (heap_last1 _ _ _) rfl) rfl ⟨rfl, below2 _ _ _⟩

set_option maxRecDepth 100000 in
set_option maxHeartbeats 4000000 in
theorem rcut_neg2 (a : Option Addr) (n c : Nat) (room : Nat) (off due : Bool) (o p k : Int) (w : World) (o2 p2 k2 : Int) (h : ¬ o2 < 0) (h2 : p2 < 0) : Calls Try.prog 27 #[.agg #[.slice a n c, .int .i64 (room : Int), .bool off, .bool due, .int .i64 o, .int .i64 p, .int .i64 k], .int .i64 o2, .int .i64 p2, .int .i64 k2] w fun e w' => e = .returned (.tuple #[.agg #[.slice a n c, .int .i64 (room : Int), .bool off, .bool due, .int .i64 o, .int .i64 p, .int .i64 k], .int .i64 1]) ∧ Below w.heap.size w w' := by
  have e1 : decide (o2 < 0) = false := decide_eq_false h
  have e2 : decide (p2 < 0) = true := decide_eq_true h2
  go_enter Try.func27, Try.ntmps27
  go_wp2
  exact bodyPost_ret (res2 rfl _ _ (w.heap.size + 1) _ rfl (heap_last1 _ _ _) rfl) rfl ⟨rfl, below2 _ _ _⟩

set_option maxRecDepth 100000 in
set_option maxHeartbeats 4000000 in
theorem rcut_neg3 (a : Option Addr) (n c : Nat) (room : Nat) (off due : Bool) (o p k : Int) (w : World) (o2 p2 k2 : Int) (h : ¬ o2 < 0) (h2 : ¬ p2 < 0) (h3 : k2 < 0) : Calls Try.prog 27 #[.agg #[.slice a n c, .int .i64 (room : Int), .bool off, .bool due, .int .i64 o, .int .i64 p, .int .i64 k], .int .i64 o2, .int .i64 p2, .int .i64 k2] w fun e w' => e = .returned (.tuple #[.agg #[.slice a n c, .int .i64 (room : Int), .bool off, .bool due, .int .i64 o, .int .i64 p, .int .i64 k], .int .i64 1]) ∧ Below w.heap.size w w' := by
  have e1 : decide (o2 < 0) = false := decide_eq_false h
  have e2 : decide (p2 < 0) = false := decide_eq_false h2
  have e3 : decide (k2 < 0) = true := decide_eq_true h3
  go_enter Try.func27, Try.ntmps27
  go_wp2
  exact bodyPost_ret (res2 rfl _ _ (w.heap.size + 1) _ rfl (heap_last1 _ _ _) rfl) rfl ⟨rfl, below2 _ _ _⟩

set_option maxRecDepth 100000 in
set_option maxHeartbeats 4000000 in
theorem rcut_off (a : Option Addr) (n c : Nat) (room : Nat) (off due : Bool) (o p k : Int) (w : World) (o2 p2 k2 : Int) (h : ¬ o2 < 0) (h2 : ¬ p2 < 0) (h3 : ¬ k2 < 0) : Calls Try.prog 27 #[.agg #[.slice a n c, .int .i64 (room : Int), .bool true, .bool due, .int .i64 o, .int .i64 p, .int .i64 k], .int .i64 o2, .int .i64 p2, .int .i64 k2] w fun e w' => e = .returned (.tuple #[.agg #[.slice a n c, .int .i64 (room : Int), .bool true, .bool due, .int .i64 o, .int .i64 p, .int .i64 k], .int .i64 71]) ∧ Below w.heap.size w w' := by
  have e1 : decide (o2 < 0) = false := decide_eq_false h
  have e2 : decide (p2 < 0) = false := decide_eq_false h2
  have e3 : decide (k2 < 0) = false := decide_eq_false h3
  go_enter Try.func27, Try.ntmps27
  go_wp2
  exact bodyPost_ret (res2 rfl _ _ (w.heap.size + 1) _ rfl (heap_last1 _ _ _) rfl) rfl ⟨rfl, below2 _ _ _⟩

set_option maxRecDepth 100000 in
set_option maxHeartbeats 4000000 in
theorem rcut_ok (a : Option Addr) (n c : Nat) (room : Nat) (off due : Bool) (o p k : Int) (w : World) (o2 p2 k2 : Int) (h : ¬ o2 < 0) (h2 : ¬ p2 < 0) (h3 : ¬ k2 < 0) : Calls Try.prog 27 #[.agg #[.slice a n c, .int .i64 (room : Int), .bool false, .bool due, .int .i64 o, .int .i64 p, .int .i64 k], .int .i64 o2, .int .i64 p2, .int .i64 k2] w fun e w' => e = .returned (.tuple #[.agg #[.slice a n c, .int .i64 (room : Int), .bool false, .bool true, .int .i64 o2, .int .i64 p2, .int .i64 k2], .int .i64 0]) ∧ Below w.heap.size w w' := by
  have e1 : decide (o2 < 0) = false := decide_eq_false h
  have e2 : decide (p2 < 0) = false := decide_eq_false h2
  have e3 : decide (k2 < 0) = false := decide_eq_false h3
  go_enter Try.func27, Try.ntmps27
  go_wp2
  exact bodyPost_ret (res2 rfl _ _ (w.heap.size + 1) _ rfl (heap_last1 _ _ _) rfl) rfl ⟨rfl, below2 _ _ _⟩

set_option maxRecDepth 100000 in
set_option maxHeartbeats 4000000 in
theorem rnew_any (r : Int) (w : World) : Calls Try.prog 10 #[.int .i64 r] w fun e w' => e = .returned (.agg #[.slice none 0 0, .int .i64 ((r.toNat : Nat) : Int), .bool false, .bool false, .int .i64 0, .int .i64 0, .int .i64 0]) ∧ Below w.heap.size w w' := by
  by_cases h : r < 0
  · have e1 : decide (r < 0) = true := decide_eq_true h
    have e2 : ((r.toNat : Nat) : Int) = 0 := by omega
    rw [e2]
    clear h e2
    go_enter Try.func10, Try.ntmps10
    go_wp2
    exact bodyPost_ret (res1 rfl _ _ w.heap.size _ rfl (heap_new _ _) rfl) rfl ⟨rfl, new_below _ _⟩
  · have e1 : decide (r < 0) = false := decide_eq_false h
    have e2 : ((r.toNat : Nat) : Int) = r := by omega
    rw [e2]
    clear h e2
    go_enter Try.func10, Try.ntmps10
    go_wp2
    exact bodyPost_ret (res1 rfl _ _ w.heap.size _ rfl (heap_new _ _) rfl) rfl ⟨rfl, new_below _ _⟩
end
end Go.Proofs.Ytocglenkdjiknaa
