/- DiskRoom: the walk. -/
import Derived.Test.YtocglenkdjiknaaDkNew
import Derived.Lib.SlBytesConst
import Derived.Test.YtocglenkdjiknaaDkMay
import Derived.WalkKit
import Derived.ProofKit
import Derived.OpenShut
import Derived.ShutString
import Derived.ChangeOld
import Derived.Below
import Derived.ChangeMaps5
import Derived.Deep.Matrix
import Derived.ChangeSame
import Derived.ChangeArms
import Derived.WideShapes
import Derived.Lib.SmallJoins
import Derived.Deep.SlicePairs
namespace Go.Proofs.Ytocglenkdjiknaa
section
set_option linter.unusedVariables false
set_option linter.unusedSimpArgs false
open Go.RowKit Go.Sort Go.Maps Go.Shelf

theorem src_new (w : World) (C : Array Value) (fr : Nat × Nat) (L : List Int) (hC : C = (L.map (Value.int .u8)).toArray) : Src (w.alloc (.cells C 5 fr)) (some ⟨w.heap.size, 0, none⟩) L.length L := by
  refine ⟨rfl, fun hp => ⟨_, rfl, fun j x hj => ?_⟩⟩
  have h := heap_new w (.cells C 5 fr)
  have e : (⟨w.heap.size, 0, none⟩ : Addr).add j = ⟨w.heap.size, j, none⟩ := by
    unfold Addr.add
    split
    · rename_i h0
      rw [h0]
    · simp
  rw [e]
  exact cell_blk h (by rw [hC]; simp [hj])
/-- Bytes that were just made are appended. -/
theorem append_new {w : World} {d : Nat} {D : Dk} {P : Nat → Prop} (h : DK w d D P) (n : Nm) (L : List Int) (C : Array Value) (fr : Nat × Nat) (hC : C = (L.map (Value.int .u8)).toArray) (hn : n.length ≤ maxLen) (hL : Bts L) (hl : L.length ≤ 1000) :
    Calls Try.prog 13 #[.pointer (some ⟨d, 0, none⟩), encStr n, .slice (some ⟨w.heap.size, 0, none⟩) L.length L.length] (w.alloc (.cells C 5 fr)) fun e w' => ∃ x : Nat, e = .returned (.int .i64 (x : Int)) ∧ x = (operD (eApp D.room n L) D).2 ∧ DK w' d (operD (eApp D.room n L) D).1 P ∧ KP w w' P := by
  have hb := new_below w (.cells C 5 fr)
  have h1 := h.more hb
  refine (append_any d n L (some ⟨w.heap.size, 0, none⟩) L.length D _ _ h1 hn (src_new w C fr L hC) (fun _ ad e => ?_) (fun e => by cases e) ⟨Nat.le_refl _, by unfold maxLen; omega⟩ hL).mono ?_
  · obtain rfl := Option.some.inj e
    exact Or.inr ⟨Nat.le_refl _, by simp⟩
  · rintro e w' ⟨x, rfl, q1, q2, q3⟩
    exact ⟨x, rfl, q1, q2.less (fun j hj => Or.inl hj), (KP.below hb).trans (q3.less (fun j hj => Or.inl hj))⟩

def aw1 : Dk := ⟨100, false, none, []⟩
def aw2 : Dk := ⟨100, false, none, [([97], ⟨[97, 98], 0⟩)]⟩
def aw3 : Dk := ⟨100, false, none, [([97], ⟨[97, 98], 2⟩)]⟩
def aw4 : Dk := ⟨100, false, none, [([97], ⟨[97, 98, 99, 100], 2⟩)]⟩
def aw5 : Dk := ⟨100, false, some (0, 1, 1), [([97], ⟨[97, 98, 99, 100], 2⟩)]⟩
def aw6 : Dk := ⟨100, true, none, [([97], ⟨[97, 98, 99], 3⟩)]⟩
def aw7 : Dk := ⟨100, false, none, [([97], ⟨[97, 98, 99], 3⟩)]⟩
theorem as2 : operD (eApp aw1.room [97] [97, 98]) aw1 = (aw2, 0) := by kernel_rfl
theorem as3 : operD (eSync [97]) aw2 = (aw3, 0) := by kernel_rfl
theorem as4 : operD (eApp aw3.room [97] [99, 100]) aw3 = (aw4, 0) := by kernel_rfl
theorem as5 : cutD aw4 0 1 1 = (aw5, 0) := by kernel_rfl
theorem as6 : operD (eApp aw5.room [97] [101, 102]) aw5 = (aw6, 71) := by kernel_rfl
theorem as7 : readD aw7 [97] = ([97, 98, 99], 0) := by kernel_rfl

theorem kp_below {w w' : World} (h : KP w w' (fun j => j < w.heap.size)) : Below w.heap.size w w' := ⟨h.sm.1, h.sm.2.1, h.sm.2.2, h.size, fun j hj => h.keep j hj hj⟩

theorem bts2 (a b : Int) (h : (0 ≤ a ∧ a < 256) ∧ 0 ≤ b ∧ b < 256) : Bts [a, b] := fun x hx => by
  simp at hx
  rcases hx with rfl | rfl
  · exact h.1
  · exact h.2

set_option maxRecDepth 100000 in
set_option maxHeartbeats 4000000 in
theorem awake_any (w : World) : Calls Try.prog 8 #[] w fun e w' => e = .returned (.bool true) ∧ Below w.heap.size w w' := by
  have hst : strOfNums [97, 98, 99] = ⟨#[97, 98, 99]⟩ := by kernel_rfl
  have kc := fun (w : World) (C : Array Value) (n c : Nat) => Lib.run_convert_bytes_const (P := Try.prog) w 31 5 C n c Try.underlying31 Try.underlying5
  go_enter Try.func8, Try.ntmps8
  go_wp2_with (first
    | (go_at_call 23; have hq := K8.out; refine (room_dk _ _ _ _ hq.1).mono ?_; rintro e w9 ⟨rfl, hb9⟩; have K9 := hid (hq.2.trans (KP.below hb9)); clear hq hb9)
    | (go_at_call 18; have hq := K7.out; refine (read_any _ [97] _ _ _ hq.1 (nl (by simp))).mono ?_; rintro e w8 ⟨a8, c8, x8, rfl, hx8, hr8, hb8⟩; rw [as7] at hx8 hr8 ⊢; subst hx8; obtain ⟨_, _, e8, hs8, _⟩ := own_src hr8; cases e8; have hcv : (convert 31 9 (.slice a8 3 c8)).run Try.prog w8 = .ok (.string ⟨#[97, 98, 99]⟩) w8 := (conv_src hs8 c8).trans (by rw [hst]); have K8 := hid (And.intro (hq.1.below hb8) (hq.2.trans (KP.below hb8))); clear hq hb8 hr8 hs8)
    | (go_at_call 17; have hq := K6.out; refine (on_any _ _ _ _ hq.1).mono ?_; rintro e w7 ⟨rfl, q1, q2⟩; have K7 : Hid (DK w7 _ aw7 (fun j => j < w.heap.size) ∧ KP w w7 (fun j => j < w.heap.size)) := hid (And.intro q1 (hq.2.trans q2)); clear hq q1 q2)
    | (go_at_call 16; have hq := K6.out; refine (off_any _ _ _ _ hq.1).mono ?_; rintro e w6' ⟨rfl, rfl⟩; clear hq)
    | (go_at_call 13; have hq := K5.out; refine (append_new hq.1 [97] [101, 102] _ _ rfl (nl (by simp)) (bts2 _ _ (by decide)) (by simp)).mono ?_; rintro e w6 ⟨x, rfl, hx, q1, q2⟩; rw [as6] at hx q1; subst hx; have K6 := hid (And.intro q1 (hq.2.trans q2)); clear hq q1 q2)
    | (go_at_call 15; have hq := K4.out; refine (cut_any _ 0 1 1 _ _ _ hq.1 (by omega) (by omega) (by omega)).mono ?_; rintro e w5 ⟨x, rfl, hx, q1, q2⟩; rw [as5] at hx q1; subst hx; have K5 := hid (And.intro q1 (hq.2.trans q2)); clear hq q1 q2)
    | (go_at_call 13; have hq := K3.out; refine (append_new hq.1 [97] [99, 100] _ _ rfl (nl (by simp)) (bts2 _ _ (by decide)) (by simp)).mono ?_; rintro e w4 ⟨x, rfl, hx, q1, q2⟩; rw [as4] at hx q1; subst hx; have K4 := hid (And.intro q1 (hq.2.trans q2)); clear hq q1 q2)
    | (go_at_call 14; have hq := K2.out; refine (sync_any _ [97] _ _ _ hq.1 (nl (by simp))).mono ?_; rintro e w3 ⟨x, rfl, hx, q1, q2⟩; rw [as3] at hx q1; subst hx; have K3 := hid (And.intro q1 (hq.2.trans q2)); clear hq q1 q2)
    | (go_at_call 13; have hq := K1.out; refine (append_new hq.1 [97] [97, 98] _ _ rfl (nl (by simp)) (bts2 _ _ (by decide)) (by simp)).mono ?_; rintro e w2 ⟨x, rfl, hx, q1, q2⟩; rw [as2] at hx q1; subst hx; have K2 := hid (And.intro q1 (hq.2.trans q2)); clear hq q1 q2)
    | (go_at_call 9; refine (new_any 100 (by omega) _).mono ?_; rintro e w1 ⟨d, rfl, hb1, q1⟩; have K1 : Hid (DK w1 d aw1 (fun j => j < w.heap.size) ∧ KP w w1 (fun j => j < w.heap.size)) := hid (And.intro q1 (KP.below hb1)); clear hb1 q1))
  go_ret
  exact ⟨rfl, kp_below K9.out⟩
end

section
set_option linter.unusedVariables false
open Go.RowKit
open Go.ChangeShapes Go.WideShapes Go.ChangeAt

theorem open_byt {H : Type} {enc : TypeId × Value → H} {W : World} {a : Option Addr} {len cap : Nat} {d : DataW H} {p : List MemPlace} (h : DataW.Trod enc Try.prog W 0 (fun _ => true) true 31 (.slice a len cap) d p) : ∃ zs, IsRow .u8 W a len cap zs := by
  obtain ⟨fuel, hf⟩ := h
  rcases open_ints Try.underlying31 Try.underlying5 (by kernel_rfl) hf with ⟨hcs, _⟩ | ⟨x, l, c, zs, hcs, _, hl, hm, hz, _, hcell, hwz⟩
  · simp [Value.cells] at hcs
    obtain ⟨rfl, rfl, rfl⟩ := hcs
    exact ⟨[], .inl ⟨rfl, rfl, rfl, rfl⟩⟩
  · simp [Value.cells] at hcs
    obtain ⟨rfl, rfl, rfl⟩ := hcs
    exact ⟨zs, .inr ⟨_, rfl, hl, hm, by simpa using hz, hcell, hwz⟩⟩
end

section
set_option linter.unusedVariables false
open Go.RowKit
open Go.ChangeShapes Go.WideShapes

/-- Something that is done: its kind, its names, its bytes (and where they lie), its numbers. -/
structure AI where
  kind : Int
  name : ByteArray
  to : ByteArray
  a : Option Addr
  c : Nat
  B : List Int
  n : Int
  part : Int
  keep : Int
/-- Its cells. -/
def AI.cells (x : AI) : List Value := [.int .i64 x.kind, .string x.name, .string x.to, .slice x.a x.B.length x.c, .int .i64 x.n, .int .i64 x.part, .int .i64 x.keep]
/-- What holds of it. -/
structure AI.Ok (x : AI) (w : World) : Prop where
  kind : (Lit.int .i64 x.kind).wf = true
  name : x.name.size ≤ maxLen
  to : x.to.size ≤ maxLen
  src : Src w x.a x.B.length x.B
  bts : Bts x.B
  cap : x.B.length ≤ x.c ∧ x.c ≤ maxLen
  nil : x.a = none → x.c = 0
  n : (Lit.int .i64 x.n).wf = true
  part : (Lit.int .i64 x.part).wf = true
  keep : (Lit.int .i64 x.keep).wf = true
theorem AI.Ok.below {x : AI} {w w' : World} (h : x.Ok w) (hb : Below w.heap.size w w') : x.Ok w' := ⟨h.kind, h.name, h.to, h.src.below hb, h.bts, h.cap, h.nil, h.n, h.part, h.keep⟩

/-- A row of them that came in. -/
def ASrc (w : World) (a : Option Addr) (len : Nat) (X : List AI) : Prop :=
  X.length = len ∧ (∀ x ∈ X, x.Ok w) ∧ (0 < len → ∃ g off, a = some ⟨g, off, none⟩ ∧ ∀ (i : Nat) (x : AI), X[i]? = some x → ∀ (j : Nat) (u : Value), x.cells[j]? = some u → w.cell? ⟨g, off + i * 7 + j, none⟩ = some u)

section
variable {H : Type} {enc : TypeId × Value → H} {P : Program} {w : World} {base : Nat} {spare : Nat → Bool} {held : Bool}

/-- Which types the fields have, and where they lie. -/
abbrev actShape (tInt tStr tSl : TypeId) : List (TypeId × Nat) := [(tInt, 0), (tStr, 1), (tStr, 2), (tSl, 3), (tInt, 4), (tInt, 5), (tInt, 6)]

theorem part_one {α : Type} {l : List α} {o : Nat} {x : α} (h : (l.drop o).take 1 = [x]) : l[o]? = some x := by
  have := congrArg (fun k => k[0]?) h
  simpa using this
theorem field_at {fs : Array Field} {l : List (TypeId × Nat)} (h : fs.toList.map (fun f => (f.type, f.offset)) = l) {i : Nat} {t : TypeId} {o : Nat} (hi : l[i]? = some (t, o)) : ∃ f, fs[i]? = some f ∧ f.type = t ∧ f.offset = o := by
  subst h
  simp only [List.getElem?_map, Option.map_eq_some_iff] at hi
  obtain ⟨f, h1, h2⟩ := hi
  simp only [Prod.mk.injEq] at h2
  exact ⟨f, by simpa using h1, h2.1, h2.2⟩
theorem fld {fs : Array Field} {l : List (TypeId × Nat)} {xs : List (DataW H × List MemPlace)} {n : Nat} {L : List Value} (hF : fs.toList.map (fun f => (f.type, f.offset)) = l) (hlen : xs.length = fs.size)
    (hq : ∀ (i : Nat) (f : Field), fs[i]? = some f → DataW.trod enc P w base spare held n f.type ((L.drop f.offset).take (P.cellsOf f.type)) = xs[i]?) (i : Nat) {t : TypeId} {o : Nat} (hi : l[i]? = some (t, o)) :
    ∃ y, DataW.trod enc P w base spare held n t ((L.drop o).take (P.cellsOf t)) = some y ∧ y ∈ xs := by
  obtain ⟨f, h1, rfl, rfl⟩ := field_at hF hi
  have hlt : i < xs.length := by rw [hlen]; exact (Array.getElem?_eq_some_iff.1 h1).1
  refine ⟨xs[i], ?_, List.getElem_mem _⟩
  rw [hq i f h1, List.getElem?_eq_getElem hlt]

theorem open_actl {tA tInt tStr tSl te : TypeId} {fs : Array Field} {L : List Value} {fuel : Nat} {x : DataW H × List MemPlace}
    (hO : P.underlying tA = some (.struct fs)) (hF : fs.toList.map (fun f => (f.type, f.offset)) = actShape tInt tStr tSl) (hI : P.underlying tInt = some (.int .i64)) (hS : P.underlying tStr = some .string) (hV : P.underlying tSl = some (.slice te))
    (cO : P.cellsOf tA = 7) (cI : P.cellsOf tInt = 1) (cV : P.cellsOf tSl = 1) (cS : P.cellsOf tStr = 1) (hf : DataW.trod enc P w base spare held fuel tA L = some x) :
    ∃ (k n p q : Int) (nm to : ByteArray) (a : Option Addr) (len cap : Nat) (du : DataW H) (pu : List MemPlace), L = [.int .i64 k, .string nm, .string to, .slice a len cap, .int .i64 n, .int .i64 p, .int .i64 q] ∧ (Lit.int .i64 k).wf = true ∧ (Lit.int .i64 n).wf = true ∧ (Lit.int .i64 p).wf = true ∧ (Lit.int .i64 q).wf = true ∧ nm.size ≤ maxLen ∧ to.size ≤ maxLen ∧ DataW.Trod enc P w base spare held tSl (.slice a len cap) du pu := by
  obtain ⟨xs, n, _, hx, hl, hlen, hq⟩ := DataW.trod_struct hO hf
  have F := fun i t o hi => fld (enc := enc) (w := w) (base := base) (spare := spare) (held := held) hF hlen hq i (t := t) (o := o) hi
  obtain ⟨y0, f0, _⟩ := F 0 _ _ rfl
  obtain ⟨y1, f1, _⟩ := F 1 _ _ rfl
  obtain ⟨y2, f2, _⟩ := F 2 _ _ rfl
  obtain ⟨y3, f3, _⟩ := F 3 _ _ rfl
  obtain ⟨y4, f4, _⟩ := F 4 _ _ rfl
  obtain ⟨y5, f5, _⟩ := F 5 _ _ rfl
  obtain ⟨y6, f6, _⟩ := F 6 _ _ rfl
  rw [cI] at f0 f4 f5 f6
  rw [cV] at f3
  rw [cS] at f1 f2
  obtain ⟨z0, e0, _, u0⟩ := DataW.trod_int hI f0
  obtain ⟨z4, e4, _, u4⟩ := DataW.trod_int hI f4
  obtain ⟨z5, e5, _, u5⟩ := DataW.trod_int hI f5
  obtain ⟨z6, e6, _, u6⟩ := DataW.trod_int hI f6
  obtain ⟨k1, e1, _, u1⟩ := DataW.trod_string hS f1
  obtain ⟨k2, e2, _, u2⟩ := DataW.trod_string hS f2
  obtain ⟨a, len, cap, e3⟩ := Go.Joins.slice_form hV f3
  refine ⟨z0, z4, z5, z6, k1, k2, a, len, cap, y3.1, y3.2, ?_, u0, u4, u5, u6, u1, u2, ⟨n, by rw [e3] at f3; exact f3⟩⟩
  have p0 := part_one e0
  have p1 := part_one e1
  have p2 := part_one e2
  have p3 := part_one e3
  have p4 := part_one e4
  have p5 := part_one e5
  have p6 := part_one e6
  rw [cO] at hl
  apply List.ext_getElem?
  intro i
  match i with
  | 0 => exact p0
  | 1 => exact p1
  | 2 => exact p2
  | 3 => exact p3
  | 4 => exact p4
  | 5 => exact p5
  | 6 => exact p6
  | i + 7 => rw [List.getElem?_eq_none (by omega)]; rfl
end

theorem cellsAct : Try.prog.cellsOf 33 = 7 := by kernel_rfl
theorem cells3 : Try.prog.cellsOf 3 = 1 := by kernel_rfl
theorem cells9 : Try.prog.cellsOf 9 = 1 := by kernel_rfl
theorem cells31 : Try.prog.cellsOf 31 = 1 := by kernel_rfl

set_option maxRecDepth 100000 in
theorem open_acts {H : Type} {enc : TypeId × Value → H} {W : World} {a : Option Addr} {len cap : Nat} {d : DataW H} {p : List MemPlace} (h : DataW.Trod enc Try.prog W 0 (fun _ => true) true 22 (.slice a len cap) d p) :
    ∃ X, ASrc W a len X ∧ len ≤ maxLen := by
  obtain ⟨fuel, hf⟩ := h
  rcases Go.Deep.open_slice Try.underlying22 hf with ⟨hcs, _⟩ | ⟨x, l, c, m, n, D, Pl, hcs, _, hl, hm, hmm, _, hx⟩
  · simp [Value.cells] at hcs
    obtain ⟨rfl, rfl, rfl⟩ := hcs
    exact ⟨[], ⟨rfl, fun x hx => by simp at hx, fun h => absurd h (by omega)⟩, by unfold maxLen; omega⟩
  · simp [Value.cells] at hcs
    obtain ⟨rfl, rfl, rfl⟩ := hcs
    have hlm : len ≤ m := by rw [hmm]; split <;> omega
    have each : ∀ i, i < m → ∃ y : AI, (∀ j u, y.cells[j]? = some u → W.cell? ((x.add (i * 7)).add j) = some u) ∧ y.Ok W := by
      intro i hi
      obtain ⟨cs, h1, h2⟩ := hx i hi
      rw [cellsAct] at h1
      obtain ⟨_, hlen, hcell⟩ := World.cells?_some h1
      obtain ⟨k, n1, p1, q1, nm, to, a1, len1, cap1, du, pu, rfl, u1, u2, u3, u4, v1, v2, ht⟩ := open_actl Try.underlying33 rfl Try.underlying3 Try.underlying9 Try.underlying31 cellsAct cells3 cells31 cells9 h2
      obtain ⟨zs, hz⟩ := open_byt ht
      obtain ⟨s0, b0, c0, d0⟩ := hz.src
      have n0 : a1 = none → cap1 = 0 := by
        rcases hz with ⟨_, _, h, _⟩ | ⟨y, h, _⟩
        · exact fun _ => h
        · exact fun e => by rw [h] at e; cases e
      have hlen1 : (zs.take len1).length = len1 := s0.1
      refine ⟨⟨k, nm, to, a1, cap1, zs.take len1, n1, p1, q1⟩, fun j u hj => ?_, ⟨u1, v1, v2, by rw [hlen1]; exact s0, b0, ⟨by rw [hlen1]; exact c0, by unfold maxLen; omega⟩, n0, u2, u3, u4⟩⟩
      have hj7 : j < 7 := by
        rcases Nat.lt_or_ge j 7 with h' | h'
        · exact h'
        · rw [List.getElem?_eq_none (by simpa [AI.cells] using h')] at hj; cases hj
      have := hcell j hj7
      rw [this]
      simp only [AI.cells, hlen1] at hj
      exact hj
    haveI : Inhabited AI := ⟨⟨0, ByteArray.empty, ByteArray.empty, none, 0, [], 0, 0, 0⟩⟩
    obtain ⟨q, hq⟩ := Go.Deep.choose_lt each
    refine ⟨(List.range len).map q, ⟨by simp, fun y hy => ?_, fun hp => ?_⟩, by omega⟩
    · obtain ⟨i, hi, rfl⟩ := List.mem_map.1 hy
      exact (hq i (by have := List.mem_range.1 hi; omega)).2
    · have h0 := (hq 0 (by omega)).1 0 _ rfl
      have hsp : x.spot = none := by
        rcases hxs : x.spot with _ | s
        · rfl
        · exfalso
          have e : (x.add (0 * 7)).add 0 = x := by simp [Addr.add]
          rw [e] at h0
          unfold World.cell? at h0
          split at h0
          · rw [hxs] at h0
            simp at h0
          · cases h0
      obtain ⟨g, off, sp⟩ := x
      simp only at hsp
      subst hsp
      refine ⟨g, off, rfl, fun i y hy j u hj => ?_⟩
      have hi : i < len := by
        rcases Nat.lt_or_ge i len with h' | h'
        · exact h'
        · rw [List.getElem?_eq_none (by simpa using h')] at hy; cases hy
      rw [List.getElem?_map, List.getElem?_range hi] at hy
      obtain rfl := Option.some.inj hy
      have := (hq i (by omega)).1 j u hj
      rw [Addr.add_lit, Addr.add_lit] at this
      exact this
end

section
set_option linter.unusedVariables false
set_option linter.unusedSimpArgs false
open Go.RowKit Go.Sort Go.Maps

theorem sm_take (F : List (Nm × Fl)) (k : Nat) (h : k < F.length) : sm Fl.n (F.take (k + 1)) = sm Fl.n (F.take k) + (F[k]).2.b.length := by
  induction F generalizing k with
  | nil => simp at h
  | cons p r ih =>
    obtain ⟨n, f⟩ := p
    cases k with
    | zero => simp [sm, Fl.n]
    | succ k =>
      have := ih k (by simpa using h)
      simp only [List.take_succ_cons, sm, List.getElem_cons_succ]
      omega
theorem nms_at (F : List (Nm × Fl)) (k : Nat) (h : k < F.length) : (nms F)[k]? = some (F[k]).1 := by
  simp [nms, h]
/-- Names in a row, as they are told. -/
theorem names_row {w : World} {B : Nat} {v : Value} {N : List Nm} (h : w.ownsRow B 9 1 v N.length (N.map encStr)) : ∃ a c, v = .slice a N.length c ∧ ∀ k n, N[k]? = some n → ∃ g, a = some ⟨g, 0, none⟩ ∧ B ≤ g ∧ w.cell? ⟨g, k, none⟩ = some (encStr n) := by
  rcases h.2 with ⟨e, h0⟩ | ⟨g, cap, cur, e, hb, hg, hn, hc, hs, ht⟩
  · refine ⟨none, 0, by rw [e, h0], fun k n hk => ?_⟩
    obtain rfl : N = [] := List.eq_nil_of_length_eq_zero h0
    cases hk
  · refine ⟨_, _, e, fun k n hk => ⟨g, rfl, hb, ?_⟩⟩
    have hkl := (List.getElem?_eq_some_iff.1 hk).1
    have hx : (N.map encStr)[k]? = some (encStr n) := by rw [List.getElem?_map, hk]; rfl
    rw [← ht] at hx
    rw [List.getElem?_take_of_lt (by omega)] at hx
    exact cell_blk hg (by simpa using hx)

theorem read_at {D : Dk} (hg : Asc D.F) (hoff : D.off = false) (k : Nat) (h : k < D.F.length) : readD D (D.F[k]).1 = ((D.F[k]).2.b, 0) := by
  have : lk D.F (D.F[k]).1 = some (D.F[k]).2 := mem_lk hg (List.getElem_mem h)
  unfold readD
  rw [hoff, this]
  rfl

theorem sl (s : ByteArray) (h : s.size ≤ maxLen) : s.data.toList.length ≤ maxLen := by rw [tl_length]; exact h
theorem str_enc' (s : ByteArray) : (Value.string s) = encStr s.data.toList := by
  cases s
  simp [encStr]
theorem remove_s (d : Nat) (n : ByteArray) (D : Dk) (P : Nat → Prop) (w : World) (h : DK w d D P) (hn : n.size ≤ maxLen) : Calls Try.prog 20 #[.pointer (some ⟨d, 0, none⟩), .string n] w (Told (eRem n.data.toList) d D P w) := by
  rw [str_enc']
  exact remove_any d _ D P w h (sl n hn)
theorem rename_s (d : Nat) (n t : ByteArray) (D : Dk) (P : Nat → Prop) (w : World) (h : DK w d D P) (hn : n.size ≤ maxLen) (ht : t.size ≤ maxLen) : Calls Try.prog 19 #[.pointer (some ⟨d, 0, none⟩), .string n, .string t] w (Told (eRen n.data.toList t.data.toList) d D P w) := by
  rw [str_enc' n, str_enc' t]
  exact rename_any d _ _ D P w h (sl n hn) (sl t ht)
theorem shorten_s (d : Nat) (n : ByteArray) (k : Int) (D : Dk) (P : Nat → Prop) (w : World) (h : DK w d D P) (hn : n.size ≤ maxLen) (hk : k ≤ 9223372036854775807) : Calls Try.prog 21 #[.pointer (some ⟨d, 0, none⟩), .string n, .int .i64 k] w (Told (eSho n.data.toList k) d D P w) := by
  rw [str_enc']
  exact shorten_op d _ k D P w h (sl n hn) hk
theorem append_s (d : Nat) (n : ByteArray) (L : List Int) (ao : Option Addr) (cc : Nat) (D : Dk) (P : Nat → Prop) (w : World) (h : DK w d D P) (hn : n.size ≤ maxLen) (hsr : Src w ao L.length L) (hsb : 0 < L.length → ∀ ad, ao = some ad → P ad.block) (hao : ao = none → cc = 0) (hlc : L.length ≤ cc ∧ cc ≤ maxLen) (hL : Bts L) : Calls Try.prog 13 #[.pointer (some ⟨d, 0, none⟩), .string n, .slice ao L.length cc] w (Told (eApp D.room n.data.toList L) d D P w) := by
  rw [str_enc']
  exact append_any d _ L ao cc D P w h (sl n hn) hsr hsb hao hlc hL
theorem sm_take_le (F : List (Nm × Fl)) (k : Nat) : sm Fl.n (F.take k) ≤ sm Fl.n F := by
  induction F generalizing k with
  | nil => simp
  | cons p r ih =>
    cases k with
    | zero => simp [sm]
    | succ k =>
      have := ih k
      simp only [List.take_succ_cons, sm]
      omega
end

section
set_option linter.unusedVariables false
set_option linter.unusedSimpArgs false
open Go.RowKit Go.Sort Go.Maps

set_option maxRecDepth 100000 in
set_option maxHeartbeats 8000000 in
theorem room_walk0 (r : Int) (a1 : Option Addr) (cap1 : Nat) (X : List AI) (w : World) (hr : r ≤ 9223372036854775807) (s1 : ASrc w a1 X.length X) (hx : X.length ≤ maxLen) :
    Calls Try.prog 7 #[.int .i64 r, .slice a1 X.length cap1] w fun e w' => e = .returned (.bool true) ∧ Below w.heap.size w w' := by
  have HS1 := hid s1
  unfold maxLen at hx
  clear s1
  by_cases hc : 1000000 < r
  · have e1 : decide ((1000000 : Int) < r) = true := decide_eq_true hc
    clear hc
    go_enter Try.func7, Try.ntmps7
    go_wp2_with (go_at_call 8; refine (awake_any _).mono ?_; rintro e w0 ⟨rfl, hb0⟩; have HB00 := hid hb0; clear hb0)
    go_ret
    exact ⟨rfl, HB00.out⟩
  have e1 : decide ((1000000 : Int) < r) = false := decide_eq_false hc
  go_enter Try.func7, Try.ntmps7
  go_wp2_with (first
      | (go_at_call 9; refine (new_any r (by omega) _).mono ?_; rintro e w1 ⟨d, rfl, hb1, q1⟩; have K1 : Hid (DK w1 d ⟨r.toNat, false, none, []⟩ (fun j => j < w.heap.size) ∧ KP w w1 (fun j => j < w.heap.size)) := hid (And.intro (q1.less (fun j hj => Nat.lt_of_lt_of_le hj HB00.out.size)) ((KP.below HB00.out).trans (KP.below hb1))); clear hb1 q1)
      | (go_at_call 8; refine (awake_any _).mono ?_; rintro e w0 ⟨rfl, hb0⟩; have HB00 := hid hb0; clear hb0))
  go_loopw [7] (fun vi wr => ∃ (k : Nat) (F : List (Nm × Fl)), vi = .int .i64 (k : Int) ∧ Hid (DK wr d ⟨r.toNat, false, none, F⟩ (fun j => j < w.heap.size) ∧ KP w wr (fun j => j < w.heap.size))) (fun vi _ => X.length - (intOf vi).toNat)
  case atStart => exact ⟨0, [], rfl, K1⟩
  case round =>
    obtain ⟨k, F, rfl, HK⟩ := hrel
    by_cases hlt : k < X.length
    rotate_left
    · have e5 : decide ((k : Int) < (X.length : Int)) = false := decide_eq_false (by omega)
      go_wp2
      go_ret
      exact ⟨rfl, kp_below HK.out.2⟩
    by_cases h60 : k < 60
    rotate_left
    · have e5 : decide ((k : Int) < (X.length : Int)) = true := decide_eq_true (by omega)
      have e6 : decide ((k : Int) < (60 : Int)) = false := decide_eq_false (by omega)
      go_wp2
      go_ret
      exact ⟨rfl, kp_below HK.out.2⟩
    have e5 : decide ((k : Int) < (X.length : Int)) = true := decide_eq_true (by omega)
    have e6 : decide ((k : Int) < (60 : Int)) = true := decide_eq_true (by omega)
    obtain ⟨x, hxk⟩ : ∃ x, X[k]? = some x := ⟨X[k], List.getElem?_eq_getElem hlt⟩
    have hm : x ∈ X := List.mem_of_getElem? hxk
    obtain ⟨gX, oX, eX, hcX⟩ := HS1.out.2.2 (by omega)
    subst eX
    have hbw := kp_below HK.out.2
    have OKw0 := HS1.out.2.1 x hm
    have OK := hid (OKw0.below hbw)
    have cX : ∀ (j : Nat) (u : Value), x.cells[j]? = some u → wr.cell? ⟨gX, oX + k * 7 + j, none⟩ = some u := fun j u hj => by
      have := hcX k x hxk j u hj
      exact (hbw.cell (cell_block this)).trans this
    have x0 := cX 0 _ rfl
    have x1 := cX 1 _ rfl
    have x2 := cX 2 _ rfl
    have x3 := cX 3 _ rfl
    have x4 := cX 4 _ rfl
    have x5 := cX 5 _ rfl
    have x6 := cX 6 _ rfl
    rw [Nat.add_zero] at x0
    clear cX hcX hbw hm hxk
    have OKw := hid OKw0
    clear OKw0
    by_cases hb1 : 1000 < x.B.length
    · have e7 : decide ((1000 : Int) < (x.B.length : Int)) = true := decide_eq_true (by omega)
      go_wp2
      go_ret
      exact ⟨rfl, kp_below (HK.out.2.trans (KP.below (new_below wr _)))⟩
    have e7 : decide ((1000 : Int) < (x.B.length : Int)) = false := decide_eq_false (by omega)
    go_wp2_with (first
    | (go_at_call 22; have hq := K2.out; refine (names_any _ _ _ _ hq.1).mono ?_; rintro e w5 ⟨v5, rfl, hr5, hb5⟩; have hr6 : w5.ownsRow w2.heap.size 9 1 v5 (nms F2).length ((nms F2).map encStr) := hr5; obtain ⟨an, cn, rfl, hN⟩ := names_row hr6; rw [nms_len]; have HN := hid hN; have K5 := hid (And.intro (hq.1.below hb5) (hq.2.trans (KP.below hb5))); clear hq hr5 hr6 hN hb5)
    | (go_at_call 13; have hq := HK.out; refine (append_s _ _ _ _ _ _ _ _ (hq.1.below (new_below wr _)) OK.out.name (OK.out.below (new_below wr _)).src (fun hp ad e => src_block OKw.out.src ad hp e) OK.out.nil OK.out.cap OK.out.bts).mono ?_; rintro e w2 ⟨x9, rfl, hx9, q1, q2⟩; clear hx9; obtain ⟨F2, K2⟩ : ∃ F2, Hid (DK w2 d ⟨r.toNat, false, none, F2⟩ (fun j => j < w.heap.size) ∧ KP w w2 (fun j => j < w.heap.size)) := ⟨_, hid (And.intro q1 (hq.2.trans ((KP.below (new_below wr _)).trans q2)))⟩; clear hq q1 q2)
    | (go_at_call 21; have hq := HK.out; refine (shorten_s _ _ _ _ _ _ (hq.1.below (new_below wr _)) OK.out.name (bounds_i64 OK.out.n).2).mono ?_; rintro e w2 ⟨x9, rfl, hx9, q1, q2⟩; clear hx9; obtain ⟨F2, K2⟩ : ∃ F2, Hid (DK w2 d ⟨r.toNat, false, none, F2⟩ (fun j => j < w.heap.size) ∧ KP w w2 (fun j => j < w.heap.size)) := ⟨_, hid (And.intro q1 (hq.2.trans ((KP.below (new_below wr _)).trans q2)))⟩; clear hq q1 q2)
    | (go_at_call 19; have hq := HK.out; refine (rename_s _ _ _ _ _ _ (hq.1.below (new_below wr _)) OK.out.name OK.out.to).mono ?_; rintro e w2 ⟨x9, rfl, hx9, q1, q2⟩; clear hx9; obtain ⟨F2, K2⟩ : ∃ F2, Hid (DK w2 d ⟨r.toNat, false, none, F2⟩ (fun j => j < w.heap.size) ∧ KP w w2 (fun j => j < w.heap.size)) := ⟨_, hid (And.intro q1 (hq.2.trans ((KP.below (new_below wr _)).trans q2)))⟩; clear hq q1 q2)
    | (go_at_call 20; have hq := HK.out; refine (remove_s _ _ _ _ _ (hq.1.below (new_below wr _)) OK.out.name).mono ?_; rintro e w2 ⟨x9, rfl, hx9, q1, q2⟩; clear hx9; obtain ⟨F2, K2⟩ : ∃ F2, Hid (DK w2 d ⟨r.toNat, false, none, F2⟩ (fun j => j < w.heap.size) ∧ KP w w2 (fun j => j < w.heap.size)) := ⟨_, hid (And.intro q1 (hq.2.trans ((KP.below (new_below wr _)).trans q2)))⟩; clear hq q1 q2))
    all_goals
      have hgd := K5.out.1.good
      have hF2 := hgd.fits
      have hrm := hgd.small
      have hfew := hgd.few
      simp only at hF2 hrm hfew
      go_loopw [9, 11] (fun vn vi wr => ∃ k : Nat, vi = .int .i64 (k : Int) ∧ k ≤ F2.length ∧ vn = .int .i64 ((sm Fl.n (F2.take k) : Nat) : Int) ∧ Hid (Below w5.heap.size w5 wr)) (fun _ vi _ => F2.length - (intOf vi).toNat)
      case atStart => exact ⟨0, rfl, Nat.zero_le _, rfl, hid (Below.refl _ _)⟩
      case round =>
        obtain ⟨k2, rfl, hk2, rfl, HB2⟩ := hrel
        by_cases hlt2 : k2 < F2.length
        · have e8 : decide ((k2 : Int) < (F2.length : Int)) = true := decide_eq_true (by omega)
          obtain ⟨nk, hnk⟩ : ∃ n, n = (F2[k2]).1 := ⟨_, rfl⟩
          obtain ⟨bk, hbk⟩ : ∃ b, b = (F2[k2]).2.b := ⟨_, rfl⟩
          have hrd := read_at (D := ⟨r.toNat, false, none, F2⟩) hgd.asc rfl k2 hlt2
          have hn32 := (hgd.nice nk _ (mem_lk hgd.asc (by rw [hnk]; exact List.getElem_mem hlt2))).1
          obtain ⟨gn, ean, hgn, cn5⟩ := HN.out k2 nk (by rw [hnk]; exact nms_at F2 k2 hlt2)
          subst ean
          have cn6 : wr.cell? ⟨gn, k2, none⟩ = some (encStr nk) := (HB2.out.cell (cell_block cn5)).trans cn5
          simp only at hrd
          rw [← hnk, ← hbk] at hrd
          have hst := sm_take F2 k2 hlt2
          rw [← hbk] at hst
          have htl := sm_take_le F2 (k2 + 1)
          obtain ⟨T, hT⟩ : ∃ T, T = sm Fl.n (F2.take k2) := ⟨_, rfl⟩
          rw [← hT] at hst
          have hw1 : IntKind.i64.wrap ((T : Int) + (bk.length : Int)) = ((T + bk.length : Nat) : Int) := by rw [IntKind.wrap_i64]; omega
          have hw2 : wrap64 ((T : Int) + (bk.length : Int)) = ((T + bk.length : Nat) : Int) := by unfold wrap64; omega
          have HST := hid hst
          have HRD := hid hrd
          have HT := hid hT
          rw [← hT]
          clear hst hrd hnk hbk htl cn5 hT
          go_wp2_with (go_at_call 18; have hq := K5.out.1.below HB2.out; refine (read_any _ nk _ _ _ hq (nl (by omega))).mono ?_; rintro e w6 ⟨ra, rc, x6, rfl, hx6, hr6, hb6⟩; rw [HRD.out] at hx6 hr6 ⊢; subst hx6; have HB3 := hid (HB2.out.trans (hb6.mono HB2.out.size)); clear hq hr6 hb6)
          go_roundw
          case rel =>
            refine ⟨k2 + 1, by go_num, by omega, ?_, HB3⟩
            rw [HST.out]
            first | rfl | (rw [hw2]) | (simp; done)
          case measure => simp [intOf]; omega
        · obtain rfl : k2 = F2.length := by omega
          have e8 : decide ((F2.length : Int) < (F2.length : Int)) = false := by simp
          rw [List.take_of_length_le (Nat.le_refl _)]
          have KI := hid (And.intro (K5.out.1.below HB2.out) (K5.out.2.trans (KP.below HB2.out)))
          obtain ⟨T, hT⟩ : ∃ T, T = sm Fl.n F2 := ⟨_, rfl⟩
          rw [← hT] at hF2
          have HT := hid hT
          rw [← hT]
          obtain ⟨rn, hrn⟩ : ∃ rn, rn = r.toNat := ⟨_, rfl⟩
          have HR := hid hrn
          have m1 : (if r < 0 then (0 : Int) else r) = (rn : Int) := by split <;> omega
          have m2 : max r 0 = (rn : Int) := by omega
          have m3 : (if (0 : Int) < r then r else 0) = (rn : Int) := by split <;> omega
          have w1' : IntKind.i64.wrap ((rn : Int) - (T : Int)) = ((rn - T : Nat) : Int) := by rw [IntKind.wrap_i64]; omega
          have w2' : wrap64 ((rn : Int) - (T : Int)) = ((rn - T : Nat) : Int) := by unfold wrap64; omega
          clear hT hrn
          go_wp2_with (first
    | (go_at_call 23; have hq := K6.out; refine (room_dk _ _ _ _ hq.1).mono ?_; rintro e w7 ⟨rfl, hb7⟩; simp only; rw [← HT.out, ← HR.out]; have K7 := hid (And.intro (hq.1.below hb7) (hq.2.trans (KP.below hb7))); clear hq hb7)
    | (go_at_call 23; have hq := KI.out; refine (room_dk _ _ _ _ hq.1).mono ?_; rintro e w6 ⟨rfl, hb6⟩; simp only; rw [← HT.out, ← HR.out]; have K6 := hid (And.intro (hq.1.below hb6) (hq.2.trans (KP.below hb6))); clear hq hb6))
          go_roundw
          case rel => exact ⟨k + 1, F2, by go_num, K7⟩
          case measure => simp [intOf]; omega

theorem room_walk {w : World} (r : Int) (hr : (Lit.int .i64 r).wf = true) (a1 : Option Addr) (len1 cap1 : Nat) (X : List AI) (h1 : ASrc w a1 len1 X ∧ len1 ≤ maxLen) :
    Calls Try.prog 7 #[.int .i64 r, .slice a1 len1 cap1] w fun e w' => e = .returned (.bool true) ∧ Below w.heap.size w w' := by
  obtain ⟨s1, hx⟩ := h1
  obtain rfl : len1 = X.length := s1.1.symm
  exact room_walk0 r a1 cap1 X w (bounds_i64 hr).2 s1 hx
end
end Go.Proofs.Ytocglenkdjiknaa
