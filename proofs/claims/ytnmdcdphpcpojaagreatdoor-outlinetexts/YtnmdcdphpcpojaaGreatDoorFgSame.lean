/- Rows of dots, and of numbers, held against one another. -/
import Derived.Test.YtnmdcdphpcpojaaGreatDoorOlShelfP
import Derived.Test.YtnmdcdphpcpojaaGreatDoorTrMath
import Derived.Lib.ReplaceLaws
import Derived.Lib.SplitLaws
import Derived.BigQuiet
import Derived.Laws.Small
import Derived.Test.YtnmdcdphpcpojaaGreatDoorMKeys
import Derived.ProofKit
import Derived.OpenShut
import Derived.Deep.SlicePairs
import Derived.Lib.SmallJoins
import Derived.Test.YtnmdcdphpcpojaaGreatDoorRows
namespace Go.Proofs.YtnmdcdphpcpojaaGreatDoor
section
set_option linter.unusedVariables false
open Go.Shelf Go.RowKit

theorem write_string (B b : Nat) (bs : List Value) (s : ByteArray) (w : World) (h : Bld B b bs w) (hlen : bs.length + s.size ≤ 140737488355328) (hBw : B ≤ w.heap.size) :
    Calls Tryz.prog 45 #[.pointer (some ⟨b, 0, none⟩), .string s] w fun e w' => e = .returned (.tuple #[.int .i64 s.size, .nilIface]) ∧ (Lib.BuilderAtF 93 5 B b (.pointer (some ⟨b, 0, none⟩)) (bs ++ Lib.strCells s) w' ∧ Below B w w' ∧ Lib.OthersKept 5 (some b) w w') :=
  Any.Builder_WriteString_k { Tryz.lays105 with } Tryz.Builder_Extra_105 B b bs s w h hlen hBw

def renW : Ren := ⟨fun | 167 => 48 | n => Tryz.lays105_ren.f n, Tryz.lays105_ren.t, Tryz.lays105_ren.g⟩

theorem lays167 : Lays.n167 Tryz.prog renW := { Tryz.lays105 with
  f167 := Tryz.func48.trans (congrArg some (by kernel_rfl))
  t5 := Tryz.underlying5
  a5 := Tryz.isAgg5
  z5 := Tryz.sizeOf5
  v5 := Tryz.zeroValue5 }

theorem bldW : Builder.Extra Tryz.prog renW where
  sizeBuilder := by kernel_rfl
  liesBuilder := by kernel_rfl
  t5 := Tryz.underlying5
  a5 := Tryz.isAgg5
  z5 := Tryz.sizeOf5
  v5 := Tryz.zeroValue5
  infoByte := by kernel_rfl
  cellsByte := by kernel_rfl
  sizeByte := by kernel_rfl
  neB5 := by decide

set_option maxRecDepth 100000 in
theorem write_byte (B b : Nat) (bs : List Value) (c : Int) (w : World) (h : Bld B b bs w) (hlen : bs.length + 1 ≤ 140737488355328) (hBw : B ≤ w.heap.size) :
    Calls Tryz.prog 48 #[.pointer (some ⟨b, 0, none⟩), .int .u8 c] w fun e w' => e = .returned .nilIface ∧ (Lib.BuilderAtF 93 5 B b (.pointer (some ⟨b, 0, none⟩)) (bs ++ [.int .u8 c]) w' ∧ Below B w w' ∧ Lib.OthersKept 5 (some b) w w') :=
  Any.Builder_WriteByte_k lays167 bldW B b bs c w h hlen hBw

theorem bld_len (B b : Nat) (bs : List Value) (w : World) (h : Bld B b bs w) :
    Calls Tryz.prog 44 #[.pointer (some ⟨b, 0, none⟩)] w fun e w' => e = .returned (.int .i64 bs.length) ∧ w' = w := Tryz.Builder_Len_f B b bs w h

/-- The text's bytes. -/
abbrev sB (l : List UInt8) : ByteArray := ⟨l.toArray⟩

theorem sB_size (l : List UInt8) : (sB l).size = l.length := by
  show l.toArray.size = l.length
  simp

theorem strCells_sB (l : List UInt8) : Lib.strCells (sB l) = Lib.byteCells l := by
  show (l.toArray.toList.map _) = _
  rfl

theorem rall_any (l : List UInt8) (c : UInt8) (new : List UInt8) (m : Int) (w : World) (hs : l.length < 4294967281) (hn : new.length ≤ 16) (hm : w.cell? ⟨0, 0, none⟩ = some (.int .i64 m)) :
    Calls Tryz.prog 83 #[.string (sB l), .string (sB [c]), .string (sB new)] w fun e w' => e = .returned (.string (sB (Lib.replaceAll l [c] new))) ∧ Below w.heap.size w w' := by
  have h1 : 1 ≤ (sB [c]).size := by rw [sB_size]; simp
  have hc := Lib.countB_le (sB [c]) h1 _ (sB l) (Nat.le_refl _)
  refine Tryz.strings_ReplaceAll (sB l) (sB [c]) (sB new) m w (by rw [sB_size]; omega) hm h1 ?_
  rw [sB_size] at hc ⊢
  rw [sB_size]
  have := Nat.mul_le_mul hc hn
  omega

theorem repeat_any (l : List UInt8) (n : Nat) (w : World) (hn : n ≤ 4294967296) (hl : l.length ≤ 16) :
    Calls Tryz.prog 46 #[.string (sB l), .int .i64 n] w fun e w' => e = .returned (.string (sB (Lib.repeatL l n))) ∧ Below w.heap.size w w' := by
  refine Tryz.strings_Repeat (sB l) n w (by omega) ?_
  rw [sB_size]
  have := Nat.mul_le_mul hl hn
  omega

theorem cut_any (l : List UInt8) (c : UInt8) (m : Int) (w : World) (hs : l.length < 4294967281) (hm : w.cell? ⟨0, 0, none⟩ = some (.int .i64 m)) :
    Calls Tryz.prog 50 #[.string (sB l), .string (sB [c])] w fun e w' => e = .returned (.tuple #[.string (sB (Lib.cut l [c]).1), .string (sB (Lib.cut l [c]).2.1), .bool (Lib.cut l [c]).2.2]) ∧ ∃ n, w' = w.drewN n :=
  Tryz.strings_Cut (sB l) (sB [c]) m w (by rw [sB_size]; omega) hm

theorem triml_any (l : List UInt8) (c : UInt8) (hc : c.toNat < 128) (w : World) :
    Calls Tryz.prog 85 #[.string (sB l), .string (sB [c])] w fun e w' => e = .returned (.string (sB (Lib.trimLeftB l c))) ∧ w' = w :=
  Tryz.strings_TrimLeft_one (sB l) c hc w

theorem prefix_any (l p : List UInt8) (w : World) :
    Calls Tryz.prog 81 #[.string (sB l), .string (sB p)] w fun e w' => e = .returned (.bool (Lib.hasPrefix l p)) ∧ w' = w :=
  Tryz.strings_HasPrefix (sB l) (sB p) w
end

section
set_option linter.unusedVariables false
open Go.Shelf Go.RowKit

theorem rall_len (c : UInt8) (new : List UInt8) (h : new ≠ [c]) (hn : new.length ≤ 2) (s : List UInt8) : (Lib.replaceAll s [c] new).length ≤ 2 * s.length := by
  rw [rall_one c new h]
  induction s with
  | nil => simp
  | cons b s ih =>
    rw [List.flatMap_cons, List.length_append, List.length_cons]
    split
    · omega
    · rw [List.length_singleton]
      omega

theorem esc_len (s : List UInt8) : (esc s).length ≤ 2 * s.length := by
  induction s with
  | nil => simp [esc]
  | cons b s ih =>
    rw [esc_cons, List.length_append, List.length_cons]
    split
    · simp; omega
    · split <;> simp <;> omega

set_option maxHeartbeats 1000000 in
theorem escaped_any (l : List UInt8) (m : Int) (w : World) (hs : l.length < 2000000000) (hm : w.cell? ⟨0, 0, none⟩ = some (.int .i64 m)) (h0 : 0 < w.heap.size) :
    Calls Tryz.prog 47 #[.string (sB l)] w fun e w' => e = .returned (.string (sB (esc l))) ∧ Below w.heap.size w w' := by
  have hl1 := rall_len 92 [92, 92] (by decide) (by decide) l
  go_enter Tryz.func47, Tryz.ntmps47
  go_wp2_with (go_at_call 83; refine (rall_any l 92 [92, 92] m _ (by omega) (by decide) hm).mono ?_)
  rintro e w1 ⟨rfl, hb1⟩
  have hm1 : w1.cell? ⟨0, 0, none⟩ = some (.int .i64 m) := by rw [hb1.cell (by simpa using h0)]; exact hm
  go_wp2_with (go_at_call 83; refine (rall_any (Lib.replaceAll l [92] [92, 92]) 10 [92, 110] m _ (by omega) (by decide) hm1).mono ?_)
  rintro e w2 ⟨rfl, hb2⟩
  go_wp2
  go_ret
  refine ⟨?_, ?_⟩
  · rw [esc_two]; rfl
  · exact hb1.trans (hb2.mono hb1.size)
end

section
set_option linter.unusedVariables false
open Go.Shelf Go.RowKit

theorem unesc_no : ∀ q : List UInt8, (92 : UInt8) ∉ q → unesc q = some q
  | [], _ => rfl
  | b :: q, h => by
    rw [unesc_else (fun e => h (by simp [e])), unesc_no q (fun e => h (by simp [e]))]
    rfl

theorem unesc_mid (r : List UInt8) : ∀ p : List UInt8, (92 : UInt8) ∉ p → unesc (p ++ 92 :: r) = (unesc (92 :: r)).map (p ++ ·)
  | [], _ => by simp
  | b :: p, h => by
    rw [List.cons_append, unesc_else (fun e => h (by simp [e])), unesc_mid r p (fun e => h (by simp [e])), Option.map_map]
    rfl

theorem unesc_92 (r : List UInt8) : unesc (92 :: 92 :: r) = (unesc r).map (92 :: ·) := by simp [unesc]

theorem unesc_110 (r : List UInt8) : unesc (92 :: 110 :: r) = (unesc r).map (10 :: ·) := by simp [unesc]

theorem unesc_bad {r : List UInt8} (h1 : Lib.hasPrefix r [92] = false) (h2 : Lib.hasPrefix r [110] = false) : unesc (92 :: r) = none := by
  cases r with
  | nil => simp [unesc]
  | cons d r =>
    simp [Lib.hasPrefix] at h1 h2
    have e1 : d ≠ 92 := fun e => by subst e; simp [List.isPrefixOf] at h1
    have e2 : d ≠ 110 := fun e => by subst e; simp [List.isPrefixOf] at h2
    simp [unesc, e1, e2]

theorem pre_cons {r : List UInt8} {c : UInt8} (h : Lib.hasPrefix r [c] = true) : ∃ x, r = c :: x := by
  cases r with
  | nil => simp [Lib.hasPrefix] at h
  | cons d r =>
    simp [Lib.hasPrefix] at h
    exact ⟨r, by rw [h]⟩

def szV : Value → Nat
  | .string s => s.size
  | _ => 0

theorem new_bld (w : World) : Bld w.heap.size w.heap.size [] (w.alloc (.cells #[.pointer none, .slice none 0 0] 93)) :=
  Or.inl ⟨Nat.le_refl _, .slice none 0 0, World.alloc_heap_new _ _, World.ownsRowF_nil _ _ _ _, by simp [Value.ownBlock]⟩

theorem bytes_app (a b : List UInt8) : Lib.byteCells (a ++ b) = Lib.byteCells a ++ Lib.byteCells b := by simp [Lib.byteCells]

theorem sB_tail (b : UInt8) (x : List UInt8) : (sB (b :: x)).extract 1 (x.length + 1) = sB x := by
  apply ByteArray.ext
  rw [ByteArray.data_extract]
  simp

set_option maxRecDepth 100000 in
set_option maxHeartbeats 2000000 in
theorem plain_any (l : List UInt8) (m : Int) (w : World) (hs : l.length < 2000000000) (hm : w.cell? ⟨0, 0, none⟩ = some (.int .i64 m)) (h0 : 0 < w.heap.size) :
    Calls Tryz.prog 87 #[.string (sB l)] w fun e w' => e = .returned (.tuple #[.string (sB ((unesc l).getD [])), .bool (unesc l).isSome]) ∧ Below w.heap.size w w' := by
  go_enter Tryz.func87, Tryz.ntmps87
  go_wp2
  go_loopw [0] (fun v wr => ∃ (q pre : List UInt8), v = .string (sB q) ∧ Hid (unesc l = (unesc q).map (pre ++ ·)) ∧ pre.length + q.length ≤ l.length ∧ Bld w.heap.size w.heap.size (Lib.byteCells pre) wr ∧ Below w.heap.size w wr) (fun v _ => szV v)
  case atStart => exact ⟨l, [], rfl, hid (by simp), by simp, new_bld w, (Below.refl _ w).alloc (Nat.le_refl _) _⟩
  case round =>
    obtain ⟨q, pre, rfl, hu, hlen, hb, hB⟩ := hrel
    have hmr : wr.cell? ⟨0, 0, none⟩ = some (.int .i64 m) := by rw [hB.cell (by simpa using h0)]; exact hm
    have hC := cut_any q 92 m wr (by omega) hmr
    have hlb := Lib.byteCells_length pre
    have hbd : ∀ n, Bld w.heap.size w.heap.size (Lib.byteCells pre) (wr.drewN n) := fun _ => hb
    have hBd : ∀ n, Below w.heap.size w (wr.drewN n) := fun n => hB.trans (((Far.refl wr).drewN n).below.mono hB.size)
    rcases cut_cases 92 q with hn | ⟨p, r, rfl, hp⟩
    · rw [cut_no hn] at hC
      have hun := hid (hu.out.trans (by rw [unesc_no q hn]))
      have hlq := Lib.byteCells_length q
      go_wp2_with (first
        | (go_at_call 50; refine hC.mono ?_; rintro e w1 ⟨rfl, nn, rfl⟩)
        | (go_at_call 45; refine (write_string w.heap.size w.heap.size (Lib.byteCells pre) (sB q) _ (hbd nn) (by rw [sB_size]; omega) (hBd nn).size).mono ?_; rintro e w2 ⟨rfl, hb2, hB2, _⟩)
        | (go_at_call 49; refine (bld_string w.heap.size w.heap.size (pre ++ q) w2 (by rw [bytes_app, ← strCells_sB q]; exact Or.inr hb2) (Nat.le_trans (hBd nn).size hB2.size)).mono ?_; rintro e w3 ⟨rfl, _, hB3, _⟩))
      go_ret2
      refine ⟨?_, ?_⟩
      · rw [hun.out]; rfl
      · exact ((hBd nn).trans hB2).trans hB3
    · rw [cut_mid hp] at hC
      have hlp := Lib.byteCells_length p
      have hll : pre.length + (p.length + (r.length + 1)) ≤ l.length := by simpa using hlen
      have hun := hid (hu.out.trans (by rw [unesc_mid r p hp]))
      cases h92 : Lib.hasPrefix r [92] with
      | true =>
        obtain ⟨x, rfl⟩ := pre_cons h92
        have hP := prefix_any (92 :: x) [92]
        rw [h92] at hP
        go_wp2_with (first
          | (go_at_call 50; refine hC.mono ?_; rintro e w1 ⟨rfl, nn, rfl⟩)
          | (go_at_call 45; refine (write_string w.heap.size w.heap.size (Lib.byteCells pre) (sB p) _ (hbd nn) (by rw [sB_size]; omega) (hBd nn).size).mono ?_; rintro e w2 ⟨rfl, hb2, hB2, _⟩)
          | (go_at_call 81; refine (hP _).mono ?_; rintro e w3 ⟨rfl, rfl⟩)
          | (go_at_call 48; refine (write_byte w.heap.size w.heap.size (Lib.byteCells pre ++ Lib.strCells (sB p)) 92 _ (Or.inr hb2) (by rw [List.length_append, Lib.strCells_length, sB_size]; omega) (Nat.le_trans (hBd nn).size hB2.size)).mono ?_; rintro e w4 ⟨rfl, hb4, hB4, _⟩))
        go_roundw
        case rel =>
          refine ⟨x, pre ++ p ++ [92], ?_, hid ?_, ?_, ?_, ((hBd nn).trans hB2).trans hB4⟩
          · rw [sB_tail]
          · rw [hun.out, unesc_92, Option.map_map, Option.map_map]; congr 1; funext z; simp
          · simp at hll ⊢; omega
          · rw [bytes_app, bytes_app, ← strCells_sB p]; exact Or.inr hb4
        case measure => simp only [szV, sB_tail]; rw [sB_size, sB_size]; simp; omega
      | false =>
        cases h110 : Lib.hasPrefix r [110] with
        | true =>
          obtain ⟨x, rfl⟩ := pre_cons h110
          have hP := prefix_any (110 :: x) [92]
          rw [h92] at hP
          have hP2 := prefix_any (110 :: x) [110]
          rw [h110] at hP2
          go_wp2_with (first
            | (go_at_call 50; refine hC.mono ?_; rintro e w1 ⟨rfl, nn, rfl⟩)
            | (go_at_call 45; refine (write_string w.heap.size w.heap.size (Lib.byteCells pre) (sB p) _ (hbd nn) (by rw [sB_size]; omega) (hBd nn).size).mono ?_; rintro e w2 ⟨rfl, hb2, hB2, _⟩)
            | (go_at_call 81; refine (hP _).mono ?_; rintro e w3 ⟨rfl, rfl⟩)
            | (go_at_call 81; refine (hP2 _).mono ?_; rintro e w3 ⟨rfl, rfl⟩)
            | (go_at_call 48; refine (write_byte w.heap.size w.heap.size (Lib.byteCells pre ++ Lib.strCells (sB p)) 10 _ (Or.inr hb2) (by rw [List.length_append, Lib.strCells_length, sB_size]; omega) (Nat.le_trans (hBd nn).size hB2.size)).mono ?_; rintro e w4 ⟨rfl, hb4, hB4, _⟩))
          go_roundw
          case rel =>
            refine ⟨x, pre ++ p ++ [10], ?_, hid ?_, ?_, ?_, ((hBd nn).trans hB2).trans hB4⟩
            · rw [sB_tail]
            · rw [hun.out, unesc_110, Option.map_map, Option.map_map]; congr 1; funext z; simp
            · simp at hll ⊢; omega
            · rw [bytes_app, bytes_app, ← strCells_sB p]; exact Or.inr hb4
          case measure => simp only [szV, sB_tail]; rw [sB_size, sB_size]; simp; omega
        | false =>
          have hP := prefix_any r [92]
          rw [h92] at hP
          have hP2 := prefix_any r [110]
          rw [h110] at hP2
          have hno := hid (hun.out.trans (by rw [unesc_bad h92 h110]))
          go_wp2_with (first
            | (go_at_call 50; refine hC.mono ?_; rintro e w1 ⟨rfl, nn, rfl⟩)
            | (go_at_call 45; refine (write_string w.heap.size w.heap.size (Lib.byteCells pre) (sB p) _ (hbd nn) (by rw [sB_size]; omega) (hBd nn).size).mono ?_; rintro e w2 ⟨rfl, hb2, hB2, _⟩)
            | (go_at_call 81; refine (hP _).mono ?_; rintro e w3 ⟨rfl, rfl⟩)
            | (go_at_call 81; refine (hP2 _).mono ?_; rintro e w3 ⟨rfl, rfl⟩))
          go_ret2
          refine ⟨?_, (hBd nn).trans hB2⟩
          rw [hno.out]; rfl
end

section
set_option linter.unusedVariables false
open Go.Shelf Go.RowKit

theorem sB_drop2 (a b : UInt8) (x : List UInt8) : (sB (a :: b :: x)).extract 2 (x.length + 2) = sB x := by
  apply ByteArray.ext
  rw [ByteArray.data_extract]
  simp

theorem pre_two {r : List UInt8} {a b : UInt8} (h : Lib.hasPrefix r [a, b] = true) : ∃ x, r = a :: b :: x := by
  unfold Lib.hasPrefix at h
  match r, h with
  | c :: d :: x, h =>
    simp at h
    obtain ⟨e1, e2⟩ := h
    exact ⟨x, by rw [← e1, ← e2]⟩
  | [c], h => simp at h
  | [], h => simp at h

theorem litepre_any (l p : List UInt8) (w : World) :
    Calls Tryz.prog 110 #[.string (sB l), .string (sB p)] w fun e w' => e = .returned (.bool (Lib.hasPrefix l p)) ∧ w' = w :=
  Tryz.stringslite_HasPrefix (sB l) (sB p) w

set_option maxHeartbeats 1000000 in
theorem litecut_any (l : List UInt8) (a b : UInt8) (w : World) :
    Calls Tryz.prog 118 #[.string (sB l), .string (sB [a, b])] w fun e w' => e = .returned (.tuple #[.string (sB (if Lib.hasPrefix l [a, b] = true then l.drop 2 else l)), .bool (Lib.hasPrefix l [a, b])]) ∧ w' = w := by
  have hP := litepre_any l [a, b]
  cases hp : Lib.hasPrefix l [a, b] with
  | true =>
    rw [hp] at hP
    obtain ⟨x, rfl⟩ := pre_two hp
    go_enter Tryz.func118, Tryz.ntmps118
    go_wp2_with (go_at_call 110; refine (hP _).mono ?_; rintro e w3 ⟨rfl, rfl⟩)
    go_ret2
    refine ⟨?_, rfl⟩
    simp [sB_drop2]
  | false =>
    rw [hp] at hP
    go_enter Tryz.func118, Tryz.ntmps118
    go_wp2_with (go_at_call 110; refine (hP _).mono ?_; rintro e w3 ⟨rfl, rfl⟩)
    go_ret2
    exact ⟨by simp, rfl⟩

set_option maxHeartbeats 1000000 in
theorem cutpre_any (l : List UInt8) (a b : UInt8) (w : World) :
    Calls Tryz.prog 86 #[.string (sB l), .string (sB [a, b])] w fun e w' => e = .returned (.tuple #[.string (sB (if Lib.hasPrefix l [a, b] = true then l.drop 2 else l)), .bool (Lib.hasPrefix l [a, b])]) ∧ w' = w := by
  have hC := litecut_any l a b
  generalize (if Lib.hasPrefix l [a, b] = true then l.drop 2 else l) = q at *
  generalize Lib.hasPrefix l [a, b] = t at *
  go_enter Tryz.func86, Tryz.ntmps86
  go_wp2_with (go_at_call 118; refine (hC _).mono ?_; rintro e w3 ⟨rfl, rfl⟩)
  go_ret2
  exact ⟨rfl, rfl⟩

/-- A line's cells. -/
def lnV (x : Nat × List UInt8) : Value := .agg #[.int .i64 0, .int .i64 0, .int .i64 x.1, .string (sB x.2)]

theorem set_heap {w : World} {g ty : Nat} {c : Array Value} {fz : Nat × Nat} (hb : w.heap[g]? = some (.cells c ty fz)) (j : Nat) (v : Value) : (w.setCell ⟨g, j, none⟩ v).heap[g]? = some (.cells (c.setIfInBounds j v) ty fz) := by
  show (w.heap.modify g _)[g]? = _
  rw [Array.getElem?_modify, if_pos rfl, hb]
  rfl

theorem line_put {w : World} {g ty : Nat} {x0 x1 x2 x3 : Value} (hb : w.heap[g]? = some (.cells #[x0, x1, x2, x3] ty (0, 0))) (a0 a1 a2 a3 : Value) :
    ∀ W, W = (((w.setCell ⟨g, 0, none⟩ a0).setCell ⟨g, 1, none⟩ a1).setCell ⟨g, 2, none⟩ a2).setCell ⟨g, 3, none⟩ a3 → W.cell? ⟨g, 0, none⟩ = some a0 ∧ W.cell? ⟨g, 1, none⟩ = some a1 ∧ W.cell? ⟨g, 2, none⟩ = some a2 ∧ W.cell? ⟨g, 3, none⟩ = some a3 := by
  rintro W rfl
  have h := set_heap (set_heap (set_heap (set_heap hb 0 a0) 1 a1) 2 a2) 3 a3
  have k := Lib.cell_of_heap h
  exact ⟨(k 0).trans rfl, (k 1).trans rfl, (k 2).trans rfl, (k 3).trans rfl⟩

theorem trim_le (l : List UInt8) : (Lib.trimLeftB l 32).length ≤ l.length := (trim_split l).2

set_option maxRecDepth 100000 in
set_option maxHeartbeats 2000000 in
theorem readLine_any (l : List UInt8) (m : Int) (w : World) (hs : l.length < 2000000000) (hm : w.cell? ⟨0, 0, none⟩ = some (.int .i64 m)) (h0 : 0 < w.heap.size) :
    Calls Tryz.prog 51 #[.string (sB l)] w fun e w' => e = .returned (.tuple #[lnV ((rline l).getD (0, [])), .bool (rline l).isSome]) ∧ Below w.heap.size w w' := by
  have hT := triml_any l 32 (by decide)
  have htl := trim_le l
  have HR : Hid (rline l = if (l.length - (Lib.trimLeftB l 32).length) % 2 = 0 ∧ Lib.hasPrefix (Lib.trimLeftB l 32) [45, 32] = true then (unesc ((Lib.trimLeftB l 32).drop 2)).map (fun t => ((l.length - (Lib.trimLeftB l 32).length) / 2, t)) else none) := hid rfl
  generalize Lib.trimLeftB l 32 = t at *
  have hC := cutpre_any t 45 32
  have hql : (if Lib.hasPrefix t [45, 32] = true then t.drop 2 else t).length ≤ t.length := by split <;> simp
  have hqd : Hid (Lib.hasPrefix t [45, 32] = true → (if Lib.hasPrefix t [45, 32] = true then t.drop 2 else t) = t.drop 2) := hid (fun h => if_pos h)
  generalize (if Lib.hasPrefix t [45, 32] = true then t.drop 2 else t) = q at *
  generalize Lib.hasPrefix t [45, 32] = hp at *
  obtain ⟨W0, hW0⟩ : ∃ W0, W0 = w.alloc (.cells #[.int .i64 0, .int .i64 0, .int .i64 0, .string ⟨#[]⟩] 54) := ⟨_, rfl⟩
  have hsz : W0.heap.size = w.heap.size + 1 := by rw [hW0]; simp
  have hB0 : Below w.heap.size w W0 := by rw [hW0]; exact (Below.refl _ w).alloc (Nat.le_refl _) _
  have hbk : W0.heap[w.heap.size]? = some (.cells #[.int .i64 0, .int .i64 0, .int .i64 0, .string ⟨#[]⟩] 54 (0, 0)) := by rw [hW0]; exact World.alloc_heap_new w _
  have hm0 : W0.cell? ⟨0, 0, none⟩ = some (.int .i64 m) := by rw [hB0.cell (by simpa using h0)]; exact hm
  have hP := plain_any q m W0 (by omega) hm0 (by omega)
  obtain ⟨tx, htx⟩ : ∃ tx, tx = (unesc q).getD [] := ⟨_, rfl⟩
  obtain ⟨ok, hok⟩ : ∃ ok, ok = (unesc q).isSome := ⟨_, rfl⟩
  rw [← htx, ← hok] at hP
  have HTX := hid htx
  have HOK := hid hok
  clear htx hok
  have hz : (0 : Int) ≤ (l.length : Int) - (t.length : Int) := by omega
  by_cases hpar : (l.length - t.length) % 2 = 0
  · have hpi : ((l.length : Int) - (t.length : Int)).tmod 2 = 0 := by rw [Int.tmod_eq_emod_of_nonneg hz]; omega
    have HPAR := hid hpar
    clear hpar
    cases hp with
    | false =>
      have hn : Hid (rline l = none) := hid (by rw [HR.out]; simp)
      go_enter Tryz.func51, Tryz.ntmps51
      go_wp2_with (first
        | (go_at_call 85; refine (hT _).mono ?_; rintro e w1 ⟨rfl, rfl⟩)
        | (go_at_call 86; refine (hC _).mono ?_; rintro e w2 ⟨rfl, rfl⟩)
        | (go_at_call 87; rw [← hW0]; refine hP.mono ?_; rintro e w3 ⟨rfl, hB3⟩; have hb3 := (hB3.block _ (by omega)).trans hbk; have f3 := Lib.frozen_of_heap hb3; have k0 := Lib.cell_of_heap hb3))
      have hBx := ((((hB0.trans (hB3.mono hB0.size)).setCell (p := ⟨w.heap.size, 0, none⟩) (Nat.le_refl _) (.int .i64 0)).setCell (p := ⟨w.heap.size, 1, none⟩) (Nat.le_refl _) (.int .i64 0)).setCell (p := ⟨w.heap.size, 2, none⟩) (Nat.le_refl _) (.int .i64 0)).setCell (p := ⟨w.heap.size, 3, none⟩) (Nat.le_refl _) (.string ⟨#[]⟩)
      have hq := line_put hb3 (.int .i64 0) (.int .i64 0) (.int .i64 0) (.string ⟨#[]⟩) _ rfl
      generalize (((w3.setCell ⟨w.heap.size, 0, none⟩ (.int .i64 0)).setCell ⟨w.heap.size, 1, none⟩ (.int .i64 0)).setCell ⟨w.heap.size, 2, none⟩ (.int .i64 0)).setCell ⟨w.heap.size, 3, none⟩ (.string ⟨#[]⟩) = W4 at *
      obtain ⟨q0, q1, q2, q3⟩ := hq
      refine bodyPost_ret (v := .tuple #[lnV (0, []), .bool false]) (by simp [results, Tryz.results51, go_sem, q0, q1, q2, q3, lnV]) rfl ⟨by rw [hn.out]; rfl, hBx⟩
    | true =>
      obtain rfl := hqd.out rfl
      cases ok with
      | false =>
        have hn : Hid (rline l = none) := hid (by
          rw [HR.out, if_pos ⟨HPAR.out, rfl⟩]
          cases hu : unesc (t.drop 2) with
          | none => rfl
          | some z => have := HOK.out; rw [hu] at this; simp at this)
        go_enter Tryz.func51, Tryz.ntmps51
        go_wp2_with (first
          | (go_at_call 85; refine (hT _).mono ?_; rintro e w1 ⟨rfl, rfl⟩)
          | (go_at_call 86; refine (hC _).mono ?_; rintro e w2 ⟨rfl, rfl⟩)
          | (go_at_call 87; rw [← hW0]; refine hP.mono ?_; rintro e w3 ⟨rfl, hB3⟩; have hb3 := (hB3.block _ (by omega)).trans hbk; have f3 := Lib.frozen_of_heap hb3; have k0 := Lib.cell_of_heap hb3))
        have hBx := ((((hB0.trans (hB3.mono hB0.size)).setCell (p := ⟨w.heap.size, 0, none⟩) (Nat.le_refl _) (.int .i64 0)).setCell (p := ⟨w.heap.size, 1, none⟩) (Nat.le_refl _) (.int .i64 0)).setCell (p := ⟨w.heap.size, 2, none⟩) (Nat.le_refl _) (.int .i64 0)).setCell (p := ⟨w.heap.size, 3, none⟩) (Nat.le_refl _) (.string ⟨#[]⟩)
        have hq := line_put hb3 (.int .i64 0) (.int .i64 0) (.int .i64 0) (.string ⟨#[]⟩) _ rfl
        generalize (((w3.setCell ⟨w.heap.size, 0, none⟩ (.int .i64 0)).setCell ⟨w.heap.size, 1, none⟩ (.int .i64 0)).setCell ⟨w.heap.size, 2, none⟩ (.int .i64 0)).setCell ⟨w.heap.size, 3, none⟩ (.string ⟨#[]⟩) = W4 at *
        obtain ⟨q0, q1, q2, q3⟩ := hq
        refine bodyPost_ret (v := .tuple #[lnV (0, []), .bool false]) (by simp [results, Tryz.results51, go_sem, q0, q1, q2, q3, lnV]) rfl ⟨by rw [hn.out]; rfl, hBx⟩
      | true =>
        have hn : Hid (rline l = some ((l.length - t.length) / 2, tx)) := hid (by
          rw [HR.out, if_pos ⟨HPAR.out, rfl⟩, HTX.out]
          cases hu : unesc (t.drop 2) with
          | none => have := HOK.out; rw [hu] at this; simp at this
          | some z => rfl)
        obtain ⟨D, hD⟩ : ∃ D, D = (l.length - t.length) / 2 := ⟨_, rfl⟩
        rw [← hD] at hn
        have hdv : ((l.length : Int) - (t.length : Int)).tdiv 2 = (D : Int) := by rw [Int.tdiv_eq_ediv_of_nonneg hz]; omega
        have hDb : (D : Int) < 2000000000 := by omega
        have hDw : wrap64 (D : Int) = (D : Int) := by simp [wrap64]; omega
        clear hD
        go_enter Tryz.func51, Tryz.ntmps51
        go_wp2_with (first
          | (go_at_call 85; refine (hT _).mono ?_; rintro e w1 ⟨rfl, rfl⟩)
          | (go_at_call 86; refine (hC _).mono ?_; rintro e w2 ⟨rfl, rfl⟩)
          | (go_at_call 87; rw [← hW0]; refine hP.mono ?_; rintro e w3 ⟨rfl, hB3⟩; have hb3 := (hB3.block _ (by omega)).trans hbk; have f3 := Lib.frozen_of_heap hb3; have k0 := Lib.cell_of_heap hb3))
        have hBx := ((((hB0.trans (hB3.mono hB0.size)).setCell (p := ⟨w.heap.size, 0, none⟩) (Nat.le_refl _) (.int .i64 0)).setCell (p := ⟨w.heap.size, 1, none⟩) (Nat.le_refl _) (.int .i64 0)).setCell (p := ⟨w.heap.size, 2, none⟩) (Nat.le_refl _) (.int .i64 D)).setCell (p := ⟨w.heap.size, 3, none⟩) (Nat.le_refl _) (.string (sB tx))
        have hq := line_put hb3 (.int .i64 0) (.int .i64 0) (.int .i64 D) (.string (sB tx)) _ rfl
        generalize (((w3.setCell ⟨w.heap.size, 0, none⟩ (.int .i64 0)).setCell ⟨w.heap.size, 1, none⟩ (.int .i64 0)).setCell ⟨w.heap.size, 2, none⟩ (.int .i64 D)).setCell ⟨w.heap.size, 3, none⟩ (.string (sB tx)) = W4 at *
        obtain ⟨q0, q1, q2, q3⟩ := hq
        refine bodyPost_ret (v := .tuple #[lnV (D, tx), .bool true]) (by simp [results, Tryz.results51, go_sem, q0, q1, q2, q3, lnV]) rfl ⟨by rw [hn.out]; rfl, hBx⟩
  · have hpi : ((l.length : Int) - (t.length : Int)).tmod 2 = 1 := by rw [Int.tmod_eq_emod_of_nonneg hz]; omega
    have HPAR := hid hpar
    clear hpar
    have hn : Hid (rline l = none) := hid (by rw [HR.out, if_neg (fun h => HPAR.out h.1)])
    go_enter Tryz.func51, Tryz.ntmps51
    go_wp2_with (first
      | (go_at_call 85; refine (hT _).mono ?_; rintro e w1 ⟨rfl, rfl⟩)
      | (go_at_call 86; refine (hC _).mono ?_; rintro e w2 ⟨rfl, rfl⟩)
      | (go_at_call 87; rw [← hW0]; refine hP.mono ?_; rintro e w3 ⟨rfl, hB3⟩; have hb3 := (hB3.block _ (by omega)).trans hbk; have f3 := Lib.frozen_of_heap hb3; have k0 := Lib.cell_of_heap hb3))
    have hBx := ((((hB0.trans (hB3.mono hB0.size)).setCell (p := ⟨w.heap.size, 0, none⟩) (Nat.le_refl _) (.int .i64 0)).setCell (p := ⟨w.heap.size, 1, none⟩) (Nat.le_refl _) (.int .i64 0)).setCell (p := ⟨w.heap.size, 2, none⟩) (Nat.le_refl _) (.int .i64 0)).setCell (p := ⟨w.heap.size, 3, none⟩) (Nat.le_refl _) (.string ⟨#[]⟩)
    have hq := line_put hb3 (.int .i64 0) (.int .i64 0) (.int .i64 0) (.string ⟨#[]⟩) _ rfl
    generalize (((w3.setCell ⟨w.heap.size, 0, none⟩ (.int .i64 0)).setCell ⟨w.heap.size, 1, none⟩ (.int .i64 0)).setCell ⟨w.heap.size, 2, none⟩ (.int .i64 0)).setCell ⟨w.heap.size, 3, none⟩ (.string ⟨#[]⟩) = W4 at *
    obtain ⟨q0, q1, q2, q3⟩ := hq
    refine bodyPost_ret (v := .tuple #[lnV (0, []), .bool false]) (by simp [results, Tryz.results51, go_sem, q0, q1, q2, q3, lnV]) rfl ⟨by rw [hn.out]; rfl, hBx⟩
end

section
set_option linter.unusedVariables false
open Go.Shelf Go.RowKit

/-- A line that is read. -/
def toLn (x : Nat × List UInt8) : Ln := ⟨(0, 0), x.1, x.2⟩

/-- What Read tells: the lines, the error. -/
def rdR (l : List UInt8) : Option (List (Nat × List UInt8)) := rdL (l.length + 1) 0 l
def rdE (l : List UInt8) : Int := if (rdR l).isSome = true then 0 else 11
def rdM (l : List UInt8) : List Ln := ((rdR l).getD []).map toLn

theorem rd_nil (f deep : Nat) : rdL (f + 1) deep [] = some [] := by simp [rdL]
theorem rd_no {f deep : Nat} {q : List UInt8} (h : q ≠ []) (hn : (10 : UInt8) ∉ q) : rdL (f + 1) deep q = none := by
  unfold rdL
  rw [if_neg h, cut_no hn]
  simp
theorem rd_bad {f deep : Nat} {p r : List UInt8} (hp : (10 : UInt8) ∉ p) (hr : rline p = none) : rdL (f + 1) deep (p ++ 10 :: r) = none := by
  unfold rdL
  rw [if_neg (by simp), cut_mid hp]
  simp [hr]
theorem rd_deep {f deep : Nat} {p r : List UInt8} (hp : (10 : UInt8) ∉ p) {x : Nat × List UInt8} (hr : rline p = some x) (hd : deep < x.1) : rdL (f + 1) deep (p ++ 10 :: r) = none := by
  unfold rdL
  rw [if_neg (by simp), cut_mid hp]
  simp [hr, hd]
theorem rd_step {f deep : Nat} {p r : List UInt8} (hp : (10 : UInt8) ∉ p) {x : Nat × List UInt8} (hr : rline p = some x) (hd : x.1 ≤ deep) : rdL (f + 1) deep (p ++ 10 :: r) = (rdL f (x.1 + 1) r).map (x :: ·) := by
  conv => lhs; unfold rdL
  rw [if_neg (by simp), cut_mid hp]
  simp only [if_true, hr]
  rw [if_neg (by omega)]

theorem LnS.new (W : World) (x : Ln) : LnS (W.alloc (.cells x.cells.toArray 54)) (some ⟨W.heap.size, 0, none⟩) 1 1 [x] :=
  ⟨rfl, Nat.le_refl _, by decide, (fun e => nomatch e), fun _ => ⟨W.heap.size, 0, rfl, by simp, fun i hi j u hj => by
    have h : i = 0 := by simpa using hi
    subst h
    have hb := World.alloc_heap_new W (.cells x.cells.toArray 54)
    rw [Lib.cell_of_heap hb]
    simpa using hj⟩⟩

theorem lns_below {w w' : World} {B n : Nat} {v : Value} {xs : List Value} (h : w.ownsRow B 54 4 v n xs) (hb : Below w.heap.size w w') : w'.ownsRow B 54 4 v n xs := by
  refine h.kept (row := Option.none) ⟨hb.os, hb.tape, hb.output, hb.size, fun k hk _ => hb.block k hk⟩ ?_
  cases v.ownBlock with
  | none => exact Or.inl rfl
  | some g => exact Or.inr (fun e => nomatch e)

theorem lns_own {w : World} {B n : Nat} {v : Value} {xs : List Value} (h : w.ownsRow B 54 4 v n xs) {k : Nat} (hk : v.ownBlock = some k) : B ≤ k ∧ k < w.heap.size ∧ ∃ cs, w.heap[k]? = some (.cells cs 54 (0, 0)) := by
  rcases h.2 with ⟨rfl, _⟩ | ⟨g, cap, cur, rfl, hb, hgb, _⟩
  · simp [Value.ownBlock] at hk
  · obtain rfl : g = k := by simpa [Value.ownBlock] using hk
    exact ⟨hb, (Array.getElem?_eq_some_iff.1 hgb).1, cur, hgb⟩

theorem olbel_grown {n : Nat} {a b c : World} {r : Option Nat} (h : Below n a b) (g : b.grownBy c r) (hn : n ≤ b.heap.size) (hr : ∀ k, r = some k → n ≤ k) : Below n a c :=
  ⟨g.os.trans h.os, g.tape.trans h.tape, g.output.trans h.output, Nat.le_trans h.size g.size, fun k hk => (g.block k (by omega) (fun e => by have := hr k e.symm; omega)).trans (h.block k hk)⟩

theorem rline_le {p : List UInt8} {x : Nat × List UInt8} (h : rline p = some x) : x.1 ≤ p.length := by
  unfold rline at h
  split at h
  · obtain ⟨t, _, rfl⟩ := Option.map_eq_some_iff.1 h
    show (p.length - _) / 2 ≤ _
    omega
  · cases h

set_option maxRecDepth 100000 in
set_option maxHeartbeats 2000000 in
theorem read_any (l : List UInt8) (m : Int) (w : World) (hs : l.length < 1000000) (hm : w.cell? ⟨0, 0, none⟩ = some (.int .i64 m)) (h0 : 0 < w.heap.size) :
    Calls Tryz.prog 20 #[.string (sB l)] w fun e w' => ∃ v, e = .returned (.tuple #[v, .int .i64 (rdE l)]) ∧ w'.ownsRow w.heap.size 54 4 v (rdM l).length (flLn (rdM l)) ∧ Below w.heap.size w w' := by
  go_enter Tryz.func20, Tryz.ntmps20
  go_wp2
  go_loopw [0, 4, 5] (fun s o d wr => ∃ (q : List UInt8) (L : List (Nat × List UInt8)) (deep f : Nat), s = .string (sB q) ∧ d = .int .i64 deep ∧ q.length < f ∧ deep ≤ 1000001 ∧ L.length + q.length ≤ l.length ∧ Hid (rdR l = (rdL f deep q).map (L ++ ·)) ∧ Hid (wr.ownsRow w.heap.size 54 4 o L.length (flLn (L.map toLn))) ∧ Below w.heap.size w wr) (fun s _ _ _ => szV s)
  case atStart => exact ⟨l, [], 0, l.length + 1, rfl, rfl, by omega, by omega, by simp, hid (by unfold rdR; simp), hid (World.ownsRow_nil _ _ _ _), Below.refl _ _⟩
  case round =>
    obtain ⟨q, L, deep, f, rfl, rfl, hf, hdp, hlen, HR, HO, hB⟩ := hrel
    obtain ⟨f, rfl⟩ : ∃ f', f = f' + 1 := ⟨f - 1, by omega⟩
    have hmr : wr.cell? ⟨0, 0, none⟩ = some (.int .i64 m) := by rw [hB.cell (by simpa using h0)]; exact hm
    by_cases hq : q = []
    · subst hq
      have HF : Hid (rdR l = some L) := hid (by rw [HR.out, rd_nil]; simp)
      go_wp2
      go_ret2
      have e1 : rdM l = L.map toLn := by unfold rdM; rw [HF.out]; rfl
      have e2 : rdE l = 0 := by unfold rdE; rw [HF.out]; rfl
      refine ⟨u4, ?_, ?_, hB⟩
      · rw [e2]; rfl
      · rw [e1, List.length_map]; exact HO.out
    · have hC := cut_any q 10 m wr (by omega) hmr
      have hqe : q.isEmpty = false := by
        cases q with
        | nil => exact absurd rfl hq
        | cons b q => rfl
      have HQ := hid hq
      clear hq
      obtain ⟨fd, hfd⟩ : ∃ fd, fd = (Lib.cut q [10]).2.2 := ⟨_, rfl⟩
      obtain ⟨ps, hps⟩ : ∃ ps, ps = (Lib.cut q [10]).1 := ⟨_, rfl⟩
      obtain ⟨rs, hrs⟩ : ∃ rs, rs = (Lib.cut q [10]).2.1 := ⟨_, rfl⟩
      rw [← hfd, ← hps, ← hrs] at hC
      have hpl : ps.length + rs.length ≤ q.length ∧ (fd = true → ps.length + rs.length < q.length) := by
        rcases cut_cases 10 q with hn | ⟨p, r, rfl, hp⟩
        · rw [cut_no hn] at hps hrs hfd; rw [hps, hrs, hfd]; simp
        · rw [cut_mid hp] at hps hrs hfd; rw [hps, hrs]; simp only [List.length_append, List.length_cons]; exact ⟨by omega, fun _ => by omega⟩
      have HRD : Hid ((fd = false ∨ rline ps = none → rdR l = none) ∧ (∀ x, fd = true → rline ps = some x → (deep < x.1 → rdR l = none) ∧ (x.1 ≤ deep → rdR l = (rdL f (x.1 + 1) rs).map ((L ++ [x]) ++ ·)))) := hid (by
        rcases cut_cases 10 q with hn | ⟨p, r, rfl, hp⟩
        · rw [cut_no hn] at hps hrs hfd
          refine ⟨fun _ => by rw [HR.out, rd_no HQ.out hn]; rfl, fun x h => by rw [hfd] at h; cases h⟩
        · rw [cut_mid hp] at hps hrs hfd
          subst hps
          subst hrs
          refine ⟨fun h => ?_, fun x _ hx => ⟨fun h => by rw [HR.out, rd_deep hp hx h]; rfl, fun h => ?_⟩⟩
          · rcases h with h | h
            · rw [hfd] at h; cases h
            · rw [HR.out, rd_bad hp h]; rfl
          · rw [HR.out, rd_step hp hx h, Option.map_map]
            congr 1
            funext z
            simp)
      obtain ⟨hpl1, hpl2⟩ := hpl
      have HPL := hid hpl2
      clear hfd hps hrs hpl2
      obtain ⟨ok, hok⟩ : ∃ ok, ok = (rline ps).isSome := ⟨_, rfl⟩
      obtain ⟨xd, hxd⟩ : ∃ xd, xd = ((rline ps).getD (0, [])).1 := ⟨_, rfl⟩
      obtain ⟨xt, hxt⟩ : ∃ xt, xt = ((rline ps).getD (0, [])).2 := ⟨_, rfl⟩
      have HX : Hid (ok = true → rline ps = some (xd, xt)) := hid (fun h => by
        rw [hok] at h
        obtain ⟨x, hx⟩ := Option.isSome_iff_exists.1 h
        rw [hx] at hxd hxt
        rw [hx, hxd, hxt]
        rfl)
      have HXN : Hid (ok = false → rline ps = none) := hid (fun h => by
        rw [hok] at h
        cases e : rline ps with
        | none => rfl
        | some x => rw [e] at h; cases h)
      have hxl : xd ≤ 1000000 := by
        rw [hxd]
        cases e : rline ps with
        | none => simp
        | some x => have := rline_le e; show x.1 ≤ _; omega
      have HRL : ∀ W, W.cell? ⟨0, 0, none⟩ = some (.int .i64 m) → 0 < W.heap.size → Calls Tryz.prog 51 #[.string (sB ps)] W fun e w' => e = .returned (.tuple #[.agg #[.int .i64 0, .int .i64 0, .int .i64 xd, .string (sB xt)], .bool ok]) ∧ Below W.heap.size W w' := fun W h1 h2 => by
        have := readLine_any ps m W (by omega) h1 h2
        rw [hok, hxd, hxt]
        exact this
      clear hok hxd hxt
      have hz0 : 0 < wr.heap.size := by have := hB.size; omega
      have hmq : ∀ k, (wr.drewN k).cell? ⟨0, 0, none⟩ = some (.int .i64 m) := fun _ => hmr
      have hzq : ∀ k, 0 < (wr.drewN k).heap.size := fun _ => hz0
      have hBq : ∀ k, Below w.heap.size w (wr.drewN k) := fun k => hB.trans (((Far.refl wr).drewN k).below.mono hB.size)
      have HOq : ∀ k, Hid ((wr.drewN k).ownsRow w.heap.size 54 4 u4 L.length (flLn (L.map toLn))) := fun _ => HO
      go_upto_region 6 with (first
        | (go_at_call 50; refine hC.mono ?_; rintro e w1 ⟨rfl, nn, rfl⟩)
        | (go_at_call 51; refine (HRL (wr.drewN nn) (hmq nn) (hzq nn)).mono ?_; rintro e w2 ⟨rfl, hB2⟩))
      obtain ⟨W3, hW3⟩ : ∃ W3, W3 = w2.alloc (.cells #[.int .i64 0, .int .i64 0, .int .i64 xd, .string (sB xt)] 54) := ⟨_, rfl⟩
      have hB3 : Below w.heap.size w W3 := by
        have h2 := (hBq nn).trans (hB2.mono (hBq nn).size)
        rw [hW3]
        exact h2.alloc h2.size _
      have hB23 : Below (wr.drewN nn).heap.size (wr.drewN nn) W3 := by rw [hW3]; exact hB2.alloc hB2.size _
      obtain ⟨qb, hqb⟩ : ∃ qb, qb = w2.heap.size := ⟨_, rfl⟩
      have hbq : W3.heap[qb]? = some (.cells #[.int .i64 0, .int .i64 0, .int .i64 xd, .string (sB xt)] 54 (0, 0)) := by rw [hW3, hqb]; exact World.alloc_heap_new w2 _
      have hqge : (wr.drewN nn).heap.size ≤ qb := by rw [hqb]; exact hB2.size
      have HO3 := hid (lns_below (HOq nn).out hB23)
      rw [← hW3, ← hqb]
      have HB3 := hid hB3
      have HQG := hid hqge
      have HONN := HOq nn
      have HW3s : Hid (w.heap.size ≤ W3.heap.size) := hid hB3.size
      clear hW3 hqb hB23 hB3 hqge hB2 HOq hBq hzq hmq
      obtain ⟨fz, k0, k1, k2, k3⟩ : W3.frozen? ⟨qb, 0, none⟩ = false ∧ W3.cell? ⟨qb, 0, none⟩ = some (.int .i64 0) ∧ W3.cell? ⟨qb, 1, none⟩ = some (.int .i64 0) ∧ W3.cell? ⟨qb, 2, none⟩ = some (.int .i64 xd) ∧ W3.cell? ⟨qb, 3, none⟩ = some (.string (sB xt)) := by
        refine ⟨Lib.frozen_of_heap hbq 0, ?_, ?_, ?_, ?_⟩ <;> (rw [Lib.cell_of_heap hbq]; rfl)
      have HBQ := hid hbq
      clear hbq
      have hbad : Hid (rdR l = none → rdM l = [] ∧ rdE l = 11) := hid (fun h => by unfold rdM rdE; rw [h]; exact ⟨rfl, rfl⟩)
      cases fd with
      | false =>
        obtain ⟨m1, m2⟩ := hbad.out (HRD.out.1 (Or.inl rfl))
        have M1 := hid m1
        have M2 := hid m2
        clear m1 m2
        go_wp2
        go_ret2
        refine ⟨.slice Option.none 0 0, by rw [M2.out]; rfl, by rw [M1.out]; exact World.ownsRow_nil _ _ _ _, HB3.out⟩
      | true =>
        cases ok with
        | false =>
          obtain ⟨m1, m2⟩ := hbad.out (HRD.out.1 (Or.inr (HXN.out rfl)))
          have M1 := hid m1
          have M2 := hid m2
          clear m1 m2
          go_wp2
          go_ret2
          refine ⟨.slice Option.none 0 0, by rw [M2.out]; rfl, by rw [M1.out]; exact World.ownsRow_nil _ _ _ _, HB3.out⟩
        | true =>
          by_cases hgt : deep < xd
          · have hd1 : decide ((deep : Int) < (xd : Int)) = true := by simp [hgt]
            obtain ⟨m1, m2⟩ := hbad.out ((HRD.out.2 (xd, xt) rfl (HX.out rfl)).1 hgt)
            have M1 := hid m1
            have M2 := hid m2
            clear m1 m2
            go_wp2
            go_ret2
            refine ⟨.slice Option.none 0 0, by rw [M2.out]; rfl, by rw [M1.out]; exact World.ownsRow_nil _ _ _ _, HB3.out⟩
          · have hd1 : decide ((deep : Int) < (xd : Int)) = false := by simp; omega
            have HST := hid ((HRD.out.2 (xd, xt) rfl (HX.out rfl)).2 (by omega))
            have hLl : L.length ≤ 1000000 := by omega
            have HNW := hid (LnS.new W3 (toLn (xd, xt)))
            have HOW := hid (lns_below HO3.out ((Below.refl W3.heap.size W3).alloc (Nat.le_refl _) (.cells (toLn (xd, xt)).cells.toArray 54)))
            have HBW := hid (HB3.out.alloc HW3s.out (.cells (toLn (xd, xt)).cells.toArray 54))
            have hNE : Hid (∀ k, u4.ownBlock = some k → w.heap.size ≤ k ∧ k ≠ qb) := hid (fun k hk => by
              obtain ⟨e1, e2, _⟩ := lns_own HONN.out hk
              have := HQG.out
              exact ⟨e1, by omega⟩)
            have hql : Hid (qb < (W3.alloc (.cells (toLn (xd, xt)).cells.toArray 54)).heap.size) := hid (by have := (Array.getElem?_eq_some_iff.1 HBQ.out).1; rw [World.size_alloc]; omega)
            go_upto_region 9 with (at_builtin; refine wpList_append_lns rfl _ _ 43 Tryz.underlying43 rfl w.heap.size u4 L.length (L.map toLn) rfl HOW.out (some ⟨W3.heap.size, 0, Option.none⟩) 1 1 [toLn (xd, xt)] rfl HNW.out (by omega) (by rw [World.size_alloc]; have := HW3s.out; omega) ?_; rintro v5 W5 ho5 hg5)
            have hq5 : W5.heap[qb]? = some (.cells #[.int .i64 0, .int .i64 0, .int .i64 xd, .string (sB xt)] 54 (0, 0)) := (hg5.block qb hql.out (fun e => (hNE.out qb e.symm).2 rfl)).trans ((Below.heap_alloc _ _ _ (by have := (Array.getElem?_eq_some_iff.1 HBQ.out).1; exact this)).trans HBQ.out)
            have g2 : W5.cell? ⟨qb, 2, none⟩ = some (.int .i64 xd) := by rw [Lib.cell_of_heap hq5]; rfl
            have HB5 := hid (olbel_grown HBW.out hg5 (by rw [World.size_alloc]; have := HW3s.out; omega) (fun k hk => (hNE.out k hk).1))
            have HO5 := hid ho5
            clear hq5 ho5 hg5
            go_quiet (fail)
            have HF : Hid (Below w.heap.size w (W5.drewN nq)) := hid (HB5.out.trans (((Far.refl W5).drewN nq).below.mono HB5.out.size))
            go_wp2
            go_roundw
            case rel =>
              refine ⟨rs, L ++ [(xd, xt)], xd + 1, f, rfl, by go_num, ?_, by omega, ?_, HST, hid ?_, HF.out⟩
              · have := HPL.out rfl; omega
              · have := HPL.out rfl; simp; omega
              · rw [List.map_append, List.length_append]; exact HO5.out
            case measure => show (sB rs).size < (sB q).size; rw [sB_size, sB_size]; have := HPL.out rfl; omega
end

section
set_option linter.unusedVariables false
open Go.Shelf Go.RowKit

/-- A line as it is shown. -/
def Ln.sh (x : Ln) : List UInt8 := lnB x.d.toNat x.t ++ [10]

def showL (L : List Ln) : List UInt8 := L.flatMap Ln.sh

theorem showL_snoc (L : List Ln) (x : Ln) : showL (L ++ [x]) = showL L ++ x.sh := by simp [showL]

theorem sh_len (x : Ln) (hd : x.d ≤ 100000) (ht : x.t.length ≤ 100000) : x.sh.length ≤ 400003 := by
  have := esc_len x.t
  unfold Ln.sh lnB
  simp
  omega

theorem showL_len : ∀ L : List Ln, (∀ x ∈ L, x.d ≤ 100000 ∧ x.t.length ≤ 100000) → (showL L).length ≤ 400003 * L.length
  | [], _ => by simp [showL]
  | x :: L, h => by
    have h1 := sh_len x (h x (by simp)).1 (h x (by simp)).2
    have h2 := showL_len L (fun y hy => h y (by simp [hy]))
    have e : showL (x :: L) = x.sh ++ showL L := by simp [showL]
    rw [e, List.length_append, List.length_cons]
    omega

theorem LnS.below {w w' : World} {a : Option Addr} {n c : Nat} {L : List Ln} (h : LnS w a n c L) (hB : Below w.heap.size w w') : LnS w' a n c L :=
  ⟨h.len, h.cap, h.max, h.nil, fun hp => by
    obtain ⟨g, o, e, hg, hx⟩ := h.at_ hp
    exact ⟨g, o, e, Nat.lt_of_lt_of_le hg hB.size, fun i hi j u hj => by rw [hB.cell (by exact hg)]; exact hx i hi j u hj⟩⟩

theorem bld_below {w w' : World} {B b : Nat} {bs : List Value} (h : Bld B b bs w) (hb : Below w.heap.size w w') : Bld B b bs w' := by
  have one : ∀ p, Lib.BuilderAtF 93 5 B b p bs w → Lib.BuilderAtF 93 5 B b p bs w' := fun p ⟨h1, v, h2, h3, h4⟩ => by
    refine ⟨h1, v, (hb.block b (Array.getElem?_eq_some_iff.1 h2).1).trans h2, h3.kept (row := none) ⟨hb.os, hb.tape, hb.output, hb.size, fun k hk _ => hb.block k hk⟩ ?_, h4⟩
    cases v.ownBlock with
    | none => exact Or.inl rfl
    | some g => exact Or.inr (fun e => by cases e)
  rcases h with h | h
  · exact Or.inl (one _ h)
  · exact Or.inr (one _ h)

theorem rep_two : ∀ n, Lib.repeatL [32, 32] n = List.replicate (2 * n) (32 : UInt8)
  | 0 => rfl
  | n + 1 => by
    have := rep_two n
    rw [show 2 * (n + 1) = 2 * n + 1 + 1 by omega, List.replicate_succ, List.replicate_succ, ← this]
    rfl
end

section
set_option linter.unusedVariables false
open Go.RowKit Go.Shelf

theorem LnS.look {w : World} {a : Option Addr} {n c : Nat} {L : List Ln} (h : LnS w a n c L) {k : Nat} (hk : k < n) : ∃ g o x, a = some ⟨g, o, none⟩ ∧ L[k]? = some x ∧ g < w.heap.size ∧ w.cell? ⟨g, o + k * 4, none⟩ = some (.int .i64 x.b.1) ∧ w.cell? ⟨g, o + k * 4 + 1, none⟩ = some (.int .i64 x.b.2) ∧ w.cell? ⟨g, o + k * 4 + 2, none⟩ = some (.int .i64 x.d) ∧ w.cell? ⟨g, o + k * 4 + 3, none⟩ = some (.string ⟨x.t.toArray⟩) := by
  obtain ⟨g, o, e, hg, hx⟩ := h.at_ (by omega)
  have hkl : k < L.length := by rw [h.len]; exact hk
  exact ⟨g, o, L[k], e, List.getElem?_eq_getElem hkl, hg, hx k hkl 0 _ rfl, hx k hkl 1 _ rfl, hx k hkl 2 _ rfl, hx k hkl 3 _ rfl⟩
end

section
open Go.RowKit

theorem fadd_none (g o k : Nat) : (⟨g, o, none⟩ : Addr).add k = ⟨g, o + k, none⟩ := by unfold Addr.add; split <;> simp_all

section
open Go.ChangeShapes Go.WideShapes
variable {H : Type} {enc : TypeId × Value → H} {P : Program} {w : World} {base : Nat} {spare : Nat → Bool} {held : Bool}

end
end

section
set_option linter.unusedVariables false
open Go.RowKit
open Go.Sort (grow)

/-- A slice holds these numbers. -/
structure IS (w : World) (a : Option Addr) (n c : Nat) (L : List Int) : Prop where
  len : L.length = n
  cap : n ≤ c
  max : c ≤ maxLen
  at_ : 0 < n → ∃ g o, a = some ⟨g, o, none⟩ ∧ g < w.heap.size ∧ ∀ i (hi : i < L.length), w.cell? ⟨g, o + i, none⟩ = some (.int .i64 L[i])

theorem IS.drewN {w : World} {a : Option Addr} {n c : Nat} {L : List Int} (h : IS w a n c L) (q : Nat) : IS (w.drewN q) a n c L := ⟨h.len, h.cap, h.max, h.at_⟩
theorem IS.below {w w' : World} {a : Option Addr} {n c : Nat} {L : List Int} (h : IS w a n c L) (hb : Below w.heap.size w w') : IS w' a n c L :=
  ⟨h.len, h.cap, h.max, fun hp => by
    obtain ⟨g, o, e, hg, hx⟩ := h.at_ hp
    exact ⟨g, o, e, Nat.lt_of_lt_of_le hg hb.size, fun i hi => by rw [hb.cell (p := ⟨g, o + i, none⟩) hg]; exact hx i hi⟩⟩
/-- A row of numbers of one's own. -/
theorem own_is {w : World} {base n : Nat} {v : Value} {L : List Int} (h : w.ownsRow base 3 1 v n (L.map (Value.int .i64))) : ∃ a c, v = .slice a n c ∧ IS w a n c L := by
  have hl : L.length = n := by have := h.1; simpa using this
  rcases h.2 with ⟨rfl, h0⟩ | ⟨g, cap, cur, rfl, hB, hg, hn, hc, hcs, ht⟩
  · subst h0
    exact ⟨none, 0, rfl, hl, Nat.le_refl _, Nat.zero_le _, fun h => absurd h (by omega)⟩
  · refine ⟨some ⟨g, 0, none⟩, cap, rfl, hl, hn, hc, fun _ => ⟨g, 0, rfl, (Array.getElem?_eq_some_iff.1 hg).1, fun i hi => ?_⟩⟩
    have := h.cellAt i (by omega)
    simp only [Nat.zero_add]
    rw [this]
    simp [List.getElem?_eq_getElem hi]
end
end Go.Proofs.YtnmdcdphpcpojaaGreatDoor
