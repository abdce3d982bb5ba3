/- shallow: are lines few, short, and not deep? -/
import Derived.Test.YtnmdcdphpcpojaaGreatDoorFgSight
import Derived.Shelf.Strings.BuilderF
import Derived.Shelf.Strings.BuilderK
import Derived.Shelf.Strings.BuilderRune
import Derived.Test.YtnmdcdphpcpojaaGreatDoorOlShelfP
import Derived.Lib.ReplaceLaws
import Derived.Lib.SplitLaws
import Derived.Laws.Small
import Derived.BigQuiet
namespace Go.Proofs.YtnmdcdphpcpojaaGreatDoor
section
set_option linter.unusedVariables false
open Go.RowKit Go.Shelf

attribute [local go_sem] Oper.semAt_some

theorem KT.set {n₀ B t : Nat} {W : World} {v : Value} (hb : Boxed W B t v) (h1 : t ≠ 187) (h2 : t ≠ 218) (hB : n₀ ≤ B) (u : Value) : KT n₀ W (W.setCell ⟨B, 0, none⟩ u) :=
  ⟨by simp, fun k hk => heap_setCell_other W ⟨B, 0, none⟩ k u (fun e => by simp at e; omega), fun k cs ty fz ht hk => (heap_setCell_other W ⟨B, 0, none⟩ k u (fun e => by
    simp at e
    subst e
    rw [show W.heap[k]? = _ from hb] at hk
    cases hk
    rcases ht with ht | ht
    · exact h1 ht
    · exact h2 ht)).trans hk⟩

theorem KeepsFrom.set {B₀ B t : Nat} {W : World} {v : Value} (hb : Boxed W B t v) (u : Value) : KeepsFrom B₀ W (W.setCell ⟨B, 0, none⟩ u) :=
  ⟨by simp, fun k o _ hk hc => (heap_setCell_other W ⟨B, 0, none⟩ k u (fun e => by
    simp at e
    subst e
    rw [show W.heap[k]? = _ from hb] at hk
    cases hk
    cases hc)).trans hk⟩

theorem below_own {w X Y : World} {row : Option Nat} {B₀ : Nat} (h : Below w.heap.size w X) (hB : w.heap.size ≤ B₀) (hg : X.grownBy Y row) (hr : ∀ r, row = some r → B₀ ≤ r ∧ ∃ o : Obj, X.heap[r]? = some o ∧ o.isCells = false) : Below w.heap.size w Y :=
  ownFrom_below (β := Unit) (Nat.le_refl _) hB () X Y row h hg hr

theorem below_put {w X : World} {D : Nat} {o : Obj} (h : Below w.heap.size w X) (hD : w.heap.size ≤ D) (hk : X.heap[D]? = some o) (ho : o.isCells = false) (o' : Obj) : Below w.heap.size w (X.putObj D o') :=
  below_own h (Nat.le_refl _) (grownBy_putObj' X D o') (fun r e => by cases e; exact ⟨hD, o, hk, ho⟩)

/-- A text that is none has no characters. -/
theorem walk_none (w : World) (G : Dt → Option Nat) : SeqL 105 (.pointer none) [] G 0 w := by
  intro n l J Jx W hB hJ hJx hY h0
  have hJ0 : J [] (W.alloc (.cells #[.func (.yield l) #[] #[]] 187)) := hJ.alloc _ h0
  refine callsIn_of_wp Tryz.func105 rfl trivial ?_ rfl
  simp only [Tryz.ntmps105, List.size_toArray, List.length_cons, List.length_nil, Nat.reduceAdd, Nat.reduceSub, Array.replicate_succ, Array.replicate_zero, List.push_toArray, List.append_toArray, List.nil_append, List.cons_append]
  gi_wp2
  refine bodyPost_ret (results_none rfl _ _ _) rfl ⟨⟨_, rfl⟩, Or.inl ⟨[], rfl, hJ0⟩⟩

theorem rdc_none (w : World) (G : Dt → Option Nat) : RdC w [] G := fun c hc => by simp at hc

theorem sight_none (w : World) (G : Dt → Option Nat) : SeqL 75 (.pointer none) [] G 0 w := sight_seq (walk_none w G) (rdc_none w G)

theorem TX.sight {w : World} {t : Nat} {T : List Cr} {G M : Dt → Option Nat} {n : Nat} {R : Dt → Bool → Value} (h : TX w t T G M n R) (hTl : T.length ≤ 1000000) : SeqL 75 (.pointer (some ⟨t, 0, none⟩)) ((allC T).filter (·.seen)) G T.length w := sight_seq (walk_seq h hTl) h.rdc
end

section
set_option linter.unusedVariables false
open Go.Shelf Go.RowKit

def renB : Ren := ⟨fun | 169 => 49 | 242 => 106 | 278 => 138 | n => n, fun | 0 => 0 | 70 => 91 | 72 => 93 | 37 => 59 | 127 => 167 | 21 => 21 | 51 => 191 | 46 => 161 | 4 => 4 | 5 => 5 | 3 => 3 | 9 => 9 | n => n, fun n => n⟩

theorem lays169 : Lays.n169 Tryz.prog renB := {
  mixed := by kernel_rfl
  f169 := Tryz.func49.trans (congrArg some (by kernel_rfl))
  t0 := Tryz.underlying0
  a0 := Tryz.isAgg0
  z0 := Tryz.sizeOf0
  v0 := Tryz.zeroValue0
  t3 := Tryz.underlying3
  a3 := Tryz.isAgg3
  z3 := Tryz.sizeOf3
  v3 := Tryz.zeroValue3
  t9 := Tryz.underlying9
  a9 := Tryz.isAgg9
  z9 := Tryz.sizeOf9
  v9 := Tryz.zeroValue9
  t37 := Tryz.underlying59
  a37 := Tryz.isAgg59
  z37 := Tryz.sizeOf59
  v37 := Tryz.zeroValue59
  t70 := Tryz.underlying91
  a70 := Tryz.isAgg91
  z70 := Tryz.sizeOf91
  v70 := Tryz.zeroValue91
  t72 := Tryz.underlying93
  a72 := Tryz.isAgg93
  z72 := Tryz.sizeOf93
  v72 := Tryz.zeroValue93
  t127 := Tryz.underlying167
  a127 := Tryz.isAgg167
  z127 := Tryz.sizeOf167
  v127 := Tryz.zeroValue167
}

theorem lays242 : Lays.n242 Tryz.prog renB := {
  mixed := by kernel_rfl
  f242 := Tryz.func106.trans (congrArg some (by kernel_rfl))
  f278 := Tryz.func138.trans (congrArg some (by kernel_rfl))
  t4 := Tryz.underlying4
  a4 := Tryz.isAgg4
  z4 := Tryz.sizeOf4
  v4 := Tryz.zeroValue4
  t5 := Tryz.underlying5
  a5 := Tryz.isAgg5
  z5 := Tryz.sizeOf5
  v5 := Tryz.zeroValue5
  t21 := Tryz.underlying21
  a21 := Tryz.isAgg21
  z21 := Tryz.sizeOf21
  v21 := Tryz.zeroValue21
  t37 := Tryz.underlying59
  a37 := Tryz.isAgg59
  z37 := Tryz.sizeOf59
  v37 := Tryz.zeroValue59
  t46 := Tryz.underlying161
  a46 := Tryz.isAgg161
  z46 := Tryz.sizeOf161
  v46 := Tryz.zeroValue161
  t51 := Tryz.underlying191
  a51 := Tryz.isAgg191
  z51 := Tryz.sizeOf191
  v51 := Tryz.zeroValue191
}

theorem bldX : Builder.Extra Tryz.prog renB where
  sizeBuilder := by kernel_rfl
  liesBuilder := by kernel_rfl
  t5 := Tryz.underlying5
  a5 := Tryz.isAgg5
  z5 := Tryz.sizeOf5
  v5 := Tryz.zeroValue5
  infoByte := by kernel_rfl
  cellsByte := by kernel_rfl
  sizeByte := by kernel_rfl
  neB5 := by decide


/-- A builder that holds these bytes. -/
abbrev Bld (B b : Nat) (bs : List Value) (w : World) : Prop := Lib.IsBuilderF 93 5 B b bs w

theorem bld_string (B b : Nat) (l : List UInt8) (w : World) (h : Bld B b (Lib.byteCells l) w) (hBw : B ≤ w.heap.size) :
    Calls Tryz.prog 49 #[.pointer (some ⟨b, 0, none⟩)] w fun e w' => e = .returned (.string ⟨l.toArray⟩) ∧ (Bld B b (Lib.byteCells l) w' ∧ Below B w w' ∧ Lib.OthersKept 5 (some b) w w') := Any.Builder_String_any_k lays169 bldX B b l w h hBw

theorem append_rune (B : Nat) (v : Value) (n : Nat) (xs : List Value) (r : Int) (hr0 : -2147483648 ≤ r) (hr1 : r ≤ 2147483647) (w : World) (hown : w.ownsRowF B 5 1 v n xs) (hlen : n + 4 ≤ 140737488355328) (hBw : B ≤ w.heap.size) :
    Calls Tryz.prog 106 #[v, .int .i32 r] w fun e w' => ∃ v', e = .returned v' ∧ w'.ownsRowF B 5 1 v' (n + (Lib.runeCells r).length) (xs ++ Lib.runeCells r) ∧ ∃ o, (w.alloc o).grownBy w' v.ownBlock := Any.utf8_AppendRune_own lays242 bldX B v n xs r hr0 hr1 w hown hlen hBw

theorem infoB : ∃ j, Tryz.prog.info? 93 = some j ∧ j.size = 2 := Option.map_eq_some_iff.1 bldX.sizeBuilder

set_option maxHeartbeats 1000000 in
set_option maxRecDepth 100000 in
theorem check_used (b : Nat) (w : World) (h0 : w.cell? ⟨b, 0, none⟩ = some (.pointer (some ⟨b, 0, none⟩))) :
    Calls Tryz.prog 79 #[.pointer (some ⟨b, 0, none⟩)] w fun e w' => e = .returned (.tuple #[]) ∧ w' = w := by
  obtain ⟨j, hj, _⟩ := infoB
  go_enter Tryz.func79, Tryz.ntmps79
  go_wp2
  rw [Lib.run_neq_ptr_same w _ Tryz.underlying91 hj]
  go_wp2
  go_end0
  exact ⟨rfl, rfl⟩

set_option maxHeartbeats 1000000 in
set_option maxRecDepth 100000 in
theorem check_fresh (b : Nat) (w : World) (h0 : w.cell? ⟨b, 0, none⟩ = some (.pointer none)) (hsh : w.shape? b = some (93, 2)) (hfz : w.frozen? ⟨b, 0, none⟩ = false) :
    Calls Tryz.prog 79 #[.pointer (some ⟨b, 0, none⟩)] w fun e w' => e = .returned (.tuple #[]) ∧ w' = w.setCell ⟨b, 0, none⟩ (.pointer (some ⟨b, 0, none⟩)) := by
  obtain ⟨j, hj, hjs⟩ := infoB
  go_enter Tryz.func79, Tryz.ntmps79
  go_wp2
  rw [Lib.run_to_unsafe w ⟨b, 0, none⟩ Tryz.underlying91 Tryz.underlying189 hj (by rw [hjs]; decide) hsh (Nat.zero_lt_succ 1)]
  simp only [Result.andThen]
  rw [Oper.upon_value]
  go_wp2
  rw [run_callFunc_extern Tryz.func107 (by kernel_rfl) (by kernel_rfl) (by kernel_rfl) (e := Extern.AbiNoEscape.same) (by kernel_rfl)]
  rw [Lib.run_noEscape]
  simp only [Result.andThen]
  rw [Oper.upon_value]
  go_wp2
  rw [Lib.run_from_unsafe w ⟨b, 0, none⟩ Tryz.underlying189 Tryz.underlying91 hj hsh bldX.liesBuilder]
  simp only [Result.andThen]
  rw [Oper.upon_value]
  go_wp2
  go_end0
  exact ⟨rfl, rfl⟩

theorem bcheck_any (B b : Nat) (bs : List Value) (w : World) (h : Bld B b bs w) :
    Calls Tryz.prog 79 #[.pointer (some ⟨b, 0, none⟩)] w fun e w' => e = .returned (.tuple #[]) ∧ (Lib.BuilderAtF 93 5 B b (.pointer (some ⟨b, 0, none⟩)) bs w' ∧ Below B w w' ∧ Lib.OthersKept 5 (some b) w w') := by
  rcases h with h | h
  · refine (check_fresh b w h.cell0 h.shape h.frozen0).mono ?_
    rintro e w' ⟨rfl, rfl⟩
    exact ⟨rfl, h.used _, (Below.refl B w).setCell (p := ⟨b, 0, none⟩) h.1 _, (Lib.OthersKept.refl _ _ w).setCell ⟨b, 0, none⟩ rfl _⟩
  · refine (check_used b w h.cell0).mono ?_
    rintro e w' ⟨rfl, rfl⟩
    exact ⟨rfl, h, Below.refl B _, Lib.OthersKept.refl _ _ _⟩

set_option maxHeartbeats 2000000 in
set_option maxRecDepth 100000 in
theorem write_rune (B b : Nat) (bs : List Value) (r : Int) (hr0 : -2147483648 ≤ r) (hr1 : r ≤ 2147483647) (w : World) (h : Bld B b bs w) (hlen : bs.length + 4 ≤ 140737488355328) (hBw : B ≤ w.heap.size) :
    Calls Tryz.prog 76 #[.pointer (some ⟨b, 0, none⟩), .int .i32 r] w fun e w' => e = .returned (.tuple #[.int .i64 (Lib.runeCells r).length, .nilIface]) ∧ (Lib.BuilderAtF 93 5 B b (.pointer (some ⟨b, 0, none⟩)) (bs ++ Lib.runeCells r) w' ∧ Below B w w' ∧ Lib.OthersKept 5 (some b) w w') := by
  have hk4 := Lib.runeCells_le r
  go_enter Tryz.func76, Tryz.ntmps76
  go_upto_region 2 with (go_at_call 79; refine (bcheck_any B b bs _ h).mono ?_; rintro e w1 ⟨rfl, h1, hb1, hk1⟩)
  obtain ⟨hB, v, hbk, hown, hne⟩ := h1
  obtain ⟨ao, cap, rfl⟩ : ∃ ao cap, v = .slice ao bs.length cap := by
    rcases hown.2 with ⟨hv, h0⟩ | ⟨g, cap, cur, fz, hv, _⟩
    · exact ⟨none, 0, by rw [hv, h0]⟩
    · exact ⟨_, _, hv⟩
  have c0 : w1.cell? ⟨b, 0, none⟩ = some (.pointer (some ⟨b, 0, none⟩)) := by rw [Lib.cell_of_heap hbk]; rfl
  have c1 : w1.cell? ⟨b, 1, none⟩ = some (.slice ao bs.length cap) := by rw [Lib.cell_of_heap hbk]; rfl
  go_wp2_with (go_at_call 106; refine (append_rune B _ bs.length bs r hr0 hr1 _ hown hlen (by have := hb1.size; omega)).mono ?_)
  rintro e w2 ⟨v', rfl, hown', o, hgrow⟩
  have hlt : b < w1.heap.size := by
    rcases Nat.lt_or_ge b w1.heap.size with h' | h'
    · exact h'
    · simp [Array.getElem?_eq_none h'] at hbk
  have hb2 : w2.heap[b]? = some (.cells #[.pointer (some ⟨b, 0, none⟩), .slice ao bs.length cap] 93 (0, 0)) := by
    rw [hgrow.block b (by simp; omega) (fun e => hne e.symm), Lib.alloc_old w1 _ b hlt]
    exact hbk
  have d0 : w2.cell? ⟨b, 0, none⟩ = some (.pointer (some ⟨b, 0, none⟩)) := by rw [Lib.cell_of_heap hb2]; rfl
  have d1 : w2.cell? ⟨b, 1, none⟩ = some (.slice ao bs.length cap) := by rw [Lib.cell_of_heap hb2]; rfl
  have f1 : w2.frozen? ⟨b, 1, none⟩ = false := Lib.frozen_of_heap hb2 1
  obtain ⟨g, cap', rfl⟩ : ∃ g cap', v' = .slice (some ⟨g, 0, none⟩) (bs.length + (Lib.runeCells r).length) cap' := by
    rcases hown'.2 with ⟨_, h0⟩ | ⟨g, cap', cur, fz, hv, _⟩
    · omega
    · exact ⟨g, cap', hv⟩
  go_wp2
  go_ret2
  refine ⟨?_, ?_, ?_, ((hk1.alloc _).grown hgrow (Lib.ownsRowF_kind (hown.alloc _))).setCell ⟨b, 1, none⟩ rfl _⟩
  · have e : ((bs.length : Int) + ((Lib.runeCells r).length : Int) - (bs.length : Int)) = ((Lib.runeCells r).length : Int) := by omega
    simp [e]
  · exact Lib.BuilderAtF.put (T := 93) (e := 5) hB hb2 (bs' := bs ++ Lib.runeCells r) (by simpa using hown') bldX.neB5
  · exact ((hb1.alloc (by have := hb1.size; omega) _).grown hgrow (by have := hb1.size; simp; omega) (fun k hk => (hown.lt k hk).1)).setCell (p := ⟨b, 1, none⟩) hB _
end

section
set_option linter.unusedVariables false
open Go.Shelf Go.RowKit

theorem write_string (B b : Nat) (bs : List Value) (s : ByteArray) (w : World) (h : Bld B b bs w) (hlen : bs.length + s.size ≤ 140737488355328) (hBw : B ≤ w.heap.size) :
    Calls Tryz.prog 45 #[.pointer (some ⟨b, 0, none⟩), .string s] w fun e w' => e = .returned (.tuple #[.int .i64 s.size, .nilIface]) ∧ (Lib.BuilderAtF 93 5 B b (.pointer (some ⟨b, 0, none⟩)) (bs ++ Lib.strCells s) w' ∧ Below B w w' ∧ Lib.OthersKept 5 (some b) w w') :=
  Any.Builder_WriteString_k { Tryz.lays105 with } Tryz.Builder_Extra_105 B b bs s w h hlen hBw

def renW : Ren := ⟨fun | 167 => 48 | n => Tryz.lays105_ren.f n, Tryz.lays105_ren.t, Tryz.lays105_ren.g⟩

theorem lays167 : Lays.n167 Tryz.prog renW := { Tryz.lays105 with
  f167 := Tryz.func48.trans (congrArg some (by kernel_rfl))
  t5 := Tryz.underlying5
  a5 := Tryz.isAgg5
  z5 := Tryz.sizeOf5
  v5 := Tryz.zeroValue5 }

theorem bldW : Builder.Extra Tryz.prog renW where
  sizeBuilder := by kernel_rfl
  liesBuilder := by kernel_rfl
  t5 := Tryz.underlying5
  a5 := Tryz.isAgg5
  z5 := Tryz.sizeOf5
  v5 := Tryz.zeroValue5
  infoByte := by kernel_rfl
  cellsByte := by kernel_rfl
  sizeByte := by kernel_rfl
  neB5 := by decide

set_option maxRecDepth 100000 in
theorem write_byte (B b : Nat) (bs : List Value) (c : Int) (w : World) (h : Bld B b bs w) (hlen : bs.length + 1 ≤ 140737488355328) (hBw : B ≤ w.heap.size) :
    Calls Tryz.prog 48 #[.pointer (some ⟨b, 0, none⟩), .int .u8 c] w fun e w' => e = .returned .nilIface ∧ (Lib.BuilderAtF 93 5 B b (.pointer (some ⟨b, 0, none⟩)) (bs ++ [.int .u8 c]) w' ∧ Below B w w' ∧ Lib.OthersKept 5 (some b) w w') :=
  Any.Builder_WriteByte_k lays167 bldW B b bs c w h hlen hBw

theorem bld_len (B b : Nat) (bs : List Value) (w : World) (h : Bld B b bs w) :
    Calls Tryz.prog 44 #[.pointer (some ⟨b, 0, none⟩)] w fun e w' => e = .returned (.int .i64 bs.length) ∧ w' = w := Tryz.Builder_Len_f B b bs w h

/-- The text's bytes. -/
abbrev sB (l : List UInt8) : ByteArray := ⟨l.toArray⟩

theorem sB_size (l : List UInt8) : (sB l).size = l.length := by
  show l.toArray.size = l.length
  simp

theorem strCells_sB (l : List UInt8) : Lib.strCells (sB l) = Lib.byteCells l := by
  show (l.toArray.toList.map _) = _
  rfl

theorem rall_any (l : List UInt8) (c : UInt8) (new : List UInt8) (m : Int) (w : World) (hs : l.length < 4294967281) (hn : new.length ≤ 16) (hm : w.cell? ⟨0, 0, none⟩ = some (.int .i64 m)) :
    Calls Tryz.prog 83 #[.string (sB l), .string (sB [c]), .string (sB new)] w fun e w' => e = .returned (.string (sB (Lib.replaceAll l [c] new))) ∧ Below w.heap.size w w' := by
  have h1 : 1 ≤ (sB [c]).size := by rw [sB_size]; simp
  have hc := Lib.countB_le (sB [c]) h1 _ (sB l) (Nat.le_refl _)
  refine Tryz.strings_ReplaceAll (sB l) (sB [c]) (sB new) m w (by rw [sB_size]; omega) hm h1 ?_
  rw [sB_size] at hc ⊢
  rw [sB_size]
  have := Nat.mul_le_mul hc hn
  omega

theorem repeat_any (l : List UInt8) (n : Nat) (w : World) (hn : n ≤ 4294967296) (hl : l.length ≤ 16) :
    Calls Tryz.prog 46 #[.string (sB l), .int .i64 n] w fun e w' => e = .returned (.string (sB (Lib.repeatL l n))) ∧ Below w.heap.size w w' := by
  refine Tryz.strings_Repeat (sB l) n w (by omega) ?_
  rw [sB_size]
  have := Nat.mul_le_mul hl hn
  omega

theorem cut_any (l : List UInt8) (c : UInt8) (m : Int) (w : World) (hs : l.length < 4294967281) (hm : w.cell? ⟨0, 0, none⟩ = some (.int .i64 m)) :
    Calls Tryz.prog 50 #[.string (sB l), .string (sB [c])] w fun e w' => e = .returned (.tuple #[.string (sB (Lib.cut l [c]).1), .string (sB (Lib.cut l [c]).2.1), .bool (Lib.cut l [c]).2.2]) ∧ ∃ n, w' = w.drewN n :=
  Tryz.strings_Cut (sB l) (sB [c]) m w (by rw [sB_size]; omega) hm

theorem triml_any (l : List UInt8) (c : UInt8) (hc : c.toNat < 128) (w : World) :
    Calls Tryz.prog 85 #[.string (sB l), .string (sB [c])] w fun e w' => e = .returned (.string (sB (Lib.trimLeftB l c))) ∧ w' = w :=
  Tryz.strings_TrimLeft_one (sB l) c hc w

theorem prefix_any (l p : List UInt8) (w : World) :
    Calls Tryz.prog 81 #[.string (sB l), .string (sB p)] w fun e w' => e = .returned (.bool (Lib.hasPrefix l p)) ∧ w' = w :=
  Tryz.strings_HasPrefix (sB l) (sB p) w
end

section
set_option linter.unusedVariables false
open Go.Shelf Go.RowKit

theorem rall_len (c : UInt8) (new : List UInt8) (h : new ≠ [c]) (hn : new.length ≤ 2) (s : List UInt8) : (Lib.replaceAll s [c] new).length ≤ 2 * s.length := by
  rw [rall_one c new h]
  induction s with
  | nil => simp
  | cons b s ih =>
    rw [List.flatMap_cons, List.length_append, List.length_cons]
    split
    · omega
    · rw [List.length_singleton]
      omega

theorem esc_len (s : List UInt8) : (esc s).length ≤ 2 * s.length := by
  induction s with
  | nil => simp [esc]
  | cons b s ih =>
    rw [esc_cons, List.length_append, List.length_cons]
    split
    · simp; omega
    · split <;> simp <;> omega

set_option maxHeartbeats 1000000 in
theorem escaped_any (l : List UInt8) (m : Int) (w : World) (hs : l.length < 2000000000) (hm : w.cell? ⟨0, 0, none⟩ = some (.int .i64 m)) (h0 : 0 < w.heap.size) :
    Calls Tryz.prog 47 #[.string (sB l)] w fun e w' => e = .returned (.string (sB (esc l))) ∧ Below w.heap.size w w' := by
  have hl1 := rall_len 92 [92, 92] (by decide) (by decide) l
  go_enter Tryz.func47, Tryz.ntmps47
  go_wp2_with (go_at_call 83; refine (rall_any l 92 [92, 92] m _ (by omega) (by decide) hm).mono ?_)
  rintro e w1 ⟨rfl, hb1⟩
  have hm1 : w1.cell? ⟨0, 0, none⟩ = some (.int .i64 m) := by rw [hb1.cell (by simpa using h0)]; exact hm
  go_wp2_with (go_at_call 83; refine (rall_any (Lib.replaceAll l [92] [92, 92]) 10 [92, 110] m _ (by omega) (by decide) hm1).mono ?_)
  rintro e w2 ⟨rfl, hb2⟩
  go_wp2
  go_ret
  refine ⟨?_, ?_⟩
  · rw [esc_two]; rfl
  · exact hb1.trans (hb2.mono hb1.size)
end

section
set_option linter.unusedVariables false
open Go.Shelf Go.RowKit

theorem unesc_no : ∀ q : List UInt8, (92 : UInt8) ∉ q → unesc q = some q
  | [], _ => rfl
  | b :: q, h => by
    rw [unesc_else (fun e => h (by simp [e])), unesc_no q (fun e => h (by simp [e]))]
    rfl

theorem unesc_mid (r : List UInt8) : ∀ p : List UInt8, (92 : UInt8) ∉ p → unesc (p ++ 92 :: r) = (unesc (92 :: r)).map (p ++ ·)
  | [], _ => by simp
  | b :: p, h => by
    rw [List.cons_append, unesc_else (fun e => h (by simp [e])), unesc_mid r p (fun e => h (by simp [e])), Option.map_map]
    rfl

theorem unesc_92 (r : List UInt8) : unesc (92 :: 92 :: r) = (unesc r).map (92 :: ·) := by simp [unesc]

theorem unesc_110 (r : List UInt8) : unesc (92 :: 110 :: r) = (unesc r).map (10 :: ·) := by simp [unesc]

theorem unesc_bad {r : List UInt8} (h1 : Lib.hasPrefix r [92] = false) (h2 : Lib.hasPrefix r [110] = false) : unesc (92 :: r) = none := by
  cases r with
  | nil => simp [unesc]
  | cons d r =>
    simp [Lib.hasPrefix] at h1 h2
    have e1 : d ≠ 92 := fun e => by subst e; simp [List.isPrefixOf] at h1
    have e2 : d ≠ 110 := fun e => by subst e; simp [List.isPrefixOf] at h2
    simp [unesc, e1, e2]

theorem pre_cons {r : List UInt8} {c : UInt8} (h : Lib.hasPrefix r [c] = true) : ∃ x, r = c :: x := by
  cases r with
  | nil => simp [Lib.hasPrefix] at h
  | cons d r =>
    simp [Lib.hasPrefix] at h
    exact ⟨r, by rw [h]⟩

def szV : Value → Nat
  | .string s => s.size
  | _ => 0

theorem new_bld (w : World) : Bld w.heap.size w.heap.size [] (w.alloc (.cells #[.pointer none, .slice none 0 0] 93)) :=
  Or.inl ⟨Nat.le_refl _, .slice none 0 0, World.alloc_heap_new _ _, World.ownsRowF_nil _ _ _ _, by simp [Value.ownBlock]⟩

theorem bytes_app (a b : List UInt8) : Lib.byteCells (a ++ b) = Lib.byteCells a ++ Lib.byteCells b := by simp [Lib.byteCells]

theorem sB_tail (b : UInt8) (x : List UInt8) : (sB (b :: x)).extract 1 (x.length + 1) = sB x := by
  apply ByteArray.ext
  rw [ByteArray.data_extract]
  simp

set_option maxRecDepth 100000 in
set_option maxHeartbeats 2000000 in
theorem plain_any (l : List UInt8) (m : Int) (w : World) (hs : l.length < 2000000000) (hm : w.cell? ⟨0, 0, none⟩ = some (.int .i64 m)) (h0 : 0 < w.heap.size) :
    Calls Tryz.prog 87 #[.string (sB l)] w fun e w' => e = .returned (.tuple #[.string (sB ((unesc l).getD [])), .bool (unesc l).isSome]) ∧ Below w.heap.size w w' := by
  go_enter Tryz.func87, Tryz.ntmps87
  go_wp2
  go_loopw [0] (fun v wr => ∃ (q pre : List UInt8), v = .string (sB q) ∧ Hid (unesc l = (unesc q).map (pre ++ ·)) ∧ pre.length + q.length ≤ l.length ∧ Bld w.heap.size w.heap.size (Lib.byteCells pre) wr ∧ Below w.heap.size w wr) (fun v _ => szV v)
  case atStart => exact ⟨l, [], rfl, hid (by simp), by simp, new_bld w, (Below.refl _ w).alloc (Nat.le_refl _) _⟩
  case round =>
    obtain ⟨q, pre, rfl, hu, hlen, hb, hB⟩ := hrel
    have hmr : wr.cell? ⟨0, 0, none⟩ = some (.int .i64 m) := by rw [hB.cell (by simpa using h0)]; exact hm
    have hC := cut_any q 92 m wr (by omega) hmr
    have hlb := Lib.byteCells_length pre
    have hbd : ∀ n, Bld w.heap.size w.heap.size (Lib.byteCells pre) (wr.drewN n) := fun _ => hb
    have hBd : ∀ n, Below w.heap.size w (wr.drewN n) := fun n => hB.trans (((Far.refl wr).drewN n).below.mono hB.size)
    rcases cut_cases 92 q with hn | ⟨p, r, rfl, hp⟩
    · rw [cut_no hn] at hC
      have hun := hid (hu.out.trans (by rw [unesc_no q hn]))
      have hlq := Lib.byteCells_length q
      go_wp2_with (first
        | (go_at_call 50; refine hC.mono ?_; rintro e w1 ⟨rfl, nn, rfl⟩)
        | (go_at_call 45; refine (write_string w.heap.size w.heap.size (Lib.byteCells pre) (sB q) _ (hbd nn) (by rw [sB_size]; omega) (hBd nn).size).mono ?_; rintro e w2 ⟨rfl, hb2, hB2, _⟩)
        | (go_at_call 49; refine (bld_string w.heap.size w.heap.size (pre ++ q) w2 (by rw [bytes_app, ← strCells_sB q]; exact Or.inr hb2) (Nat.le_trans (hBd nn).size hB2.size)).mono ?_; rintro e w3 ⟨rfl, _, hB3, _⟩))
      go_ret2
      refine ⟨?_, ?_⟩
      · rw [hun.out]; rfl
      · exact ((hBd nn).trans hB2).trans hB3
    · rw [cut_mid hp] at hC
      have hlp := Lib.byteCells_length p
      have hll : pre.length + (p.length + (r.length + 1)) ≤ l.length := by simpa using hlen
      have hun := hid (hu.out.trans (by rw [unesc_mid r p hp]))
      cases h92 : Lib.hasPrefix r [92] with
      | true =>
        obtain ⟨x, rfl⟩ := pre_cons h92
        have hP := prefix_any (92 :: x) [92]
        rw [h92] at hP
        go_wp2_with (first
          | (go_at_call 50; refine hC.mono ?_; rintro e w1 ⟨rfl, nn, rfl⟩)
          | (go_at_call 45; refine (write_string w.heap.size w.heap.size (Lib.byteCells pre) (sB p) _ (hbd nn) (by rw [sB_size]; omega) (hBd nn).size).mono ?_; rintro e w2 ⟨rfl, hb2, hB2, _⟩)
          | (go_at_call 81; refine (hP _).mono ?_; rintro e w3 ⟨rfl, rfl⟩)
          | (go_at_call 48; refine (write_byte w.heap.size w.heap.size (Lib.byteCells pre ++ Lib.strCells (sB p)) 92 _ (Or.inr hb2) (by rw [List.length_append, Lib.strCells_length, sB_size]; omega) (Nat.le_trans (hBd nn).size hB2.size)).mono ?_; rintro e w4 ⟨rfl, hb4, hB4, _⟩))
        go_roundw
        case rel =>
          refine ⟨x, pre ++ p ++ [92], ?_, hid ?_, ?_, ?_, ((hBd nn).trans hB2).trans hB4⟩
          · rw [sB_tail]
          · rw [hun.out, unesc_92, Option.map_map, Option.map_map]; congr 1; funext z; simp
          · simp at hll ⊢; omega
          · rw [bytes_app, bytes_app, ← strCells_sB p]; exact Or.inr hb4
        case measure => simp only [szV, sB_tail]; rw [sB_size, sB_size]; simp; omega
      | false =>
        cases h110 : Lib.hasPrefix r [110] with
        | true =>
          obtain ⟨x, rfl⟩ := pre_cons h110
          have hP := prefix_any (110 :: x) [92]
          rw [h92] at hP
          have hP2 := prefix_any (110 :: x) [110]
          rw [h110] at hP2
          go_wp2_with (first
            | (go_at_call 50; refine hC.mono ?_; rintro e w1 ⟨rfl, nn, rfl⟩)
            | (go_at_call 45; refine (write_string w.heap.size w.heap.size (Lib.byteCells pre) (sB p) _ (hbd nn) (by rw [sB_size]; omega) (hBd nn).size).mono ?_; rintro e w2 ⟨rfl, hb2, hB2, _⟩)
            | (go_at_call 81; refine (hP _).mono ?_; rintro e w3 ⟨rfl, rfl⟩)
            | (go_at_call 81; refine (hP2 _).mono ?_; rintro e w3 ⟨rfl, rfl⟩)
            | (go_at_call 48; refine (write_byte w.heap.size w.heap.size (Lib.byteCells pre ++ Lib.strCells (sB p)) 10 _ (Or.inr hb2) (by rw [List.length_append, Lib.strCells_length, sB_size]; omega) (Nat.le_trans (hBd nn).size hB2.size)).mono ?_; rintro e w4 ⟨rfl, hb4, hB4, _⟩))
          go_roundw
          case rel =>
            refine ⟨x, pre ++ p ++ [10], ?_, hid ?_, ?_, ?_, ((hBd nn).trans hB2).trans hB4⟩
            · rw [sB_tail]
            · rw [hun.out, unesc_110, Option.map_map, Option.map_map]; congr 1; funext z; simp
            · simp at hll ⊢; omega
            · rw [bytes_app, bytes_app, ← strCells_sB p]; exact Or.inr hb4
          case measure => simp only [szV, sB_tail]; rw [sB_size, sB_size]; simp; omega
        | false =>
          have hP := prefix_any r [92]
          rw [h92] at hP
          have hP2 := prefix_any r [110]
          rw [h110] at hP2
          have hno := hid (hun.out.trans (by rw [unesc_bad h92 h110]))
          go_wp2_with (first
            | (go_at_call 50; refine hC.mono ?_; rintro e w1 ⟨rfl, nn, rfl⟩)
            | (go_at_call 45; refine (write_string w.heap.size w.heap.size (Lib.byteCells pre) (sB p) _ (hbd nn) (by rw [sB_size]; omega) (hBd nn).size).mono ?_; rintro e w2 ⟨rfl, hb2, hB2, _⟩)
            | (go_at_call 81; refine (hP _).mono ?_; rintro e w3 ⟨rfl, rfl⟩)
            | (go_at_call 81; refine (hP2 _).mono ?_; rintro e w3 ⟨rfl, rfl⟩))
          go_ret2
          refine ⟨?_, (hBd nn).trans hB2⟩
          rw [hno.out]; rfl
end

section
set_option linter.unusedVariables false
open Go.Shelf Go.RowKit

theorem sB_drop2 (a b : UInt8) (x : List UInt8) : (sB (a :: b :: x)).extract 2 (x.length + 2) = sB x := by
  apply ByteArray.ext
  rw [ByteArray.data_extract]
  simp

theorem pre_two {r : List UInt8} {a b : UInt8} (h : Lib.hasPrefix r [a, b] = true) : ∃ x, r = a :: b :: x := by
  unfold Lib.hasPrefix at h
  match r, h with
  | c :: d :: x, h =>
    simp at h
    obtain ⟨e1, e2⟩ := h
    exact ⟨x, by rw [← e1, ← e2]⟩
  | [c], h => simp at h
  | [], h => simp at h

theorem litepre_any (l p : List UInt8) (w : World) :
    Calls Tryz.prog 110 #[.string (sB l), .string (sB p)] w fun e w' => e = .returned (.bool (Lib.hasPrefix l p)) ∧ w' = w :=
  Tryz.stringslite_HasPrefix (sB l) (sB p) w

set_option maxHeartbeats 1000000 in
theorem litecut_any (l : List UInt8) (a b : UInt8) (w : World) :
    Calls Tryz.prog 118 #[.string (sB l), .string (sB [a, b])] w fun e w' => e = .returned (.tuple #[.string (sB (if Lib.hasPrefix l [a, b] = true then l.drop 2 else l)), .bool (Lib.hasPrefix l [a, b])]) ∧ w' = w := by
  have hP := litepre_any l [a, b]
  cases hp : Lib.hasPrefix l [a, b] with
  | true =>
    rw [hp] at hP
    obtain ⟨x, rfl⟩ := pre_two hp
    go_enter Tryz.func118, Tryz.ntmps118
    go_wp2_with (go_at_call 110; refine (hP _).mono ?_; rintro e w3 ⟨rfl, rfl⟩)
    go_ret2
    refine ⟨?_, rfl⟩
    simp [sB_drop2]
  | false =>
    rw [hp] at hP
    go_enter Tryz.func118, Tryz.ntmps118
    go_wp2_with (go_at_call 110; refine (hP _).mono ?_; rintro e w3 ⟨rfl, rfl⟩)
    go_ret2
    exact ⟨by simp, rfl⟩

set_option maxHeartbeats 1000000 in
theorem cutpre_any (l : List UInt8) (a b : UInt8) (w : World) :
    Calls Tryz.prog 86 #[.string (sB l), .string (sB [a, b])] w fun e w' => e = .returned (.tuple #[.string (sB (if Lib.hasPrefix l [a, b] = true then l.drop 2 else l)), .bool (Lib.hasPrefix l [a, b])]) ∧ w' = w := by
  have hC := litecut_any l a b
  generalize (if Lib.hasPrefix l [a, b] = true then l.drop 2 else l) = q at *
  generalize Lib.hasPrefix l [a, b] = t at *
  go_enter Tryz.func86, Tryz.ntmps86
  go_wp2_with (go_at_call 118; refine (hC _).mono ?_; rintro e w3 ⟨rfl, rfl⟩)
  go_ret2
  exact ⟨rfl, rfl⟩

/-- A line's cells. -/
def lnV (x : Nat × List UInt8) : Value := .agg #[.int .i64 0, .int .i64 0, .int .i64 x.1, .string (sB x.2)]

theorem set_heap {w : World} {g ty : Nat} {c : Array Value} {fz : Nat × Nat} (hb : w.heap[g]? = some (.cells c ty fz)) (j : Nat) (v : Value) : (w.setCell ⟨g, j, none⟩ v).heap[g]? = some (.cells (c.setIfInBounds j v) ty fz) := by
  show (w.heap.modify g _)[g]? = _
  rw [Array.getElem?_modify, if_pos rfl, hb]
  rfl

theorem line_put {w : World} {g ty : Nat} {x0 x1 x2 x3 : Value} (hb : w.heap[g]? = some (.cells #[x0, x1, x2, x3] ty (0, 0))) (a0 a1 a2 a3 : Value) :
    ∀ W, W = (((w.setCell ⟨g, 0, none⟩ a0).setCell ⟨g, 1, none⟩ a1).setCell ⟨g, 2, none⟩ a2).setCell ⟨g, 3, none⟩ a3 → W.cell? ⟨g, 0, none⟩ = some a0 ∧ W.cell? ⟨g, 1, none⟩ = some a1 ∧ W.cell? ⟨g, 2, none⟩ = some a2 ∧ W.cell? ⟨g, 3, none⟩ = some a3 := by
  rintro W rfl
  have h := set_heap (set_heap (set_heap (set_heap hb 0 a0) 1 a1) 2 a2) 3 a3
  have k := Lib.cell_of_heap h
  exact ⟨(k 0).trans rfl, (k 1).trans rfl, (k 2).trans rfl, (k 3).trans rfl⟩

theorem trim_le (l : List UInt8) : (Lib.trimLeftB l 32).length ≤ l.length := (trim_split l).2

set_option maxRecDepth 100000 in
set_option maxHeartbeats 2000000 in
theorem readLine_any (l : List UInt8) (m : Int) (w : World) (hs : l.length < 2000000000) (hm : w.cell? ⟨0, 0, none⟩ = some (.int .i64 m)) (h0 : 0 < w.heap.size) :
    Calls Tryz.prog 51 #[.string (sB l)] w fun e w' => e = .returned (.tuple #[lnV ((rline l).getD (0, [])), .bool (rline l).isSome]) ∧ Below w.heap.size w w' := by
  have hT := triml_any l 32 (by decide)
  have htl := trim_le l
  have HR : Hid (rline l = if (l.length - (Lib.trimLeftB l 32).length) % 2 = 0 ∧ Lib.hasPrefix (Lib.trimLeftB l 32) [45, 32] = true then (unesc ((Lib.trimLeftB l 32).drop 2)).map (fun t => ((l.length - (Lib.trimLeftB l 32).length) / 2, t)) else none) := hid rfl
  generalize Lib.trimLeftB l 32 = t at *
  have hC := cutpre_any t 45 32
  have hql : (if Lib.hasPrefix t [45, 32] = true then t.drop 2 else t).length ≤ t.length := by split <;> simp
  have hqd : Hid (Lib.hasPrefix t [45, 32] = true → (if Lib.hasPrefix t [45, 32] = true then t.drop 2 else t) = t.drop 2) := hid (fun h => if_pos h)
  generalize (if Lib.hasPrefix t [45, 32] = true then t.drop 2 else t) = q at *
  generalize Lib.hasPrefix t [45, 32] = hp at *
  obtain ⟨W0, hW0⟩ : ∃ W0, W0 = w.alloc (.cells #[.int .i64 0, .int .i64 0, .int .i64 0, .string ⟨#[]⟩] 54) := ⟨_, rfl⟩
  have hsz : W0.heap.size = w.heap.size + 1 := by rw [hW0]; simp
  have hB0 : Below w.heap.size w W0 := by rw [hW0]; exact (Below.refl _ w).alloc (Nat.le_refl _) _
  have hbk : W0.heap[w.heap.size]? = some (.cells #[.int .i64 0, .int .i64 0, .int .i64 0, .string ⟨#[]⟩] 54 (0, 0)) := by rw [hW0]; exact World.alloc_heap_new w _
  have hm0 : W0.cell? ⟨0, 0, none⟩ = some (.int .i64 m) := by rw [hB0.cell (by simpa using h0)]; exact hm
  have hP := plain_any q m W0 (by omega) hm0 (by omega)
  obtain ⟨tx, htx⟩ : ∃ tx, tx = (unesc q).getD [] := ⟨_, rfl⟩
  obtain ⟨ok, hok⟩ : ∃ ok, ok = (unesc q).isSome := ⟨_, rfl⟩
  rw [← htx, ← hok] at hP
  have HTX := hid htx
  have HOK := hid hok
  clear htx hok
  have hz : (0 : Int) ≤ (l.length : Int) - (t.length : Int) := by omega
  by_cases hpar : (l.length - t.length) % 2 = 0
  · have hpi : ((l.length : Int) - (t.length : Int)).tmod 2 = 0 := by rw [Int.tmod_eq_emod_of_nonneg hz]; omega
    have HPAR := hid hpar
    clear hpar
    cases hp with
    | false =>
      have hn : Hid (rline l = none) := hid (by rw [HR.out]; simp)
      go_enter Tryz.func51, Tryz.ntmps51
      go_wp2_with (first
        | (go_at_call 85; refine (hT _).mono ?_; rintro e w1 ⟨rfl, rfl⟩)
        | (go_at_call 86; refine (hC _).mono ?_; rintro e w2 ⟨rfl, rfl⟩)
        | (go_at_call 87; rw [← hW0]; refine hP.mono ?_; rintro e w3 ⟨rfl, hB3⟩; have hb3 := (hB3.block _ (by omega)).trans hbk; have f3 := Lib.frozen_of_heap hb3; have k0 := Lib.cell_of_heap hb3))
      have hBx := ((((hB0.trans (hB3.mono hB0.size)).setCell (p := ⟨w.heap.size, 0, none⟩) (Nat.le_refl _) (.int .i64 0)).setCell (p := ⟨w.heap.size, 1, none⟩) (Nat.le_refl _) (.int .i64 0)).setCell (p := ⟨w.heap.size, 2, none⟩) (Nat.le_refl _) (.int .i64 0)).setCell (p := ⟨w.heap.size, 3, none⟩) (Nat.le_refl _) (.string ⟨#[]⟩)
      have hq := line_put hb3 (.int .i64 0) (.int .i64 0) (.int .i64 0) (.string ⟨#[]⟩) _ rfl
      generalize (((w3.setCell ⟨w.heap.size, 0, none⟩ (.int .i64 0)).setCell ⟨w.heap.size, 1, none⟩ (.int .i64 0)).setCell ⟨w.heap.size, 2, none⟩ (.int .i64 0)).setCell ⟨w.heap.size, 3, none⟩ (.string ⟨#[]⟩) = W4 at *
      obtain ⟨q0, q1, q2, q3⟩ := hq
      refine bodyPost_ret (v := .tuple #[lnV (0, []), .bool false]) (by simp [results, Tryz.results51, go_sem, q0, q1, q2, q3, lnV]) rfl ⟨by rw [hn.out]; rfl, hBx⟩
    | true =>
      obtain rfl := hqd.out rfl
      cases ok with
      | false =>
        have hn : Hid (rline l = none) := hid (by
          rw [HR.out, if_pos ⟨HPAR.out, rfl⟩]
          cases hu : unesc (t.drop 2) with
          | none => rfl
          | some z => have := HOK.out; rw [hu] at this; simp at this)
        go_enter Tryz.func51, Tryz.ntmps51
        go_wp2_with (first
          | (go_at_call 85; refine (hT _).mono ?_; rintro e w1 ⟨rfl, rfl⟩)
          | (go_at_call 86; refine (hC _).mono ?_; rintro e w2 ⟨rfl, rfl⟩)
          | (go_at_call 87; rw [← hW0]; refine hP.mono ?_; rintro e w3 ⟨rfl, hB3⟩; have hb3 := (hB3.block _ (by omega)).trans hbk; have f3 := Lib.frozen_of_heap hb3; have k0 := Lib.cell_of_heap hb3))
        have hBx := ((((hB0.trans (hB3.mono hB0.size)).setCell (p := ⟨w.heap.size, 0, none⟩) (Nat.le_refl _) (.int .i64 0)).setCell (p := ⟨w.heap.size, 1, none⟩) (Nat.le_refl _) (.int .i64 0)).setCell (p := ⟨w.heap.size, 2, none⟩) (Nat.le_refl _) (.int .i64 0)).setCell (p := ⟨w.heap.size, 3, none⟩) (Nat.le_refl _) (.string ⟨#[]⟩)
        have hq := line_put hb3 (.int .i64 0) (.int .i64 0) (.int .i64 0) (.string ⟨#[]⟩) _ rfl
        generalize (((w3.setCell ⟨w.heap.size, 0, none⟩ (.int .i64 0)).setCell ⟨w.heap.size, 1, none⟩ (.int .i64 0)).setCell ⟨w.heap.size, 2, none⟩ (.int .i64 0)).setCell ⟨w.heap.size, 3, none⟩ (.string ⟨#[]⟩) = W4 at *
        obtain ⟨q0, q1, q2, q3⟩ := hq
        refine bodyPost_ret (v := .tuple #[lnV (0, []), .bool false]) (by simp [results, Tryz.results51, go_sem, q0, q1, q2, q3, lnV]) rfl ⟨by rw [hn.out]; rfl, hBx⟩
      | true =>
        have hn : Hid (rline l = some ((l.length - t.length) / 2, tx)) := hid (by
          rw [HR.out, if_pos ⟨HPAR.out, rfl⟩, HTX.out]
          cases hu : unesc (t.drop 2) with
          | none => have := HOK.out; rw [hu] at this; simp at this
          | some z => rfl)
        obtain ⟨D, hD⟩ : ∃ D, D = (l.length - t.length) / 2 := ⟨_, rfl⟩
        rw [← hD] at hn
        have hdv : ((l.length : Int) - (t.length : Int)).tdiv 2 = (D : Int) := by rw [Int.tdiv_eq_ediv_of_nonneg hz]; omega
        have hDb : (D : Int) < 2000000000 := by omega
        have hDw : wrap64 (D : Int) = (D : Int) := by simp [wrap64]; omega
        clear hD
        go_enter Tryz.func51, Tryz.ntmps51
        go_wp2_with (first
          | (go_at_call 85; refine (hT _).mono ?_; rintro e w1 ⟨rfl, rfl⟩)
          | (go_at_call 86; refine (hC _).mono ?_; rintro e w2 ⟨rfl, rfl⟩)
          | (go_at_call 87; rw [← hW0]; refine hP.mono ?_; rintro e w3 ⟨rfl, hB3⟩; have hb3 := (hB3.block _ (by omega)).trans hbk; have f3 := Lib.frozen_of_heap hb3; have k0 := Lib.cell_of_heap hb3))
        have hBx := ((((hB0.trans (hB3.mono hB0.size)).setCell (p := ⟨w.heap.size, 0, none⟩) (Nat.le_refl _) (.int .i64 0)).setCell (p := ⟨w.heap.size, 1, none⟩) (Nat.le_refl _) (.int .i64 0)).setCell (p := ⟨w.heap.size, 2, none⟩) (Nat.le_refl _) (.int .i64 D)).setCell (p := ⟨w.heap.size, 3, none⟩) (Nat.le_refl _) (.string (sB tx))
        have hq := line_put hb3 (.int .i64 0) (.int .i64 0) (.int .i64 D) (.string (sB tx)) _ rfl
        generalize (((w3.setCell ⟨w.heap.size, 0, none⟩ (.int .i64 0)).setCell ⟨w.heap.size, 1, none⟩ (.int .i64 0)).setCell ⟨w.heap.size, 2, none⟩ (.int .i64 D)).setCell ⟨w.heap.size, 3, none⟩ (.string (sB tx)) = W4 at *
        obtain ⟨q0, q1, q2, q3⟩ := hq
        refine bodyPost_ret (v := .tuple #[lnV (D, tx), .bool true]) (by simp [results, Tryz.results51, go_sem, q0, q1, q2, q3, lnV]) rfl ⟨by rw [hn.out]; rfl, hBx⟩
  · have hpi : ((l.length : Int) - (t.length : Int)).tmod 2 = 1 := by rw [Int.tmod_eq_emod_of_nonneg hz]; omega
    have HPAR := hid hpar
    clear hpar
    have hn : Hid (rline l = none) := hid (by rw [HR.out, if_neg (fun h => HPAR.out h.1)])
    go_enter Tryz.func51, Tryz.ntmps51
    go_wp2_with (first
      | (go_at_call 85; refine (hT _).mono ?_; rintro e w1 ⟨rfl, rfl⟩)
      | (go_at_call 86; refine (hC _).mono ?_; rintro e w2 ⟨rfl, rfl⟩)
      | (go_at_call 87; rw [← hW0]; refine hP.mono ?_; rintro e w3 ⟨rfl, hB3⟩; have hb3 := (hB3.block _ (by omega)).trans hbk; have f3 := Lib.frozen_of_heap hb3; have k0 := Lib.cell_of_heap hb3))
    have hBx := ((((hB0.trans (hB3.mono hB0.size)).setCell (p := ⟨w.heap.size, 0, none⟩) (Nat.le_refl _) (.int .i64 0)).setCell (p := ⟨w.heap.size, 1, none⟩) (Nat.le_refl _) (.int .i64 0)).setCell (p := ⟨w.heap.size, 2, none⟩) (Nat.le_refl _) (.int .i64 0)).setCell (p := ⟨w.heap.size, 3, none⟩) (Nat.le_refl _) (.string ⟨#[]⟩)
    have hq := line_put hb3 (.int .i64 0) (.int .i64 0) (.int .i64 0) (.string ⟨#[]⟩) _ rfl
    generalize (((w3.setCell ⟨w.heap.size, 0, none⟩ (.int .i64 0)).setCell ⟨w.heap.size, 1, none⟩ (.int .i64 0)).setCell ⟨w.heap.size, 2, none⟩ (.int .i64 0)).setCell ⟨w.heap.size, 3, none⟩ (.string ⟨#[]⟩) = W4 at *
    obtain ⟨q0, q1, q2, q3⟩ := hq
    refine bodyPost_ret (v := .tuple #[lnV (0, []), .bool false]) (by simp [results, Tryz.results51, go_sem, q0, q1, q2, q3, lnV]) rfl ⟨by rw [hn.out]; rfl, hBx⟩
end

section
set_option linter.unusedVariables false
open Go.Shelf Go.RowKit

/-- A line as it is shown. -/
def Ln.sh (x : Ln) : List UInt8 := lnB x.d.toNat x.t ++ [10]

def showL (L : List Ln) : List UInt8 := L.flatMap Ln.sh

theorem showL_snoc (L : List Ln) (x : Ln) : showL (L ++ [x]) = showL L ++ x.sh := by simp [showL]

theorem sh_len (x : Ln) (hd : x.d ≤ 100000) (ht : x.t.length ≤ 100000) : x.sh.length ≤ 400003 := by
  have := esc_len x.t
  unfold Ln.sh lnB
  simp
  omega

theorem showL_len : ∀ L : List Ln, (∀ x ∈ L, x.d ≤ 100000 ∧ x.t.length ≤ 100000) → (showL L).length ≤ 400003 * L.length
  | [], _ => by simp [showL]
  | x :: L, h => by
    have h1 := sh_len x (h x (by simp)).1 (h x (by simp)).2
    have h2 := showL_len L (fun y hy => h y (by simp [hy]))
    have e : showL (x :: L) = x.sh ++ showL L := by simp [showL]
    rw [e, List.length_append, List.length_cons]
    omega

theorem LnS.below {w w' : World} {a : Option Addr} {n c : Nat} {L : List Ln} (h : LnS w a n c L) (hB : Below w.heap.size w w') : LnS w' a n c L :=
  ⟨h.len, h.cap, h.max, h.nil, fun hp => by
    obtain ⟨g, o, e, hg, hx⟩ := h.at_ hp
    exact ⟨g, o, e, Nat.lt_of_lt_of_le hg hB.size, fun i hi j u hj => by rw [hB.cell (by exact hg)]; exact hx i hi j u hj⟩⟩

theorem bld_below {w w' : World} {B b : Nat} {bs : List Value} (h : Bld B b bs w) (hb : Below w.heap.size w w') : Bld B b bs w' := by
  have one : ∀ p, Lib.BuilderAtF 93 5 B b p bs w → Lib.BuilderAtF 93 5 B b p bs w' := fun p ⟨h1, v, h2, h3, h4⟩ => by
    refine ⟨h1, v, (hb.block b (Array.getElem?_eq_some_iff.1 h2).1).trans h2, h3.kept (row := none) ⟨hb.os, hb.tape, hb.output, hb.size, fun k hk _ => hb.block k hk⟩ ?_, h4⟩
    cases v.ownBlock with
    | none => exact Or.inl rfl
    | some g => exact Or.inr (fun e => by cases e)
  rcases h with h | h
  · exact Or.inl (one _ h)
  · exact Or.inr (one _ h)

theorem rep_two : ∀ n, Lib.repeatL [32, 32] n = List.replicate (2 * n) (32 : UInt8)
  | 0 => rfl
  | n + 1 => by
    have := rep_two n
    rw [show 2 * (n + 1) = 2 * n + 1 + 1 by omega, List.replicate_succ, List.replicate_succ, ← this]
    rfl
end

section
set_option linter.unusedVariables false
open Go.RowKit Go.Shelf

/-- Lines as ints and texts are. -/
structure Ln.Fits (x : Ln) : Prop where
  b : Dw x.b
  d : -9223372036854775808 ≤ x.d ∧ x.d ≤ 9223372036854775807
  t : x.t.length ≤ 9223372036854775807

def shB (L : List Ln) : Bool := L.all (fun x => decide (x.t.length ≤ 1000) && decide (x.d ≤ 1000)) && decide (L.length ≤ 100)

theorem shB_yes {L : List Ln} (h : shB L = true) : (∀ x ∈ L, x.t.length ≤ 1000 ∧ x.d ≤ 1000) ∧ L.length ≤ 100 := by
  unfold shB at h
  rw [Bool.and_eq_true, List.all_eq_true, decide_eq_true_eq] at h
  refine ⟨fun x hx => ?_, h.2⟩
  have := h.1 x hx
  rw [Bool.and_eq_true, decide_eq_true_eq, decide_eq_true_eq] at this
  exact this

theorem shB_bad {L : List Ln} {k : Nat} {x : Ln} (h : L[k]? = some x) (hx : ¬ (x.t.length ≤ 1000 ∧ x.d ≤ 1000)) : shB L = false := by
  cases e : shB L with
  | false => rfl
  | true => exact absurd ((shB_yes e).1 x (List.mem_of_getElem? h)) hx

theorem LnS.look {w : World} {a : Option Addr} {n c : Nat} {L : List Ln} (h : LnS w a n c L) {k : Nat} (hk : k < n) : ∃ g o x, a = some ⟨g, o, none⟩ ∧ L[k]? = some x ∧ g < w.heap.size ∧ w.cell? ⟨g, o + k * 4, none⟩ = some (.int .i64 x.b.1) ∧ w.cell? ⟨g, o + k * 4 + 1, none⟩ = some (.int .i64 x.b.2) ∧ w.cell? ⟨g, o + k * 4 + 2, none⟩ = some (.int .i64 x.d) ∧ w.cell? ⟨g, o + k * 4 + 3, none⟩ = some (.string ⟨x.t.toArray⟩) := by
  obtain ⟨g, o, e, hg, hx⟩ := h.at_ (by omega)
  have hkl : k < L.length := by rw [h.len]; exact hk
  exact ⟨g, o, L[k], e, List.getElem?_eq_getElem hkl, hg, hx k hkl 0 _ rfl, hx k hkl 1 _ rfl, hx k hkl 2 _ rfl, hx k hkl 3 _ rfl⟩

set_option maxHeartbeats 2000000 in
theorem shallow_any (a : Option Addr) (n c : Nat) (L : List Ln) (w : World) (h : LnS w a n c L) (hf : ∀ x ∈ L, x.Fits) : Calls Tryz.prog 17 #[.slice a n c] w fun e w' => e = .returned (.bool (shB L)) ∧ w' = w := by
  have hcap := h.cap
  have hmax := h.max
  unfold maxLen at hmax
  have HL := hid h.len
  have HS := hid h
  have HF := hid hf
  clear h hf
  go_enter Tryz.func17, Tryz.ntmps17
  go_wp2
  go_loopw [3] (fun i wr => ∃ k : Nat, k ≤ n ∧ i = .int .i64 k ∧ Hid (∀ x ∈ L.take k, x.t.length ≤ 1000 ∧ x.d ≤ 1000) ∧ wr = w) (fun i _ => n - (intOf i).toNat)
  case atStart => exact ⟨0, by omega, rfl, hid (by simp), rfl⟩
  case round =>
    obtain ⟨k, hk, rfl, hT, rfl⟩ := hrel
    by_cases hlt : k < n
    · obtain ⟨g, o, x, rfl, hx, hg, c0, c1, c2, c3⟩ := HS.out.look hlt
      have hfit := HF.out x (List.mem_of_getElem? hx)
      have hxl : x.t.toArray.size ≤ 9223372036854775807 := by simpa using hfit.t
      obtain ⟨hd1, hd2⟩ := hfit.d
      have hk1 : (k : Int) < (n : Int) := by omega
      have hk0 : (0 : Int) ≤ (k : Int) := by omega
      have HX := hid hx
      clear hx hfit c0 c1
      by_cases h1 : x.t.length ≤ 1000
      · by_cases h2 : x.d ≤ 1000
        · have b1 : decide (1000 < (x.t.length : Int)) = false := by simp; omega
          have b2 : decide (1000 < x.d) = false := by simp; omega
          have HT2 : Hid (∀ y ∈ L.take (k + 1), y.t.length ≤ 1000 ∧ y.d ≤ 1000) := hid (fun y hy => by
            obtain ⟨hkl, e⟩ := List.getElem?_eq_some_iff.1 HX.out
            rw [List.take_succ_eq_append_getElem hkl, List.mem_append] at hy
            rcases hy with hy | hy
            · exact hT.out y hy
            · rw [List.mem_singleton, e] at hy
              subst hy
              exact ⟨h1, h2⟩)
          have H1 := hid h1
          have H2 := hid h2
          clear h1 h2
          go_wp2
          go_roundw
          case rel => exact ⟨k + 1, by omega, by go_num, HT2, trivial⟩
          case measure => simp [intOf]; omega
        · have b1 : decide (1000 < (x.t.length : Int)) = false := by simp; omega
          have b2 : decide (1000 < x.d) = true := by simp; omega
          have HB := hid (shB_bad HX.out (fun e => h2 e.2))
          clear h1 h2
          go_wp2
          go_ret
          exact ⟨by rw [HB.out]; rfl, rfl⟩
      · have b1 : decide (1000 < (x.t.length : Int)) = true := by simp; omega
        have HB := hid (shB_bad HX.out (fun e => h1 e.1))
        clear h1
        go_wp2
        go_ret
        exact ⟨by rw [HB.out]; rfl, rfl⟩
    · obtain rfl : k = n := by omega
      have HB : Hid (shB L = decide ((k : Int) ≤ 100)) := hid (by
        unfold shB
        have h1 := hT.out
        rw [List.take_of_length_le (by rw [HL.out]; exact Nat.le_refl _)] at h1
        have h2 : L.all (fun x => decide (x.t.length ≤ 1000) && decide (x.d ≤ 1000)) = true := List.all_eq_true.2 (fun x hx => by rw [Bool.and_eq_true, decide_eq_true_eq, decide_eq_true_eq]; exact h1 x hx)
        rw [h2, HL.out]
        simp
        omega)
      go_wp2
      go_ret
      exact ⟨by rw [HB.out]; rfl, rfl⟩
end
end Go.Proofs.YtnmdcdphpcpojaaGreatDoor
