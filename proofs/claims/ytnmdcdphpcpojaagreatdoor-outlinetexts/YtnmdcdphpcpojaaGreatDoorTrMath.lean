/- A tree of blocks that are moved: where they lie, what is above them, which moves take effect, what comes of undoing. No function of the program. -/
import Derived.Test.YtnmdcdphpcpojaaGreatDoorFgSight
import Derived.Maps.AppendAt
import Derived.Shelf.Strings.BuilderF
import Derived.Shelf.Strings.BuilderK
import Derived.Shelf.Strings.BuilderRune
import Derived.Test.YtnmdcdphpcpojaaGreatDoorMKeys
namespace Go.Proofs.YtnmdcdphpcpojaaGreatDoor
section
set_option linter.unusedVariables false
open Go.RowKit Go.Shelf

attribute [local go_sem] Oper.semAt_some

theorem KT.set {n₀ B t : Nat} {W : World} {v : Value} (hb : Boxed W B t v) (h1 : t ≠ 187) (h2 : t ≠ 218) (hB : n₀ ≤ B) (u : Value) : KT n₀ W (W.setCell ⟨B, 0, none⟩ u) :=
  ⟨by simp, fun k hk => heap_setCell_other W ⟨B, 0, none⟩ k u (fun e => by simp at e; omega), fun k cs ty fz ht hk => (heap_setCell_other W ⟨B, 0, none⟩ k u (fun e => by
    simp at e
    subst e
    rw [show W.heap[k]? = _ from hb] at hk
    cases hk
    rcases ht with ht | ht
    · exact h1 ht
    · exact h2 ht)).trans hk⟩

theorem KeepsFrom.set {B₀ B t : Nat} {W : World} {v : Value} (hb : Boxed W B t v) (u : Value) : KeepsFrom B₀ W (W.setCell ⟨B, 0, none⟩ u) :=
  ⟨by simp, fun k o _ hk hc => (heap_setCell_other W ⟨B, 0, none⟩ k u (fun e => by
    simp at e
    subst e
    rw [show W.heap[k]? = _ from hb] at hk
    cases hk
    cases hc)).trans hk⟩

theorem below_own {w X Y : World} {row : Option Nat} {B₀ : Nat} (h : Below w.heap.size w X) (hB : w.heap.size ≤ B₀) (hg : X.grownBy Y row) (hr : ∀ r, row = some r → B₀ ≤ r ∧ ∃ o : Obj, X.heap[r]? = some o ∧ o.isCells = false) : Below w.heap.size w Y :=
  ownFrom_below (β := Unit) (Nat.le_refl _) hB () X Y row h hg hr

theorem below_put {w X : World} {D : Nat} {o : Obj} (h : Below w.heap.size w X) (hD : w.heap.size ≤ D) (hk : X.heap[D]? = some o) (ho : o.isCells = false) (o' : Obj) : Below w.heap.size w (X.putObj D o') :=
  below_own h (Nat.le_refl _) (grownBy_putObj' X D o') (fun r e => by cases e; exact ⟨hD, o, hk, ho⟩)

/-- A text that is none has no characters. -/
theorem walk_none (w : World) (G : Dt → Option Nat) : SeqL 105 (.pointer none) [] G 0 w := by
  intro n l J Jx W hB hJ hJx hY h0
  have hJ0 : J [] (W.alloc (.cells #[.func (.yield l) #[] #[]] 187)) := hJ.alloc _ h0
  refine callsIn_of_wp Tryz.func105 rfl trivial ?_ rfl
  simp only [Tryz.ntmps105, List.size_toArray, List.length_cons, List.length_nil, Nat.reduceAdd, Nat.reduceSub, Array.replicate_succ, Array.replicate_zero, List.push_toArray, List.append_toArray, List.nil_append, List.cons_append]
  gi_wp2
  refine bodyPost_ret (results_none rfl _ _ _) rfl ⟨⟨_, rfl⟩, Or.inl ⟨[], rfl, hJ0⟩⟩

theorem rdc_none (w : World) (G : Dt → Option Nat) : RdC w [] G := fun c hc => by simp at hc

theorem sight_none (w : World) (G : Dt → Option Nat) : SeqL 75 (.pointer none) [] G 0 w := sight_seq (walk_none w G) (rdc_none w G)

theorem TX.sight {w : World} {t : Nat} {T : List Cr} {G M : Dt → Option Nat} {n : Nat} {R : Dt → Bool → Value} (h : TX w t T G M n R) (hTl : T.length ≤ 1000000) : SeqL 75 (.pointer (some ⟨t, 0, none⟩)) ((allC T).filter (·.seen)) G T.length w := sight_seq (walk_seq h hTl) h.rdc
end

section
set_option linter.unusedVariables false
open Go.RowKit Go.Shelf

attribute [local go_sem] Oper.semAt_some

theorem Tryz.infoI : (Tryz.prog.info? 3).map (fun i => (i.zero, i.size, i.bytes)) = some (some (.int .i64 0), 1, 8) := by kernel_rfl
end

section
set_option linter.unusedVariables false
open Go.RowKit Go.Shelf

/-- Those that are seen, in order. -/
def seenC (T : List Cr) : List Cr := (allC T).filter (·.seen)

theorem seenC_mem {T : List Cr} {c : Cr} (h : c ∈ seenC T) : c ∈ T := allC_mem (List.mem_filter.1 h).1
end

section
set_option linter.unusedVariables false
open Go.Shelf Go.RowKit

def renB : Ren := ⟨fun | 169 => 49 | 242 => 106 | 278 => 138 | n => n, fun | 0 => 0 | 70 => 91 | 72 => 93 | 37 => 59 | 127 => 167 | 21 => 21 | 51 => 191 | 46 => 161 | 4 => 4 | 5 => 5 | 3 => 3 | 9 => 9 | n => n, fun n => n⟩

theorem lays169 : Lays.n169 Tryz.prog renB := {
  mixed := by kernel_rfl
  f169 := Tryz.func49.trans (congrArg some (by kernel_rfl))
  t0 := Tryz.underlying0
  a0 := Tryz.isAgg0
  z0 := Tryz.sizeOf0
  v0 := Tryz.zeroValue0
  t3 := Tryz.underlying3
  a3 := Tryz.isAgg3
  z3 := Tryz.sizeOf3
  v3 := Tryz.zeroValue3
  t9 := Tryz.underlying9
  a9 := Tryz.isAgg9
  z9 := Tryz.sizeOf9
  v9 := Tryz.zeroValue9
  t37 := Tryz.underlying59
  a37 := Tryz.isAgg59
  z37 := Tryz.sizeOf59
  v37 := Tryz.zeroValue59
  t70 := Tryz.underlying91
  a70 := Tryz.isAgg91
  z70 := Tryz.sizeOf91
  v70 := Tryz.zeroValue91
  t72 := Tryz.underlying93
  a72 := Tryz.isAgg93
  z72 := Tryz.sizeOf93
  v72 := Tryz.zeroValue93
  t127 := Tryz.underlying167
  a127 := Tryz.isAgg167
  z127 := Tryz.sizeOf167
  v127 := Tryz.zeroValue167
}

theorem lays242 : Lays.n242 Tryz.prog renB := {
  mixed := by kernel_rfl
  f242 := Tryz.func106.trans (congrArg some (by kernel_rfl))
  f278 := Tryz.func138.trans (congrArg some (by kernel_rfl))
  t4 := Tryz.underlying4
  a4 := Tryz.isAgg4
  z4 := Tryz.sizeOf4
  v4 := Tryz.zeroValue4
  t5 := Tryz.underlying5
  a5 := Tryz.isAgg5
  z5 := Tryz.sizeOf5
  v5 := Tryz.zeroValue5
  t21 := Tryz.underlying21
  a21 := Tryz.isAgg21
  z21 := Tryz.sizeOf21
  v21 := Tryz.zeroValue21
  t37 := Tryz.underlying59
  a37 := Tryz.isAgg59
  z37 := Tryz.sizeOf59
  v37 := Tryz.zeroValue59
  t46 := Tryz.underlying161
  a46 := Tryz.isAgg161
  z46 := Tryz.sizeOf161
  v46 := Tryz.zeroValue161
  t51 := Tryz.underlying191
  a51 := Tryz.isAgg191
  z51 := Tryz.sizeOf191
  v51 := Tryz.zeroValue191
}

theorem bldX : Builder.Extra Tryz.prog renB where
  sizeBuilder := by kernel_rfl
  liesBuilder := by kernel_rfl
  t5 := Tryz.underlying5
  a5 := Tryz.isAgg5
  z5 := Tryz.sizeOf5
  v5 := Tryz.zeroValue5
  infoByte := by kernel_rfl
  cellsByte := by kernel_rfl
  sizeByte := by kernel_rfl
  neB5 := by decide


/-- A builder that holds these bytes. -/
abbrev Bld (B b : Nat) (bs : List Value) (w : World) : Prop := Lib.IsBuilderF 93 5 B b bs w

theorem bld_string (B b : Nat) (l : List UInt8) (w : World) (h : Bld B b (Lib.byteCells l) w) (hBw : B ≤ w.heap.size) :
    Calls Tryz.prog 49 #[.pointer (some ⟨b, 0, none⟩)] w fun e w' => e = .returned (.string ⟨l.toArray⟩) ∧ (Bld B b (Lib.byteCells l) w' ∧ Below B w w' ∧ Lib.OthersKept 5 (some b) w w') := Any.Builder_String_any_k lays169 bldX B b l w h hBw

theorem append_rune (B : Nat) (v : Value) (n : Nat) (xs : List Value) (r : Int) (hr0 : -2147483648 ≤ r) (hr1 : r ≤ 2147483647) (w : World) (hown : w.ownsRowF B 5 1 v n xs) (hlen : n + 4 ≤ 140737488355328) (hBw : B ≤ w.heap.size) :
    Calls Tryz.prog 106 #[v, .int .i32 r] w fun e w' => ∃ v', e = .returned v' ∧ w'.ownsRowF B 5 1 v' (n + (Lib.runeCells r).length) (xs ++ Lib.runeCells r) ∧ ∃ o, (w.alloc o).grownBy w' v.ownBlock := Any.utf8_AppendRune_own lays242 bldX B v n xs r hr0 hr1 w hown hlen hBw

theorem infoB : ∃ j, Tryz.prog.info? 93 = some j ∧ j.size = 2 := Option.map_eq_some_iff.1 bldX.sizeBuilder

set_option maxHeartbeats 1000000 in
set_option maxRecDepth 100000 in
theorem check_used (b : Nat) (w : World) (h0 : w.cell? ⟨b, 0, none⟩ = some (.pointer (some ⟨b, 0, none⟩))) :
    Calls Tryz.prog 79 #[.pointer (some ⟨b, 0, none⟩)] w fun e w' => e = .returned (.tuple #[]) ∧ w' = w := by
  obtain ⟨j, hj, _⟩ := infoB
  go_enter Tryz.func79, Tryz.ntmps79
  go_wp2
  rw [Lib.run_neq_ptr_same w _ Tryz.underlying91 hj]
  go_wp2
  go_end0
  exact ⟨rfl, rfl⟩

set_option maxHeartbeats 1000000 in
set_option maxRecDepth 100000 in
theorem check_fresh (b : Nat) (w : World) (h0 : w.cell? ⟨b, 0, none⟩ = some (.pointer none)) (hsh : w.shape? b = some (93, 2)) (hfz : w.frozen? ⟨b, 0, none⟩ = false) :
    Calls Tryz.prog 79 #[.pointer (some ⟨b, 0, none⟩)] w fun e w' => e = .returned (.tuple #[]) ∧ w' = w.setCell ⟨b, 0, none⟩ (.pointer (some ⟨b, 0, none⟩)) := by
  obtain ⟨j, hj, hjs⟩ := infoB
  go_enter Tryz.func79, Tryz.ntmps79
  go_wp2
  rw [Lib.run_to_unsafe w ⟨b, 0, none⟩ Tryz.underlying91 Tryz.underlying189 hj (by rw [hjs]; decide) hsh (Nat.zero_lt_succ 1)]
  simp only [Result.andThen]
  rw [Oper.upon_value]
  go_wp2
  rw [run_callFunc_extern Tryz.func107 (by kernel_rfl) (by kernel_rfl) (by kernel_rfl) (e := Extern.AbiNoEscape.same) (by kernel_rfl)]
  rw [Lib.run_noEscape]
  simp only [Result.andThen]
  rw [Oper.upon_value]
  go_wp2
  rw [Lib.run_from_unsafe w ⟨b, 0, none⟩ Tryz.underlying189 Tryz.underlying91 hj hsh bldX.liesBuilder]
  simp only [Result.andThen]
  rw [Oper.upon_value]
  go_wp2
  go_end0
  exact ⟨rfl, rfl⟩

theorem bcheck_any (B b : Nat) (bs : List Value) (w : World) (h : Bld B b bs w) :
    Calls Tryz.prog 79 #[.pointer (some ⟨b, 0, none⟩)] w fun e w' => e = .returned (.tuple #[]) ∧ (Lib.BuilderAtF 93 5 B b (.pointer (some ⟨b, 0, none⟩)) bs w' ∧ Below B w w' ∧ Lib.OthersKept 5 (some b) w w') := by
  rcases h with h | h
  · refine (check_fresh b w h.cell0 h.shape h.frozen0).mono ?_
    rintro e w' ⟨rfl, rfl⟩
    exact ⟨rfl, h.used _, (Below.refl B w).setCell (p := ⟨b, 0, none⟩) h.1 _, (Lib.OthersKept.refl _ _ w).setCell ⟨b, 0, none⟩ rfl _⟩
  · refine (check_used b w h.cell0).mono ?_
    rintro e w' ⟨rfl, rfl⟩
    exact ⟨rfl, h, Below.refl B _, Lib.OthersKept.refl _ _ _⟩

set_option maxHeartbeats 2000000 in
set_option maxRecDepth 100000 in
theorem write_rune (B b : Nat) (bs : List Value) (r : Int) (hr0 : -2147483648 ≤ r) (hr1 : r ≤ 2147483647) (w : World) (h : Bld B b bs w) (hlen : bs.length + 4 ≤ 140737488355328) (hBw : B ≤ w.heap.size) :
    Calls Tryz.prog 76 #[.pointer (some ⟨b, 0, none⟩), .int .i32 r] w fun e w' => e = .returned (.tuple #[.int .i64 (Lib.runeCells r).length, .nilIface]) ∧ (Lib.BuilderAtF 93 5 B b (.pointer (some ⟨b, 0, none⟩)) (bs ++ Lib.runeCells r) w' ∧ Below B w w' ∧ Lib.OthersKept 5 (some b) w w') := by
  have hk4 := Lib.runeCells_le r
  go_enter Tryz.func76, Tryz.ntmps76
  go_upto_region 2 with (go_at_call 79; refine (bcheck_any B b bs _ h).mono ?_; rintro e w1 ⟨rfl, h1, hb1, hk1⟩)
  obtain ⟨hB, v, hbk, hown, hne⟩ := h1
  obtain ⟨ao, cap, rfl⟩ : ∃ ao cap, v = .slice ao bs.length cap := by
    rcases hown.2 with ⟨hv, h0⟩ | ⟨g, cap, cur, fz, hv, _⟩
    · exact ⟨none, 0, by rw [hv, h0]⟩
    · exact ⟨_, _, hv⟩
  have c0 : w1.cell? ⟨b, 0, none⟩ = some (.pointer (some ⟨b, 0, none⟩)) := by rw [Lib.cell_of_heap hbk]; rfl
  have c1 : w1.cell? ⟨b, 1, none⟩ = some (.slice ao bs.length cap) := by rw [Lib.cell_of_heap hbk]; rfl
  go_wp2_with (go_at_call 106; refine (append_rune B _ bs.length bs r hr0 hr1 _ hown hlen (by have := hb1.size; omega)).mono ?_)
  rintro e w2 ⟨v', rfl, hown', o, hgrow⟩
  have hlt : b < w1.heap.size := by
    rcases Nat.lt_or_ge b w1.heap.size with h' | h'
    · exact h'
    · simp [Array.getElem?_eq_none h'] at hbk
  have hb2 : w2.heap[b]? = some (.cells #[.pointer (some ⟨b, 0, none⟩), .slice ao bs.length cap] 93 (0, 0)) := by
    rw [hgrow.block b (by simp; omega) (fun e => hne e.symm), Lib.alloc_old w1 _ b hlt]
    exact hbk
  have d0 : w2.cell? ⟨b, 0, none⟩ = some (.pointer (some ⟨b, 0, none⟩)) := by rw [Lib.cell_of_heap hb2]; rfl
  have d1 : w2.cell? ⟨b, 1, none⟩ = some (.slice ao bs.length cap) := by rw [Lib.cell_of_heap hb2]; rfl
  have f1 : w2.frozen? ⟨b, 1, none⟩ = false := Lib.frozen_of_heap hb2 1
  obtain ⟨g, cap', rfl⟩ : ∃ g cap', v' = .slice (some ⟨g, 0, none⟩) (bs.length + (Lib.runeCells r).length) cap' := by
    rcases hown'.2 with ⟨_, h0⟩ | ⟨g, cap', cur, fz, hv, _⟩
    · omega
    · exact ⟨g, cap', hv⟩
  go_wp2
  go_ret2
  refine ⟨?_, ?_, ?_, ((hk1.alloc _).grown hgrow (Lib.ownsRowF_kind (hown.alloc _))).setCell ⟨b, 1, none⟩ rfl _⟩
  · have e : ((bs.length : Int) + ((Lib.runeCells r).length : Int) - (bs.length : Int)) = ((Lib.runeCells r).length : Int) := by omega
    simp [e]
  · exact Lib.BuilderAtF.put (T := 93) (e := 5) hB hb2 (bs' := bs ++ Lib.runeCells r) (by simpa using hown') bldX.neB5
  · exact ((hb1.alloc (by have := hb1.size; omega) _).grown hgrow (by have := hb1.size; simp; omega) (fun k hk => (hown.lt k hk).1)).setCell (p := ⟨b, 1, none⟩) hB _
end

section
set_option linter.unusedVariables false
open Go.RowKit Go.Shelf

attribute [local go_sem] Oper.semAt_some

/-- A char as a rune. -/
def codeI (c : Int) : Int := if c < 0 ∨ 1114111 < c then 65533 else c

theorem codeI_lo (c : Int) : -2147483648 ≤ codeI c ∧ codeI c ≤ 2147483647 := by
  unfold codeI
  split <;> omega

set_option maxHeartbeats 1000000 in
theorem code_any (c : Int) (w : World) (hc : -9223372036854775808 ≤ c ∧ c ≤ 9223372036854775807) : Calls Tryz.prog 77 #[.int .i64 c] w fun e w' => e = .returned (.int .i32 (codeI c)) ∧ w = w' := by
  by_cases h1 : c < 0
  · have b1 : decide (c < 0) = true := by simp [h1]
    have he : codeI c = 65533 := by unfold codeI; rw [if_pos (Or.inl h1)]
    rw [he]
    go_enter Tryz.func77, Tryz.ntmps77
    go_wp2
    go_ret
    exact ⟨rfl, rfl⟩
  · have b1 : decide (c < 0) = false := by simp; omega
    by_cases h2 : 1114111 < c
    · have b2 : decide (1114111 < c) = true := by simp [h2]
      have he : codeI c = 65533 := by unfold codeI; rw [if_pos (Or.inr h2)]
      rw [he]
      go_enter Tryz.func77, Tryz.ntmps77
      go_wp2
      go_ret
      exact ⟨rfl, rfl⟩
    · have b2 : decide (1114111 < c) = false := by simp; omega
      have he : codeI c = c := by unfold codeI; rw [if_neg (by omega)]
      have hw : IntKind.i32.wrap c = c := by simp [IntKind.wrap, IntKind.bits, IntKind.signed]; omega
      rw [he]
      clear he
      go_enter Tryz.func77, Tryz.ntmps77
      go_wp2
      go_ret
      exact ⟨rfl, rfl⟩

/-- A text's bytes. -/
def strB (L : List Cr) : List UInt8 := L.flatMap (fun c => Lib.encodeRune (codeI c.ch))

theorem byteCells_app (a b : List UInt8) : Lib.byteCells (a ++ b) = Lib.byteCells a ++ Lib.byteCells b := by simp [Lib.byteCells]

theorem strB_snoc (L : List Cr) (c : Cr) : Lib.byteCells (strB (L ++ [c])) = Lib.byteCells (strB L) ++ Lib.runeCells (codeI c.ch) := by
  unfold strB
  rw [List.flatMap_append, byteCells_app, ← Lib.byteCells_encodeRune]
  simp

theorem encodeRune_le (r : Int) : (Lib.encodeRune r).length ≤ 4 := by
  have h := Lib.runeCells_le r
  have : (Lib.runeCells r).length = (Lib.encodeRune r).length := by simp [Lib.runeCells, Lib.encodeRune]
  omega

theorem strB_len (L : List Cr) : (strB L).length ≤ 4 * L.length := by
  unfold strB
  induction L with
  | nil => simp
  | cons a r ih =>
    have := encodeRune_le (codeI a.ch)
    simp only [List.flatMap_cons, List.length_append, List.length_cons]
    omega

theorem bld_own {X Y : World} {row : Option Nat} {B b B₀ : Nat} {bs : List Value} (h : Bld B b bs X) (hg : X.grownBy Y row) (hr : ∀ r, row = some r → B₀ ≤ r ∧ ∃ o : Obj, X.heap[r]? = some o ∧ o.isCells = false) : Bld B b bs Y := by
  have one : ∀ p, Lib.BuilderAtF 93 5 B b p bs X → Lib.BuilderAtF 93 5 B b p bs Y := fun p ⟨h1, v, h2, h3, h4⟩ => by
    refine ⟨h1, v, ?_, ?_, h4⟩
    · refine (hg.block b (Array.getElem?_eq_some_iff.1 h2).1 (fun e => ?_)).trans h2
      obtain ⟨_, o, ho, hc⟩ := hr b e.symm
      rw [h2] at ho
      cases ho
      cases hc
    · refine h3.kept hg ?_
      cases hb : v.ownBlock with
      | none => exact Or.inl rfl
      | some g =>
        right
        intro e
        obtain ⟨c, fz, hk⟩ := Lib.ownsRowF_kind h3 g hb
        obtain ⟨_, o, ho, hc⟩ := hr g e.symm
        rw [hk] at ho
        cases ho
        cases hc
  rcases h with h | h
  · exact Or.inl (one _ h)
  · exact Or.inr (one _ h)

theorem others_kt {n₀ b : Nat} {W W' : World} {cs : Array Value} (hb : W.heap[b]? = some (.cells cs 93 (0, 0))) (ho : Lib.OthersKept 5 (some b) W W') (hl : Below n₀ W W') : KT n₀ W W' :=
  ⟨hl.size, fun k hk => hl.block k hk, fun k c ty fz hty hk => ho k _ hk (fun e => by
    cases e
    rw [hb] at hk
    cases hk
    rcases hty with h | h <;> exact absurd h (by decide)) (fun c' fz' e => by
    cases e
    rcases hty with h | h <;> exact absurd h (by decide))⟩

theorem others_keeps {B₀ b : Nat} {n₀ : Nat} {W W' : World} {cs : Array Value} (hb : W.heap[b]? = some (.cells cs 93 (0, 0))) (ho : Lib.OthersKept 5 (some b) W W') (hl : Below n₀ W W') : KeepsFrom B₀ W W' :=
  ⟨hl.size, fun k o _ hk hc => ho k o hk (fun e => by
    cases e
    rw [hb] at hk
    cases hk
    cases hc) (fun c fz e => by
    subst e
    cases hc)⟩

theorem Bld.block {B b : Nat} {bs : List Value} {w : World} (h : Bld B b bs w) : ∃ cs, w.heap[b]? = some (.cells cs 93 (0, 0)) := by
  rcases h with ⟨_, v, h, _⟩ | ⟨_, v, h, _⟩
  · exact ⟨_, h⟩
  · exact ⟨_, h⟩

set_option maxRecDepth 100000 in
set_option maxHeartbeats 4000000 in
theorem string_of {w : World} {v : Value} {L : List Cr} {G : Dt → Option Nat} {N : Nat} (hs : SeqL 75 v L G N w) (hr : RdC w L G) (hch : ∀ c ∈ L, -9223372036854775808 ≤ c.ch ∧ c.ch ≤ 9223372036854775807) (hN : N ≤ 1000000) : Calls Tryz.prog 42 #[v] w fun e w' => e = .returned (.string ⟨(strB L).toArray⟩) ∧ Below w.heap.size w w' := by
  refine (callsIn_wide (n := 3)).1 ?_
  refine callsIn_of_wp_marks Tryz.func42 rfl trivial ?_ rfl
  simp only [Tryz.ntmps42, List.size_toArray, List.length_cons, List.length_nil, Nat.reduceAdd, Nat.reduceSub, Array.replicate_succ, Array.replicate_zero, List.push_toArray, List.append_toArray, List.nil_append, List.cons_append]
  gi_wp2
  obtain ⟨W0, hW0⟩ : ∃ W0, W0 = w.alloc (.cells #[.pointer none, .slice none 0 0] 93) := ⟨_, rfl⟩
  have hsz : W0.heap.size = w.heap.size + 1 := by rw [hW0]; simp
  have hbox : Bld w.heap.size w.heap.size [] W0 := by
    rw [hW0]
    exact Or.inl ⟨Nat.le_refl _, .slice none 0 0, World.alloc_heap_new _ _, World.ownsRowF_nil _ _ _ _, by simp [Value.ownBlock]⟩
  have hB0 : Below w.heap.size w W0 := by rw [hW0]; exact (Below.refl _ w).alloc (Nat.le_refl _) _
  rw [← hW0]
  clear hW0
  refine range_method (α := El L) (gf := 75) (fs := #[v]) rfl (enters_of Tryz.func75 (by kernel_rfl) rfl) (hs _) (fun h k => h.trans k) (fun W l o o' hl ho hc _ => KT.put W l o o' (by omega) ho hc) hB0 (fun _ => rfl)
    (fun pre W => Bld w.heap.size w.heap.size (Lib.byteCells (strB (pre.map (·.1)))) W ∧ Below w.heap.size w W)
    (fun _ _ _ => False) ?own (fun _ _ _ _ _ h _ _ => h) ⟨hbox, hB0⟩
    (fun x => { tmps := #[v, undef, .string ⟨#[]⟩, .pointer (some ⟨w.heap.size, 0, none⟩), pvFc ((G x.1.id).getD 0), v, .func (.func 75) #[v] #[], pvFc ((G x.1.id).getD 0), undef, undef, undef, undef, undef, undef, undef], defers := [] }) ?assign ?body ?done (fun _ _ _ _ _ _ h _ => h.elim)
  case own =>
    rintro s A B row ⟨h1, h2⟩ hg hrow
    exact ⟨bld_own h1 hg hrow, below_own h2 (by omega) hg hrow⟩
  case assign =>
    intro l x W K hK
    unfold encC
    gi_wp2
    first | exact hK | simpa using hK
  case body =>
    rintro l' pre x W1 ⟨h1, h2⟩ hlen
    obtain ⟨g, lv, rv, hG, hg, hblk⟩ := hr x.1 x.2
    have hgW : W1.heap[g]? = _ := (h2.block g hg).trans hblk
    have hgd : pvFc ((G x.1.id).getD 0) = .pointer (some ⟨g, 0, none⟩) := by rw [hG]; rfl
    rw [hgd]
    have c2 : W1.cell? ⟨g, 2, none⟩ = some (.int .i64 x.1.ch) := by simp [World.cell?, hgW, Cr.cells]
    have hcode := code_any x.1.ch W1 (hch x.1 x.2)
    have hsl := strB_len (pre.map (·.1))
    rw [List.length_map] at hsl
    have hcr := codeI_lo x.1.ch
    have hwr := write_rune w.heap.size w.heap.size _ (codeI x.1.ch) hcr.1 hcr.2 W1 h1 (by rw [Lib.byteCells_length]; omega) h2.size
    obtain ⟨cs, hbb⟩ := Bld.block h1
    have hwr' : Calls Tryz.prog 76 #[.pointer (some ⟨w.heap.size, 0, none⟩), .int .i32 (codeI x.1.ch)] W1 fun e w' => ∃ k, e = .returned (.tuple #[.int .i64 k, .nilIface]) ∧ Hid (KeepsFrom W0.heap.size W1 w' ∧ KT w.heap.size W1 w' ∧ Bld w.heap.size w.heap.size (Lib.byteCells (strB ((pre ++ [x]).map (·.1)))) w' ∧ Below w.heap.size w w') := hwr.mono (fun e w' ⟨he, ha, hb, ho⟩ => by
      refine ⟨_, he, hid ⟨others_keeps hbb ho hb, others_kt hbb ho hb, Or.inr ?_, h2.trans hb⟩⟩
      rw [List.map_append, List.map_cons, List.map_nil, strB_snoc]
      exact ha)
    clear hwr h1 h2 hbb hsl hcr
    obtain ⟨cr, hcrn⟩ : ∃ cr, cr = codeI x.1.ch := ⟨_, rfl⟩
    rw [← hcrn] at hcode hwr'
    clear hcrn
    gi_wp2_with (first
      | (refine ⟨trivial, ?_⟩; gi_at_call 77; refine (CallsIn.inRound l' (callsIn_wide.2 hcode)).mono ?_; rintro e w' ⟨rfl, rfl⟩)
      | (refine ⟨trivial, ?_⟩; gi_at_call 76; refine (CallsIn.inRound l' (callsIn_wide.2 hwr')).mono ?_; rintro e w' ⟨k, rfl, hend⟩))
    exact hend.out
  case done =>
    rintro D ys W1 hD hS ⟨h1, h2⟩ hK
    have hstr := bld_string w.heap.size w.heap.size _ W1 h1 h2.size
    have hys : strB (ys.map (·.1)) = strB L := by rw [hS]
    rw [hys] at hstr
    have hDb : D ≠ w.heap.size := by omega
    have hstr' : Calls Tryz.prog 49 #[.pointer (some ⟨w.heap.size, 0, none⟩)] W1 fun e w' => e = .returned (.string ⟨(strB L).toArray⟩) ∧ w'.heap[D]? = some (.deferred (some [])) ∧ Hid (Below w.heap.size w w') := hstr.mono (fun e w' ⟨he, _, hb, ho⟩ => ⟨he, ho D _ hK (fun e => hDb (by simpa using e)) (fun c fz e => by cases e), hid (h2.trans hb)⟩)
    clear h1 h2 hstr hys hK
    gi_wp2_with (refine ⟨trivial, ?_⟩; gi_at_call 49; refine (callsIn_wide.2 hstr').mono ?_; rintro e w' ⟨rfl, hK, hbH⟩)
    refine ⟨by simp, .inl ⟨_, _, rfl, run_takeDeferred hK, ?_⟩⟩
    exact ⟨_, results_tmp rfl _ _ _, rfl, below_put hbH.out (by omega) hK rfl _⟩
end

section
set_option linter.unusedVariables false
open Go.RowKit

/-- An int. -/
def I64 (i : Int) : Prop := -9223372036854775808 ≤ i ∧ i ≤ 9223372036854775807

/-- Block t is a text of these characters. -/
def TM (w : World) (t : Nat) (T : List Cr) : Prop := (∃ G R, TX w t T G G T.length R) ∧ ∀ c ∈ T, I64 c.ch

theorem TM.wt {w : World} {t : Nat} {T : List Cr} (h : TM w t T) : WT T := by
  obtain ⟨⟨G, R, h⟩, _⟩ := h
  exact h.wt
theorem TM.lt {w : World} {t : Nat} {T : List Cr} (h : TM w t T) : t < w.heap.size := by
  obtain ⟨⟨G, R, h⟩, _⟩ := h
  exact h.lt
theorem TM.below {w w' : World} {t : Nat} {T : List Cr} (h : TM w t T) (hb : Below w.heap.size w w') : TM w' t T := by
  obtain ⟨⟨G, R, h⟩, hc⟩ := h
  exact ⟨⟨G, R, h.below hb⟩, hc⟩

/-- What Insert tells, and what is there then. -/
def insP (T : List Cr) (id at_ : Dt) (side ch : Int) : Int × List Cr :=
  if mayI id at_ side = false then (1, T)
  else if ∃ c ∈ T, c.id = id then (32, T)
  else if ¬ (at_ = (0, 0) ∨ ∃ c ∈ T, c.id = at_) then (41, T)
  else (0, T ++ [⟨id, at_, decide (side = 1), ch, true⟩])

theorem new_tm (w : World) : Calls Tryz.prog 25 #[] w fun e w' => e = .returned (.pointer (some ⟨w.heap.size, 0, none⟩)) ∧ TM w' w.heap.size [] ∧ Below w.heap.size w w' :=
  (new_any w).mono (fun e w' ⟨h1, h2, h3⟩ => ⟨h1, ⟨⟨_, _, h2⟩, by simp⟩, h3⟩)

theorem insert_tm {w : World} {t : Nat} {T : List Cr} (h : TM w t T) (hn : T.length ≤ 100000) (id at_ : Dt) (side ch : Int) (hid0 : Dw id) (hat : Dw at_) (hch : I64 ch) :
    Calls Tryz.prog 26 #[.pointer (some ⟨t, 0, none⟩), dv id, dv at_, .int .i64 side, .int .i64 ch] w fun e w' => e = .returned (.int .i64 (insP T id at_ side ch).1) ∧ TM w' t (insP T id at_ side ch).2 ∧ FrW t w w' := by
  obtain ⟨⟨G, R, hx⟩, hc⟩ := h
  unfold insP
  by_cases hm : mayI id at_ side = false
  · rw [if_pos hm]
    exact (ins_no t T G R id at_ side ch w hx hid0 hat hm).mono (fun e w' ⟨h1, h2⟩ => ⟨h1, ⟨⟨G, R, hx.below h2⟩, hc⟩, FrW.of_below h2⟩)
  · rw [if_neg hm]
    have hm' : mayI id at_ side = true := by simpa using hm
    by_cases hf : ∃ c ∈ T, c.id = id
    · rw [if_pos hf]
      exact (ins_twice t T G R id at_ side ch w hx hid0 hat hm' hf).mono (fun e w' ⟨h1, h2⟩ => ⟨h1, ⟨⟨G, R, hx.below h2⟩, hc⟩, FrW.of_below h2⟩)
    · rw [if_neg hf]
      by_cases hnd : at_ = (0, 0) ∨ ∃ c ∈ T, c.id = at_
      · rw [if_neg (fun h => h hnd)]
        have hcn : ∀ b, ∀ c ∈ T ++ [(⟨id, at_, b, ch, true⟩ : Cr)], I64 c.ch := fun b c hcm => by
          rcases List.mem_append.1 hcm with h | h
          · exact hc c h
          · simp at h; rw [h]; exact hch
        have hlen : ∀ b, (T ++ [(⟨id, at_, b, ch, true⟩ : Cr)]).length = T.length + 1 := fun b => by simp
        have hs : side = 0 ∨ side = 1 := by
          unfold mayI at hm'
          split at hm'
          · exact Or.inl (by assumption)
          · split at hm'
            · exact Or.inr (by assumption)
            · cases hm'
        rcases hs with rfl | rfl
        · have h0 : at_ ≠ (0, 0) := by
            intro e
            simp [mayI, e] at hm'
          refine (ins_left t T G R id at_ ch w hx hid0 hat hm' hf hn h0 hnd).mono ?_
          rintro e w' ⟨h1, G', R', h2, h3⟩
          exact ⟨h1, ⟨⟨G', R', by rw [hlen]; exact h2⟩, hcn _⟩, h3⟩
        · by_cases h0 : at_ = (0, 0)
          · refine (ins_root t T G R id at_ ch w hx hid0 hat hm' hf hn h0).mono ?_
            rintro e w' ⟨h1, G', R', h2, h3⟩
            exact ⟨h1, ⟨⟨G', R', by rw [hlen]; exact h2⟩, hcn _⟩, h3⟩
          · refine (ins_right t T G R id at_ ch w hx hid0 hat hm' hf hn h0 hnd).mono ?_
            rintro e w' ⟨h1, G', R', h2, h3⟩
            exact ⟨h1, ⟨⟨G', R', by rw [hlen]; exact h2⟩, hcn _⟩, h3⟩
      · rw [if_pos hnd]
        exact (ins_index t T G R id at_ side ch w hx hid0 hat hm' hf hnd).mono (fun e w' ⟨h1, h2⟩ => ⟨h1, ⟨⟨G, R, hx.below h2⟩, hc⟩, FrW.of_below h2⟩)

theorem string_tm {w : World} {t : Nat} {T : List Cr} (h : TM w t T) (hn : T.length ≤ 1000000) :
    Calls Tryz.prog 42 #[.pointer (some ⟨t, 0, none⟩)] w fun e w' => e = .returned (.string ⟨(strB (seenC T)).toArray⟩) ∧ Below w.heap.size w w' := by
  obtain ⟨⟨G, R, hx⟩, hc⟩ := h
  exact string_of (hx.sight hn) (fun c hc => hx.rdc c (List.mem_filter.1 hc).1) (fun c hcm => hc c (seenC_mem hcm)) hn
end

section
set_option linter.unusedVariables false
open Go.RowKit

/-- The character number i. -/
def tyAt (i : Nat) : Dt := if i = 0 then (0, 0) else (1, (i : Int))
def tyOne (i : Nat) (b : UInt8) : Cr := ⟨(1, (i : Int) + 1), tyAt i, true, (b.toNat : Int), true⟩
def tyC : Nat → List UInt8 → List Cr
  | _, [] => []
  | i, b :: l => tyOne i b :: tyC (i + 1) l

theorem tyC_len : ∀ (i : Nat) (l : List UInt8), (tyC i l).length = l.length
  | _, [] => rfl
  | i, b :: l => by simp [tyC, tyC_len (i + 1) l]

theorem tyC_snoc : ∀ (i : Nat) (l : List UInt8) (b : UInt8), tyC i (l ++ [b]) = tyC i l ++ [tyOne (i + l.length) b]
  | i, [], b => rfl
  | i, c :: l, b => by
    show tyOne i c :: tyC (i + 1) (l ++ [b]) = tyOne i c :: (tyC (i + 1) l ++ [tyOne (i + (l.length + 1)) b])
    rw [tyC_snoc (i + 1) l b, show i + 1 + l.length = i + (l.length + 1) by omega]

theorem tyC_get : ∀ (i : Nat) (l : List UInt8) (j : Nat), (tyC i l)[j]? = (l[j]?).map (tyOne (i + j))
  | i, [], j => by simp [tyC]
  | i, b :: l, 0 => rfl
  | i, b :: l, j + 1 => by
    show (tyC (i + 1) l)[j]? = (l[j]?).map _
    rw [tyC_get (i + 1) l j, show i + 1 + j = i + (j + 1) by omega]

theorem tyC_mem {l : List UInt8} {c : Cr} (h : c ∈ tyC 0 l) : ∃ j b, l[j]? = some b ∧ c = tyOne j b := by
  obtain ⟨j, hj⟩ := List.mem_iff_getElem?.1 h
  rw [tyC_get] at hj
  obtain ⟨b, h1, h2⟩ := Option.map_eq_some_iff.1 hj
  exact ⟨j, b, h1, by rw [← h2, Nat.zero_add]⟩

/-- One more character. -/
theorem ty_ins {l : List UInt8} {b : UInt8} : insP (tyC 0 l) (1, (l.length : Int) + 1) (tyAt l.length) 1 (b.toNat : Int) = (0, tyC 0 (l ++ [b])) := by
  have h1 : mayI (1, (l.length : Int) + 1) (tyAt l.length) 1 = true := by
    unfold mayI
    simp
  have h2 : ¬ ∃ c ∈ tyC 0 l, c.id = (1, (l.length : Int) + 1) := by
    rintro ⟨c, hc, e⟩
    obtain ⟨j, b', hj, rfl⟩ := tyC_mem hc
    have hjl := (List.getElem?_eq_some_iff.1 hj).1
    have := congrArg Prod.snd e
    simp only [tyOne] at this
    omega
  have h3 : tyAt l.length = (0, 0) ∨ ∃ c ∈ tyC 0 l, c.id = tyAt l.length := by
    unfold tyAt
    by_cases h0 : l.length = 0
    · left; rw [if_pos h0]
    · right
      have hj : l.length - 1 < l.length := by omega
      refine ⟨tyOne (l.length - 1) l[l.length - 1], ?_, ?_⟩
      · have : (tyC 0 l)[l.length - 1]? = some (tyOne (l.length - 1) l[l.length - 1]) := by
          rw [tyC_get, List.getElem?_eq_getElem hj, Nat.zero_add]
          rfl
        exact List.mem_of_getElem? this
      · rw [if_neg h0]
        unfold tyOne
        simp only [Prod.mk.injEq, true_and]
        omega
  unfold insP
  rw [if_neg (by rw [h1]; decide), if_neg h2, if_neg (fun h => h h3), tyC_snoc, Nat.zero_add]
  rfl

theorem ty_i64 {l : List UInt8} {c : Cr} (h : c ∈ tyC 0 l) : I64 c.ch := by
  obtain ⟨j, b, _, rfl⟩ := tyC_mem h
  have := b.toNat_lt
  unfold tyOne I64
  simp only
  omega
end

section
set_option linter.unusedVariables false

/-- Where a block lies: under what, and its key. -/
structure Sp where
  b : Dt
  p : Dt
  k : ByteArray

/-- A move. -/
structure Mv where
  id : Dt
  time : Int
  block : Dt
  parent : Dt
  key : ByteArray

def Mv.sp (m : Mv) : Sp := ⟨m.block, m.parent, m.key⟩

abbrev Pl := Dt × ByteArray

/-- Where a block lies, if it is there. -/
def lk (S : List Sp) (b : Dt) : Option Pl := (S.find? (fun s => decide (s.b = b))).map (fun s => (s.p, s.k))

theorem lk_none {S : List Sp} {b : Dt} : lk S b = none ↔ ∀ s ∈ S, s.b ≠ b := by
  unfold lk
  rw [Option.map_eq_none_iff, List.find?_eq_none]
  constructor
  · intro h s hs e; exact h s hs (by simpa using e)
  · intro h s hs e; exact h s hs (by simpa using e)

theorem lk_some {S : List Sp} {b : Dt} {q : Pl} (h : lk S b = some q) : ∃ s ∈ S, s.b = b ∧ (s.p, s.k) = q := by
  unfold lk at h
  obtain ⟨s, hs, e⟩ := Option.map_eq_some_iff.1 h
  exact ⟨s, List.mem_of_find?_eq_some hs, by simpa using List.find?_some hs, e⟩

theorem sp_one {S : List Sp} (hn : (S.map Sp.b).Nodup) {s s' : Sp} (hs : s ∈ S) (hs' : s' ∈ S) (e : s.b = s'.b) : s = s' := by
  obtain ⟨i, hi⟩ := List.mem_iff_getElem?.1 hs
  obtain ⟨j, hj⟩ := List.mem_iff_getElem?.1 hs'
  have hil := (List.getElem?_eq_some_iff.1 hi).1
  have : i = j := by
    refine (List.getElem?_inj (l := S.map Sp.b) (by simpa using hil) hn).1 ?_
    rw [List.getElem?_map, List.getElem?_map, hi, hj]
    simp [e]
  subst this
  rw [hi] at hj
  cases hj
  rfl

theorem lk_mem {S : List Sp} (hn : (S.map Sp.b).Nodup) {s : Sp} (hs : s ∈ S) : lk S s.b = some (s.p, s.k) := by
  cases h : lk S s.b with
  | none => exact absurd rfl (lk_none.1 h s hs)
  | some q =>
    obtain ⟨s', hs', e, e2⟩ := lk_some h
    have := sp_one hn hs hs' e.symm
    subst this
    rw [e2]

theorem lk_perm {S S' : List Sp} (hn : (S.map Sp.b).Nodup) (hp : S.Perm S') (b : Dt) : lk S b = lk S' b := by
  have hn' : (S'.map Sp.b).Nodup := (hp.map _).nodup_iff.1 hn
  cases h : lk S b with
  | none => exact (lk_none.2 (fun s hs => lk_none.1 h s (hp.mem_iff.2 hs))).symm
  | some q =>
    obtain ⟨s, hs, rfl, rfl⟩ := lk_some h
    exact (lk_mem hn' (hp.mem_iff.1 hs)).symm

/-- The root, the trash. -/
def isEnd (d : Dt) : Prop := d = (0, -1) ∨ d = (0, -2)

/-- What is above a block, at most so many. -/
def up (σ : Dt → Option Pl) : Nat → Dt → List Dt
  | 0, _ => []
  | n + 1, b => match σ b with
    | none => []
    | some q => q.1 :: up σ n q.1

/-- The blocks that are passed on the way. -/
def dn (σ : Dt → Option Pl) : Nat → Dt → List Dt
  | 0, _ => []
  | n + 1, b => match σ b with
    | none => []
    | some q => b :: dn σ n q.1

theorem up_len (σ : Dt → Option Pl) : ∀ (n : Nat) (b : Dt), (up σ n b).length = (dn σ n b).length
  | 0, _ => rfl
  | n + 1, b => by
    unfold up dn
    cases h : σ b with
    | none => rfl
    | some q => simp only [List.length_cons, up_len σ n q.1]

/-- A tree: blocks once each, under the root, the trash or a block that is there; r: how deep. -/
structure Tk (S : List Sp) (r : Dt → Nat) : Prop where
  nd : (S.map Sp.b).Nodup
  nz : ∀ s ∈ S, s.b ≠ (0, 0) ∧ ¬ isEnd s.b
  par : ∀ s ∈ S, isEnd s.p ∨ ∃ s' ∈ S, s'.b = s.p
  rk : ∀ s ∈ S, r s.p < r s.b

theorem Tk.nil : Tk [] (fun _ => 0) := ⟨List.nodup_nil, by simp, by simp, by simp⟩

theorem Tk.perm {S S' : List Sp} {r : Dt → Nat} (h : Tk S r) (hp : S.Perm S') : Tk S' r :=
  ⟨(hp.map _).nodup_iff.1 h.nd, fun s hs => h.nz s (hp.mem_iff.2 hs), fun s hs => (h.par s (hp.mem_iff.2 hs)).imp id (fun ⟨s', h1, h2⟩ => ⟨s', hp.mem_iff.1 h1, h2⟩), fun s hs => h.rk s (hp.mem_iff.2 hs)⟩

theorem Tk.dn_mem {S : List Sp} {r : Dt → Nat} (h : Tk S r) : ∀ (n : Nat) (b : Dt), ∀ x ∈ dn (lk S) n b, x ∈ S.map Sp.b ∧ r x ≤ r b
  | 0, _, x, hx => by simp [dn] at hx
  | n + 1, b, x, hx => by
    unfold dn at hx
    cases e : lk S b with
    | none => rw [e] at hx; simp at hx
    | some q =>
      rw [e] at hx
      obtain ⟨s, hs, rfl, rfl⟩ := lk_some e
      rcases List.mem_cons.1 hx with rfl | hx
      · exact ⟨List.mem_map.2 ⟨s, hs, rfl⟩, Nat.le_refl _⟩
      · obtain ⟨h1, h2⟩ := h.dn_mem n s.p x hx
        have := h.rk s hs
        exact ⟨h1, by omega⟩

theorem Tk.dn_nodup {S : List Sp} {r : Dt → Nat} (h : Tk S r) : ∀ (n : Nat) (b : Dt), (dn (lk S) n b).Nodup
  | 0, _ => List.nodup_nil
  | n + 1, b => by
    unfold dn
    cases e : lk S b with
    | none => exact List.nodup_nil
    | some q =>
      obtain ⟨s, hs, rfl, rfl⟩ := lk_some e
      simp only [List.nodup_cons]
      refine ⟨fun hm => ?_, h.dn_nodup n s.p⟩
      have := (h.dn_mem n s.p s.b hm).2
      have := h.rk s hs
      omega

/-- No way up is longer than there are blocks. -/
theorem Tk.up_len {S : List Sp} {r : Dt → Nat} (h : Tk S r) (n : Nat) (b : Dt) : (up (lk S) n b).length ≤ S.length := by
  rw [Proofs.YtnmdcdphpcpojaaGreatDoor.up_len]
  have := List.Nodup.length_le_of_subset (h.dn_nodup n b) (fun x hx => (h.dn_mem n b x hx).1)
  simpa using this

/-- It ends: more steps tell no more. -/
theorem up_more (σ : Dt → Option Pl) : ∀ (n : Nat) (b : Dt), (up σ n b).length < n → ∀ m, n ≤ m → up σ m b = up σ n b
  | 0, b, h, m, hm => by omega
  | n + 1, b, h, 0, hm => by omega
  | n + 1, b, h, m + 1, hm => by
    unfold up at h ⊢
    cases e : σ b with
    | none => rfl
    | some q =>
      rw [e] at h
      simp only [List.length_cons] at h
      simp only [List.cons.injEq, true_and]
      exact up_more σ n q.1 (by omega) m (by omega)

/-- All that is above a block. -/
def pth (S : List Sp) (b : Dt) : List Dt := up (lk S) (S.length + 1) b

theorem Tk.pth_more {S : List Sp} {r : Dt → Nat} (h : Tk S r) (b : Dt) {m : Nat} (hm : S.length + 1 ≤ m) : up (lk S) m b = pth S b :=
  up_more _ _ _ (Nat.lt_succ_of_le (h.up_len _ _)) m hm

theorem Tk.pth_none {S : List Sp} {b : Dt} (h : lk S b = none) : pth S b = [] := by
  unfold pth up
  rw [h]

theorem Tk.pth_some {S : List Sp} {r : Dt → Nat} (h : Tk S r) {b : Dt} {q : Pl} (hq : lk S b = some q) : pth S b = q.1 :: pth S q.1 := by
  rw [← h.pth_more b (m := S.length + 1 + 1) (by omega)]
  show up (lk S) (S.length + 1 + 1) b = _
  unfold up
  rw [hq]
  rfl

theorem up_congr {σ τ : Dt → Option Pl} (h : ∀ b, σ b = τ b) : ∀ (n : Nat) (b : Dt), up σ n b = up τ n b
  | 0, _ => rfl
  | n + 1, b => by
    unfold up
    rw [h b]
    cases τ b with
    | none => rfl
    | some q => simp only [up_congr h n q.1]

theorem Tk.pth_perm {S S' : List Sp} {r : Dt → Nat} (h : Tk S r) (hp : S.Perm S') (b : Dt) : pth S b = pth S' b := by
  unfold pth
  rw [hp.length_eq]
  exact up_congr (lk_perm h.nd hp) _ _

/-- What is above is less deep. -/
theorem Tk.pth_rk {S : List Sp} {r : Dt → Nat} (h : Tk S r) : ∀ (n : Nat) (b : Dt), ∀ x ∈ up (lk S) n b, r x < r b
  | 0, _, x, hx => by simp [up] at hx
  | n + 1, b, x, hx => by
    unfold up at hx
    cases e : lk S b with
    | none => rw [e] at hx; simp at hx
    | some q =>
      rw [e] at hx
      obtain ⟨s, hs, rfl, rfl⟩ := lk_some e
      have h0 := h.rk s hs
      rcases List.mem_cons.1 hx with rfl | hx
      · exact h0
      · have := h.pth_rk n s.p x hx
        omega

/-- What is above is the root, the trash or there. -/
theorem Tk.pth_there {S : List Sp} {r : Dt → Nat} (h : Tk S r) : ∀ (n : Nat) (b : Dt), ∀ x ∈ up (lk S) n b, isEnd x ∨ ∃ s ∈ S, s.b = x
  | 0, _, x, hx => by simp [up] at hx
  | n + 1, b, x, hx => by
    unfold up at hx
    cases e : lk S b with
    | none => rw [e] at hx; simp at hx
    | some q =>
      rw [e] at hx
      obtain ⟨s, hs, rfl, rfl⟩ := lk_some e
      rcases List.mem_cons.1 hx with rfl | hx
      · exact h.par s hs
      · exact h.pth_there n s.p x hx

/-- Can blocks lie under it? -/
def holds (S : List Sp) (p : Dt) : Prop := isEnd p ∨ lk S p ≠ none

/-- Does a move take effect? -/
def takesP (S : List Sp) (m : Mv) : Prop := holds S m.parent ∧ (lk S m.block ≠ none ∨ m.block = m.id) ∧ m.block ≠ m.parent ∧ m.block ∉ pth S m.parent

/-- A block is laid somewhere, wherever it lay. -/
def put (S : List Sp) (s : Sp) : List Sp := S.filter (fun x => decide (x.b ≠ s.b)) ++ [s]

theorem put_mem {S : List Sp} {s x : Sp} : x ∈ put S s ↔ (x ∈ S ∧ x.b ≠ s.b) ∨ x = s := by
  unfold put
  rw [List.mem_append, List.mem_filter]
  simp

theorem put_nodup {S : List Sp} (hn : (S.map Sp.b).Nodup) (s : Sp) : ((put S s).map Sp.b).Nodup := by
  unfold put
  rw [List.map_append, List.nodup_append]
  refine ⟨(List.Sublist.map Sp.b List.filter_sublist).nodup hn, by simp, fun a ha b hb => ?_⟩
  obtain ⟨x, hx, rfl⟩ := List.mem_map.1 ha
  simp at hb
  subst hb
  have := (List.mem_filter.1 hx).2
  simpa using this

/-- What lies below a block, or is it, gets deeper. -/
theorem Tk.put {S : List Sp} {r : Dt → Nat} (h : Tk S r) {m : Mv} (hm : takesP S m) (hz : m.block ≠ (0, 0)) (he : ¬ isEnd m.block) : ∃ r', Tk (put S m.sp) r' := by
  obtain ⟨h1, h2, h3, h4⟩ := hm
  have hpth : ∀ x : Dt, (∃ s ∈ S, s.b = x) ∨ lk S x = none := fun x => by
    cases e : lk S x with
    | none => exact Or.inr rfl
    | some q => obtain ⟨s, hs, rfl, _⟩ := lk_some e; exact Or.inl ⟨s, hs, rfl⟩
  refine ⟨fun x => if x = m.block ∨ m.block ∈ pth S x then r x + r m.parent + 1 else r x, put_nodup h.nd _, fun s hs => ?_, fun s hs => ?_, fun s hs => ?_⟩
  · rcases put_mem.1 hs with ⟨hs, _⟩ | rfl
    · exact h.nz s hs
    · exact ⟨hz, he⟩
  · rcases put_mem.1 hs with ⟨hs, hne⟩ | rfl
    · rcases h.par s hs with e | ⟨s', hs', e⟩
      · exact Or.inl e
      · refine Or.inr ?_
        by_cases hb : s'.b = m.sp.b
        · exact ⟨m.sp, put_mem.2 (Or.inr rfl), hb.symm.trans e⟩
        · exact ⟨s', put_mem.2 (Or.inl ⟨hs', hb⟩), e⟩
    · rcases h1 with e | hl
      · exact Or.inl e
      · refine Or.inr ?_
        rcases hpth m.parent with ⟨s', hs', e⟩ | e
        · refine ⟨s', put_mem.2 (Or.inl ⟨hs', fun e2 => h3 ?_⟩), e⟩
          exact e2.symm.trans e
        · exact absurd e hl
  · rcases put_mem.1 hs with ⟨hs, hne⟩ | rfl
    · have hrk := h.rk s hs
      have hpp := h.pth_some (lk_mem h.nd hs)
      have hne' : ¬ s.b = m.block := hne
      by_cases hb : s.p = m.block ∨ m.block ∈ pth S s.p
      · rw [if_pos hb, if_pos (Or.inr (by rw [hpp]; rcases hb with e | e; exact List.mem_cons.2 (Or.inl e.symm); exact List.mem_cons_of_mem _ e))]
        omega
      · rw [if_neg hb, if_neg (fun e => by
          rcases e with e | e
          · exact hne' e
          · rw [hpp] at e
            rcases List.mem_cons.1 e with e | e
            · exact hb (Or.inl e.symm)
            · exact hb (Or.inr e))]
        exact hrk
    · have e1 : (if m.sp.p = m.block ∨ m.block ∈ pth S m.sp.p then r m.sp.p + r m.parent + 1 else r m.sp.p) = r m.parent := if_neg (fun e => by rcases e with e | e; exact h3 e.symm; exact h4 e)
      have e2 : (if m.sp.b = m.block ∨ m.block ∈ pth S m.sp.b then r m.sp.b + r m.parent + 1 else r m.sp.b) = r m.block + r m.parent + 1 := if_pos (Or.inl rfl)
      exact Nat.lt_of_le_of_lt (Nat.le_of_eq e1) (Nat.lt_of_lt_of_le (by omega) (Nat.le_of_eq e2.symm))

/-- Does a move take effect? As a Bool. -/
def takes (S : List Sp) (m : Mv) : Bool := (decide (m.parent = (0, -1)) || decide (m.parent = (0, -2)) || (lk S m.parent).isSome) && ((lk S m.block).isSome || decide (m.block = m.id)) && decide (m.block ≠ m.parent) && decide (m.block ∉ pth S m.parent)

theorem takes_iff {S : List Sp} {m : Mv} : takes S m = true ↔ takesP S m := by
  unfold takes takesP holds isEnd
  simp only [Bool.and_eq_true, Bool.or_eq_true, decide_eq_true_eq, Option.isSome_iff_ne_none]
  constructor
  · rintro ⟨⟨⟨h1, h2⟩, h3⟩, h4⟩; exact ⟨h1, h2, h3, h4⟩
  · rintro ⟨h1, h2, h3, h4⟩; exact ⟨⟨⟨h1, h2⟩, h3⟩, h4⟩

/-- A move is done. -/
def step (S : List Sp) (m : Mv) : List Sp := if takes S m then put S m.sp else S

/-- Moves are done one by one, from nothing. -/
def run (l : List Mv) : List Sp := l.foldl step []

theorem run_snoc (l : List Mv) (m : Mv) : run (l ++ [m]) = step (run l) m := by
  unfold run
  rw [List.foldl_append]
  rfl

/-- Moves that may be: of blocks that may be. -/
def Mvs (l : List Mv) : Prop := ∀ m ∈ l, m.block ≠ (0, 0) ∧ ¬ isEnd m.block

theorem Tk.step {S : List Sp} {r : Dt → Nat} (h : Tk S r) {m : Mv} (hz : m.block ≠ (0, 0)) (he : ¬ isEnd m.block) : ∃ r', Tk (step S m) r' := by
  unfold Proofs.YtnmdcdphpcpojaaGreatDoor.step
  split
  · rename_i ht
    exact h.put (takes_iff.1 ht) hz he
  · exact ⟨r, h⟩

theorem fold_tk : ∀ (l : List Mv) (S : List Sp) (r : Dt → Nat), Tk S r → Mvs l → ∃ r', Tk (l.foldl Proofs.YtnmdcdphpcpojaaGreatDoor.step S) r'
  | [], S, r, h, _ => ⟨r, h⟩
  | m :: l, S, r, h, hm => by
    obtain ⟨r1, h1⟩ := h.step (hm m (by simp)).1 (hm m (by simp)).2
    exact fold_tk l _ r1 h1 (fun x hx => hm x (List.mem_cons_of_mem _ hx))

theorem run_tk (l : List Mv) (h : Mvs l) : ∃ r, Tk (run l) r := fold_tk l [] _ Tk.nil h

theorem takes_perm {S S' : List Sp} {r : Dt → Nat} (h : Tk S r) (hp : S.Perm S') (m : Mv) : takes S m = takes S' m := by
  unfold takes
  rw [lk_perm h.nd hp, lk_perm h.nd hp, h.pth_perm hp]

theorem put_perm {S S' : List Sp} (hp : S.Perm S') (s : Sp) : (put S s).Perm (put S' s) := (hp.filter _).append_right _

theorem step_perm {S S' : List Sp} {r : Dt → Nat} (h : Tk S r) (hp : S.Perm S') (m : Mv) : (step S m).Perm (step S' m) := by
  unfold step
  rw [takes_perm h hp]
  split
  · exact put_perm hp _
  · exact hp

/-- A block is taken away. -/
def lift (S : List Sp) (b : Dt) : List Sp := S.filter (fun x => decide (x.b ≠ b))

/-- What was there ahead of a move is brought back. -/
def back (S : List Sp) (b : Dt) (was : Option Pl) : List Sp := match was with
  | none => lift S b
  | some q => lift S b ++ [⟨b, q.1, q.2⟩]

theorem lift_put (S : List Sp) (s : Sp) : lift (put S s) s.b = lift S s.b := by
  unfold lift put
  rw [List.filter_append, List.filter_filter]
  simp

theorem perm_lift {S : List Sp} (hn : (S.map Sp.b).Nodup) {s : Sp} (hs : s ∈ S) : S.Perm (lift S s.b ++ [s]) := by
  obtain ⟨A, B, rfl⟩ := List.append_of_mem hs
  have hA : ∀ x ∈ A, x.b ≠ s.b := fun x hx e => by
    rw [List.map_append, List.nodup_append] at hn
    exact hn.2.2 _ (List.mem_map.2 ⟨x, hx, rfl⟩) s.b (by simp) e
  have hB : ∀ x ∈ B, x.b ≠ s.b := fun x hx e => by
    rw [List.map_append, List.nodup_append] at hn
    have := hn.2.1
    rw [List.map_cons, List.nodup_cons] at this
    exact this.1 (List.mem_map.2 ⟨x, hx, e⟩)
  have e : lift (A ++ s :: B) s.b = A ++ B := by
    unfold lift
    rw [List.filter_append, List.filter_cons_of_neg (by simp), List.filter_eq_self.2 (fun x hx => by simpa using hA x hx), List.filter_eq_self.2 (fun x hx => by simpa using hB x hx)]
  rw [e]
  refine List.perm_middle.trans ?_
  exact (List.perm_append_singleton s (A ++ B)).symm

theorem lift_none {S : List Sp} {b : Dt} (h : lk S b = none) : lift S b = S := List.filter_eq_self.2 (fun x hx => by simpa using lk_none.1 h x hx)

/-- Undone is as it was. -/
theorem back_put {S : List Sp} (hn : (S.map Sp.b).Nodup) (s : Sp) : (back (put S s) s.b (lk S s.b)).Perm S := by
  unfold back
  cases e : lk S s.b with
  | none => simp only; rw [lift_put, lift_none e]
  | some q =>
    obtain ⟨x, hx, hxb, rfl⟩ := lk_some e
    simp only
    rw [lift_put]
    have hx' : (⟨s.b, x.p, x.k⟩ : Sp) = x := by cases x; simp_all
    rw [hx', ← hxb]
    exact (perm_lift hn hx).symm

theorem lift_perm {S S' : List Sp} (hp : S.Perm S') (b : Dt) : (lift S b).Perm (lift S' b) := hp.filter _

theorem back_perm {S S' : List Sp} (hp : S.Perm S') (b : Dt) (was : Option Pl) : (back S b was).Perm (back S' b was) := by
  unfold back
  cases was with
  | none => exact lift_perm hp b
  | some q => exact (lift_perm hp b).append_right _
end
end Go.Proofs.YtnmdcdphpcpojaaGreatDoor
