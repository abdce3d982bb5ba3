/- Stories, in numbers: operations that are made one by one, each upon a closed row of the ones so far. No function of the program. -/
import Derived.Test.YtbpepmajpojacaaFgShelf
import Derived.Test.YtbpepmajpojacaaFgIndex
import Derived.Test.YtbpepmajpojacaaFgPlace
import Derived.Test.YtbpepmajpojacaaFgMath
namespace Go.Proofs.Ytbpepmajpojacaa
section
set_option linter.unusedVariables false
open Go.RowKit Go.Shelf

attribute [local go_sem] Oper.semAt_some

/-- A char as a rune. -/
def codeI (c : Int) : Int := if c < 0 ∨ 1114111 < c then 65533 else c

theorem codeI_lo (c : Int) : -2147483648 ≤ codeI c ∧ codeI c ≤ 2147483647 := by
  unfold codeI
  split <;> omega

set_option maxHeartbeats 1000000 in
theorem code_any (c : Int) (w : World) (hc : -9223372036854775808 ≤ c ∧ c ≤ 9223372036854775807) : Calls Try.prog 49 #[.int .i64 c] w fun e w' => e = .returned (.int .i32 (codeI c)) ∧ w = w' := by
  by_cases h1 : c < 0
  · have b1 : decide (c < 0) = true := by simp [h1]
    have he : codeI c = 65533 := by unfold codeI; rw [if_pos (Or.inl h1)]
    rw [he]
    go_enter Try.func49, Try.ntmps49
    go_wp2
    go_ret
    exact ⟨rfl, rfl⟩
  · have b1 : decide (c < 0) = false := by simp; omega
    by_cases h2 : 1114111 < c
    · have b2 : decide (1114111 < c) = true := by simp [h2]
      have he : codeI c = 65533 := by unfold codeI; rw [if_pos (Or.inr h2)]
      rw [he]
      go_enter Try.func49, Try.ntmps49
      go_wp2
      go_ret
      exact ⟨rfl, rfl⟩
    · have b2 : decide (1114111 < c) = false := by simp; omega
      have he : codeI c = c := by unfold codeI; rw [if_neg (by omega)]
      have hw : IntKind.i32.wrap c = c := by simp [IntKind.wrap, IntKind.bits, IntKind.signed]; omega
      rw [he]
      clear he
      go_enter Try.func49, Try.ntmps49
      go_wp2
      go_ret
      exact ⟨rfl, rfl⟩

/-- A text's bytes. -/
def strB (L : List Cr) : List UInt8 := L.flatMap (fun c => Lib.encodeRune (codeI c.ch))

theorem byteCells_app (a b : List UInt8) : Lib.byteCells (a ++ b) = Lib.byteCells a ++ Lib.byteCells b := by simp [Lib.byteCells]

theorem strB_snoc (L : List Cr) (c : Cr) : Lib.byteCells (strB (L ++ [c])) = Lib.byteCells (strB L) ++ Lib.runeCells (codeI c.ch) := by
  unfold strB
  rw [List.flatMap_append, byteCells_app, ← Lib.byteCells_encodeRune]
  simp

theorem encodeRune_le (r : Int) : (Lib.encodeRune r).length ≤ 4 := by
  have h := Lib.runeCells_le r
  have : (Lib.runeCells r).length = (Lib.encodeRune r).length := by simp [Lib.runeCells, Lib.encodeRune]
  omega

theorem strB_len (L : List Cr) : (strB L).length ≤ 4 * L.length := by
  unfold strB
  induction L with
  | nil => simp
  | cons a r ih =>
    have := encodeRune_le (codeI a.ch)
    simp only [List.flatMap_cons, List.length_append, List.length_cons]
    omega

theorem bld_own {X Y : World} {row : Option Nat} {B b B₀ : Nat} {bs : List Value} (h : Bld B b bs X) (hg : X.grownBy Y row) (hr : ∀ r, row = some r → B₀ ≤ r ∧ ∃ o : Obj, X.heap[r]? = some o ∧ o.isCells = false) : Bld B b bs Y := by
  have one : ∀ p, Lib.BuilderAtF 93 5 B b p bs X → Lib.BuilderAtF 93 5 B b p bs Y := fun p ⟨h1, v, h2, h3, h4⟩ => by
    refine ⟨h1, v, ?_, ?_, h4⟩
    · refine (hg.block b (Array.getElem?_eq_some_iff.1 h2).1 (fun e => ?_)).trans h2
      obtain ⟨_, o, ho, hc⟩ := hr b e.symm
      rw [h2] at ho
      cases ho
      cases hc
    · refine h3.kept hg ?_
      cases hb : v.ownBlock with
      | none => exact Or.inl rfl
      | some g =>
        right
        intro e
        obtain ⟨c, fz, hk⟩ := Lib.ownsRowF_kind h3 g hb
        obtain ⟨_, o, ho, hc⟩ := hr g e.symm
        rw [hk] at ho
        cases ho
        cases hc
  rcases h with h | h
  · exact Or.inl (one _ h)
  · exact Or.inr (one _ h)

theorem others_kt {n₀ b : Nat} {W W' : World} {cs : Array Value} (hb : W.heap[b]? = some (.cells cs 93 (0, 0))) (ho : Lib.OthersKept 5 (some b) W W') (hl : Below n₀ W W') : KT n₀ W W' :=
  ⟨hl.size, fun k hk => hl.block k hk, fun k c ty fz hty hk => ho k _ hk (fun e => by
    cases e
    rw [hb] at hk
    cases hk
    rcases hty with h | h <;> exact absurd h (by decide)) (fun c' fz' e => by
    cases e
    rcases hty with h | h <;> exact absurd h (by decide))⟩

theorem others_keeps {B₀ b : Nat} {n₀ : Nat} {W W' : World} {cs : Array Value} (hb : W.heap[b]? = some (.cells cs 93 (0, 0))) (ho : Lib.OthersKept 5 (some b) W W') (hl : Below n₀ W W') : KeepsFrom B₀ W W' :=
  ⟨hl.size, fun k o _ hk hc => ho k o hk (fun e => by
    cases e
    rw [hb] at hk
    cases hk
    cases hc) (fun c fz e => by
    subst e
    cases hc)⟩

theorem Bld.block {B b : Nat} {bs : List Value} {w : World} (h : Bld B b bs w) : ∃ cs, w.heap[b]? = some (.cells cs 93 (0, 0)) := by
  rcases h with ⟨_, v, h, _⟩ | ⟨_, v, h, _⟩
  · exact ⟨_, h⟩
  · exact ⟨_, h⟩

set_option maxRecDepth 100000 in
set_option maxHeartbeats 4000000 in
theorem string_of {w : World} {v : Value} {L : List Cr} {G : Dt → Option Nat} {N : Nat} (hs : SeqL 47 v L G N w) (hr : RdC w L G) (hch : ∀ c ∈ L, -9223372036854775808 ≤ c.ch ∧ c.ch ≤ 9223372036854775807) (hN : N ≤ 1000000) : Calls Try.prog 23 #[v] w fun e w' => e = .returned (.string ⟨(strB L).toArray⟩) ∧ Below w.heap.size w w' := by
  refine (callsIn_wide (n := 3)).1 ?_
  refine callsIn_of_wp_marks Try.func23 rfl trivial ?_ rfl
  simp only [Try.ntmps23, List.size_toArray, List.length_cons, List.length_nil, Nat.reduceAdd, Nat.reduceSub, Array.replicate_succ, Array.replicate_zero, List.push_toArray, List.append_toArray, List.nil_append, List.cons_append]
  gi_wp2
  obtain ⟨W0, hW0⟩ : ∃ W0, W0 = w.alloc (.cells #[.pointer none, .slice none 0 0] 93) := ⟨_, rfl⟩
  have hsz : W0.heap.size = w.heap.size + 1 := by rw [hW0]; simp
  have hbox : Bld w.heap.size w.heap.size [] W0 := by
    rw [hW0]
    exact Or.inl ⟨Nat.le_refl _, .slice none 0 0, World.alloc_heap_new _ _, World.ownsRowF_nil _ _ _ _, by simp [Value.ownBlock]⟩
  have hB0 : Below w.heap.size w W0 := by rw [hW0]; exact (Below.refl _ w).alloc (Nat.le_refl _) _
  rw [← hW0]
  clear hW0
  refine range_method (α := El L) (gf := 47) (fs := #[v]) rfl (enters_of Try.func47 (by kernel_rfl) rfl) (hs _) (fun h k => h.trans k) (fun W l o o' hl ho hc _ => KT.put W l o o' (by omega) ho hc) hB0 (fun _ => rfl)
    (fun pre W => Bld w.heap.size w.heap.size (Lib.byteCells (strB (pre.map (·.1)))) W ∧ Below w.heap.size w W)
    (fun _ _ _ => False) ?own (fun _ _ _ _ _ h _ _ => h) ⟨hbox, hB0⟩
    (fun x => { tmps := #[v, undef, .string ⟨#[]⟩, .pointer (some ⟨w.heap.size, 0, none⟩), pvF ((G x.1.id).getD 0), v, .func (.func 47) #[v] #[], pvF ((G x.1.id).getD 0), undef, undef, undef, undef, undef, undef, undef], defers := [] }) ?assign ?body ?done (fun _ _ _ _ _ _ h _ => h.elim)
  case own =>
    rintro s A B row ⟨h1, h2⟩ hg hrow
    exact ⟨bld_own h1 hg hrow, below_own h2 (by omega) hg hrow⟩
  case assign =>
    intro l x W K hK
    unfold encC
    gi_wp2
    first | exact hK | simpa using hK
  case body =>
    rintro l' pre x W1 ⟨h1, h2⟩ hlen
    obtain ⟨g, lv, rv, hG, hg, hblk⟩ := hr x.1 x.2
    have hgW : W1.heap[g]? = _ := (h2.block g hg).trans hblk
    have hgd : pvF ((G x.1.id).getD 0) = .pointer (some ⟨g, 0, none⟩) := by rw [hG]; rfl
    rw [hgd]
    have c2 : W1.cell? ⟨g, 2, none⟩ = some (.int .i64 x.1.ch) := by simp [World.cell?, hgW, Cr.cells]
    have hcode := code_any x.1.ch W1 (hch x.1 x.2)
    have hsl := strB_len (pre.map (·.1))
    rw [List.length_map] at hsl
    have hcr := codeI_lo x.1.ch
    have hwr := write_rune w.heap.size w.heap.size _ (codeI x.1.ch) hcr.1 hcr.2 W1 h1 (by rw [Lib.byteCells_length]; omega) h2.size
    obtain ⟨cs, hbb⟩ := Bld.block h1
    have hwr' : Calls Try.prog 48 #[.pointer (some ⟨w.heap.size, 0, none⟩), .int .i32 (codeI x.1.ch)] W1 fun e w' => ∃ k, e = .returned (.tuple #[.int .i64 k, .nilIface]) ∧ Hid (KeepsFrom W0.heap.size W1 w' ∧ KT w.heap.size W1 w' ∧ Bld w.heap.size w.heap.size (Lib.byteCells (strB ((pre ++ [x]).map (·.1)))) w' ∧ Below w.heap.size w w') := hwr.mono (fun e w' ⟨he, ha, hb, ho⟩ => by
      refine ⟨_, he, hid ⟨others_keeps hbb ho hb, others_kt hbb ho hb, Or.inr ?_, h2.trans hb⟩⟩
      rw [List.map_append, List.map_cons, List.map_nil, strB_snoc]
      exact ha)
    clear hwr h1 h2 hbb hsl hcr
    obtain ⟨cr, hcrn⟩ : ∃ cr, cr = codeI x.1.ch := ⟨_, rfl⟩
    rw [← hcrn] at hcode hwr'
    clear hcrn
    gi_wp2_with (first
      | (refine ⟨trivial, ?_⟩; gi_at_call 49; refine (CallsIn.inRound l' (callsIn_wide.2 hcode)).mono ?_; rintro e w' ⟨rfl, rfl⟩)
      | (refine ⟨trivial, ?_⟩; gi_at_call 48; refine (CallsIn.inRound l' (callsIn_wide.2 hwr')).mono ?_; rintro e w' ⟨k, rfl, hend⟩))
    exact hend.out
  case done =>
    rintro D ys W1 hD hS ⟨h1, h2⟩ hK
    have hstr := bld_string w.heap.size w.heap.size _ W1 h1 h2.size
    have hys : strB (ys.map (·.1)) = strB L := by rw [hS]
    rw [hys] at hstr
    have hDb : D ≠ w.heap.size := by omega
    have hstr' : Calls Try.prog 50 #[.pointer (some ⟨w.heap.size, 0, none⟩)] W1 fun e w' => e = .returned (.string ⟨(strB L).toArray⟩) ∧ w'.heap[D]? = some (.deferred (some [])) ∧ Hid (Below w.heap.size w w') := hstr.mono (fun e w' ⟨he, _, hb, ho⟩ => ⟨he, ho D _ hK (fun e => hDb (by simpa using e)) (fun c fz e => by cases e), hid (h2.trans hb)⟩)
    clear h1 h2 hstr hys hK
    gi_wp2_with (refine ⟨trivial, ?_⟩; gi_at_call 50; refine (callsIn_wide.2 hstr').mono ?_; rintro e w' ⟨rfl, hK, hbH⟩)
    refine ⟨by simp, .inl ⟨_, _, rfl, run_takeDeferred hK, ?_⟩⟩
    exact ⟨_, results_tmp rfl _ _ _, rfl, below_put hbH.out (by omega) hK rfl _⟩
end

section
set_option linter.unusedVariables false
open Go.RowKit

/-- An int. -/
def I64 (i : Int) : Prop := -9223372036854775808 ≤ i ∧ i ≤ 9223372036854775807

/-- Block t is a text of these characters. -/
def TM (w : World) (t : Nat) (T : List Cr) : Prop := (∃ G R, TX w t T G G T.length R) ∧ ∀ c ∈ T, I64 c.ch

theorem TM.wt {w : World} {t : Nat} {T : List Cr} (h : TM w t T) : WT T := by
  obtain ⟨⟨G, R, h⟩, _⟩ := h
  exact h.wt
theorem TM.lt {w : World} {t : Nat} {T : List Cr} (h : TM w t T) : t < w.heap.size := by
  obtain ⟨⟨G, R, h⟩, _⟩ := h
  exact h.lt
theorem TM.below {w w' : World} {t : Nat} {T : List Cr} (h : TM w t T) (hb : Below w.heap.size w w') : TM w' t T := by
  obtain ⟨⟨G, R, h⟩, hc⟩ := h
  exact ⟨⟨G, R, h.below hb⟩, hc⟩

/-- What Insert tells, and what is there then. -/
def insP (T : List Cr) (id at_ : Dt) (side ch : Int) : Int × List Cr :=
  if mayI id at_ side = false then (1, T)
  else if ∃ c ∈ T, c.id = id then (32, T)
  else if ¬ (at_ = (0, 0) ∨ ∃ c ∈ T, c.id = at_) then (41, T)
  else (0, T ++ [⟨id, at_, decide (side = 1), ch, true⟩])

/-- What Delete tells, and what is there then. -/
def delP (T : List Cr) (d : Dt) : Int × List Cr := if ∃ c ∈ T, c.id = d then (0, hide T d) else (41, T)

theorem insP_len (T : List Cr) (id at_ : Dt) (side ch : Int) : (insP T id at_ side ch).2.length ≤ T.length + 1 := by
  unfold insP
  split
  · simp
  · split
    · simp
    · split <;> simp

theorem delP_len (T : List Cr) (d : Dt) : (delP T d).2.length = T.length := by
  unfold delP
  split
  · show (hide T d).length = T.length
    have := congrArg List.length (hide_ids T d)
    simpa using this
  · rfl

theorem new_tm (w : World) : Calls Try.prog 9 #[] w fun e w' => e = .returned (.pointer (some ⟨w.heap.size, 0, none⟩)) ∧ TM w' w.heap.size [] ∧ Below w.heap.size w w' :=
  (new_any w).mono (fun e w' ⟨h1, h2, h3⟩ => ⟨h1, ⟨⟨_, _, h2⟩, by simp⟩, h3⟩)

theorem insert_tm {w : World} {t : Nat} {T : List Cr} (h : TM w t T) (hn : T.length ≤ 100000) (id at_ : Dt) (side ch : Int) (hid0 : Dw id) (hat : Dw at_) (hch : I64 ch) :
    Calls Try.prog 12 #[.pointer (some ⟨t, 0, none⟩), dv id, dv at_, .int .i64 side, .int .i64 ch] w fun e w' => e = .returned (.int .i64 (insP T id at_ side ch).1) ∧ TM w' t (insP T id at_ side ch).2 ∧ FrW t w w' := by
  obtain ⟨⟨G, R, hx⟩, hc⟩ := h
  unfold insP
  by_cases hm : mayI id at_ side = false
  · rw [if_pos hm]
    exact (ins_no t T G R id at_ side ch w hx hid0 hat hm).mono (fun e w' ⟨h1, h2⟩ => ⟨h1, ⟨⟨G, R, hx.below h2⟩, hc⟩, FrW.of_below h2⟩)
  · rw [if_neg hm]
    have hm' : mayI id at_ side = true := by simpa using hm
    by_cases hf : ∃ c ∈ T, c.id = id
    · rw [if_pos hf]
      exact (ins_twice t T G R id at_ side ch w hx hid0 hat hm' hf).mono (fun e w' ⟨h1, h2⟩ => ⟨h1, ⟨⟨G, R, hx.below h2⟩, hc⟩, FrW.of_below h2⟩)
    · rw [if_neg hf]
      by_cases hnd : at_ = (0, 0) ∨ ∃ c ∈ T, c.id = at_
      · rw [if_neg (fun h => h hnd)]
        have hcn : ∀ b, ∀ c ∈ T ++ [(⟨id, at_, b, ch, true⟩ : Cr)], I64 c.ch := fun b c hcm => by
          rcases List.mem_append.1 hcm with h | h
          · exact hc c h
          · simp at h; rw [h]; exact hch
        have hlen : ∀ b, (T ++ [(⟨id, at_, b, ch, true⟩ : Cr)]).length = T.length + 1 := fun b => by simp
        have hs : side = 0 ∨ side = 1 := by
          unfold mayI at hm'
          split at hm'
          · exact Or.inl (by assumption)
          · split at hm'
            · exact Or.inr (by assumption)
            · cases hm'
        rcases hs with rfl | rfl
        · have h0 : at_ ≠ (0, 0) := by
            intro e
            simp [mayI, e] at hm'
          refine (ins_left t T G R id at_ ch w hx hid0 hat hm' hf hn h0 hnd).mono ?_
          rintro e w' ⟨h1, G', R', h2, h3⟩
          exact ⟨h1, ⟨⟨G', R', by rw [hlen]; exact h2⟩, hcn _⟩, h3⟩
        · by_cases h0 : at_ = (0, 0)
          · refine (ins_root t T G R id at_ ch w hx hid0 hat hm' hf hn h0).mono ?_
            rintro e w' ⟨h1, G', R', h2, h3⟩
            exact ⟨h1, ⟨⟨G', R', by rw [hlen]; exact h2⟩, hcn _⟩, h3⟩
          · refine (ins_right t T G R id at_ ch w hx hid0 hat hm' hf hn h0 hnd).mono ?_
            rintro e w' ⟨h1, G', R', h2, h3⟩
            exact ⟨h1, ⟨⟨G', R', by rw [hlen]; exact h2⟩, hcn _⟩, h3⟩
      · rw [if_pos hnd]
        exact (ins_index t T G R id at_ side ch w hx hid0 hat hm' hf hnd).mono (fun e w' ⟨h1, h2⟩ => ⟨h1, ⟨⟨G, R, hx.below h2⟩, hc⟩, FrW.of_below h2⟩)

theorem TX.found_iff {w : World} {t : Nat} {T : List Cr} {G M : Dt → Option Nat} {n : Nat} {R : Dt → Bool → Value} (h : TX w t T G M n R) {d : Dt} (hd : Dw d) : (∃ c ∈ T, c.id = d) ↔ ∃ g, G d = some g := by
  rw [← h.gd d hd, Option.isSome_iff_exists]

theorem delete_tm {w : World} {t : Nat} {T : List Cr} (h : TM w t T) (d : Dt) (hd : Dw d) :
    Calls Try.prog 10 #[.pointer (some ⟨t, 0, none⟩), dv d] w fun e w' => e = .returned (.int .i64 (delP T d).1) ∧ TM w' t (delP T d).2 ∧ FrW t w w' := by
  obtain ⟨⟨G, R, hx⟩, hc⟩ := h
  unfold delP
  by_cases hf : ∃ c ∈ T, c.id = d
  · rw [if_pos hf]
    obtain ⟨g, hg⟩ := (hx.found_iff hd).1 hf
    refine (del_any t T G _ R d w hx hd g hg).mono ?_
    rintro e w' ⟨h1, h2, h3⟩
    have hl : (hide T d).length = T.length := by
      have := congrArg List.length (hide_ids T d)
      simpa using this
    refine ⟨h1, ⟨⟨G, R, by rw [hl]; exact h2⟩, fun c hcm => ?_⟩, h3⟩
    obtain ⟨x, hx', _, _, _, e4, _⟩ := hide_mem hcm
    rw [← e4]
    exact hc x hx'
  · rw [if_neg hf]
    have hg : G d = none := by
      cases hgd : G d with
      | none => rfl
      | some g => exact absurd ((hx.found_iff hd).2 ⟨g, hgd⟩) hf
    exact (del_no t T G _ R d w hx hd hg).mono (fun e w' ⟨h1, h2⟩ => ⟨h1, ⟨⟨G, R, hx.below h2⟩, hc⟩, FrW.of_below h2⟩)

/-- Is a character seen? -/
def seenP (T : List Cr) (d : Dt) : Bool := match fnd T d with
  | some c => c.seen
  | none => false

theorem seen_tm {w : World} {t : Nat} {T : List Cr} (h : TM w t T) (d : Dt) (hd : Dw d) :
    Calls Try.prog 17 #[.pointer (some ⟨t, 0, none⟩), dv d] w fun e w' => e = .returned (.bool (seenP T d)) ∧ Below w.heap.size w w' := by
  obtain ⟨⟨G, R, hx⟩, hc⟩ := h
  unfold seenP
  cases hf : fnd T d with
  | some c =>
    obtain ⟨h1, h2⟩ := fnd_some hf
    exact seen_any t T G _ R d w hx hd c h1 h2
  | none =>
    have hg : G d = none := by
      cases hgd : G d with
      | none => rfl
      | some g =>
        obtain ⟨c, hc, e⟩ := (hx.found_iff hd).2 ⟨g, hgd⟩
        exact absurd e (fnd_none.1 hf c hc)
    exact seen_no t T G _ R d w hx hd hg

theorem size_tm {w : World} {t : Nat} {T : List Cr} (h : TM w t T) :
    Calls Try.prog 29 #[.pointer (some ⟨t, 0, none⟩)] w fun e w' => e = .returned (.int .i64 (T.length : Int)) ∧ w' = w := by
  obtain ⟨⟨G, R, hx⟩, hc⟩ := h
  exact size_any t T G _ R w hx

theorem len_tm {w : World} {t : Nat} {T : List Cr} (h : TM w t T) (hn : T.length ≤ 1000000) :
    Calls Try.prog 28 #[.pointer (some ⟨t, 0, none⟩)] w fun e w' => e = .returned (.int .i64 (seenC T).length) ∧ Below w.heap.size w w' := by
  obtain ⟨⟨G, R, hx⟩, hc⟩ := h
  exact len_of (hx.sight hn) hn

theorem chars_tm {w : World} {t : Nat} {T : List Cr} (h : TM w t T) (hn : T.length ≤ 1000000) :
    Calls Try.prog 27 #[.pointer (some ⟨t, 0, none⟩)] w fun e w' => ∃ v', e = .returned v' ∧ w'.ownsRow w.heap.size 3 1 v' (seenC T).length ((seenC T).map (fun c => Value.int .i64 c.ch)) ∧ Below w.heap.size w w' := by
  obtain ⟨⟨G, R, hx⟩, hc⟩ := h
  exact chars_of (hx.sight hn) (fun c hc => hx.rdc c (List.mem_filter.1 hc).1) hn

theorem dots_tm {w : World} {t : Nat} {T : List Cr} (h : TM w t T) (hn : T.length ≤ 1000000) :
    Calls Try.prog 24 #[.pointer (some ⟨t, 0, none⟩)] w (Gives w ((seenC T).map (·.id))) := by
  obtain ⟨⟨G, R, hx⟩, hc⟩ := h
  refine (dots_of (hx.sight hn) (fun c hc => hx.rdc c (List.mem_filter.1 hc).1) hn).mono ?_
  rintro e w' ⟨v, h1, h2, h3⟩
  exact ⟨v, h1, by rw [List.length_map]; exact h2, h3⟩

theorem all_tm {w : World} {t : Nat} {T : List Cr} (h : TM w t T) (hn : T.length ≤ 1000000) :
    Calls Try.prog 22 #[.pointer (some ⟨t, 0, none⟩)] w (Gives w (allT T)) := by
  obtain ⟨⟨G, R, hx⟩, hc⟩ := h
  refine (all_of (walk_seq hx hn) hx.rdc hn).mono ?_
  rintro e w' ⟨v, h1, h2, h3⟩
  have he : (allC T).map (·.id) = allT T := allC_ids hx.wt
  rw [he] at h2
  refine ⟨v, h1, ?_, h3⟩
  rw [allT_len hx.wt, ← allC_len hx.wt]
  exact h2

theorem index_tm {w : World} {t : Nat} {T : List Cr} (h : TM w t T) (hn : T.length ≤ 1000000) (d : Dt) :
    Calls Try.prog 15 #[.pointer (some ⟨t, 0, none⟩), dv d] w fun e w' => e = .returned (.tuple #[.int .i64 (idxL (allC T) d).1, .bool (idxL (allC T) d).2]) ∧ Below w.heap.size w w' := by
  obtain ⟨⟨G, R, hx⟩, hc⟩ := h
  exact index_of (walk_seq hx hn) hx.rdc hn d

theorem string_tm {w : World} {t : Nat} {T : List Cr} (h : TM w t T) (hn : T.length ≤ 1000000) :
    Calls Try.prog 23 #[.pointer (some ⟨t, 0, none⟩)] w fun e w' => e = .returned (.string ⟨(strB (seenC T)).toArray⟩) ∧ Below w.heap.size w w' := by
  obtain ⟨⟨G, R, hx⟩, hc⟩ := h
  exact string_of (hx.sight hn) (fun c hc => hx.rdc c (List.mem_filter.1 hc).1) (fun c hcm => hc c (seenC_mem hcm)) hn

theorem place_tm {w : World} {t : Nat} {T : List Cr} (h : TM w t T) (hn : T.length ≤ 1000000) (i : Int) (hi : I64 i) :
    Calls Try.prog 25 #[.pointer (some ⟨t, 0, none⟩), .int .i64 i] w fun e w' => e = .returned (.tuple #[dv (plcI T i).1, .int .i64 (plcI T i).2.1, .int .i64 (plcI T i).2.2]) ∧ Below w.heap.size w w' := by
  obtain ⟨⟨G, R, hx⟩, hc⟩ := h
  exact place_any hx hn i hi
end

section
set_option linter.unusedVariables false

theorem allT_hide (T : List Cr) (d : Dt) : allT (hide T d) = allT T := by
  unfold allT
  have hl : (hide T d).length = T.length := by have := congrArg List.length (hide_ids T d); simpa using this
  rw [hl]
  exact trF_kids (fun k s => hide_kids T d k s) _ _

theorem allT_del (T : List Cr) (d : Dt) : allT (delP T d).2 = allT T := by
  unfold delP
  split
  · exact allT_hide T d
  · rfl

theorem seen_del {T : List Cr} {d : Dt} (h : (delP T d).1 = 0) : seenP (delP T d).2 d = false := by
  unfold delP at h ⊢
  split
  · show seenP (hide T d) d = false
    unfold seenP
    cases hf : fnd (hide T d) d with
    | none => rfl
    | some c =>
      obtain ⟨h1, h2⟩ := fnd_some hf
      obtain ⟨x, _, e1, _, _, _, e5⟩ := hide_mem h1
      rw [if_pos (by rw [e1, h2])] at e5
      exact e5
  · rename_i hn
    rw [if_neg hn] at h
    cases h

theorem del_same {T : List Cr} {d : Dt} (h : (delP T d).1 ≠ 0) : (delP T d).2 = T := by
  unfold delP at h ⊢
  split
  · rename_i hn
    rw [if_pos hn] at h
    exact absurd rfl h
  · rfl

theorem insP_bad {T : List Cr} {id at_ : Dt} {side ch : Int} (h : (insP T id at_ side ch).1 ≠ 0) : (insP T id at_ side ch).2 = T := by
  unfold insP at h ⊢
  split
  · rfl
  · split
    · rfl
    · split
      · rfl
      · rename_i h1 h2 h3
        rw [if_neg h1, if_neg h2, if_neg h3] at h
        exact absurd rfl h

theorem mayI_nz {id at_ : Dt} {side : Int} (h : mayI id at_ side = true) : id ≠ (0, 0) := by
  unfold mayI at h
  split at h
  · simp at h; exact h.1
  · split at h
    · simpa using h
    · cases h

theorem mayI_root {id at_ : Dt} {side : Int} (h : mayI id at_ side = true) : at_ = (0, 0) → decide (side = 1) = true := by
  intro e
  unfold mayI at h
  split at h
  · simp [e] at h
  · split at h
    · simpa using (by assumption : side = 1)
    · cases h

structure Put (T : List Cr) (id at_ : Dt) (side ch : Int) : Prop where
  eq : (insP T id at_ side ch).2 = T ++ [⟨id, at_, decide (side = 1), ch, true⟩]
  fresh : ∀ x ∈ T, x.id ≠ id
  nz : id ≠ (0, 0)
  node : nodes T at_
  root : at_ = (0, 0) → decide (side = 1) = true
  may : mayI id at_ side = true

theorem insP_ok {T : List Cr} {id at_ : Dt} {side ch : Int} (h : (insP T id at_ side ch).1 = 0) : Put T id at_ side ch := by
  have hh := h
  unfold insP at h
  split at h
  · cases h
  · split at h
    · cases h
    · split at h
      · cases h
      · rename_i h1 h2 h3
        have hm : mayI id at_ side = true := by simpa using h1
        refine ⟨?_, fun x hx e => h2 ⟨x, hx, e⟩, mayI_nz hm, Classical.not_not.1 h3, mayI_root hm, hm⟩
        unfold insP
        rw [if_neg h1, if_neg h2, if_neg h3]

theorem Put.wt {T : List Cr} {id at_ : Dt} {side ch : Int} (h : Put T id at_ side ch) (hT : WT T) (hd : Dw id) : WT (T ++ [⟨id, at_, decide (side = 1), ch, true⟩]) :=
  hT.snoc h.nz hd h.fresh h.node h.root

/-- The others stay in their order. -/
theorem Put.stays {T : List Cr} {id at_ : Dt} {side ch : Int} (h : Put T id at_ side ch) (hT : WT T) : (allT (insP T id at_ side ch).2).filter (fun k => decide (k ≠ id)) = allT T := by
  rw [h.eq]
  unfold allT
  have := trF_more hT (c := ⟨id, at_, decide (side = 1), ch, true⟩) h.fresh h.nz h.node ((T ++ [(⟨id, at_, decide (side = 1), ch, true⟩ : Cr)]).length + 1) (0, 0) (Ne.symm h.nz)
  rw [this]
  exact trF_le hT.dep_root (by simp)

theorem Put.len {T : List Cr} {id at_ : Dt} {side ch : Int} (h : Put T id at_ side ch) (hT : WT T) (hd : Dw id) : (allT (insP T id at_ side ch).2).length = (allT T).length + 1 := by
  rw [h.eq, allT_len (h.wt hT hd), allT_len hT]
  simp

theorem Put.seen {T : List Cr} {id at_ : Dt} {side ch : Int} (h : Put T id at_ side ch) (hT : WT T) (hd : Dw id) : seenP (insP T id at_ side ch).2 id = true := by
  rw [h.eq]
  unfold seenP
  rw [fnd_of (h.wt hT hd) (c := ⟨id, at_, decide (side = 1), ch, true⟩) (by simp)]

/-- One act. -/
def stepP (T : List Cr) (o : Int × Dt × Dt × Int × Int) : Int × List Cr := if o.1.tmod 3 = 0 then delP T o.2.2.1 else insP T o.2.1 o.2.2.1 o.2.2.2.1 o.2.2.2.2

theorem stepP_len (T : List Cr) (o : Int × Dt × Dt × Int × Int) : (stepP T o).2.length ≤ T.length + 1 := by
  unfold stepP
  split
  · rw [delP_len]; omega
  · exact insP_len _ _ _ _ _
end

section

theorem fold_full (l : List Mop) : ∀ out : List Mop, (l.foldl cnt1 out).length = out.length + l.length → l.foldl cnt1 out = out ++ l := by
  induction l with
  | nil => intro out _; simp
  | cons x r ih =>
    intro out h
    rw [List.foldl_cons] at h ⊢
    have h1 := fold_len r (cnt1 out x)
    have h2 : cnt1 out x = out ++ [x] := by
      unfold cnt1 at h1 h ⊢
      split
      · rfl
      · rename_i hn
        rw [if_neg hn] at h1 h
        simp at h
        omega
    rw [h2] at h ⊢
    rw [ih (out ++ [x]) (by rw [h]; simp; omega)]
    simp

theorem perm_of_same {l m : List Nat} (hl : l.Nodup) (hm : m.Nodup) (h : ∀ a, a ∈ l ↔ a ∈ m) : l.Perm m := by
  rw [List.perm_iff_count]
  intro a
  rw [List.Nodup.count hl, List.Nodup.count hm]
  simp [h a]

theorem Taken.all {l : List Mop} {R : List Mo} {T : List Nat} (h : Taken l R T) (hl : T.length = l.length) : ((inL R T).map Mo.m).Perm l := by
  have h1 : R.length = (cnt l).length := by have := h.2.1.length_eq; simpa using this
  have h2 := cnt_len l
  have h3 : T.length ≤ R.length := by
    have := List.Nodup.length_le_of_subset h.2.2.2.1.nodup (fun x hx => List.mem_range.2 (h.2.2.2.1.lt hx))
    simpa using this
  have h4 : cnt l = l := by
    have := fold_full l [] (by show (cnt l).length = _; simp; omega)
    show l.foldl cnt1 [] = l
    simpa using this
  have h5 : T.Perm (List.range R.length) := by
    have hsub : ∀ x ∈ T, x ∈ List.range R.length := fun x hx => List.mem_range.2 (h.lt x hx)
    refine (perm_of_same h.2.2.2.1.nodup List.nodup_range fun a => ⟨fun ha => hsub a ha, fun ha => ?_⟩)
    refine Classical.byContradiction fun hn => ?_
    have h7 : (a :: T).Nodup := List.nodup_cons.2 ⟨hn, h.2.2.2.1.nodup⟩
    have h8 := List.Nodup.length_le_of_subset h7 (l₂ := List.range R.length) (fun x hx => by
      rcases List.mem_cons.1 hx with rfl | hx
      · exact ha
      · exact hsub x hx)
    simp at h8
    omega
  have h6 : (inL R T).Perm R := by
    have e : inL R (List.range R.length) = R := by
      apply List.ext_getElem?
      intro k
      rw [inL_get (fun p hp => List.mem_range.1 hp)]
      by_cases hk : k < R.length
      · rw [List.getElem?_eq_getElem (by simpa using hk)]; simp
      · rw [List.getElem?_eq_none (by simpa using hk), List.getElem?_eq_none (by omega)]; rfl
    have := h5.filterMap (fun p => R[p]?)
    show (T.filterMap (fun p => R[p]?)).Perm R
    refine this.trans ?_
    show (inL R (List.range R.length)).Perm R
    rw [e]
  rw [← h4]
  exact (h6.map Mo.m).trans h.2.1

/-- Is one's time above that of another one, if it has it? -/
def okT (x y : Mop) : Bool := !(hasv x.2 y.1.id) || decide (y.1.time < x.1.time)

theorem okT_iff {x y : Mop} : okT x y = true ↔ (hasv x.2 y.1.id = true → y.1.time < x.1.time) := by
  unfold okT
  cases hasv x.2 y.1.id <;> simp

theorem Cl.chain {A : List Mop} (h : Cl A) (hl : latF (fun _ => none) A = true) : ∀ (k : Nat) (z : Mop), A[k]? = some z → ∀ y ∈ A, y.1.id0 = z.1.id0 → y.1.id1 ≤ z.1.id1 → y.1.time ≤ z.1.time := by
  intro k
  induction k using Nat.strongRecOn with
  | _ k ih =>
    intro z hz y hy h0 h1
    obtain ⟨i, hi⟩ := List.mem_iff_getElem?.1 hy
    by_cases e : y.1.id1 = z.1.id1
    · have := ids_inj h.ids hi hz (by show (y.1.id0, y.1.id1) = (z.1.id0, z.1.id1); rw [h0, e])
      subst this
      rw [hz] at hi
      cases hi
      exact Int.le_refl _
    · obtain ⟨hm, hv, hg, _⟩ := chk_head (h.may z (List.mem_of_getElem? hz))
      have hmy := (mayd_iff _).1 (chk_head (h.may y hy)).1
      have hy1 : 1 ≤ y.1.id1 := hmy.2.2.1
      have hp : 0 < gt z.2 z.1.id0 := by omega
      have hin := (hv.gt_pos hp).2
      obtain ⟨j, u, hj, hu, hid⟩ := h.dep k z hz _ hin
      have e0 : u.1.id0 = z.1.id0 := congrArg Prod.fst hid
      have e1 : u.1.id1 = gt z.2 z.1.id0 := congrArg Prod.snd hid
      have h2 := ih j hj u hu y hy (by omega) (by omega)
      have h3 := h.lat.1 hl k j z u hz hu (by rw [hid]; exact hin)
      omega

theorem Cl.ok {A : List Mop} (h : Cl A) : latF (fun _ => none) A = true ↔ ∀ x ∈ A, ∀ y ∈ A, okT x y = true := by
  constructor
  · intro hl x hx y hy
    rw [okT_iff]
    intro hh
    unfold hasv at hh
    simp only [Bool.and_eq_true, decide_eq_true_eq] at hh
    have hm := (mayd_iff y.1.id).1 hh.1
    obtain ⟨k, hk⟩ := List.mem_iff_getElem?.1 hx
    obtain ⟨_, hv, _, _⟩ := chk_head (h.may x hx)
    have h9 : y.1.id1 ≤ gt x.2 y.1.id0 := hh.2
    have h8 : 1 ≤ y.1.id1 := hm.2.2.1
    have hin := (hv.gt_pos (a := y.1.id0) (by omega)).2
    obtain ⟨j, z, hj, hz, hid⟩ := h.dep k x hk _ hin
    have e0 : z.1.id0 = y.1.id0 := congrArg Prod.fst hid
    have e1 : z.1.id1 = gt x.2 y.1.id0 := congrArg Prod.snd hid
    have h1 := h.chain hl j z hz y hy e0.symm (by omega)
    have h2 := h.lat.1 hl k j x z hk hz (by rw [hid]; exact hin)
    omega
  · intro ha
    rw [h.lat]
    intro k j x y hx hy hd
    refine okT_iff.1 (ha x (List.mem_of_getElem? hx) y (List.mem_of_getElem? hy)) ?_
    obtain ⟨_, hv, _, _⟩ := chk_head (h.may x (List.mem_of_getElem? hx))
    unfold hasv
    rw [hv.may _ hd, gt_some hv.ac hd]
    simp

/-- Both ways of telling whether operations are right are one. -/
theorem Taken.right {l : List Mop} {R : List Mo} {T : List Nat} (h : Taken l R T) : (decide (T.length = l.length) && latF (fun _ => none) ((inL R T).map Mo.m)) = (decide (T.length = l.length) && l.all (fun x => l.all (okT x))) := by
  by_cases hl : T.length = l.length
  · have hp := h.all hl
    have e : latF (fun _ => none) ((inL R T).map Mo.m) = l.all (fun x => l.all (okT x)) := by
      rw [Bool.eq_iff_iff, h.cl.ok, List.all_eq_true]
      constructor
      · intro ha x hx
        rw [List.all_eq_true]
        exact fun y hy => ha x (hp.mem_iff.2 hx) y (hp.mem_iff.2 hy)
      · intro ha x hx y hy
        exact List.all_eq_true.1 (ha x (hp.mem_iff.1 hx)) y (hp.mem_iff.1 hy)
    rw [e]
  · simp [hl]

theorem lf_m (R : List Mo) (T : List Nat) : (lf R T).map Mo.m = (R.map Mo.m).filter (fun y => !thT ((R.map Mo.m).map (fun x => x.1.id)) T y.1.id) := by
  unfold lf
  have e : (R.map Mo.m).map (fun x => x.1.id) = R.map (fun x => x.o.id) := by rw [List.map_map]; rfl
  rw [e, List.filter_map]
  rfl

theorem Taken.rest {l : List Mop} {R R' : List Mo} {T T' : List Nat} (h : Taken l R T) (h' : Taken l R' T') : (lf R T).map Mo.m = (lf R' T').map Mo.m := by
  obtain ⟨e, rfl⟩ := h.unique h'
  rw [lf_m, lf_m, e]

theorem so_refl (o : OpIn) (V : List Dt) : so o o V V = true := by
  unfold so
  simp

end

section

/-- A block that is had; a character of a block that is had. -/
def isBlk (B : List Mop) (V : List Dt) (b : Dt) : Prop := ∃ y ∈ B, hasv V y.1.id = true ∧ y.1.kind = 3 ∧ y.1.bl0 = y.1.id0 ∧ y.1.bl1 = y.1.id1 ∧ y.1.id = b
def isChr (B : List Mop) (V : List Dt) (b0 b1 : Int) (d : Dt) : Prop := ∃ y ∈ B, hasv V y.1.id = true ∧ y.1.kind = 1 ∧ y.1.bl0 = b0 ∧ y.1.bl1 = b1 ∧ y.1.id = d

/-- What an operation does, of the ones that it has. -/
def KD (B : List Mop) (o : OpIn) (V : List Dt) : Prop :=
  (o.kind = 3 ∧ ((o.bl0 = o.id0 ∧ o.bl1 = o.id1) ∨ isBlk B V (o.bl0, o.bl1)) ∧ (o.par = (0, -1) ∨ o.par = (0, -2) ∨ isBlk B V o.par)) ∨
  (o.kind = 1 ∧ isBlk B V (o.bl0, o.bl1) ∧ ((o.at0 = 0 ∧ o.at1 = 0 ∧ o.side = 1) ∨ (isChr B V o.bl0 o.bl1 (o.at0, o.at1) ∧ (o.side = 0 ∨ o.side = 1)))) ∨
  (o.kind = 2 ∧ isBlk B V (o.bl0, o.bl1) ∧ isChr B V o.bl0 o.bl1 (o.at0, o.at1))

/-- A story. -/
structure St (A : List Mop) : Prop where
  cl : Cl A
  lat : ∀ x ∈ A, ∀ y ∈ A, hasv x.2 y.1.id = true → y.1.time < x.1.time
  closed : ∀ x ∈ A, ∀ y ∈ A, hasv x.2 y.1.id = true → belv y.2 x.2 = true
  kind : ∀ (i : Nat) (x : Mop), A[i]? = some x → KD (A.take i) x.1 x.2

theorem St.nil : St [] := ⟨⟨by simp, by simp, by simp⟩, by simp, by simp, by simp⟩

/-- What an actor knows. -/
structure KN (A : List Mop) (V : List Dt) (act : Int) : Prop where
  vm : VM V
  ids : ∀ d ∈ V, ∃ y ∈ A, y.1.id = d
  closed : ∀ y ∈ A, hasv V y.1.id = true → belv y.2 V = true
  own : ∀ y ∈ A, y.1.id0 = act → y.1.id1 ≤ gt V act

theorem KN.nil (act : Int) : KN [] [] act := ⟨vm_nil, by simp, by simp, by simp⟩

theorem hasv_iff {V : List Dt} {d : Dt} : hasv V d = true ↔ mayd d = true ∧ d.2 ≤ gt V d.1 := by
  unfold hasv
  simp

theorem belv_gt {A B : List Dt} (hA : VM A) (hB : VM B) (h : belv A B = true) (a : Int) : gt A a ≤ gt B a := (belv_iff hA hB).1 h a

theorem vwith_ge {V : List Dt} (hV : VM V) {d : Dt} (hd : mayd d = true) (a : Int) : gt V a ≤ gt (vwith V d) a := by
  rw [vwith_gt hV hd]
  split <;> omega

theorem belv_with {D V : List Dt} (hD : VM D) (hV : VM V) {d : Dt} (hd : mayd d = true) (h : belv D V = true) : belv D (vwith V d) = true := by
  rw [belv_iff hD (vwith_vm hV d)]
  intro a
  exact Int.le_trans (belv_gt hD hV h a) (vwith_ge hV hd a)

theorem vwith_mem {V : List Dt} (hV : VM V) {d e : Dt} (hd : mayd d = true) (he : e ∈ vwith V d) : e ∈ V ∨ e = d := by
  have hW := vwith_vm hV d
  have hg := gt_some hW.ac he
  have h1 := ((mayd_iff e).1 (hW.may e he)).2.2.1
  rw [vwith_gt hV hd] at hg
  split at hg
  · rename_i h0
    by_cases hc : gt V e.1 ≤ d.2
    · right
      exact Prod.ext h0.symm (by omega)
    · left
      have := (hV.gt_pos (a := e.1) (by have := ((mayd_iff d).1 hd).2.2.1; omega)).2
      have e2 : (e.1, gt V e.1) = e := Prod.ext rfl (by show gt V e.1 = e.2; omega)
      rw [e2] at this
      exact this
  · left
    have := (hV.gt_pos (a := e.1) (by omega)).2
    have e2 : (e.1, gt V e.1) = e := Prod.ext rfl hg
    rw [e2] at this
    exact this

/-- With one more of the operations, whose Deps are had. -/
theorem KN.more {A : List Mop} {V : List Dt} {act : Int} (hA : Cl A) (h : KN A V act) {y : Mop} (hy : y ∈ A) (hb : belv y.2 V = true) : KN A (vwith V y.1.id) act := by
  obtain ⟨hm, hv, hg, _⟩ := chk_head (hA.may y hy)
  refine ⟨vwith_vm h.vm _, fun d hd => ?_, fun z hz hh => ?_, fun z hz h0 => Int.le_trans (h.own z hz h0) (vwith_ge h.vm hm act)⟩
  · rcases vwith_mem h.vm hm hd with hd | rfl
    · exact h.ids d hd
    · exact ⟨y, hy, rfl⟩
  · obtain ⟨hmz, hvz, hgz, _⟩ := chk_head (hA.may z hz)
    have hz1 : 1 ≤ z.1.id1 := ((mayd_iff _).1 hmz).2.2.1
    have hle := (hasv_iff.1 hh).2
    rw [vwith_gt h.vm hm] at hle
    have key : z.1.id1 ≤ gt V z.1.id0 → belv z.2 (vwith V y.1.id) = true := fun h2 => belv_with hvz h.vm hm (h.closed z hz (hasv_iff.2 ⟨hmz, h2⟩))
    by_cases e0 : y.1.id0 = z.1.id0
    · have hle' : z.1.id1 ≤ max (gt V z.1.id0) y.1.id1 := by
        have e0' : y.1.id.1 = z.1.id.1 := e0
        rw [if_pos e0'] at hle
        exact hle
      by_cases hc : z.1.id1 ≤ gt V z.1.id0
      · exact key hc
      · by_cases e1 : z.1.id1 = y.1.id1
        · obtain ⟨i, hi⟩ := List.mem_iff_getElem?.1 hy
          obtain ⟨j, hj⟩ := List.mem_iff_getElem?.1 hz
          have hij := ids_inj hA.ids hi hj (by show (y.1.id0, y.1.id1) = (z.1.id0, z.1.id1); rw [e0, e1])
          subst hij
          rw [hi] at hj
          cases hj
          exact belv_with hv h.vm hm hb
        · refine key ?_
          have h3 := belv_gt hv h.vm hb z.1.id0
          rw [← e0, hg] at h3
          rw [← e0]
          omega
    · have e0' : ¬ y.1.id.1 = z.1.id.1 := e0
      rw [if_neg e0'] at hle
      exact key hle

/-- One more operation of an actor that knows V. -/
structure New (A : List Mop) (V : List Dt) (act : Int) (o : OpIn) : Prop where
  chk : chk o V = true
  id0 : o.id0 = act
  id1 : o.id1 = gt V act + 1
  time : ∀ y ∈ A, hasv V y.1.id = true → y.1.time < o.time
  kind : KD A o V

theorem New.fresh {A : List Mop} {V : List Dt} {act : Int} {o : OpIn} (h : KN A V act) (hn : New A V act o) : ∀ y ∈ A, y.1.id ≠ o.id := fun y hy e => by
  have e0 : y.1.id0 = o.id0 := congrArg Prod.fst e
  have e1 : y.1.id1 = o.id1 := congrArg Prod.snd e
  have := h.own y hy (by rw [e0, hn.id0])
  have := hn.id1
  omega

/-- None of the others has it. -/
theorem New.none_has {A : List Mop} {V U : List Dt} {act : Int} {o : OpIn} (h : KN A V act) (hn : New A V act o) (hU : VM U) (hi : ∀ d ∈ U, ∃ y ∈ A, y.1.id = d) : hasv U o.id = false := by
  cases e : hasv U o.id with
  | false => rfl
  | true =>
    obtain ⟨hm, hl⟩ := hasv_iff.1 e
    have h1 : 1 ≤ o.id1 := ((mayd_iff _).1 hm).2.2.1
    have hl' : o.id1 ≤ gt U o.id0 := hl
    obtain ⟨y, hy, hid⟩ := hi _ (hU.gt_pos (a := o.id0) (by omega)).2
    have e0 : y.1.id0 = o.id0 := congrArg Prod.fst hid
    have e1 : y.1.id1 = gt U o.id0 := congrArg Prod.snd hid
    have := h.own y hy (by rw [e0, hn.id0])
    have := hn.id1
    omega

theorem isBlk.mono {B B' : List Mop} {V : List Dt} {b : Dt} (h : isBlk B V b) (hs : ∀ y ∈ B, y ∈ B') : isBlk B' V b := by
  obtain ⟨y, hy, r⟩ := h
  exact ⟨y, hs y hy, r⟩

theorem Cl.deps {A : List Mop} (h : Cl A) {x : Mop} (hx : x ∈ A) : ∀ d ∈ x.2, ∃ y ∈ A, y.1.id = d := fun d hd => by
  obtain ⟨k, hk⟩ := List.mem_iff_getElem?.1 hx
  obtain ⟨j, y, _, hy, e⟩ := h.dep k x hk d hd
  exact ⟨y, List.mem_of_getElem? hy, e⟩

theorem St.snoc {A : List Mop} {V : List Dt} {act : Int} {o : OpIn} (hA : St A) (h : KN A V act) (hn : New A V act o) : St (A ++ [(o, V)]) := by
  have hfr := hn.fresh h
  have hself : hasv V o.id = false := hn.none_has h h.vm h.ids
  refine ⟨⟨fun x hx => ?_, fun k x hx d hd => ?_, ?_⟩, fun x hx y hy hh => ?_, fun x hx y hy hh => ?_, fun i x hx => ?_⟩
  · rcases List.mem_append.1 hx with hx | hx
    · exact hA.cl.may x hx
    · simp at hx; rw [hx]; exact hn.chk
  · by_cases hk : k < A.length
    · rw [List.getElem?_append_left hk] at hx
      obtain ⟨j, y, hj, hy, e⟩ := hA.cl.dep k x hx d hd
      exact ⟨j, y, hj, by rw [List.getElem?_append_left (by omega)]; exact hy, e⟩
    · rw [List.getElem?_append_right (by omega)] at hx
      have hkk : k - A.length = 0 := by
        have := (List.getElem?_eq_some_iff.1 hx).1
        simp at this
        omega
      rw [hkk] at hx
      simp at hx
      subst hx
      obtain ⟨y, hy, e⟩ := h.ids d hd
      obtain ⟨j, hj⟩ := List.mem_iff_getElem?.1 hy
      have hjl := (List.getElem?_eq_some_iff.1 hj).1
      exact ⟨j, y, by omega, by rw [List.getElem?_append_left hjl]; exact hj, e⟩
  · rw [List.map_append, List.nodup_append]
    refine ⟨hA.cl.ids, by simp, fun a ha b hb e => ?_⟩
    obtain ⟨y, hy, rfl⟩ := List.mem_map.1 ha
    simp at hb
    exact hfr y hy (by rw [e, hb])
  · rcases List.mem_append.1 hx with hx | hx <;> rcases List.mem_append.1 hy with hy | hy
    · exact hA.lat x hx y hy hh
    · simp at hy
      rw [hy, hn.none_has h (chk_head (hA.cl.may x hx)).2.1 (hA.cl.deps hx)] at hh
      cases hh
    · simp at hx
      rw [hx] at hh ⊢
      exact hn.time y hy hh
    · simp at hx hy
      rw [hx, hy, hself] at hh
      cases hh
  · rcases List.mem_append.1 hx with hx | hx <;> rcases List.mem_append.1 hy with hy | hy
    · exact hA.closed x hx y hy hh
    · simp at hy
      rw [hy, hn.none_has h (chk_head (hA.cl.may x hx)).2.1 (hA.cl.deps hx)] at hh
      cases hh
    · simp at hx
      rw [hx] at hh ⊢
      exact h.closed y hy hh
    · simp at hx hy
      rw [hx, hy, hself] at hh
      cases hh
  · by_cases hk : i < A.length
    · rw [List.getElem?_append_left hk] at hx
      rw [List.take_append_of_le_length (by omega)]
      exact hA.kind i x hx
    · rw [List.getElem?_append_right (by omega)] at hx
      have hkk : i - A.length = 0 := by
        have := (List.getElem?_eq_some_iff.1 hx).1
        simp at this
        omega
      rw [hkk] at hx
      simp at hx
      subst hx
      have : i = A.length := by omega
      subst this
      rw [List.take_append_of_le_length (Nat.le_refl _), List.take_length]
      exact hn.kind

theorem belv_refl {V : List Dt} (h : VM V) : belv V V = true := (belv_iff h h).2 fun _ => Int.le_refl _

/-- What the one who made it knows. -/
theorem KN.snoc {A : List Mop} {V : List Dt} {act : Int} {o : OpIn} (hA : Cl A) (h : KN A V act) (hn : New A V act o) : KN (A ++ [(o, V)]) (vwith V o.id) act := by
  have hm := (chk_head hn.chk).1
  refine ⟨vwith_vm h.vm _, fun d hd => ?_, fun z hz hh => ?_, fun z hz h0 => ?_⟩
  · rcases vwith_mem h.vm hm hd with hd | rfl
    · obtain ⟨y, hy, e⟩ := h.ids d hd
      exact ⟨y, List.mem_append_left _ hy, e⟩
    · exact ⟨(o, V), by simp, rfl⟩
  · rcases List.mem_append.1 hz with hz | hz
    · obtain ⟨hmz, hvz, _, _⟩ := chk_head (hA.may z hz)
      refine belv_with hvz h.vm hm (h.closed z hz (hasv_iff.2 ⟨hmz, ?_⟩))
      have hle := (hasv_iff.1 hh).2
      rw [vwith_gt h.vm hm] at hle
      show z.1.id1 ≤ gt V z.1.id0
      by_cases e0 : o.id0 = z.1.id0
      · have := h.own z hz (by rw [← e0, hn.id0])
        rw [← e0, hn.id0]
        exact this
      · have e0' : ¬ o.id.1 = z.1.id.1 := e0
        rw [if_neg e0'] at hle
        exact hle
    · simp at hz
      rw [hz]
      exact belv_with h.vm h.vm hm (belv_refl h.vm)
  · rcases List.mem_append.1 hz with hz | hz
    · exact Int.le_trans (h.own z hz h0) (vwith_ge h.vm hm act)
    · simp at hz
      rw [hz, vwith_gt h.vm hm]
      have : o.id.1 = act := hn.id0
      rw [if_pos this]
      show o.id1 ≤ max _ o.id1
      omega

/-- What another one knows. -/
theorem KN.other {A : List Mop} {V U : List Dt} {act act' : Int} {o : OpIn} (h : KN A V act) (hn : New A V act o) (hU : KN A U act') (hne : act' ≠ act) : KN (A ++ [(o, V)]) U act' := by
  refine ⟨hU.vm, fun d hd => ?_, fun z hz hh => ?_, fun z hz h0 => ?_⟩
  · obtain ⟨y, hy, e⟩ := hU.ids d hd
    exact ⟨y, List.mem_append_left _ hy, e⟩
  · rcases List.mem_append.1 hz with hz | hz
    · exact hU.closed z hz hh
    · simp at hz
      rw [hz, hn.none_has h hU.vm hU.ids] at hh
      cases hh
  · rcases List.mem_append.1 hz with hz | hz
    · exact hU.own z hz h0
    · simp at hz
      rw [hz] at h0
      exact absurd (h0.symm.trans hn.id0) hne

end
end Go.Proofs.Ytbpepmajpojacaa
