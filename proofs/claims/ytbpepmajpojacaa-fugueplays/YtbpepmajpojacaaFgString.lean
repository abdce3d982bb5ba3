/- String: the characters that are seen, as a text. -/
import Derived.Test.YtbpepmajpojacaaFgShelf
set_option linter.unusedVariables false
namespace Go.Proofs.Ytbpepmajpojacaa
open Go.RowKit Go.Shelf

attribute [local go_sem] Oper.semAt_some

/-- A char as a rune. -/
def codeI (c : Int) : Int := if c < 0 ∨ 1114111 < c then 65533 else c

theorem codeI_lo (c : Int) : -2147483648 ≤ codeI c ∧ codeI c ≤ 2147483647 := by
  unfold codeI
  split <;> omega

set_option maxHeartbeats 1000000 in
theorem code_any (c : Int) (w : World) (hc : -9223372036854775808 ≤ c ∧ c ≤ 9223372036854775807) : Calls Try.prog 49 #[.int .i64 c] w fun e w' => e = .returned (.int .i32 (codeI c)) ∧ w = w' := by
  by_cases h1 : c < 0
  · have b1 : decide (c < 0) = true := by simp [h1]
    have he : codeI c = 65533 := by unfold codeI; rw [if_pos (Or.inl h1)]
    rw [he]
    go_enter Try.func49, Try.ntmps49
    go_wp2
    go_ret
    exact ⟨rfl, rfl⟩
  · have b1 : decide (c < 0) = false := by simp; omega
    by_cases h2 : 1114111 < c
    · have b2 : decide (1114111 < c) = true := by simp [h2]
      have he : codeI c = 65533 := by unfold codeI; rw [if_pos (Or.inr h2)]
      rw [he]
      go_enter Try.func49, Try.ntmps49
      go_wp2
      go_ret
      exact ⟨rfl, rfl⟩
    · have b2 : decide (1114111 < c) = false := by simp; omega
      have he : codeI c = c := by unfold codeI; rw [if_neg (by omega)]
      have hw : IntKind.i32.wrap c = c := by simp [IntKind.wrap, IntKind.bits, IntKind.signed]; omega
      rw [he]
      clear he
      go_enter Try.func49, Try.ntmps49
      go_wp2
      go_ret
      exact ⟨rfl, rfl⟩

/-- A text's bytes. -/
def strB (L : List Cr) : List UInt8 := L.flatMap (fun c => Lib.encodeRune (codeI c.ch))

theorem byteCells_app (a b : List UInt8) : Lib.byteCells (a ++ b) = Lib.byteCells a ++ Lib.byteCells b := by simp [Lib.byteCells]

theorem strB_snoc (L : List Cr) (c : Cr) : Lib.byteCells (strB (L ++ [c])) = Lib.byteCells (strB L) ++ Lib.runeCells (codeI c.ch) := by
  unfold strB
  rw [List.flatMap_append, byteCells_app, ← Lib.byteCells_encodeRune]
  simp

theorem encodeRune_le (r : Int) : (Lib.encodeRune r).length ≤ 4 := by
  have h := Lib.runeCells_le r
  have : (Lib.runeCells r).length = (Lib.encodeRune r).length := by simp [Lib.runeCells, Lib.encodeRune]
  omega

theorem strB_len (L : List Cr) : (strB L).length ≤ 4 * L.length := by
  unfold strB
  induction L with
  | nil => simp
  | cons a r ih =>
    have := encodeRune_le (codeI a.ch)
    simp only [List.flatMap_cons, List.length_append, List.length_cons]
    omega

theorem bld_own {X Y : World} {row : Option Nat} {B b B₀ : Nat} {bs : List Value} (h : Bld B b bs X) (hg : X.grownBy Y row) (hr : ∀ r, row = some r → B₀ ≤ r ∧ ∃ o : Obj, X.heap[r]? = some o ∧ o.isCells = false) : Bld B b bs Y := by
  have one : ∀ p, Lib.BuilderAtF 93 5 B b p bs X → Lib.BuilderAtF 93 5 B b p bs Y := fun p ⟨h1, v, h2, h3, h4⟩ => by
    refine ⟨h1, v, ?_, ?_, h4⟩
    · refine (hg.block b (Array.getElem?_eq_some_iff.1 h2).1 (fun e => ?_)).trans h2
      obtain ⟨_, o, ho, hc⟩ := hr b e.symm
      rw [h2] at ho
      cases ho
      cases hc
    · refine h3.kept hg ?_
      cases hb : v.ownBlock with
      | none => exact Or.inl rfl
      | some g =>
        right
        intro e
        obtain ⟨c, fz, hk⟩ := Lib.ownsRowF_kind h3 g hb
        obtain ⟨_, o, ho, hc⟩ := hr g e.symm
        rw [hk] at ho
        cases ho
        cases hc
  rcases h with h | h
  · exact Or.inl (one _ h)
  · exact Or.inr (one _ h)

theorem others_kt {n₀ b : Nat} {W W' : World} {cs : Array Value} (hb : W.heap[b]? = some (.cells cs 93 (0, 0))) (ho : Lib.OthersKept 5 (some b) W W') (hl : Below n₀ W W') : KT n₀ W W' :=
  ⟨hl.size, fun k hk => hl.block k hk, fun k c ty fz hty hk => ho k _ hk (fun e => by
    cases e
    rw [hb] at hk
    cases hk
    rcases hty with h | h <;> exact absurd h (by decide)) (fun c' fz' e => by
    cases e
    rcases hty with h | h <;> exact absurd h (by decide))⟩

theorem others_keeps {B₀ b : Nat} {n₀ : Nat} {W W' : World} {cs : Array Value} (hb : W.heap[b]? = some (.cells cs 93 (0, 0))) (ho : Lib.OthersKept 5 (some b) W W') (hl : Below n₀ W W') : KeepsFrom B₀ W W' :=
  ⟨hl.size, fun k o _ hk hc => ho k o hk (fun e => by
    cases e
    rw [hb] at hk
    cases hk
    cases hc) (fun c fz e => by
    subst e
    cases hc)⟩

theorem Bld.block {B b : Nat} {bs : List Value} {w : World} (h : Bld B b bs w) : ∃ cs, w.heap[b]? = some (.cells cs 93 (0, 0)) := by
  rcases h with ⟨_, v, h, _⟩ | ⟨_, v, h, _⟩
  · exact ⟨_, h⟩
  · exact ⟨_, h⟩

set_option maxRecDepth 100000 in
set_option maxHeartbeats 4000000 in
theorem string_of {w : World} {v : Value} {L : List Cr} {G : Dt → Option Nat} {N : Nat} (hs : SeqL 47 v L G N w) (hr : RdC w L G) (hch : ∀ c ∈ L, -9223372036854775808 ≤ c.ch ∧ c.ch ≤ 9223372036854775807) (hN : N ≤ 1000000) : Calls Try.prog 23 #[v] w fun e w' => e = .returned (.string ⟨(strB L).toArray⟩) ∧ Below w.heap.size w w' := by
  refine (callsIn_wide (n := 3)).1 ?_
  refine callsIn_of_wp_marks Try.func23 rfl trivial ?_ rfl
  simp only [Try.ntmps23, List.size_toArray, List.length_cons, List.length_nil, Nat.reduceAdd, Nat.reduceSub, Array.replicate_succ, Array.replicate_zero, List.push_toArray, List.append_toArray, List.nil_append, List.cons_append]
  gi_wp2
  obtain ⟨W0, hW0⟩ : ∃ W0, W0 = w.alloc (.cells #[.pointer none, .slice none 0 0] 93) := ⟨_, rfl⟩
  have hsz : W0.heap.size = w.heap.size + 1 := by rw [hW0]; simp
  have hbox : Bld w.heap.size w.heap.size [] W0 := by
    rw [hW0]
    exact Or.inl ⟨Nat.le_refl _, .slice none 0 0, World.alloc_heap_new _ _, World.ownsRowF_nil _ _ _ _, by simp [Value.ownBlock]⟩
  have hB0 : Below w.heap.size w W0 := by rw [hW0]; exact (Below.refl _ w).alloc (Nat.le_refl _) _
  rw [← hW0]
  clear hW0
  refine range_method (α := El L) (gf := 47) (fs := #[v]) rfl (enters_of Try.func47 (by kernel_rfl) rfl) (hs _) (fun h k => h.trans k) (fun W l o o' hl ho hc _ => KT.put W l o o' (by omega) ho hc) hB0 (fun _ => rfl)
    (fun pre W => Bld w.heap.size w.heap.size (Lib.byteCells (strB (pre.map (·.1)))) W ∧ Below w.heap.size w W)
    (fun _ _ _ => False) ?own (fun _ _ _ _ _ h _ _ => h) ⟨hbox, hB0⟩
    (fun x => { tmps := #[v, undef, .string ⟨#[]⟩, .pointer (some ⟨w.heap.size, 0, none⟩), pv ((G x.1.id).getD 0), v, .func (.func 47) #[v] #[], pv ((G x.1.id).getD 0), undef, undef, undef, undef, undef, undef, undef], defers := [] }) ?assign ?body ?done (fun _ _ _ _ _ _ h _ => h.elim)
  case own =>
    rintro s A B row ⟨h1, h2⟩ hg hrow
    exact ⟨bld_own h1 hg hrow, below_own h2 (by omega) hg hrow⟩
  case assign =>
    intro l x W K hK
    unfold encC
    gi_wp2
    first | exact hK | simpa using hK
  case body =>
    rintro l' pre x W1 ⟨h1, h2⟩ hlen
    obtain ⟨g, lv, rv, hG, hg, hblk⟩ := hr x.1 x.2
    have hgW : W1.heap[g]? = _ := (h2.block g hg).trans hblk
    have hgd : pv ((G x.1.id).getD 0) = .pointer (some ⟨g, 0, none⟩) := by rw [hG]; rfl
    rw [hgd]
    have c2 : W1.cell? ⟨g, 2, none⟩ = some (.int .i64 x.1.ch) := by simp [World.cell?, hgW, Cr.cells]
    have hcode := code_any x.1.ch W1 (hch x.1 x.2)
    have hsl := strB_len (pre.map (·.1))
    rw [List.length_map] at hsl
    have hcr := codeI_lo x.1.ch
    have hwr := write_rune w.heap.size w.heap.size _ (codeI x.1.ch) hcr.1 hcr.2 W1 h1 (by rw [Lib.byteCells_length]; omega) h2.size
    obtain ⟨cs, hbb⟩ := Bld.block h1
    have hwr' : Calls Try.prog 48 #[.pointer (some ⟨w.heap.size, 0, none⟩), .int .i32 (codeI x.1.ch)] W1 fun e w' => ∃ k, e = .returned (.tuple #[.int .i64 k, .nilIface]) ∧ Hid (KeepsFrom W0.heap.size W1 w' ∧ KT w.heap.size W1 w' ∧ Bld w.heap.size w.heap.size (Lib.byteCells (strB ((pre ++ [x]).map (·.1)))) w' ∧ Below w.heap.size w w') := hwr.mono (fun e w' ⟨he, ha, hb, ho⟩ => by
      refine ⟨_, he, hid ⟨others_keeps hbb ho hb, others_kt hbb ho hb, Or.inr ?_, h2.trans hb⟩⟩
      rw [List.map_append, List.map_cons, List.map_nil, strB_snoc]
      exact ha)
    clear hwr h1 h2 hbb hsl hcr
    obtain ⟨cr, hcrn⟩ : ∃ cr, cr = codeI x.1.ch := ⟨_, rfl⟩
    rw [← hcrn] at hcode hwr'
    clear hcrn
    gi_wp2_with (first
      | (refine ⟨trivial, ?_⟩; gi_at_call 49; refine (CallsIn.inRound l' (callsIn_wide.2 hcode)).mono ?_; rintro e w' ⟨rfl, rfl⟩)
      | (refine ⟨trivial, ?_⟩; gi_at_call 48; refine (CallsIn.inRound l' (callsIn_wide.2 hwr')).mono ?_; rintro e w' ⟨k, rfl, hend⟩))
    exact hend.out
  case done =>
    rintro D ys W1 hD hS ⟨h1, h2⟩ hK
    have hstr := bld_string w.heap.size w.heap.size _ W1 h1 h2.size
    have hys : strB (ys.map (·.1)) = strB L := by rw [hS]
    rw [hys] at hstr
    have hDb : D ≠ w.heap.size := by omega
    have hstr' : Calls Try.prog 50 #[.pointer (some ⟨w.heap.size, 0, none⟩)] W1 fun e w' => e = .returned (.string ⟨(strB L).toArray⟩) ∧ w'.heap[D]? = some (.deferred (some [])) ∧ Hid (Below w.heap.size w w') := hstr.mono (fun e w' ⟨he, _, hb, ho⟩ => ⟨he, ho D _ hK (fun e => hDb (by simpa using e)) (fun c fz e => by cases e), hid (h2.trans hb)⟩)
    clear h1 h2 hstr hys hK
    gi_wp2_with (refine ⟨trivial, ?_⟩; gi_at_call 50; refine (callsIn_wide.2 hstr').mono ?_; rintro e w' ⟨rfl, hK, hbH⟩)
    refine ⟨by simp, .inl ⟨_, _, rfl, run_takeDeferred hK, ?_⟩⟩
    exact ⟨_, results_tmp rfl _ _ _, rfl, below_put hbH.out (by omega) hK rfl _⟩
end Go.Proofs.Ytbpepmajpojacaa
