/- The contracts of the library at this program, laid by the tool of the shelf in plain words. -/
import Derived.Test.YtnmdcdphpcpojaaGreatDoorTrTell
import Derived.Test.YtnmdcdphpcpojaaGreatDoorTrCmp
import Derived.Lib.Replace
import Derived.Lib.IndexMore
import Derived.Lib.TrimByte
import Derived.Test.YtnmdcdphpcpojaaGreatDoorTrDoM
import Derived.Shelf.Strings.Builder1
import Derived.Shelf.Strings.Builder2
import Derived.Shelf.Strings.Trim
import Derived.Shelf.Small.Utf8
import Derived.Shelf.Small.Bits
import Derived.Shelf.Small.Strs
import Derived.Shelf.Small.Wraps
import Derived.Shelf.Strings.BuilderF
import Derived.Shelf.Strings.BuilderK
import Derived.Shelf.Strings.BuilderRune
import Derived.Shelf.Utf8.AppendRune
import Derived.Shelf.Utf8.AppendRunePlain
import Derived.Shelf.Strings.Builder2Cap
import Derived.Shelf.Strconv.Itoa0
import Derived.Shelf.Strings.Search1
import Derived.Shelf.Strings.Search2
import Derived.Shelf.Strings.Search3
import Derived.Shelf.Strings.Cut
import Derived.Shelf.Strings.Count
import Derived.Shelf.LaysM
import Derived.Shelf.Strings.Shaped
import Derived.Shelf.Strings.Prefix
import Derived.Shelf.Strings.Split
import Derived.Shelf.Strings.Replace
import Derived.Shelf.Strings.SplitShaped
import Derived.Shelf.Strings.Runes
import Derived.Shelf.Strings.AsciiSet
import Derived.Shelf.Bits.Mul64
import Derived.Shelf.Strings.Repeat
import Derived.Shelf.Unicode.DecodeSlow
import Derived.Shelf.Strings.BuilderCap
import Derived.Test.YtnmdcdphpcpojaaGreatDoorProg
namespace Go.Proofs.YtnmdcdphpcpojaaGreatDoor
section
set_option linter.unusedVariables false
set_option linter.unusedSimpArgs false
open Go.RowKit

theorem run_eql_nilD (w : World) (a : Option Addr) (l c : Nat) : (binOp BinOp.eql 32 (Value.slice a l c) (Value.slice none 0 0)).run Tryz.prog w = .ok (.bool a.isNone) w := by
  simp [binOp, go_sem, run_equal_slice_nil w 32 24 a l c Tryz.underlying32]

theorem tclone_any {a : Option Addr} {n c : Nat} {L : List Dt} {w : World} (hs : PS w a n c L) (hn : n ≤ 1000000) : Calls Tryz.prog 74 #[.slice a n c] w (Gives w L) := by
  have hq := run_eql_nilD
  have hl := hs.len
  cases a with
  | none =>
    obtain ⟨rfl, rfl⟩ := hs.nil rfl
    obtain rfl : L = [] := List.eq_nil_of_length_eq_zero hl
    go_enter Tryz.func74, Tryz.ntmps74
    go_wp2
    go_ret
    exact ⟨_, rfl, World.ownsRow_nil _ _ _ _, Below.refl _ _⟩
  | some ad =>
    have hw : RowKit.Below w.heap.size w (w.alloc (.cells #[] 24)) := (Below.refl _ w).alloc (Nat.le_refl _) _
    have ho : (w.alloc (.cells #[] 24)).ownsRow w.heap.size 24 2 (.slice (some ⟨w.heap.size, 0, none⟩) 0 0) 0 [] := World.ownsRow_made w #[] 0 (Nat.le_refl _) (by unfold maxLen; omega) rfl
    have hs1 := hid (hs.below hw)
    have HL := hid hl
    clear hs hl
    go_enter Tryz.func74, Tryz.ntmps74
    go_wp2_with (first
      | (at_builtin; refine wpList_append_dots rfl _ _ 32 Tryz.underlying32 rfl w.heap.size _ 0 [] rfl ho (some ad) n c L rfl hs1.out (by omega) (by simp) ?_; intro v5 w5 ho5 hg5))
    go_ret
    refine ⟨_, rfl, ?_, hw.grown hg5 (by simp) (fun j hj => (ho.lt j hj).1)⟩
    rw [HL.out]
    simpa using ho5

/-- A row of dots of its own: new memory that is none of the tree's. -/
def RowOf (w w' : World) (A' : Nat → Prop) (L : List Dt) (e : Ending) : Prop := ∃ v, e = .returned v ∧ w'.ownsRow w.heap.size 24 2 v L.length (flat L) ∧ ∀ j, v.ownBlock = some j → ¬ A' j

theorem owns_base {w : World} {b b' n size : Nat} {ty : TypeId} {v : Value} {L : List Value} (h : w.ownsRow b ty size v n L) (hb : b' ≤ b) : w.ownsRow b' ty size v n L := by
  obtain ⟨h1, h2⟩ := h
  refine ⟨h1, ?_⟩
  rcases h2 with h2 | ⟨g', cap', cur, hv, hg, r⟩
  · exact .inl h2
  · exact .inr ⟨g', cap', cur, hv, Nat.le_trans hb hg, r⟩

theorem kidB_len {w : World} {t : Nat} {l : List Mv} {k : Nat} {gs : List Nat} {S : List Sp} {lg fd pl kd : Value} {fl : List (Mv × Nat)} {B A : Nat → Prop} (h : TR w t l k gs S lg fd pl kd fl B A) (p : Dt) : (kidB S p).length ≤ 1000 := by
  obtain ⟨r, hr⟩ := h.tk
  obtain ⟨_, _, s3⟩ := h.spots
  unfold kidB
  rw [List.length_map]
  have := kidS_len hr.nd p
  omega

set_option maxRecDepth 100000 in
set_option maxHeartbeats 4000000 in
theorem kids_tt (t : Nat) (l : List Mv) (A : Nat → Prop) (d : Dt) (w : World) (h : TT w t l A) (hd : Dw d) :
    Calls Tryz.prog 41 #[.pointer (some ⟨t, 0, none⟩), dv d] w fun e w' => ∃ A', RowOf w w' A' (kidB (run l) d) e ∧ TT w' t l A' ∧ KA w w' A A' := by
  obtain ⟨d1, d2⟩ := d
  have hmxo : Tryz.prog.follows .mixedOrders = true := by kernel_rfl
  obtain ⟨W0, hW0⟩ : ∃ W0, W0 = w.alloc (.cells #[.int .i64 d1, .int .i64 d2] 24) := ⟨_, rfl⟩
  have hB0 : Below w.heap.size w W0 := by rw [hW0]; exact (Below.refl _ w).alloc (Nat.le_refl _) _
  have hb0 : W0.heap[w.heap.size]? = some (.cells #[.int .i64 d1, .int .i64 d2] 24 (0, 0)) := by rw [hW0]; exact World.alloc_heap_new w _
  have hl0 := (Array.getElem?_eq_some_iff.1 hb0).1
  have hAH : ¬ A w.heap.size := fun e => by have := h.lt _ e; omega
  have hTT := h.below hB0
  have hT0 : TT W0.drew t l A := hTT.same (Nat.le_refl _) (fun j _ => rfl)
  have HN := (now_tt hT0).mono (R' := fun e W1 => e = .returned (.pointer (some ⟨t, 3, none⟩)) ∧ (W1.cell? ⟨w.heap.size, 0, none⟩ = some (.int .i64 d1) ∧ W1.cell? ⟨w.heap.size, 1, none⟩ = some (.int .i64 d2)) ∧ ∃ kd a n c, W1.cell? ⟨t, 4, none⟩ = some kd ∧ (Instr.lookup 114 kd (.agg #[.int .i64 d1, .int .i64 d2]) false).run Tryz.prog W1 = .ok (.slice a n c) W1 ∧ Calls Tryz.prog 74 #[.slice a n c] W1 fun e W2 => ∃ v, e = .returned v ∧ (W2.cell? ⟨w.heap.size, 0, none⟩ = some (.int .i64 d1) ∧ W2.cell? ⟨w.heap.size, 1, none⟩ = some (.int .i64 d2)) ∧ Hid (∃ A', RowOf w W2 A' (kidB (run l) (d1, d2)) (.returned v) ∧ TT W2 t l A' ∧ KA w W2 A A')) (fun e W1 hh => by
    obtain ⟨e1, gs, S, lg, fd, pl, kd, fl, B, A', h1, h2, h3, h4, h5⟩ := hh
    obtain ⟨q1, q2, q3, q4⟩ := h1.lk_run
    have c0 : W1.heap[w.heap.size]? = _ := (h5.keep w.heap.size hl0 hAH).trans hb0
    have htb := h1.tb
    unfold TB at htb
    obtain ⟨a, c, hlk, hps⟩ := h1.sb.look (p := (d1, d2)) hd
    refine ⟨e1, ⟨by simp [World.cell?, c0], by simp [World.cell?, c0]⟩, kd, a, _, c, by simp [World.cell?, htb], hlk, ?_⟩
    have hkl := kidB_len h1 (d1, d2)
    have hka := KA.pre h.lt (hB0.trans ((((Far.refl W0).drewN 1).below).mono hB0.size)) h5
    refine (tclone_any hps (by omega)).mono ?_
    rintro e W2 ⟨v, e2, ho, hb⟩
    have c2 : W2.heap[w.heap.size]? = _ := (hb.block w.heap.size (Array.getElem?_eq_some_iff.1 c0).1).trans c0
    rw [q3] at ho
    exact ⟨v, e2, ⟨by simp [World.cell?, c2], by simp [World.cell?, c2]⟩, hid ⟨A', ⟨v, rfl, owns_base ho hka.size, fun j hj e => by have := (ho.lt j hj).1; have := h1.as_ j e; omega⟩, (h1.tt h2 h3 h4).below hb, hka.post hb⟩⟩)
  have hS0 : W0.drew.cell? ⟨w.heap.size, 0, none⟩ = some (.int .i64 d1) ∧ W0.drew.cell? ⟨w.heap.size, 1, none⟩ = some (.int .i64 d2) := ⟨by show W0.cell? _ = _; simp [World.cell?, hb0], by show W0.cell? _ = _; simp [World.cell?, hb0]⟩
  have HW := hid hW0
  clear hW0 hB0 hb0 hl0 hAH hTT hT0 h
  go_enter Tryz.func41, Tryz.ntmps41
  go_wp2_with fail
  rw [← HW.out]
  refine wp_region_held_drew (S := fun w' => w'.cell? ⟨w.heap.size, 0, none⟩ = some (.int .i64 d1) ∧ w'.cell? ⟨w.heap.size, 1, none⟩ = some (.int .i64 d2)) hmxo hS0 ?_
  intro _
  refine wpAnyH_take (i := 0) (v := .pointer (some ⟨t, 0, none⟩)) rfl (by kernel_rfl) (by kernel_rfl) (by kernel_rfl) (fun _ _ _ h => h) (Or.inl ⟨by kernel_rfl, fun w hSw => ?_⟩) hS0 ?_
  · obtain ⟨e1, e2⟩ := hSw; go_simp
  simp only [Act.put, List.getElem_toArray, List.getElem_cons_succ, List.getElem_cons_zero, List.setIfInBounds_toArray, List.set_cons_zero, List.set_cons_succ]
  refine wpAnyH_take (i := 5) (v := .agg #[.int .i64 d1, .int .i64 d2]) rfl (by kernel_rfl) (by kernel_rfl) (by kernel_rfl) (fun _ _ _ h => h) (Or.inl ⟨by kernel_rfl, fun w hSw => ?_⟩) hS0 ?_
  · obtain ⟨e1, e2⟩ := hSw; go_simp
  simp only [Act.put, List.getElem_toArray, List.getElem_cons_succ, List.getElem_cons_zero, List.setIfInBounds_toArray, List.set_cons_zero, List.set_cons_succ]
  refine wpAnyH_ready (rs := [1]) (by kernel_rfl) (by simp) ?_
  refine AllReadyH.cons rfl (fun K hK => ?_) AllReadyH.nil
  go_simp
  refine HN.mono ?_
  rintro e W1 ⟨rfl, S1, kd, a, n, c, ck, hlk, HC⟩
  refine hK.out _ _ S1 (fun _ => ?_)
  clear hK K
  refine wpAnyH_take (i := 2) (v := .pointer (some ⟨t, 3, none⟩)) rfl (by kernel_rfl) (by kernel_rfl) (by kernel_rfl) (fun _ _ _ h => h) (Or.inl ⟨by kernel_rfl, fun w hSw => ?_⟩) S1 ?_
  · obtain ⟨e1, e2⟩ := hSw; go_simp
  simp only [Act.put, List.getElem_toArray, List.getElem_cons_succ, List.getElem_cons_zero, List.setIfInBounds_toArray, List.set_cons_zero, List.set_cons_succ]
  refine wpAnyH_take (i := 3) (v := .pointer (some ⟨t, 4, none⟩)) rfl (by kernel_rfl) (by kernel_rfl) (by kernel_rfl) (fun _ _ _ h => h) (Or.inl ⟨by kernel_rfl, fun w hSw => ?_⟩) S1 ?_
  · obtain ⟨e1, e2⟩ := hSw; go_simp
  simp only [Act.put, List.getElem_toArray, List.getElem_cons_succ, List.getElem_cons_zero, List.setIfInBounds_toArray, List.set_cons_zero, List.set_cons_succ]
  refine wpAnyH_ready (rs := [4]) (by kernel_rfl) (by simp) ?_
  refine AllReadyH.cons rfl (fun K hK => ?_) AllReadyH.nil
  go_simp
  refine hK.out _ _ S1 (fun _ => ?_)
  clear hK K
  refine wpAnyH_ready (rs := [6]) (by kernel_rfl) (by simp) ?_
  refine AllReadyH.cons rfl (fun K hK => ?_) AllReadyH.nil
  go_simp
  refine hK.out _ _ S1 (fun _ => ?_)
  clear hK K
  refine wpAnyH_ready (rs := [7]) (by kernel_rfl) (by simp) ?_
  refine AllReadyH.cons rfl (fun K hK => ?_) AllReadyH.nil
  go_simp
  refine HC.mono ?_
  rintro e W2 ⟨v, rfl, S2, HF⟩
  refine hK.out _ _ S2 (fun _ => ?_)
  clear hK K
  refine wpAnyH_take (i := 8) (v := v) rfl (by kernel_rfl) (by kernel_rfl) (by kernel_rfl) (fun _ _ _ h => h) (Or.inl ⟨by kernel_rfl, fun w hSw => ?_⟩) S2 ?_
  · obtain ⟨e1, e2⟩ := hSw; go_simp
  simp only [Act.put, List.getElem_toArray, List.getElem_cons_succ, List.getElem_cons_zero, List.setIfInBounds_toArray, List.set_cons_zero, List.set_cons_succ]
  refine wpAnyH_done (by kernel_rfl) ?_ _
  go_wp2
  go_ret
  exact HF.out
end

section
set_option linter.unusedVariables false
open Go.Lib

theorem index_same (c : UInt8) (l : List UInt8) : index (c :: l) [c] = 0 := by unfold index; simp

theorem index_else {b c : UInt8} (l : List UInt8) (h : b ≠ c) : index (b :: l) [c] = if index l [c] == -1 then -1 else index l [c] + 1 := by
  conv => lhs; unfold index
  rw [if_neg (by simp; exact fun e => h e.symm)]

theorem replaceK_else {b c : UInt8} (new : List UInt8) (h : b ≠ c) (l : List UInt8) : ∀ k, replaceK [c] new k (b :: l) = b :: replaceK [c] new k l
  | 0 => rfl
  | k + 1 => by
    have hge := index_ge l [c]
    unfold replaceK
    rw [index_else l h]
    by_cases hm : index l [c] = -1
    · simp [hm]
    · have h1 : (index l [c] == -1) = false := by simpa using hm
      rw [h1]
      simp only [Bool.false_eq_true, if_false]
      rw [if_neg (by simp; omega)]
      have e : (index l [c] + 1).toNat = (index l [c]).toNat + 1 := by omega
      rw [e]
      simp

/-- One byte replaced, wherever it stands. -/
theorem replaceK_one (c : UInt8) (new : List UInt8) : ∀ (s : List UInt8) (k : Nat), s.count c ≤ k → replaceK [c] new k s = s.flatMap (fun b => if b = c then new else [b])
  | [], k, _ => by
    cases k with
    | zero => rfl
    | succ k => unfold replaceK; simp [index]
  | b :: l, k, hk => by
    by_cases h : b = c
    · subst h
      rw [List.count_cons_self] at hk
      cases k with
      | zero => omega
      | succ k =>
        rw [replaceK_hit [b] new k (b :: l) 0 (index_same b l)]
        simp only [List.take_zero, List.nil_append, List.length_singleton, Nat.zero_add, List.drop_succ_cons, List.drop_zero]
        rw [replaceK_one b new l k (by omega), List.flatMap_cons, if_pos rfl]
    · rw [List.count_cons_of_ne h] at hk
      rw [replaceK_else new h l k, replaceK_one c new l k hk, List.flatMap_cons, if_neg h]
      rfl

theorem rall_one (c : UInt8) (new : List UInt8) (h : new ≠ [c]) (s : List UInt8) : replaceAll s [c] new = s.flatMap (fun b => if b = c then new else [b]) := by
  unfold replaceAll replace
  rw [if_neg (by simp; exact fun e => h e.symm)]
  have hn : replaceNum s [c] (-1) = s.count c := by
    unfold replaceNum
    rw [if_pos (Or.inl (by decide)), count_one]
  rw [hn]
  exact replaceK_one c new s _ (Nat.le_refl _)

/-- A text without line ends in it. -/
def esc (t : List UInt8) : List UInt8 := t.flatMap (fun b => if b = 92 then [92, 92] else if b = 10 then [92, 110] else [b])

theorem esc_two (t : List UInt8) : replaceAll (replaceAll t [92] [92, 92]) [10] [92, 110] = esc t := by
  rw [rall_one 92 [92, 92] (by decide), rall_one 10 [92, 110] (by decide)]
  unfold esc
  induction t with
  | nil => rfl
  | cons b t ih =>
    rw [List.flatMap_cons, List.flatMap_append, ih, List.flatMap_cons]
    congr 1
    by_cases h : b = 92
    · subst h; decide
    · rw [if_neg h, if_neg h]
      simp

theorem esc_cons (b : UInt8) (t : List UInt8) : esc (b :: t) = (if b = 92 then [92, 92] else if b = 10 then [92, 110] else [b]) ++ esc t := by
  unfold esc
  rw [List.flatMap_cons]

/-- The text that is shown so; none: there is none. -/
def unesc : List UInt8 → Option (List UInt8)
  | [] => some []
  | [b] => if b = 92 then none else some [b]
  | b :: d :: r => if b = 92 then (if d = 92 then (unesc r).map (92 :: ·) else if d = 110 then (unesc r).map (10 :: ·) else none) else (unesc (d :: r)).map (b :: ·)

theorem unesc_else {b : UInt8} (h : b ≠ 92) (r : List UInt8) : unesc (b :: r) = (unesc r).map (b :: ·) := by
  cases r with
  | nil => simp [unesc, h]
  | cons d r => simp [unesc, h]

/-- Cut at a byte. -/
theorem index_mid (c : UInt8) (q : List UInt8) : ∀ p : List UInt8, c ∉ p → index (p ++ c :: q) [c] = (p.length : Int)
  | [], _ => index_same c q
  | b :: p, h => by
    have hb : b ≠ c := fun e => h (by simp [e])
    have ih := index_mid c q p (fun e => h (by simp [e]))
    rw [List.cons_append, index_else _ hb, ih, if_neg (by simp), List.length_cons]
    omega

theorem index_no (c : UInt8) : ∀ p : List UInt8, c ∉ p → index p [c] = -1
  | [], _ => rfl
  | b :: p, h => by
    have hb : b ≠ c := fun e => h (by simp [e])
    rw [index_else _ hb, index_no c p (fun e => h (by simp [e]))]
    rfl

theorem cut_no {c : UInt8} {s : List UInt8} (h : c ∉ s) : cut s [c] = (s, [], false) := by
  unfold cut
  rw [index_no c s h, if_neg (by decide)]

theorem cut_mid {c : UInt8} {p : List UInt8} (h : c ∉ p) (q : List UInt8) : cut (p ++ c :: q) [c] = (p, q, true) := by
  unfold cut
  rw [index_mid c q p h, if_pos (by omega)]
  have e : ((p.length : Int)).toNat = p.length := by omega
  rw [e]
  simp

/-- Each text has a first line end, or none. -/
theorem cut_cases (c : UInt8) : ∀ s : List UInt8, c ∉ s ∨ ∃ p q, s = p ++ c :: q ∧ c ∉ p
  | [] => Or.inl (by simp)
  | b :: s => by
    by_cases h : b = c
    · exact Or.inr ⟨[], s, by rw [h]; rfl, by simp⟩
    · rcases cut_cases c s with h1 | ⟨p, q, h1, h2⟩
      · exact Or.inl (fun e => by rcases List.mem_cons.1 e with e | e; exact h e.symm; exact h1 e)
      · exact Or.inr ⟨b :: p, q, by rw [h1]; rfl, fun e => by rcases List.mem_cons.1 e with e | e; exact h e.symm; exact h2 e⟩

/-- A line as it is shown, without its end. -/
def lnB (d : Nat) (t : List UInt8) : List UInt8 := List.replicate (2 * d) 32 ++ 45 :: 32 :: esc t

/-- A line that is read. -/
def rline (s : List UInt8) : Option (Nat × List UInt8) :=
  if (s.length - (trimLeftB s 32).length) % 2 = 0 ∧ hasPrefix (trimLeftB s 32) [45, 32] = true then (unesc ((trimLeftB s 32).drop 2)).map (fun t => ((s.length - (trimLeftB s 32).length) / 2, t)) else none

theorem trim_split : ∀ s : List UInt8, s = List.replicate (s.length - (trimLeftB s 32).length) 32 ++ trimLeftB s 32 ∧ (trimLeftB s 32).length ≤ s.length
  | [] => by simp [trimLeftB]
  | b :: s => by
    by_cases h : b = 32
    · subst h
      obtain ⟨h1, h2⟩ := trim_split s
      have e : trimLeftB (32 :: s) 32 = trimLeftB s 32 := by unfold trimLeftB; simp
      rw [e]
      refine ⟨?_, by simp; omega⟩
      have e2 : (32 :: s).length - (trimLeftB s 32).length = (s.length - (trimLeftB s 32).length) + 1 := by simp; omega
      rw [e2, List.replicate_succ, List.cons_append, ← h1]
    · have e : trimLeftB (b :: s) 32 = b :: s := by unfold trimLeftB; simp [h]
      rw [e]
      simp

/-- A text that is read, line by line; each at most so deep. -/
def rdL : Nat → Nat → List UInt8 → Option (List (Nat × List UInt8))
  | 0, _, _ => some []
  | f + 1, deep, s => if s = [] then some [] else if (cut s [10]).2.2 = true then (match rline (cut s [10]).1 with
    | none => none
    | some x => if deep < x.1 then none else (rdL f (x.1 + 1) (cut s [10]).2.1).map (x :: ·)) else none
end

section
set_option linter.unusedVariables false
set_option linter.unusedSimpArgs false
open Go.RowKit

/-- A line. -/
structure Ln where
  b : Dt
  d : Int
  t : List UInt8

def Ln.cells (x : Ln) : List Value := [.int .i64 x.b.1, .int .i64 x.b.2, .int .i64 x.d, .string ⟨x.t.toArray⟩]

structure LnS (w : World) (a : Option Addr) (n c : Nat) (L : List Ln) : Prop where
  len : L.length = n
  cap : n ≤ c
  max : c ≤ maxLen
  nil : a = none → n = 0 ∧ c = 0
  at_ : 0 < n → ∃ g o, a = some ⟨g, o, none⟩ ∧ g < w.heap.size ∧ ∀ i (hi : i < L.length) (j : Nat) (u : Value), (L[i]).cells[j]? = some u → w.cell? ⟨g, o + i * 4 + j, none⟩ = some u

theorem LnS.same {w w' : World} {a : Option Addr} {n c : Nat} {L : List Ln} (h : LnS w a n c L) (hz : w.heap.size ≤ w'.heap.size) (hb : ∀ ad, a = some ad → w'.heap[ad.block]? = w.heap[ad.block]?) : LnS w' a n c L :=
  ⟨h.len, h.cap, h.max, h.nil, fun hp => by
    obtain ⟨g, o, e, hg, hx⟩ := h.at_ hp
    refine ⟨g, o, e, Nat.lt_of_lt_of_le hg hz, fun i hi j u hj => ?_⟩
    have := hx i hi j u hj
    simp only [World.cell?] at this ⊢
    rw [hb _ e]
    exact this⟩

theorem Tryz.infoLn : (Tryz.prog.info? 54).map (fun i => (i.zero, i.size, i.bytes)) = some (some (.agg #[.int .i64 0, .int .i64 0, .int .i64 0, .string ⟨#[]⟩]), 4, 40) := by kernel_rfl

/-- The cells of a row of characters. -/
def flLn (T : List Ln) : List Value := T.flatMap (fun c => c.cells)

theorem lnc_len (c : Ln) : c.cells.length = 4 := rfl

theorem flLn_length (T : List Ln) : (flLn T).length = T.length * 4 := by
  unfold flLn
  induction T with
  | nil => rfl
  | cons c r ih => rw [List.flatMap_cons, List.length_append, ih, lnc_len, List.length_cons]; omega

theorem flLn_append (T U : List Ln) : flLn (T ++ U) = flLn T ++ flLn U := by unfold flLn; rw [List.flatMap_append]

theorem flLn_get : ∀ (T : List Ln) (i : Nat) (hi : i < T.length) (j : Nat), j < 4 → (flLn T)[i * 4 + j]? = (T[i]).cells[j]?
  | [], i, hi, _, _ => by simp at hi
  | c :: r, 0, _, j, hj => by
    unfold flLn
    rw [List.flatMap_cons, Nat.zero_mul, Nat.zero_add, List.getElem?_append_left (by rw [lnc_len]; exact hj)]
    rfl
  | c :: r, i + 1, hi, j, hj => by
    have ih := flLn_get r i (by simpa using hi) j hj
    unfold flLn at ih ⊢
    rw [List.flatMap_cons, List.getElem?_append_right (by rw [lnc_len]; omega), lnc_len, show (i + 1) * 4 + j - 4 = i * 4 + j by omega, ih]
    rfl

theorem flLn_one (T : List Ln) : ∀ u ∈ flLn T, u.oneCell' = true := by
  intro u hu
  unfold flLn at hu
  obtain ⟨c, _, hc⟩ := List.mem_flatMap.1 hu
  simp [Ln.cells] at hc
  rcases hc with rfl | rfl | rfl | rfl <;> rfl

theorem own_lns {w : World} {base n : Nat} {v : Value} {T : List Ln} (h : w.ownsRow base 54 4 v n (flLn T)) : ∃ a c, v = .slice a n c ∧ LnS w a n c T := by
  have hl : T.length = n := by have := h.1; rw [flLn_length] at this; omega
  rcases h.2 with ⟨rfl, h0⟩ | ⟨g, cap, cur, rfl, hB, hg, hn, hc, hcs, ht⟩
  · subst h0
    exact ⟨none, 0, rfl, hl, Nat.le_refl _, Nat.zero_le _, fun _ => ⟨rfl, rfl⟩, fun hp => absurd hp (by omega)⟩
  · refine ⟨_, _, rfl, hl, hn, hc, (fun e => by cases e), (fun hp => ⟨g, 0, rfl, (Array.getElem?_eq_some_iff.1 hg).1, fun i hi j u hj => ?_⟩)⟩
    have hj4 : j < 4 := by have := (List.getElem?_eq_some_iff.1 hj).1; rwa [lnc_len] at this
    have := h.cells (g := g) rfl (i * 4 + j) u (by rw [flLn_get T i hi j hj4]; exact hj)
    have e : (⟨g, 0, none⟩ : Addr).add (i * 4 + j) = ⟨g, 0 + i * 4 + j, none⟩ := by
      unfold Addr.add
      split
      · rename_i h0
        simp only [Addr.mk.injEq, true_and, and_true]
        omega
      · simp only [Addr.mk.injEq, true_and, and_true]
        omega
    rw [e] at this
    exact this

theorem LnS.allcells {w : World} {a : Option Addr} {n c : Nat} {T : List Ln} (h : LnS w a n c T) {g o : Nat} (ha : a = some ⟨g, o, none⟩) (hp : 0 < n) : ∀ j u, (flLn T)[j]? = some u → w.cell? ((⟨g, o, none⟩ : Addr).add j) = some u := by
  intro j u hj
  obtain ⟨g', o', e, hg, hx⟩ := h.at_ hp
  rw [ha] at e
  cases e
  have hjl := (List.getElem?_eq_some_iff.1 hj).1
  rw [flLn_length] at hjl
  have hd := Nat.div_add_mod j 4
  have hm := Nat.mod_lt j (show 0 < 4 by omega)
  have hi : j / 4 < T.length := by omega
  have e1 : j = j / 4 * 4 + j % 4 := by omega
  have e2 := flLn_get T (j / 4) hi (j % 4) hm
  rw [← e1, hj] at e2
  have e3 := hx (j / 4) hi (j % 4) u e2.symm
  have e : (⟨g, o, none⟩ : Addr).add j = ⟨g, o + j / 4 * 4 + j % 4, none⟩ := by
    unfold Addr.add
    split
    · rename_i h0
      simp only [Addr.mk.injEq, true_and, and_true]
      omega
    · simp only [Addr.mk.injEq, true_and, and_true]
      omega
  rw [e]
  exact e3

/-- append of a row of moves to a row of one's own. -/
theorem wpList_append_lns {w : World} {ops : Array Oper} {rest : List Oper} {o : Oper} {a : Act} {Q : Exit → Act → World → Prop} (hgd : o.guard = none) (s x : Operand) (t : TypeId) (ht : Tryz.prog.underlying t = some (.slice 54))
    (ho : o.op = .call { callee := .builtin .append, args := #[s, x], argTypes := #[t, t] }) (base : Nat) (v : Value) (n : Nat) (U : List Ln) (hs : a.eval s = v) (hown : w.ownsRow base 54 4 v n (flLn U))
    (ao : Option Addr) (m c : Nat) (T : List Ln) (hx : a.eval x = .slice ao m c) (hT : LnS w ao m c T) (hb : n + m ≤ 2000000) (hbase : base ≤ w.heap.size)
    (h : ∀ v' w', w'.ownsRow base 54 4 v' (n + m) (flLn (U ++ T)) → w.grownBy w' v.ownBlock → wpList Tryz.prog ops Q rest (a.put o.dst v') w') : wpList Tryz.prog ops Q (o :: rest) a w := by
  obtain ⟨i0, hi, hz0, hz1, hz2⟩ := info_parts Tryz.infoLn
  have hl := hT.len
  rcases Nat.eq_zero_or_pos m with hm | hm
  · subst hm
    have e : T = [] := List.eq_nil_of_length_eq_zero hl
    subst e
    cases ao with
    | none =>
      obtain ⟨_, rfl⟩ := hT.nil rfl
      refine wpList_append_own_none hgd s x t ho base 54 i0 4 ht hi v n _ hs hown hx ?_
      exact h v w (by rw [List.append_nil]; exact hown) (World.grownBy.refl _ _)
    | some ad =>
      exact wpList_append_own w hgd s x t ho base 54 i0 _ 4 40 ht hi hz0 hz1 hz2 rfl (by decide) v n (flLn U) hs hown ad 0 c [] hx (by simp) (fun j u hj => by simp at hj) (by simp) (by unfold maxLen; omega) (by omega) hbase
        (fun v' w' h1 h2 _ => h v' w' (by simpa using h1) h2)
  · obtain ⟨g, o', e, hg, hc⟩ := hT.at_ hm
    subst e
    exact wpList_append_own w hgd s x t ho base 54 i0 _ 4 40 ht hi hz0 hz1 hz2 rfl (by decide) v n (flLn U) hs hown ⟨g, o', none⟩ m c (flLn T) hx (by rw [flLn_length, hl]) (hT.allcells rfl hm) (flLn_one T) (by unfold maxLen; omega) (by omega) hbase
      (fun v' w' h1 h2 _ => h v' w' (by rw [flLn_append]; exact h1) h2)
end

section
set_option linter.unusedVariables false
open Go.Shelf
def Tryz.lays170_ren : Go.Shelf.Ren := ⟨fun | 170 => 44 | n => n, fun | 70 => 91 | 3 => 3 | 0 => 0 | 72 => 93 | 37 => 59 | 5 => 5 | n => n, fun | n => n⟩
theorem Tryz.lays170 : Go.Proofs.Lays.n170 Tryz.prog Tryz.lays170_ren := {
  mixed := by kernel_rfl
  f170 := Tryz.func44.trans (congrArg some (by kernel_rfl))
  t0 := Tryz.underlying0
  a0 := Tryz.isAgg0
  z0 := Tryz.sizeOf0
  v0 := Tryz.zeroValue0
  t3 := Tryz.underlying3
  a3 := Tryz.isAgg3
  z3 := Tryz.sizeOf3
  v3 := Tryz.zeroValue3
  t37 := Tryz.underlying59
  a37 := Tryz.isAgg59
  z37 := Tryz.sizeOf59
  v37 := Tryz.zeroValue59
  t70 := Tryz.underlying91
  a70 := Tryz.isAgg91
  z70 := Tryz.sizeOf91
  v70 := Tryz.zeroValue91
  t72 := Tryz.underlying93
  a72 := Tryz.isAgg93
  z72 := Tryz.sizeOf93
  v72 := Tryz.zeroValue93 }
def Tryz.lays169_ren : Go.Shelf.Ren := ⟨fun | 169 => 49 | n => n, fun | 70 => 91 | 9 => 9 | 0 => 0 | 72 => 93 | 37 => 59 | 127 => 167 | 3 => 3 | 5 => 5 | n => n, fun | n => n⟩
theorem Tryz.lays169 : Go.Proofs.Lays.n169 Tryz.prog Tryz.lays169_ren := {
  mixed := by kernel_rfl
  f169 := Tryz.func49.trans (congrArg some (by kernel_rfl))
  t0 := Tryz.underlying0
  a0 := Tryz.isAgg0
  z0 := Tryz.sizeOf0
  v0 := Tryz.zeroValue0
  t3 := Tryz.underlying3
  a3 := Tryz.isAgg3
  z3 := Tryz.sizeOf3
  v3 := Tryz.zeroValue3
  t9 := Tryz.underlying9
  a9 := Tryz.isAgg9
  z9 := Tryz.sizeOf9
  v9 := Tryz.zeroValue9
  t37 := Tryz.underlying59
  a37 := Tryz.isAgg59
  z37 := Tryz.sizeOf59
  v37 := Tryz.zeroValue59
  t70 := Tryz.underlying91
  a70 := Tryz.isAgg91
  z70 := Tryz.sizeOf91
  v70 := Tryz.zeroValue91
  t72 := Tryz.underlying93
  a72 := Tryz.isAgg93
  z72 := Tryz.sizeOf93
  v72 := Tryz.zeroValue93
  t127 := Tryz.underlying167
  a127 := Tryz.isAgg167
  z127 := Tryz.sizeOf167
  v127 := Tryz.zeroValue167 }
theorem Tryz.Builder_Extra_169 : Builder.Extra Tryz.prog Tryz.lays169_ren := {
  sizeBuilder := by kernel_rfl
  liesBuilder := by kernel_rfl
  t5 := Tryz.underlying5
  a5 := Tryz.isAgg5
  z5 := Tryz.sizeOf5
  v5 := Tryz.zeroValue5
  infoByte := by kernel_rfl
  cellsByte := by kernel_rfl
  sizeByte := by kernel_rfl
  neB5 := by decide }
def Tryz.lays161_ren : Go.Shelf.Ren := ⟨fun | 161 => 85 | 231 => 114 | 227 => 115 | 233 => 116 | 235 => 117 | 228 => 147 | 197 => 142 | 151 => 148 | 260 => 165 | 152 => 168 | 137 => 187 | 119 => 188 | 224 => 145 | 225 => 144 | 217 => 143 | 266 => 166 | n => n, fun | 9 => 9 | 4 => 4 | 3 => 3 | 5 => 5 | 117 => 202 | 116 => 201 | 0 => 0 | 124 => 205 | 105 => 220 | 21 => 21 | 119 => 249 | 46 => 161 | 139 => 252 | 138 => 251 | n => n, fun | 3 => 1 | 4 => 2 | n => n⟩
theorem Tryz.lays161 : Go.Proofs.Lays.n161 Tryz.prog Tryz.lays161_ren := {
  mixed := by kernel_rfl
  f119 := Tryz.func188.trans (congrArg some (by kernel_rfl))
  f137 := Tryz.func187.trans (congrArg some (by kernel_rfl))
  f151 := Tryz.func148.trans (congrArg some (by kernel_rfl))
  f152 := Tryz.func168.trans (congrArg some (by kernel_rfl))
  f161 := Tryz.func85.trans (congrArg some (by kernel_rfl))
  f197 := Tryz.func142.trans (congrArg some (by kernel_rfl))
  f217 := Tryz.func143.trans (congrArg some (by kernel_rfl))
  f224 := Tryz.func145.trans (congrArg some (by kernel_rfl))
  f225 := Tryz.func144.trans (congrArg some (by kernel_rfl))
  f227 := Tryz.func115.trans (congrArg some (by kernel_rfl))
  f228 := Tryz.func147.trans (congrArg some (by kernel_rfl))
  f231 := Tryz.func114.trans (congrArg some (by kernel_rfl))
  f233 := Tryz.func116.trans (congrArg some (by kernel_rfl))
  f235 := Tryz.func117.trans (congrArg some (by kernel_rfl))
  f260 := Tryz.func165.trans (congrArg some (by kernel_rfl))
  f266 := Tryz.func166.trans (congrArg some (by kernel_rfl))
  t0 := Tryz.underlying0
  a0 := Tryz.isAgg0
  z0 := Tryz.sizeOf0
  v0 := Tryz.zeroValue0
  t3 := Tryz.underlying3
  a3 := Tryz.isAgg3
  z3 := Tryz.sizeOf3
  v3 := Tryz.zeroValue3
  t4 := Tryz.underlying4
  a4 := Tryz.isAgg4
  z4 := Tryz.sizeOf4
  v4 := Tryz.zeroValue4
  t5 := Tryz.underlying5
  a5 := Tryz.isAgg5
  z5 := Tryz.sizeOf5
  v5 := Tryz.zeroValue5
  t9 := Tryz.underlying9
  a9 := Tryz.isAgg9
  z9 := Tryz.sizeOf9
  v9 := Tryz.zeroValue9
  t21 := Tryz.underlying21
  a21 := Tryz.isAgg21
  z21 := Tryz.sizeOf21
  v21 := Tryz.zeroValue21
  t46 := Tryz.underlying161
  a46 := Tryz.isAgg161
  z46 := Tryz.sizeOf161
  v46 := Tryz.zeroValue161
  t105 := Tryz.underlying220
  a105 := Tryz.isAgg220
  z105 := Tryz.sizeOf220
  v105 := Tryz.zeroValue220
  t116 := Tryz.underlying201
  a116 := Tryz.isAgg201
  z116 := Tryz.sizeOf201
  t117 := Tryz.underlying202
  a117 := Tryz.isAgg202
  z117 := Tryz.sizeOf202
  v117 := Tryz.zeroValue202
  t119 := Tryz.underlying249
  a119 := Tryz.isAgg249
  z119 := Tryz.sizeOf249
  t124 := Tryz.underlying205
  a124 := Tryz.isAgg205
  z124 := Tryz.sizeOf205
  v124 := Tryz.zeroValue205
  t138 := Tryz.underlying251
  a138 := Tryz.isAgg251
  z138 := Tryz.sizeOf251
  v138 := Tryz.zeroValue251
  t139 := Tryz.underlying252
  a139 := Tryz.isAgg252
  z139 := Tryz.sizeOf252
  v139 := Tryz.zeroValue252
  g3 := by kernel_rfl
  g4 := by kernel_rfl }
open Go.RowKit in
/-- strings.TrimLeft: "TrimLeft returns a slice of the string s with all leading Unicode code points contained in cutset removed.": AT A cutset OF ONE ASCII BYTE. The world is as it was. (LAID: no walk: one application.) -/
theorem Tryz.strings_TrimLeft_one (s : ByteArray) (c : UInt8) (hc : c.toNat < 128) (w : World) :
    Calls Tryz.prog 85 #[.string s, .string ⟨#[c]⟩] w fun e w' => e = .returned (.string ⟨(Lib.trimLeftB s.data.toList c).toArray⟩) ∧ w' = w := Any.strings_TrimLeft_one Tryz.lays161 s c hc w
open Go.RowKit in
/-- (*strings.Builder).Len: "Len returns the number of accumulated bytes; b.Len() == len(b.String()).": the world is as it was. (THE FORM '_f': 'Lib.IsBuilderF'.) (LAID: no walk: one application.) -/
theorem Tryz.Builder_Len_f (B b : Nat) (bs : List Value) (w : World) (h : Lib.IsBuilderF 93 5 B b bs w) :
    Calls Tryz.prog 44 #[.pointer (some ⟨b, 0, none⟩)] w fun e w' => e = .returned (.int .i64 bs.length) ∧ w' = w := Any.Builder_Len_f Tryz.lays170 B b bs w h
open Go.RowKit in
/-- (*strings.Builder).String: "String returns the accumulated string.": WHATEVER THE BUILDER HOLDS; THE FORM '_k': OVER 'Lib.IsBuilderF' (a builder that 'String()' may have read), AND WITH THE FRAME THAT REACHES ABOVE THE BUILDER: 'Lib.OthersKept': every block that is not b and is no row of uint8's stands as it stood: the iterator of a range among them. (LAID: no walk: one application.) -/
theorem Tryz.Builder_String_any_k (B b : Nat) (l : List UInt8) (w : World) (h : Lib.IsBuilderF 93 5 B b (Lib.byteCells l) w) (hBw : B ≤ w.heap.size) :
    Calls Tryz.prog 49 #[.pointer (some ⟨b, 0, none⟩)] w fun e w' => e = .returned (.string ⟨l.toArray⟩) ∧ (Lib.IsBuilderF 93 5 B b (Lib.byteCells l) w' ∧ Below B w w' ∧ Lib.OthersKept 5 (some b) w w') := Any.Builder_String_any_k Tryz.lays169 Tryz.Builder_Extra_169 B b l w h hBw
def Tryz.lays242_ren : Go.Shelf.Ren := ⟨fun | 242 => 106 | 278 => 138 | n => n, fun | 37 => 59 | 21 => 21 | 51 => 191 | 4 => 4 | 5 => 5 | 46 => 161 | n => n, fun | n => n⟩
theorem Tryz.lays242 : Go.Proofs.Lays.n242 Tryz.prog Tryz.lays242_ren := {
  mixed := by kernel_rfl
  f242 := Tryz.func106.trans (congrArg some (by kernel_rfl))
  f278 := Tryz.func138.trans (congrArg some (by kernel_rfl))
  t4 := Tryz.underlying4
  a4 := Tryz.isAgg4
  z4 := Tryz.sizeOf4
  v4 := Tryz.zeroValue4
  t5 := Tryz.underlying5
  a5 := Tryz.isAgg5
  z5 := Tryz.sizeOf5
  v5 := Tryz.zeroValue5
  t21 := Tryz.underlying21
  a21 := Tryz.isAgg21
  z21 := Tryz.sizeOf21
  v21 := Tryz.zeroValue21
  t37 := Tryz.underlying59
  a37 := Tryz.isAgg59
  z37 := Tryz.sizeOf59
  v37 := Tryz.zeroValue59
  t46 := Tryz.underlying161
  a46 := Tryz.isAgg161
  z46 := Tryz.sizeOf161
  v46 := Tryz.zeroValue161
  t51 := Tryz.underlying191
  a51 := Tryz.isAgg191
  z51 := Tryz.sizeOf191
  v51 := Tryz.zeroValue191 }
def Tryz.lays145_ren : Go.Shelf.Ren := ⟨fun | 145 => 50 | 220 => 84 | 219 => 113 | 217 => 143 | 225 => 144 | 224 => 145 | 267 => 146 | 266 => 166 | 314 => 167 | n => n, fun | 9 => 9 | 4 => 4 | 59 => 102 | 3 => 3 | 5 => 5 | 46 => 161 | 146 => 192 | 51 => 191 | n => n, fun | 1 => 0 | n => n⟩
theorem Tryz.lays145 : Go.Proofs.Lays.n145 Tryz.prog Tryz.lays145_ren := {
  mixed := by kernel_rfl
  f145 := Tryz.func50.trans (congrArg some (by kernel_rfl))
  f217 := Tryz.func143.trans (congrArg some (by kernel_rfl))
  f219 := Tryz.func113.trans (congrArg some (by kernel_rfl))
  f220 := Tryz.func84.trans (congrArg some (by kernel_rfl))
  f224 := Tryz.func145.trans (congrArg some (by kernel_rfl))
  f225 := Tryz.func144.trans (congrArg some (by kernel_rfl))
  f266 := Tryz.func166.trans (congrArg some (by kernel_rfl))
  f267 := Tryz.func146.trans (congrArg some (by kernel_rfl))
  f314 := Tryz.func167.trans (congrArg some (by kernel_rfl))
  t3 := Tryz.underlying3
  a3 := Tryz.isAgg3
  z3 := Tryz.sizeOf3
  v3 := Tryz.zeroValue3
  t4 := Tryz.underlying4
  a4 := Tryz.isAgg4
  z4 := Tryz.sizeOf4
  v4 := Tryz.zeroValue4
  t5 := Tryz.underlying5
  a5 := Tryz.isAgg5
  z5 := Tryz.sizeOf5
  v5 := Tryz.zeroValue5
  t9 := Tryz.underlying9
  a9 := Tryz.isAgg9
  z9 := Tryz.sizeOf9
  v9 := Tryz.zeroValue9
  t46 := Tryz.underlying161
  a46 := Tryz.isAgg161
  z46 := Tryz.sizeOf161
  v46 := Tryz.zeroValue161
  t51 := Tryz.underlying191
  a51 := Tryz.isAgg191
  z51 := Tryz.sizeOf191
  v51 := Tryz.zeroValue191
  t59 := Tryz.underlying102
  a59 := Tryz.isAgg102
  z59 := Tryz.sizeOf102
  v59 := Tryz.zeroValue102
  t146 := Tryz.underlying192
  a146 := Tryz.isAgg192
  z146 := Tryz.sizeOf192
  v146 := Tryz.zeroValue192
  g1 := by kernel_rfl }
open Go.RowKit Go.Lib in
/-- strings.Cut: "Cut slices s around the first instance of sep, returning the text before and after sep. The found result reports whether sep appears in s. If sep does not appear in s, cut returns s, "", false.": IT RETURNS 'Lib.cut s sep'; the world is as it was but for the count of draws. (LAID: no walk: one application.) -/
theorem Tryz.strings_Cut (s sep : ByteArray) (m : Int) (w : World) (hs : s.size < 4294967281) (hm : w.cell? ⟨0, 0, none⟩ = some (.int .i64 m)) :
    Calls Tryz.prog 50 #[.string s, .string sep] w fun e w' => e = .returned (.tuple #[.string ⟨(Lib.cut s.data.toList sep.data.toList).1.toArray⟩, .string ⟨(Lib.cut s.data.toList sep.data.toList).2.1.toArray⟩, .bool (Lib.cut s.data.toList sep.data.toList).2.2]) ∧ ∃ n, w' = w.drewN n := Any.strings_Cut Tryz.lays145 s sep m w hs hm
def Tryz.lays206_ren : Go.Shelf.Ren := ⟨fun | 206 => 110 | n => n, fun | 9 => 9 | 4 => 4 | 3 => 3 | n => n, fun | n => n⟩
theorem Tryz.lays206 : Go.Proofs.Lays.n206 Tryz.prog Tryz.lays206_ren := {
  mixed := by kernel_rfl
  f206 := Tryz.func110.trans (congrArg some (by kernel_rfl))
  t3 := Tryz.underlying3
  a3 := Tryz.isAgg3
  z3 := Tryz.sizeOf3
  v3 := Tryz.zeroValue3
  t4 := Tryz.underlying4
  a4 := Tryz.isAgg4
  z4 := Tryz.sizeOf4
  v4 := Tryz.zeroValue4
  t9 := Tryz.underlying9
  a9 := Tryz.isAgg9
  z9 := Tryz.sizeOf9
  v9 := Tryz.zeroValue9 }
open Go.RowKit Go.Lib in
/-- internal/stringslite.HasPrefix (what strings.HasPrefix calls). (LAID: no walk: one application.) -/
theorem Tryz.stringslite_HasPrefix (s p : ByteArray) (w : World) :
    Calls Tryz.prog 110 #[.string s, .string p] w fun e w' => e = .returned (.bool (Lib.hasPrefix s.data.toList p.data.toList)) ∧ w' = w := Any.stringslite_HasPrefix Tryz.lays206 s p w
def Tryz.lays99_ren : Go.Shelf.Ren := ⟨fun | 99 => 81 | 206 => 110 | n => n, fun | 9 => 9 | 4 => 4 | 3 => 3 | n => n, fun | n => n⟩
theorem Tryz.lays99 : Go.Proofs.Lays.n99 Tryz.prog Tryz.lays99_ren := {
  mixed := by kernel_rfl
  f99 := Tryz.func81.trans (congrArg some (by kernel_rfl))
  f206 := Tryz.func110.trans (congrArg some (by kernel_rfl))
  t3 := Tryz.underlying3
  a3 := Tryz.isAgg3
  z3 := Tryz.sizeOf3
  v3 := Tryz.zeroValue3
  t4 := Tryz.underlying4
  a4 := Tryz.isAgg4
  z4 := Tryz.sizeOf4
  v4 := Tryz.zeroValue4
  t9 := Tryz.underlying9
  a9 := Tryz.isAgg9
  z9 := Tryz.sizeOf9
  v9 := Tryz.zeroValue9 }
open Go.RowKit Go.Lib in
/-- strings.HasPrefix: "HasPrefix reports whether the string s begins with prefix.": IT RETURNS 'Lib.hasPrefix s prefix'; the world is as it was. (LAID: no walk: one application.) -/
theorem Tryz.strings_HasPrefix (s p : ByteArray) (w : World) :
    Calls Tryz.prog 81 #[.string s, .string p] w fun e w' => e = .returned (.bool (Lib.hasPrefix s.data.toList p.data.toList)) ∧ w' = w := Any.strings_HasPrefix Tryz.lays99 s p w
def Tryz.lays155_ren : Go.Shelf.Ren := ⟨fun | 155 => 83 | 154 => 112 | 138 => 140 | 165 => 82 | 143 => 141 | 166 => 45 | 197 => 142 | 169 => 49 | 195 => 163 | 218 => 164 | 240 => 79 | 241 => 111 | 219 => 113 | 260 => 165 | 276 => 107 | 277 => 139 | 217 => 143 | 225 => 144 | 224 => 145 | 267 => 146 | 266 => 166 | 314 => 167 | n => n, fun | 9 => 9 | 3 => 3 | 4 => 4 | 72 => 93 | 0 => 0 | 76 => 97 | 105 => 220 | 21 => 21 | 5 => 5 | 70 => 91 | 20 => 20 | 37 => 59 | 75 => 96 | 127 => 167 | 164 => 189 | 46 => 161 | 119 => 249 | 139 => 252 | 138 => 251 | 146 => 192 | 51 => 191 | 80 => 71 | n => n, fun | 1 => 0 | 3 => 1 | 4 => 2 | n => n⟩
theorem Tryz.lays155 : Go.Proofs.Lays.n155 Tryz.prog Tryz.lays155_ren := {
  mixed := by kernel_rfl
  f138 := Tryz.func140.trans (congrArg some (by kernel_rfl))
  f143 := Tryz.func141.trans (congrArg some (by kernel_rfl))
  f154 := Tryz.func112.trans (congrArg some (by kernel_rfl))
  f155 := Tryz.func83.trans (congrArg some (by kernel_rfl))
  f165 := Tryz.func82.trans (congrArg some (by kernel_rfl))
  f166 := Tryz.func45.trans (congrArg some (by kernel_rfl))
  f169 := Tryz.func49.trans (congrArg some (by kernel_rfl))
  f195 := Tryz.func163.trans (congrArg some (by kernel_rfl))
  f197 := Tryz.func142.trans (congrArg some (by kernel_rfl))
  f217 := Tryz.func143.trans (congrArg some (by kernel_rfl))
  f218 := Tryz.func164.trans (congrArg some (by kernel_rfl))
  f219 := Tryz.func113.trans (congrArg some (by kernel_rfl))
  f224 := Tryz.func145.trans (congrArg some (by kernel_rfl))
  f225 := Tryz.func144.trans (congrArg some (by kernel_rfl))
  f240 := Tryz.func79.trans (congrArg some (by kernel_rfl))
  f241 := Tryz.func111.trans (congrArg some (by kernel_rfl))
  f260 := Tryz.func165.trans (congrArg some (by kernel_rfl))
  f266 := Tryz.func166.trans (congrArg some (by kernel_rfl))
  f267 := Tryz.func146.trans (congrArg some (by kernel_rfl))
  f276 := Tryz.func107.trans (congrArg some (by kernel_rfl))
  f277 := Tryz.func139.trans (congrArg some (by kernel_rfl))
  f314 := Tryz.func167.trans (congrArg some (by kernel_rfl))
  t0 := Tryz.underlying0
  a0 := Tryz.isAgg0
  z0 := Tryz.sizeOf0
  v0 := Tryz.zeroValue0
  t3 := Tryz.underlying3
  a3 := Tryz.isAgg3
  z3 := Tryz.sizeOf3
  v3 := Tryz.zeroValue3
  t4 := Tryz.underlying4
  a4 := Tryz.isAgg4
  z4 := Tryz.sizeOf4
  v4 := Tryz.zeroValue4
  t5 := Tryz.underlying5
  a5 := Tryz.isAgg5
  z5 := Tryz.sizeOf5
  v5 := Tryz.zeroValue5
  t9 := Tryz.underlying9
  a9 := Tryz.isAgg9
  z9 := Tryz.sizeOf9
  v9 := Tryz.zeroValue9
  t20 := Tryz.underlying20
  a20 := Tryz.isAgg20
  z20 := Tryz.sizeOf20
  v20 := Tryz.zeroValue20
  t21 := Tryz.underlying21
  a21 := Tryz.isAgg21
  z21 := Tryz.sizeOf21
  v21 := Tryz.zeroValue21
  t37 := Tryz.underlying59
  a37 := Tryz.isAgg59
  z37 := Tryz.sizeOf59
  v37 := Tryz.zeroValue59
  t46 := Tryz.underlying161
  a46 := Tryz.isAgg161
  z46 := Tryz.sizeOf161
  v46 := Tryz.zeroValue161
  t51 := Tryz.underlying191
  a51 := Tryz.isAgg191
  z51 := Tryz.sizeOf191
  v51 := Tryz.zeroValue191
  t70 := Tryz.underlying91
  a70 := Tryz.isAgg91
  z70 := Tryz.sizeOf91
  v70 := Tryz.zeroValue91
  t72 := Tryz.underlying93
  a72 := Tryz.isAgg93
  z72 := Tryz.sizeOf93
  v72 := Tryz.zeroValue93
  t75 := Tryz.underlying96
  a75 := Tryz.isAgg96
  z75 := Tryz.sizeOf96
  v75 := Tryz.zeroValue96
  t76 := Tryz.underlying97
  a76 := Tryz.isAgg97
  z76 := Tryz.sizeOf97
  v76 := Tryz.zeroValue97
  t105 := Tryz.underlying220
  a105 := Tryz.isAgg220
  z105 := Tryz.sizeOf220
  v105 := Tryz.zeroValue220
  t119 := Tryz.underlying249
  a119 := Tryz.isAgg249
  z119 := Tryz.sizeOf249
  t127 := Tryz.underlying167
  a127 := Tryz.isAgg167
  z127 := Tryz.sizeOf167
  v127 := Tryz.zeroValue167
  t138 := Tryz.underlying251
  a138 := Tryz.isAgg251
  z138 := Tryz.sizeOf251
  v138 := Tryz.zeroValue251
  t139 := Tryz.underlying252
  a139 := Tryz.isAgg252
  z139 := Tryz.sizeOf252
  v139 := Tryz.zeroValue252
  t146 := Tryz.underlying192
  a146 := Tryz.isAgg192
  z146 := Tryz.sizeOf192
  v146 := Tryz.zeroValue192
  t164 := Tryz.underlying189
  a164 := Tryz.isAgg189
  z164 := Tryz.sizeOf189
  v164 := Tryz.zeroValue189
  g1 := by kernel_rfl
  g3 := by kernel_rfl
  g4 := by kernel_rfl }
theorem Tryz.Builder_Extra_155 : Builder.Extra Tryz.prog Tryz.lays155_ren := {
  sizeBuilder := by kernel_rfl
  liesBuilder := by kernel_rfl
  t5 := Tryz.underlying5
  a5 := Tryz.isAgg5
  z5 := Tryz.sizeOf5
  v5 := Tryz.zeroValue5
  infoByte := by kernel_rfl
  cellsByte := by kernel_rfl
  sizeByte := by kernel_rfl
  neB5 := by decide }
open Go.RowKit Go.Lib in
/-- strings.ReplaceAll: "ReplaceAll returns a copy of the string s with all non-overlapping instances of old replaced by new.": AT AN old THAT IS NOT EMPTY: 'Lib.replaceAll s old new'. (LAID: no walk: one application.) -/
theorem Tryz.strings_ReplaceAll (s old new : ByteArray) (m : Int) (w : World) (hs : s.size < 4294967281) (hm : w.cell? ⟨0, 0, none⟩ = some (.int .i64 m)) (h1 : 1 ≤ old.size) (hlen : s.size + Lib.countB s old * new.size ≤ 140737488355328) :
    Calls Tryz.prog 83 #[.string s, .string old, .string new] w fun e w' =>
      e = .returned (.string ⟨(Lib.replaceAll s.data.toList old.data.toList new.data.toList).toArray⟩) ∧ Below w.heap.size w w' := Any.strings_ReplaceAll Tryz.lays155 Tryz.Builder_Extra_155 s old new m w hs hm h1 hlen
def Tryz.lays105_ren : Go.Shelf.Ren := ⟨fun | 105 => 46 | 212 => 80 | 99 => 81 | 165 => 82 | 166 => 45 | 170 => 44 | 169 => 49 | 263 => 108 | 264 => 109 | 206 => 110 | 240 => 79 | 241 => 111 | 276 => 107 | 277 => 139 | n => n, fun | 9 => 9 | 3 => 3 | 4 => 4 | 20 => 20 | 0 => 0 | 46 => 161 | 109 => 162 | 5 => 5 | 72 => 93 | 76 => 97 | 51 => 191 | 146 => 192 | 53 => 194 | 148 => 195 | 70 => 91 | 37 => 59 | 75 => 96 | 127 => 167 | 164 => 189 | 80 => 71 | n => n, fun | n => n⟩
theorem Tryz.lays105 : Go.Proofs.Lays.n105 Tryz.prog Tryz.lays105_ren := {
  mixed := by kernel_rfl
  f99 := Tryz.func81.trans (congrArg some (by kernel_rfl))
  f105 := Tryz.func46.trans (congrArg some (by kernel_rfl))
  f165 := Tryz.func82.trans (congrArg some (by kernel_rfl))
  f166 := Tryz.func45.trans (congrArg some (by kernel_rfl))
  f169 := Tryz.func49.trans (congrArg some (by kernel_rfl))
  f170 := Tryz.func44.trans (congrArg some (by kernel_rfl))
  f206 := Tryz.func110.trans (congrArg some (by kernel_rfl))
  f212 := Tryz.func80.trans (congrArg some (by kernel_rfl))
  f240 := Tryz.func79.trans (congrArg some (by kernel_rfl))
  f241 := Tryz.func111.trans (congrArg some (by kernel_rfl))
  f263 := Tryz.func108.trans (congrArg some (by kernel_rfl))
  f264 := Tryz.func109.trans (congrArg some (by kernel_rfl))
  f276 := Tryz.func107.trans (congrArg some (by kernel_rfl))
  f277 := Tryz.func139.trans (congrArg some (by kernel_rfl))
  t0 := Tryz.underlying0
  a0 := Tryz.isAgg0
  z0 := Tryz.sizeOf0
  v0 := Tryz.zeroValue0
  t3 := Tryz.underlying3
  a3 := Tryz.isAgg3
  z3 := Tryz.sizeOf3
  v3 := Tryz.zeroValue3
  t4 := Tryz.underlying4
  a4 := Tryz.isAgg4
  z4 := Tryz.sizeOf4
  v4 := Tryz.zeroValue4
  t5 := Tryz.underlying5
  a5 := Tryz.isAgg5
  z5 := Tryz.sizeOf5
  v5 := Tryz.zeroValue5
  t9 := Tryz.underlying9
  a9 := Tryz.isAgg9
  z9 := Tryz.sizeOf9
  v9 := Tryz.zeroValue9
  t20 := Tryz.underlying20
  a20 := Tryz.isAgg20
  z20 := Tryz.sizeOf20
  v20 := Tryz.zeroValue20
  t37 := Tryz.underlying59
  a37 := Tryz.isAgg59
  z37 := Tryz.sizeOf59
  v37 := Tryz.zeroValue59
  t46 := Tryz.underlying161
  a46 := Tryz.isAgg161
  z46 := Tryz.sizeOf161
  v46 := Tryz.zeroValue161
  t51 := Tryz.underlying191
  a51 := Tryz.isAgg191
  z51 := Tryz.sizeOf191
  v51 := Tryz.zeroValue191
  t53 := Tryz.underlying194
  a53 := Tryz.isAgg194
  z53 := Tryz.sizeOf194
  v53 := Tryz.zeroValue194
  t70 := Tryz.underlying91
  a70 := Tryz.isAgg91
  z70 := Tryz.sizeOf91
  v70 := Tryz.zeroValue91
  t72 := Tryz.underlying93
  a72 := Tryz.isAgg93
  z72 := Tryz.sizeOf93
  v72 := Tryz.zeroValue93
  t75 := Tryz.underlying96
  a75 := Tryz.isAgg96
  z75 := Tryz.sizeOf96
  v75 := Tryz.zeroValue96
  t76 := Tryz.underlying97
  a76 := Tryz.isAgg97
  z76 := Tryz.sizeOf97
  v76 := Tryz.zeroValue97
  t109 := Tryz.underlying162
  a109 := Tryz.isAgg162
  z109 := Tryz.sizeOf162
  v109 := Tryz.zeroValue162
  t127 := Tryz.underlying167
  a127 := Tryz.isAgg167
  z127 := Tryz.sizeOf167
  v127 := Tryz.zeroValue167
  t146 := Tryz.underlying192
  a146 := Tryz.isAgg192
  z146 := Tryz.sizeOf192
  v146 := Tryz.zeroValue192
  t148 := Tryz.underlying195
  a148 := Tryz.isAgg195
  z148 := Tryz.sizeOf195
  v148 := Tryz.zeroValue195
  t164 := Tryz.underlying189
  a164 := Tryz.isAgg189
  z164 := Tryz.sizeOf189
  v164 := Tryz.zeroValue189 }
theorem Tryz.Builder_Extra_105 : Builder.Extra Tryz.prog Tryz.lays105_ren := {
  sizeBuilder := by kernel_rfl
  liesBuilder := by kernel_rfl
  t5 := Tryz.underlying5
  a5 := Tryz.isAgg5
  z5 := Tryz.sizeOf5
  v5 := Tryz.zeroValue5
  infoByte := by kernel_rfl
  cellsByte := by kernel_rfl
  sizeByte := by kernel_rfl
  neB5 := by decide }
open Go.RowKit Go.Lib in
/-- **strings.Repeat: count ≥ 0, the result within one allocation: count copies of s.** (LAID: no walk: one application.) -/
theorem Tryz.strings_Repeat (s : ByteArray) (c : Nat) (w : World) (hc : c ≤ 9223372036854775807) (hlen : s.size * c ≤ 140737488355328) :
    Calls Tryz.prog 46 #[.string s, .int .i64 c] w fun e w' => e = .returned (.string ⟨(Lib.repeatL s.data.toList c).toArray⟩) ∧ Below w.heap.size w w' := Any.strings_Repeat Tryz.lays105 Tryz.Builder_Extra_105 s c w hc hlen
end
end Go.Proofs.YtnmdcdphpcpojaaGreatDoor
