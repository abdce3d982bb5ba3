/- Lines, and rows of them. No function of the program. -/
import Derived.Test.YtnmdcdphpcpojaaGreatDoorTrTell
import Derived.Test.YtnmdcdphpcpojaaGreatDoorTrField
import Derived.Lib.Replace
import Derived.Lib.IndexMore
import Derived.Lib.TrimByte
import Derived.Test.YtnmdcdphpcpojaaGreatDoorTrDoM
namespace Go.Proofs.YtnmdcdphpcpojaaGreatDoor
section
set_option linter.unusedVariables false
set_option linter.unusedSimpArgs false
open Go.RowKit

theorem run_eql_nilD (w : World) (a : Option Addr) (l c : Nat) : (binOp BinOp.eql 32 (Value.slice a l c) (Value.slice none 0 0)).run Tryz.prog w = .ok (.bool a.isNone) w := by
  simp [binOp, go_sem, run_equal_slice_nil w 32 24 a l c Tryz.underlying32]

theorem tclone_any {a : Option Addr} {n c : Nat} {L : List Dt} {w : World} (hs : PS w a n c L) (hn : n ≤ 1000000) : Calls Tryz.prog 74 #[.slice a n c] w (Gives w L) := by
  have hq := run_eql_nilD
  have hl := hs.len
  cases a with
  | none =>
    obtain ⟨rfl, rfl⟩ := hs.nil rfl
    obtain rfl : L = [] := List.eq_nil_of_length_eq_zero hl
    go_enter Tryz.func74, Tryz.ntmps74
    go_wp2
    go_ret
    exact ⟨_, rfl, World.ownsRow_nil _ _ _ _, Below.refl _ _⟩
  | some ad =>
    have hw : RowKit.Below w.heap.size w (w.alloc (.cells #[] 24)) := (Below.refl _ w).alloc (Nat.le_refl _) _
    have ho : (w.alloc (.cells #[] 24)).ownsRow w.heap.size 24 2 (.slice (some ⟨w.heap.size, 0, none⟩) 0 0) 0 [] := World.ownsRow_made w #[] 0 (Nat.le_refl _) (by unfold maxLen; omega) rfl
    have hs1 := hid (hs.below hw)
    have HL := hid hl
    clear hs hl
    go_enter Tryz.func74, Tryz.ntmps74
    go_wp2_with (first
      | (at_builtin; refine wpList_append_dots rfl _ _ 32 Tryz.underlying32 rfl w.heap.size _ 0 [] rfl ho (some ad) n c L rfl hs1.out (by omega) (by simp) ?_; intro v5 w5 ho5 hg5))
    go_ret
    refine ⟨_, rfl, ?_, hw.grown hg5 (by simp) (fun j hj => (ho.lt j hj).1)⟩
    rw [HL.out]
    simpa using ho5

/-- A row of dots of its own: new memory that is none of the tree's. -/
def RowOf (w w' : World) (A' : Nat → Prop) (L : List Dt) (e : Ending) : Prop := ∃ v, e = .returned v ∧ w'.ownsRow w.heap.size 24 2 v L.length (flat L) ∧ ∀ j, v.ownBlock = some j → ¬ A' j

theorem owns_base {w : World} {b b' n size : Nat} {ty : TypeId} {v : Value} {L : List Value} (h : w.ownsRow b ty size v n L) (hb : b' ≤ b) : w.ownsRow b' ty size v n L := by
  obtain ⟨h1, h2⟩ := h
  refine ⟨h1, ?_⟩
  rcases h2 with h2 | ⟨g', cap', cur, hv, hg, r⟩
  · exact .inl h2
  · exact .inr ⟨g', cap', cur, hv, Nat.le_trans hb hg, r⟩

theorem kidB_len {w : World} {t : Nat} {l : List Mv} {k : Nat} {gs : List Nat} {S : List Sp} {lg fd pl kd : Value} {fl : List (Mv × Nat)} {B A : Nat → Prop} (h : TR w t l k gs S lg fd pl kd fl B A) (p : Dt) : (kidB S p).length ≤ 1000 := by
  obtain ⟨r, hr⟩ := h.tk
  obtain ⟨_, _, s3⟩ := h.spots
  unfold kidB
  rw [List.length_map]
  have := kidS_len hr.nd p
  omega

set_option maxRecDepth 100000 in
set_option maxHeartbeats 4000000 in
theorem kids_tt (t : Nat) (l : List Mv) (A : Nat → Prop) (d : Dt) (w : World) (h : TT w t l A) (hd : Dw d) :
    Calls Tryz.prog 41 #[.pointer (some ⟨t, 0, none⟩), dv d] w fun e w' => ∃ A', RowOf w w' A' (kidB (run l) d) e ∧ TT w' t l A' ∧ KA w w' A A' := by
  obtain ⟨d1, d2⟩ := d
  have hmxo : Tryz.prog.follows .mixedOrders = true := by kernel_rfl
  obtain ⟨W0, hW0⟩ : ∃ W0, W0 = w.alloc (.cells #[.int .i64 d1, .int .i64 d2] 24) := ⟨_, rfl⟩
  have hB0 : Below w.heap.size w W0 := by rw [hW0]; exact (Below.refl _ w).alloc (Nat.le_refl _) _
  have hb0 : W0.heap[w.heap.size]? = some (.cells #[.int .i64 d1, .int .i64 d2] 24 (0, 0)) := by rw [hW0]; exact World.alloc_heap_new w _
  have hl0 := (Array.getElem?_eq_some_iff.1 hb0).1
  have hAH : ¬ A w.heap.size := fun e => by have := h.lt _ e; omega
  have hTT := h.below hB0
  have hT0 : TT W0.drew t l A := hTT.same (Nat.le_refl _) (fun j _ => rfl)
  have HN := (now_tt hT0).mono (R' := fun e W1 => e = .returned (.pointer (some ⟨t, 3, none⟩)) ∧ (W1.cell? ⟨w.heap.size, 0, none⟩ = some (.int .i64 d1) ∧ W1.cell? ⟨w.heap.size, 1, none⟩ = some (.int .i64 d2)) ∧ ∃ kd a n c, W1.cell? ⟨t, 4, none⟩ = some kd ∧ (Instr.lookup 114 kd (.agg #[.int .i64 d1, .int .i64 d2]) false).run Tryz.prog W1 = .ok (.slice a n c) W1 ∧ Calls Tryz.prog 74 #[.slice a n c] W1 fun e W2 => ∃ v, e = .returned v ∧ (W2.cell? ⟨w.heap.size, 0, none⟩ = some (.int .i64 d1) ∧ W2.cell? ⟨w.heap.size, 1, none⟩ = some (.int .i64 d2)) ∧ Hid (∃ A', RowOf w W2 A' (kidB (run l) (d1, d2)) (.returned v) ∧ TT W2 t l A' ∧ KA w W2 A A')) (fun e W1 hh => by
    obtain ⟨e1, gs, S, lg, fd, pl, kd, fl, B, A', h1, h2, h3, h4, h5⟩ := hh
    obtain ⟨q1, q2, q3, q4⟩ := h1.lk_run
    have c0 : W1.heap[w.heap.size]? = _ := (h5.keep w.heap.size hl0 hAH).trans hb0
    have htb := h1.tb
    unfold TB at htb
    obtain ⟨a, c, hlk, hps⟩ := h1.sb.look (p := (d1, d2)) hd
    refine ⟨e1, ⟨by simp [World.cell?, c0], by simp [World.cell?, c0]⟩, kd, a, _, c, by simp [World.cell?, htb], hlk, ?_⟩
    have hkl := kidB_len h1 (d1, d2)
    have hka := KA.pre h.lt (hB0.trans ((((Far.refl W0).drewN 1).below).mono hB0.size)) h5
    refine (tclone_any hps (by omega)).mono ?_
    rintro e W2 ⟨v, e2, ho, hb⟩
    have c2 : W2.heap[w.heap.size]? = _ := (hb.block w.heap.size (Array.getElem?_eq_some_iff.1 c0).1).trans c0
    rw [q3] at ho
    exact ⟨v, e2, ⟨by simp [World.cell?, c2], by simp [World.cell?, c2]⟩, hid ⟨A', ⟨v, rfl, owns_base ho hka.size, fun j hj e => by have := (ho.lt j hj).1; have := h1.as_ j e; omega⟩, (h1.tt h2 h3 h4).below hb, hka.post hb⟩⟩)
  have hS0 : W0.drew.cell? ⟨w.heap.size, 0, none⟩ = some (.int .i64 d1) ∧ W0.drew.cell? ⟨w.heap.size, 1, none⟩ = some (.int .i64 d2) := ⟨by show W0.cell? _ = _; simp [World.cell?, hb0], by show W0.cell? _ = _; simp [World.cell?, hb0]⟩
  have HW := hid hW0
  clear hW0 hB0 hb0 hl0 hAH hTT hT0 h
  go_enter Tryz.func41, Tryz.ntmps41
  go_wp2_with fail
  rw [← HW.out]
  refine wp_region_held_drew (S := fun w' => w'.cell? ⟨w.heap.size, 0, none⟩ = some (.int .i64 d1) ∧ w'.cell? ⟨w.heap.size, 1, none⟩ = some (.int .i64 d2)) hmxo hS0 ?_
  intro _
  refine wpAnyH_take (i := 0) (v := .pointer (some ⟨t, 0, none⟩)) rfl (by kernel_rfl) (by kernel_rfl) (by kernel_rfl) (fun _ _ _ h => h) (Or.inl ⟨by kernel_rfl, fun w hSw => ?_⟩) hS0 ?_
  · obtain ⟨e1, e2⟩ := hSw; go_simp
  simp only [Act.put, List.getElem_toArray, List.getElem_cons_succ, List.getElem_cons_zero, List.setIfInBounds_toArray, List.set_cons_zero, List.set_cons_succ]
  refine wpAnyH_take (i := 5) (v := .agg #[.int .i64 d1, .int .i64 d2]) rfl (by kernel_rfl) (by kernel_rfl) (by kernel_rfl) (fun _ _ _ h => h) (Or.inl ⟨by kernel_rfl, fun w hSw => ?_⟩) hS0 ?_
  · obtain ⟨e1, e2⟩ := hSw; go_simp
  simp only [Act.put, List.getElem_toArray, List.getElem_cons_succ, List.getElem_cons_zero, List.setIfInBounds_toArray, List.set_cons_zero, List.set_cons_succ]
  refine wpAnyH_ready (rs := [1]) (by kernel_rfl) (by simp) ?_
  refine AllReadyH.cons rfl (fun K hK => ?_) AllReadyH.nil
  go_simp
  refine HN.mono ?_
  rintro e W1 ⟨rfl, S1, kd, a, n, c, ck, hlk, HC⟩
  refine hK.out _ _ S1 (fun _ => ?_)
  clear hK K
  refine wpAnyH_take (i := 2) (v := .pointer (some ⟨t, 3, none⟩)) rfl (by kernel_rfl) (by kernel_rfl) (by kernel_rfl) (fun _ _ _ h => h) (Or.inl ⟨by kernel_rfl, fun w hSw => ?_⟩) S1 ?_
  · obtain ⟨e1, e2⟩ := hSw; go_simp
  simp only [Act.put, List.getElem_toArray, List.getElem_cons_succ, List.getElem_cons_zero, List.setIfInBounds_toArray, List.set_cons_zero, List.set_cons_succ]
  refine wpAnyH_take (i := 3) (v := .pointer (some ⟨t, 4, none⟩)) rfl (by kernel_rfl) (by kernel_rfl) (by kernel_rfl) (fun _ _ _ h => h) (Or.inl ⟨by kernel_rfl, fun w hSw => ?_⟩) S1 ?_
  · obtain ⟨e1, e2⟩ := hSw; go_simp
  simp only [Act.put, List.getElem_toArray, List.getElem_cons_succ, List.getElem_cons_zero, List.setIfInBounds_toArray, List.set_cons_zero, List.set_cons_succ]
  refine wpAnyH_ready (rs := [4]) (by kernel_rfl) (by simp) ?_
  refine AllReadyH.cons rfl (fun K hK => ?_) AllReadyH.nil
  go_simp
  refine hK.out _ _ S1 (fun _ => ?_)
  clear hK K
  refine wpAnyH_ready (rs := [6]) (by kernel_rfl) (by simp) ?_
  refine AllReadyH.cons rfl (fun K hK => ?_) AllReadyH.nil
  go_simp
  refine hK.out _ _ S1 (fun _ => ?_)
  clear hK K
  refine wpAnyH_ready (rs := [7]) (by kernel_rfl) (by simp) ?_
  refine AllReadyH.cons rfl (fun K hK => ?_) AllReadyH.nil
  go_simp
  refine HC.mono ?_
  rintro e W2 ⟨v, rfl, S2, HF⟩
  refine hK.out _ _ S2 (fun _ => ?_)
  clear hK K
  refine wpAnyH_take (i := 8) (v := v) rfl (by kernel_rfl) (by kernel_rfl) (by kernel_rfl) (fun _ _ _ h => h) (Or.inl ⟨by kernel_rfl, fun w hSw => ?_⟩) S2 ?_
  · obtain ⟨e1, e2⟩ := hSw; go_simp
  simp only [Act.put, List.getElem_toArray, List.getElem_cons_succ, List.getElem_cons_zero, List.setIfInBounds_toArray, List.set_cons_zero, List.set_cons_succ]
  refine wpAnyH_done (by kernel_rfl) ?_ _
  go_wp2
  go_ret
  exact HF.out
end

section
set_option linter.unusedVariables false
open Go.Lib

theorem index_same (c : UInt8) (l : List UInt8) : index (c :: l) [c] = 0 := by unfold index; simp

theorem index_else {b c : UInt8} (l : List UInt8) (h : b ≠ c) : index (b :: l) [c] = if index l [c] == -1 then -1 else index l [c] + 1 := by
  conv => lhs; unfold index
  rw [if_neg (by simp; exact fun e => h e.symm)]

theorem replaceK_else {b c : UInt8} (new : List UInt8) (h : b ≠ c) (l : List UInt8) : ∀ k, replaceK [c] new k (b :: l) = b :: replaceK [c] new k l
  | 0 => rfl
  | k + 1 => by
    have hge := index_ge l [c]
    unfold replaceK
    rw [index_else l h]
    by_cases hm : index l [c] = -1
    · simp [hm]
    · have h1 : (index l [c] == -1) = false := by simpa using hm
      rw [h1]
      simp only [Bool.false_eq_true, if_false]
      rw [if_neg (by simp; omega)]
      have e : (index l [c] + 1).toNat = (index l [c]).toNat + 1 := by omega
      rw [e]
      simp

/-- One byte replaced, wherever it stands. -/
theorem replaceK_one (c : UInt8) (new : List UInt8) : ∀ (s : List UInt8) (k : Nat), s.count c ≤ k → replaceK [c] new k s = s.flatMap (fun b => if b = c then new else [b])
  | [], k, _ => by
    cases k with
    | zero => rfl
    | succ k => unfold replaceK; simp [index]
  | b :: l, k, hk => by
    by_cases h : b = c
    · subst h
      rw [List.count_cons_self] at hk
      cases k with
      | zero => omega
      | succ k =>
        rw [replaceK_hit [b] new k (b :: l) 0 (index_same b l)]
        simp only [List.take_zero, List.nil_append, List.length_singleton, Nat.zero_add, List.drop_succ_cons, List.drop_zero]
        rw [replaceK_one b new l k (by omega), List.flatMap_cons, if_pos rfl]
    · rw [List.count_cons_of_ne h] at hk
      rw [replaceK_else new h l k, replaceK_one c new l k hk, List.flatMap_cons, if_neg h]
      rfl

theorem rall_one (c : UInt8) (new : List UInt8) (h : new ≠ [c]) (s : List UInt8) : replaceAll s [c] new = s.flatMap (fun b => if b = c then new else [b]) := by
  unfold replaceAll replace
  rw [if_neg (by simp; exact fun e => h e.symm)]
  have hn : replaceNum s [c] (-1) = s.count c := by
    unfold replaceNum
    rw [if_pos (Or.inl (by decide)), count_one]
  rw [hn]
  exact replaceK_one c new s _ (Nat.le_refl _)

/-- A text without line ends in it. -/
def esc (t : List UInt8) : List UInt8 := t.flatMap (fun b => if b = 92 then [92, 92] else if b = 10 then [92, 110] else [b])

theorem esc_two (t : List UInt8) : replaceAll (replaceAll t [92] [92, 92]) [10] [92, 110] = esc t := by
  rw [rall_one 92 [92, 92] (by decide), rall_one 10 [92, 110] (by decide)]
  unfold esc
  induction t with
  | nil => rfl
  | cons b t ih =>
    rw [List.flatMap_cons, List.flatMap_append, ih, List.flatMap_cons]
    congr 1
    by_cases h : b = 92
    · subst h; decide
    · rw [if_neg h, if_neg h]
      simp

theorem esc_cons (b : UInt8) (t : List UInt8) : esc (b :: t) = (if b = 92 then [92, 92] else if b = 10 then [92, 110] else [b]) ++ esc t := by
  unfold esc
  rw [List.flatMap_cons]

theorem esc_no10 (t : List UInt8) : (10 : UInt8) ∉ esc t := by
  induction t with
  | nil => simp [esc]
  | cons b t ih =>
    rw [esc_cons, List.mem_append]
    rintro (h | h)
    · by_cases h1 : b = 92
      · rw [if_pos h1] at h; revert h; decide
      · rw [if_neg h1] at h
        by_cases h2 : b = 10
        · rw [if_pos h2] at h; revert h; decide
        · rw [if_neg h2] at h
          exact h2 (List.mem_singleton.1 h).symm
    · exact ih h

/-- The text that is shown so; none: there is none. -/
def unesc : List UInt8 → Option (List UInt8)
  | [] => some []
  | [b] => if b = 92 then none else some [b]
  | b :: d :: r => if b = 92 then (if d = 92 then (unesc r).map (92 :: ·) else if d = 110 then (unesc r).map (10 :: ·) else none) else (unesc (d :: r)).map (b :: ·)

theorem unesc_else {b : UInt8} (h : b ≠ 92) (r : List UInt8) : unesc (b :: r) = (unesc r).map (b :: ·) := by
  cases r with
  | nil => simp [unesc, h]
  | cons d r => simp [unesc, h]

theorem unesc_esc : ∀ t : List UInt8, unesc (esc t) = some t
  | [] => rfl
  | b :: t => by
    rw [esc_cons]
    by_cases h1 : b = 92
    · subst h1
      rw [if_pos rfl]
      show unesc (92 :: 92 :: esc t) = _
      simp [unesc, unesc_esc t]
    · rw [if_neg h1]
      by_cases h2 : b = 10
      · subst h2
        rw [if_pos rfl]
        show unesc (92 :: 110 :: esc t) = _
        simp [unesc, unesc_esc t]
      · rw [if_neg h2]
        show unesc (b :: esc t) = _
        rw [unesc_else h1, unesc_esc t]
        rfl

theorem esc_unesc : ∀ (n : Nat) (s t : List UInt8), s.length ≤ n → unesc s = some t → (10 : UInt8) ∉ s → esc t = s := by
  intro n
  induction n with
  | zero =>
    intro s t hn h _
    have : s = [] := List.eq_nil_of_length_eq_zero (by omega)
    subst this
    simp [unesc] at h
    subst h
    rfl
  | succ n ih =>
    intro s t hn h h10
    match s with
    | [] =>
      simp [unesc] at h
      subst h
      rfl
    | b :: r =>
      by_cases hb : b = 92
      · subst hb
        match r with
        | [] => simp [unesc] at h
        | d :: r =>
          by_cases hd : d = 92
          · subst hd
            simp only [unesc, if_true] at h
            obtain ⟨t', ht, rfl⟩ := Option.map_eq_some_iff.1 h
            rw [esc_cons, if_pos rfl, ih r t' (by simp at hn; omega) ht (fun e => h10 (by simp [e]))]
            rfl
          · by_cases hd2 : d = 110
            · subst hd2
              simp only [unesc, if_true] at h
              rw [if_neg (by decide)] at h
              obtain ⟨t', ht, rfl⟩ := Option.map_eq_some_iff.1 h
              rw [esc_cons, if_neg (by decide), if_pos rfl, ih r t' (by simp at hn; omega) ht (fun e => h10 (by simp [e]))]
              rfl
            · simp [unesc, hd, hd2] at h
      · rw [unesc_else hb] at h
        obtain ⟨t', ht, rfl⟩ := Option.map_eq_some_iff.1 h
        have hb10 : b ≠ 10 := fun e => h10 (by simp [e])
        rw [esc_cons, if_neg hb, if_neg hb10, ih r t' (by simp at hn; omega) ht (fun e => h10 (by simp [e]))]
        rfl

/-- Cut at a byte. -/
theorem index_mid (c : UInt8) (q : List UInt8) : ∀ p : List UInt8, c ∉ p → index (p ++ c :: q) [c] = (p.length : Int)
  | [], _ => index_same c q
  | b :: p, h => by
    have hb : b ≠ c := fun e => h (by simp [e])
    have ih := index_mid c q p (fun e => h (by simp [e]))
    rw [List.cons_append, index_else _ hb, ih, if_neg (by simp), List.length_cons]
    omega

theorem index_no (c : UInt8) : ∀ p : List UInt8, c ∉ p → index p [c] = -1
  | [], _ => rfl
  | b :: p, h => by
    have hb : b ≠ c := fun e => h (by simp [e])
    rw [index_else _ hb, index_no c p (fun e => h (by simp [e]))]
    rfl

theorem cut_no {c : UInt8} {s : List UInt8} (h : c ∉ s) : cut s [c] = (s, [], false) := by
  unfold cut
  rw [index_no c s h, if_neg (by decide)]

theorem cut_mid {c : UInt8} {p : List UInt8} (h : c ∉ p) (q : List UInt8) : cut (p ++ c :: q) [c] = (p, q, true) := by
  unfold cut
  rw [index_mid c q p h, if_pos (by omega)]
  have e : ((p.length : Int)).toNat = p.length := by omega
  rw [e]
  simp

/-- Each text has a first line end, or none. -/
theorem cut_cases (c : UInt8) : ∀ s : List UInt8, c ∉ s ∨ ∃ p q, s = p ++ c :: q ∧ c ∉ p
  | [] => Or.inl (by simp)
  | b :: s => by
    by_cases h : b = c
    · exact Or.inr ⟨[], s, by rw [h]; rfl, by simp⟩
    · rcases cut_cases c s with h1 | ⟨p, q, h1, h2⟩
      · exact Or.inl (fun e => by rcases List.mem_cons.1 e with e | e; exact h e.symm; exact h1 e)
      · exact Or.inr ⟨b :: p, q, by rw [h1]; rfl, fun e => by rcases List.mem_cons.1 e with e | e; exact h e.symm; exact h2 e⟩

/-- A line as it is shown, without its end. -/
def lnB (d : Nat) (t : List UInt8) : List UInt8 := List.replicate (2 * d) 32 ++ 45 :: 32 :: esc t

/-- A line that is read. -/
def rline (s : List UInt8) : Option (Nat × List UInt8) :=
  if (s.length - (trimLeftB s 32).length) % 2 = 0 ∧ hasPrefix (trimLeftB s 32) [45, 32] = true then (unesc ((trimLeftB s 32).drop 2)).map (fun t => ((s.length - (trimLeftB s 32).length) / 2, t)) else none

theorem trim_rep (b : UInt8) (hb : b ≠ 32) (x : List UInt8) : ∀ n, trimLeftB (List.replicate n 32 ++ b :: x) 32 = b :: x
  | 0 => by unfold trimLeftB; simp [hb]
  | n + 1 => by
    have := trim_rep b hb x n
    unfold trimLeftB at this ⊢
    rw [List.replicate_succ, List.cons_append, List.dropWhile_cons]
    simpa using this

theorem rline_ln (d : Nat) (t : List UInt8) : rline (lnB d t) = some (d, t) := by
  unfold rline lnB
  rw [trim_rep 45 (by decide)]
  have e : (List.replicate (2 * d) (32 : UInt8) ++ 45 :: 32 :: esc t).length - ((45 : UInt8) :: 32 :: esc t).length = 2 * d := by simp
  rw [e, if_pos ⟨by omega, by simp [hasPrefix]⟩]
  show (unesc (esc t)).map _ = _
  rw [unesc_esc]
  simp

theorem ln_no10 (d : Nat) (t : List UInt8) : (10 : UInt8) ∉ lnB d t := by
  unfold lnB
  rw [List.mem_append]
  rintro (h | h)
  · exact absurd (List.eq_of_mem_replicate h) (by decide)
  · rcases List.mem_cons.1 h with h | h
    · exact absurd h (by decide)
    · rcases List.mem_cons.1 h with h | h
      · exact absurd h (by decide)
      · exact esc_no10 t h

theorem trim_split : ∀ s : List UInt8, s = List.replicate (s.length - (trimLeftB s 32).length) 32 ++ trimLeftB s 32 ∧ (trimLeftB s 32).length ≤ s.length
  | [] => by simp [trimLeftB]
  | b :: s => by
    by_cases h : b = 32
    · subst h
      obtain ⟨h1, h2⟩ := trim_split s
      have e : trimLeftB (32 :: s) 32 = trimLeftB s 32 := by unfold trimLeftB; simp
      rw [e]
      refine ⟨?_, by simp; omega⟩
      have e2 : (32 :: s).length - (trimLeftB s 32).length = (s.length - (trimLeftB s 32).length) + 1 := by simp; omega
      rw [e2, List.replicate_succ, List.cons_append, ← h1]
    · have e : trimLeftB (b :: s) 32 = b :: s := by unfold trimLeftB; simp [h]
      rw [e]
      simp

theorem ln_rline {s : List UInt8} {d : Nat} {t : List UInt8} (h : rline s = some (d, t)) (h10 : (10 : UInt8) ∉ s) : lnB d t = s := by
  unfold rline at h
  obtain ⟨h1, h2⟩ := trim_split s
  split at h
  · rename_i hc
    obtain ⟨t', ht, e⟩ := Option.map_eq_some_iff.1 h
    cases e
    obtain ⟨m, hm⟩ : ∃ m, m = trimLeftB s 32 := ⟨_, rfl⟩
    rw [← hm] at h1 h2 hc ht ⊢
    have hpre : ∃ x, m = 45 :: 32 :: x := by
      have := hc.2
      unfold hasPrefix at this
      match m, this with
      | a :: b :: x, this =>
        simp at this
        obtain ⟨e1, e2⟩ := this
        exact ⟨x, by rw [← e1, ← e2]⟩
      | [a], this => simp at this
      | [], this => simp at this
    obtain ⟨x, rfl⟩ := hpre
    have hx10 : (10 : UInt8) ∉ x := fun e => h10 (by rw [h1]; simp [e])
    have hx := esc_unesc x.length x t (Nat.le_refl _) ht hx10
    unfold lnB
    rw [hx, show 2 * ((s.length - (45 :: 32 :: x).length) / 2) = s.length - (45 :: 32 :: x).length by have := hc.1; omega]
    exact h1.symm
  · cases h

/-- Lines as a text. -/
def shL (l : List (Nat × List UInt8)) : List UInt8 := l.flatMap (fun x => lnB x.1 x.2 ++ [10])

/-- A text that is read, line by line; each at most so deep. -/
def rdL : Nat → Nat → List UInt8 → Option (List (Nat × List UInt8))
  | 0, _, _ => some []
  | f + 1, deep, s => if s = [] then some [] else if (cut s [10]).2.2 = true then (match rline (cut s [10]).1 with
    | none => none
    | some x => if deep < x.1 then none else (rdL f (x.1 + 1) (cut s [10]).2.1).map (x :: ·)) else none

/-- Depths that may stand one behind the other. -/
def Dp : Nat → List (Nat × List UInt8) → Prop
  | _, [] => True
  | deep, x :: r => x.1 ≤ deep ∧ Dp (x.1 + 1) r

theorem rd_show : ∀ (l : List (Nat × List UInt8)) (f deep : Nat), l.length < f → Dp deep l → rdL f deep (shL l) = some l
  | [], f + 1, deep, _, _ => by simp [rdL, shL]
  | x :: r, f + 1, deep, hf, hd => by
    have e : shL (x :: r) = lnB x.1 x.2 ++ 10 :: shL r := by unfold shL; rw [List.flatMap_cons]; simp
    unfold rdL
    rw [e, cut_mid (ln_no10 x.1 x.2), if_neg (by simp)]
    simp only [if_true, rline_ln]
    rw [if_neg (by have := hd.1; omega), rd_show r f (x.1 + 1) (by simp at hf; omega) hd.2]
    rfl
  | _, 0, _, hf, _ => by omega

theorem show_rd : ∀ (f deep : Nat) (s : List UInt8) (l : List (Nat × List UInt8)), s.length < f → rdL f deep s = some l → shL l = s ∧ Dp deep l
  | 0, _, s, _, hf, _ => by omega
  | f + 1, deep, s, l, hf, h => by
    unfold rdL at h
    by_cases hs : s = []
    · rw [if_pos hs] at h
      cases h
      exact ⟨by rw [hs]; rfl, trivial⟩
    · rw [if_neg hs] at h
      rcases cut_cases 10 s with hn | ⟨p, q, rfl, hp⟩
      · rw [cut_no hn, if_neg (by simp)] at h
        cases h
      · rw [cut_mid hp] at h
        simp only [if_true] at h
        cases hr : rline p with
        | none => rw [hr] at h; cases h
        | some x =>
          rw [hr] at h
          simp only at h
          by_cases hx : deep < x.1
          · rw [if_pos hx] at h; cases h
          · rw [if_neg hx] at h
            obtain ⟨l', hl, rfl⟩ := Option.map_eq_some_iff.1 h
            obtain ⟨h1, h2⟩ := show_rd f (x.1 + 1) q l' (by simp at hf; omega) hl
            refine ⟨?_, by omega, h2⟩
            have e : shL (x :: l') = lnB x.1 x.2 ++ 10 :: shL l' := by unfold shL; rw [List.flatMap_cons]; simp
            rw [e, h1, ln_rline (d := x.1) (t := x.2) hr hp]
end

section
set_option linter.unusedVariables false
set_option linter.unusedSimpArgs false
open Go.RowKit

/-- A line. -/
structure Ln where
  b : Dt
  d : Int
  t : List UInt8

def Ln.cells (x : Ln) : List Value := [.int .i64 x.b.1, .int .i64 x.b.2, .int .i64 x.d, .string ⟨x.t.toArray⟩]

structure LnS (w : World) (a : Option Addr) (n c : Nat) (L : List Ln) : Prop where
  len : L.length = n
  cap : n ≤ c
  max : c ≤ maxLen
  nil : a = none → n = 0 ∧ c = 0
  at_ : 0 < n → ∃ g o, a = some ⟨g, o, none⟩ ∧ g < w.heap.size ∧ ∀ i (hi : i < L.length) (j : Nat) (u : Value), (L[i]).cells[j]? = some u → w.cell? ⟨g, o + i * 4 + j, none⟩ = some u

theorem LnS.same {w w' : World} {a : Option Addr} {n c : Nat} {L : List Ln} (h : LnS w a n c L) (hz : w.heap.size ≤ w'.heap.size) (hb : ∀ ad, a = some ad → w'.heap[ad.block]? = w.heap[ad.block]?) : LnS w' a n c L :=
  ⟨h.len, h.cap, h.max, h.nil, fun hp => by
    obtain ⟨g, o, e, hg, hx⟩ := h.at_ hp
    refine ⟨g, o, e, Nat.lt_of_lt_of_le hg hz, fun i hi j u hj => ?_⟩
    have := hx i hi j u hj
    simp only [World.cell?] at this ⊢
    rw [hb _ e]
    exact this⟩

theorem Tryz.infoLn : (Tryz.prog.info? 54).map (fun i => (i.zero, i.size, i.bytes)) = some (some (.agg #[.int .i64 0, .int .i64 0, .int .i64 0, .string ⟨#[]⟩]), 4, 40) := by kernel_rfl

/-- The cells of a row of characters. -/
def flLn (T : List Ln) : List Value := T.flatMap (fun c => c.cells)

theorem lnc_len (c : Ln) : c.cells.length = 4 := rfl

theorem flLn_length (T : List Ln) : (flLn T).length = T.length * 4 := by
  unfold flLn
  induction T with
  | nil => rfl
  | cons c r ih => rw [List.flatMap_cons, List.length_append, ih, lnc_len, List.length_cons]; omega

theorem flLn_append (T U : List Ln) : flLn (T ++ U) = flLn T ++ flLn U := by unfold flLn; rw [List.flatMap_append]

theorem flLn_get : ∀ (T : List Ln) (i : Nat) (hi : i < T.length) (j : Nat), j < 4 → (flLn T)[i * 4 + j]? = (T[i]).cells[j]?
  | [], i, hi, _, _ => by simp at hi
  | c :: r, 0, _, j, hj => by
    unfold flLn
    rw [List.flatMap_cons, Nat.zero_mul, Nat.zero_add, List.getElem?_append_left (by rw [lnc_len]; exact hj)]
    rfl
  | c :: r, i + 1, hi, j, hj => by
    have ih := flLn_get r i (by simpa using hi) j hj
    unfold flLn at ih ⊢
    rw [List.flatMap_cons, List.getElem?_append_right (by rw [lnc_len]; omega), lnc_len, show (i + 1) * 4 + j - 4 = i * 4 + j by omega, ih]
    rfl

theorem flLn_one (T : List Ln) : ∀ u ∈ flLn T, u.oneCell' = true := by
  intro u hu
  unfold flLn at hu
  obtain ⟨c, _, hc⟩ := List.mem_flatMap.1 hu
  simp [Ln.cells] at hc
  rcases hc with rfl | rfl | rfl | rfl <;> rfl

theorem own_lns {w : World} {base n : Nat} {v : Value} {T : List Ln} (h : w.ownsRow base 54 4 v n (flLn T)) : ∃ a c, v = .slice a n c ∧ LnS w a n c T := by
  have hl : T.length = n := by have := h.1; rw [flLn_length] at this; omega
  rcases h.2 with ⟨rfl, h0⟩ | ⟨g, cap, cur, rfl, hB, hg, hn, hc, hcs, ht⟩
  · subst h0
    exact ⟨none, 0, rfl, hl, Nat.le_refl _, Nat.zero_le _, fun _ => ⟨rfl, rfl⟩, fun hp => absurd hp (by omega)⟩
  · refine ⟨_, _, rfl, hl, hn, hc, (fun e => by cases e), (fun hp => ⟨g, 0, rfl, (Array.getElem?_eq_some_iff.1 hg).1, fun i hi j u hj => ?_⟩)⟩
    have hj4 : j < 4 := by have := (List.getElem?_eq_some_iff.1 hj).1; rwa [lnc_len] at this
    have := h.cells (g := g) rfl (i * 4 + j) u (by rw [flLn_get T i hi j hj4]; exact hj)
    have e : (⟨g, 0, none⟩ : Addr).add (i * 4 + j) = ⟨g, 0 + i * 4 + j, none⟩ := by
      unfold Addr.add
      split
      · rename_i h0
        simp only [Addr.mk.injEq, true_and, and_true]
        omega
      · simp only [Addr.mk.injEq, true_and, and_true]
        omega
    rw [e] at this
    exact this

theorem LnS.allcells {w : World} {a : Option Addr} {n c : Nat} {T : List Ln} (h : LnS w a n c T) {g o : Nat} (ha : a = some ⟨g, o, none⟩) (hp : 0 < n) : ∀ j u, (flLn T)[j]? = some u → w.cell? ((⟨g, o, none⟩ : Addr).add j) = some u := by
  intro j u hj
  obtain ⟨g', o', e, hg, hx⟩ := h.at_ hp
  rw [ha] at e
  cases e
  have hjl := (List.getElem?_eq_some_iff.1 hj).1
  rw [flLn_length] at hjl
  have hd := Nat.div_add_mod j 4
  have hm := Nat.mod_lt j (show 0 < 4 by omega)
  have hi : j / 4 < T.length := by omega
  have e1 : j = j / 4 * 4 + j % 4 := by omega
  have e2 := flLn_get T (j / 4) hi (j % 4) hm
  rw [← e1, hj] at e2
  have e3 := hx (j / 4) hi (j % 4) u e2.symm
  have e : (⟨g, o, none⟩ : Addr).add j = ⟨g, o + j / 4 * 4 + j % 4, none⟩ := by
    unfold Addr.add
    split
    · rename_i h0
      simp only [Addr.mk.injEq, true_and, and_true]
      omega
    · simp only [Addr.mk.injEq, true_and, and_true]
      omega
  rw [e]
  exact e3

/-- append of a row of moves to a row of one's own. -/
theorem wpList_append_lns {w : World} {ops : Array Oper} {rest : List Oper} {o : Oper} {a : Act} {Q : Exit → Act → World → Prop} (hgd : o.guard = none) (s x : Operand) (t : TypeId) (ht : Tryz.prog.underlying t = some (.slice 54))
    (ho : o.op = .call { callee := .builtin .append, args := #[s, x], argTypes := #[t, t] }) (base : Nat) (v : Value) (n : Nat) (U : List Ln) (hs : a.eval s = v) (hown : w.ownsRow base 54 4 v n (flLn U))
    (ao : Option Addr) (m c : Nat) (T : List Ln) (hx : a.eval x = .slice ao m c) (hT : LnS w ao m c T) (hb : n + m ≤ 2000000) (hbase : base ≤ w.heap.size)
    (h : ∀ v' w', w'.ownsRow base 54 4 v' (n + m) (flLn (U ++ T)) → w.grownBy w' v.ownBlock → wpList Tryz.prog ops Q rest (a.put o.dst v') w') : wpList Tryz.prog ops Q (o :: rest) a w := by
  obtain ⟨i0, hi, hz0, hz1, hz2⟩ := info_parts Tryz.infoLn
  have hl := hT.len
  rcases Nat.eq_zero_or_pos m with hm | hm
  · subst hm
    have e : T = [] := List.eq_nil_of_length_eq_zero hl
    subst e
    cases ao with
    | none =>
      obtain ⟨_, rfl⟩ := hT.nil rfl
      refine wpList_append_own_none hgd s x t ho base 54 i0 4 ht hi v n _ hs hown hx ?_
      exact h v w (by rw [List.append_nil]; exact hown) (World.grownBy.refl _ _)
    | some ad =>
      exact wpList_append_own w hgd s x t ho base 54 i0 _ 4 40 ht hi hz0 hz1 hz2 rfl (by decide) v n (flLn U) hs hown ad 0 c [] hx (by simp) (fun j u hj => by simp at hj) (by simp) (by unfold maxLen; omega) (by omega) hbase
        (fun v' w' h1 h2 _ => h v' w' (by simpa using h1) h2)
  · obtain ⟨g, o', e, hg, hc⟩ := hT.at_ hm
    subst e
    exact wpList_append_own w hgd s x t ho base 54 i0 _ 4 40 ht hi hz0 hz1 hz2 rfl (by decide) v n (flLn U) hs hown ⟨g, o', none⟩ m c (flLn T) hx (by rw [flLn_length, hl]) (hT.allcells rfl hm) (flLn_one T) (by unfold maxLen; omega) (by omega) hbase
      (fun v' w' h1 h2 _ => h v' w' (by rw [flLn_append]; exact h1) h2)
end
end Go.Proofs.YtnmdcdphpcpojaaGreatDoor
