/- Below and Missing, and the reference's: what they tell. -/
import Derived.Test.YtlncokkpdkddlaaGreatVRJoin
import Derived.Maps.AppendAt
import Derived.WalkMore
namespace Go.Proofs.YtlncokkpdkddlaaGreat
section
open Go.RowKit
open Go.Sort (grow)

theorem run_eql_nil (w : World) (a : Option Addr) (l c : Nat) : (binOp BinOp.eql 34 (Value.slice a l c) (Value.slice none 0 0)).run Tryz.prog w = .ok (.bool a.isNone) w := by
  simp [binOp, go_sem, run_equal_slice_nil w 34 32 a l c Tryz.underlying34]

set_option maxHeartbeats 400000 in
theorem clone_any {a : Option Addr} {n c : Nat} {L : List Dt} {w : World} (hs : PS w a n c L) (hn : n ≤ 1000000) : Calls Tryz.prog 42 #[.slice a n c] w (Gives w L) := by
  have hq := run_eql_nil
  have hl := hs.len
  cases a with
  | none =>
    obtain ⟨rfl, rfl⟩ := hs.nil rfl
    obtain rfl : L = [] := List.eq_nil_of_length_eq_zero hl
    go_enter Tryz.func42, Tryz.ntmps42
    go_wp2
    go_ret
    exact ⟨_, rfl, World.ownsRow_nil _ _ _ _, Below.refl _ _⟩
  | some ad =>
    have hw : RowKit.Below w.heap.size w (w.alloc (.cells #[] 32)) := (Below.refl _ w).alloc (Nat.le_refl _) _
    have ho : (w.alloc (.cells #[] 32)).ownsRow w.heap.size 32 2 (.slice (some ⟨w.heap.size, 0, none⟩) 0 0) 0 [] := World.ownsRow_made w #[] 0 (Nat.le_refl _) (by unfold maxLen; omega) rfl
    have hs1 := hid (hs.below hw)
    have HL := hid hl
    clear hs hl
    go_enter Tryz.func42, Tryz.ntmps42
    go_wp2_with (first
      | (at_builtin; refine wpList_append_dots rfl _ _ 34 Tryz.underlying34 rfl w.heap.size _ 0 [] rfl ho (some ad) n c L rfl hs1.out (by omega) (by simp) ?_; intro v5 w5 ho5 hg5))
    go_ret
    refine ⟨_, rfl, ?_, hw.grown hg5 (by simp) (fun j hj => (ho.lt j hj).1)⟩
    rw [HL.out]
    simpa using ho5

set_option maxHeartbeats 1000000 in
theorem rwith_any {a : Option Addr} {n c : Nat} {A : List Dt} {w : World} (d : Dt) (hs : PS w a n c A) (hn : n ≤ 1000000) (hA : VM A) : Calls Tryz.prog 26 #[.slice a n c, dv d] w (Ans w (vwith A d)) := by
  obtain ⟨d1, d2⟩ := d
  have b0 : RowKit.Below w.heap.size w (w.alloc (.cells #[.int .i64 d1, .int .i64 d2] 32)) := (Below.refl _ w).alloc (Nat.le_refl _) _
  have hM := rmay_any (d1, d2) (w.alloc (.cells #[.int .i64 d1, .int .i64 d2] 32))
  have k0 : (w.alloc (.cells #[.int .i64 d1, .int .i64 d2] 32)).cell? ⟨w.heap.size, 0, none⟩ = some (.int .i64 d1) := by go_simp
  have k1 : (w.alloc (.cells #[.int .i64 d1, .int .i64 d2] 32)).cell? ⟨w.heap.size, 1, none⟩ = some (.int .i64 d2) := by go_simp
  have hk : w.heap.size < (w.alloc (.cells #[.int .i64 d1, .int .i64 d2] 32)).heap.size := by simp
  by_cases hd : mayd (d1, d2) = true
  · have hv : Hid (vwith A (d1, d2) = vjoin A [(d1, d2)]) := hid (by unfold vwith; rw [if_pos hd])
    have hone := hid (vm_one hd)
    rw [hd] at hM
    go_enter Tryz.func26, Tryz.ntmps26
    go_wp2_with (first
      | (go_at_call 50; have hq := f0; refine (rjoin_any (A := A) (B := [(d1, d2)]) (hsW.below ((Below.refl _ w1).alloc (Nat.le_refl _) _)) hn (ps_one w1 (d1, d2)) (by omega) hA hone.out).mono ?_; rintro e w2 h2; obtain ⟨a2, c2, rfl, hp2, hb2⟩ := h2.ans)
      | (go_at_call 49; refine hM.mono ?_; rintro e w1 ⟨rfl, hF1⟩; have f0 := (hF1.below.cell (p := ⟨w.heap.size, 0, none⟩) hk).trans k0; have f1 := (hF1.below.cell (p := ⟨w.heap.size, 1, none⟩) hk).trans k1; have hbw := below2 b0 hF1.below; have hsW := hs.below hbw))
    go_ret
    rw [hv.out]
    have hbb : RowKit.Below w.heap.size w w2 := below2 hbw (below2 ((Below.refl _ w1).alloc (Nat.le_refl _) _) hb2)
    exact ⟨a2, c2, rfl, hp2, hbb⟩
  · have hv : Hid (vwith A (d1, d2) = A) := hid (by unfold vwith; rw [if_neg hd])
    have hd' : mayd (d1, d2) = false := by simpa using hd
    rw [hd'] at hM
    have HS := hid hs
    clear hs
    go_enter Tryz.func26, Tryz.ntmps26
    go_wp2_with (first
      | (go_at_call 49; refine hM.mono ?_; rintro e w1 ⟨rfl, hF1⟩; have hbw := below2 b0 hF1.below))
    go_ret
    rw [hv.out]
    exact ⟨a, c, by rw [HS.out.len]; rfl, by rw [HS.out.len]; exact HS.out.below hbw, hbw⟩

theorem made_snoc {l : List Dt} {k : Nat} (h : k < l.length) (hk : k < 50) : made (l.take (k + 1)) = vwith (made (l.take k)) l[k] := by
  unfold made
  rw [List.take_take, List.take_take, Nat.min_eq_right (by omega), Nat.min_eq_right (by omega), take_snoc h, List.foldl_append]
  rfl

theorem made_end {l : List Dt} {k : Nat} (h : k = l.length ∨ k = 50) : made (l.take k) = made l := by
  unfold made
  rw [List.take_take]
  rcases h with rfl | rfl
  · rw [show l.take (min 50 l.length) = l.take 50 by rw [List.take_eq_take_iff]; omega]
  · simp

end

section
open Go.RowKit
open Go.Sort (grow)

theorem belv_snoc (l : List Dt) (d : Dt) (B : List Dt) : belv (l ++ [d]) B = (belv l B && decide (d.2 ≤ gt B d.1)) := by simp [belv]
theorem belv_take {A B : List Dt} (k : Nat) (h : belv (A.take k) B = false) : belv A B = false := by
  cases hb : belv A B with
  | false => rfl
  | true =>
    unfold belv at *
    rw [List.all_eq_true] at hb
    have : (A.take k).all (fun d => decide (d.2 ≤ gt B d.1)) = true := List.all_eq_true.2 fun d hd => hb d (List.mem_of_mem_take hd)
    rw [h] at this
    cases this

set_option maxHeartbeats 1000000 in
theorem below_any {a : Option Addr} {n c : Nat} {A : List Dt} {a' : Option Addr} {n' c' : Nat} {B : List Dt} {w : World} (hs : PS w a n c A) (hn : n ≤ 1000000) (hs' : PS w a' n' c' B) (hn' : n' ≤ 1000000) (hA : VM A) (hB : VM B) :
    Tells 41 #[.slice a n c, .slice a' n' c'] w (.bool (belv A B)) := by
  have HL := hid hs.len
  have HV := hid (And.intro hA hB)
  have HS := hid hs'
  clear hA hB hs'
  go_enter Tryz.func41, Tryz.ntmps41
  go_wp2
  go_loopw [9] (fun i wr => ∃ k : Nat, k ≤ n ∧ i = .int .i64 k ∧ Hid (belv (A.take k) B = true) ∧ Far w wr) (fun i _ => n - (intOf i).toNat)
  case atStart => exact ⟨0, by omega, rfl, hid rfl, Far.refl _⟩
  case round =>
    obtain ⟨k, hk, rfl, hb, hW⟩ := hrel
    by_cases hlt : k < n
    · have hl := HL.out
      obtain ⟨g, o, rfl, hg, hcell⟩ := (hs.far hW).at (by omega)
      obtain ⟨hc0, hc1⟩ := hcell k (by omega)
      have hts : Hid _ := hid (take_snoc (L := A) (k := k) (by omega))
      have hmd := HV.out.1.may (A[k]'(by omega)) (List.getElem_mem _)
      generalize (A[k]'(by omega)) = d at hc0 hc1 hts hmd
      obtain ⟨d1, d2⟩ := d
      have hsn : Hid (belv (A.take (k + 1)) B = decide (d2 ≤ gt B d1)) := hid (by rw [hts.out, belv_snoc, hb.out]; rfl)
      have hW1 := hW.alloc (.cells #[.int .i64 d1, .int .i64 d2] 32)
      have hH := has_any a' n' c' B (d1, d2) _ (HS.out.far hW1) (Nat.le_trans hn' (by decide)) HV.out.2.ac
      have hhv : hasv B (d1, d2) = decide (d2 ≤ gt B d1) := by unfold hasv; rw [hmd]; rfl
      rw [hhv] at hH
      generalize decide (d2 ≤ gt B d1) = r at hH hsn
      clear hs hcell hl hhv hmd
      cases r
      · go_wp2_with (first | (go_at_call 39; refine hH.mono ?_; rintro e w2 ⟨rfl, hF2⟩))
        go_ret
        exact ⟨by rw [belv_take (k + 1) hsn.out]; rfl, hW1.trans hF2⟩
      · go_wp2_with (first | (go_at_call 39; refine hH.mono ?_; rintro e w2 ⟨rfl, hF2⟩))
        go_roundw
        case rel => exact ⟨k + 1, by omega, by go_num, hsn, hW1.trans hF2⟩
        case measure => simp [intOf]; omega
    · obtain rfl : k = n := by omega
      go_wp2
      go_ret
      have h := hb.out
      rw [List.take_of_length_le (by rw [HL.out]; exact Nat.le_refl _)] at h
      exact ⟨by rw [h]; rfl, hW⟩

set_option maxRecDepth 100000 in
set_option maxHeartbeats 1000000 in
theorem rbelow_any {a : Option Addr} {n c : Nat} {A : List Dt} {a' : Option Addr} {n' c' : Nat} {B : List Dt} {w : World} (hs : PS w a n c A) (hn : n ≤ 1000000) (hs' : PS w a' n' c' B) (hn' : n' ≤ 1000000) :
    Tells 31 #[.slice a n c, .slice a' n' c'] w (.bool (belv A B)) := by
  have mixed := mixed
  have HL := hid hs.len
  have HS := hid hs'
  clear hs'
  go_enter Tryz.func31, Tryz.ntmps31
  go_wp2
  go_loopw [5] (fun i wr => ∃ k : Nat, k ≤ n ∧ i = .int .i64 k ∧ Hid (belv (A.take k) B = true) ∧ Far w wr) (fun i _ => n - (intOf i).toNat)
  case atStart => exact ⟨0, by omega, rfl, hid rfl, Far.refl _⟩
  case round =>
    obtain ⟨k, hk, rfl, hb, hW⟩ := hrel
    by_cases hlt : k < n
    · have hl := HL.out
      obtain ⟨g, o, rfl, hg, hcell⟩ := (hs.far hW).at (by omega)
      obtain ⟨hc0, hc1⟩ := hcell k (by omega)
      have hts : Hid _ := hid (take_snoc (L := A) (k := k) (by omega))
      generalize (A[k]'(by omega)) = d at hc0 hc1 hts
      obtain ⟨d1, d2⟩ := d
      have hsn : Hid (belv (A.take (k + 1)) B = decide (d2 ≤ gt B d1)) := hid (by rw [hts.out, belv_snoc, hb.out]; rfl)
      have hG := fun m os => tells_q (rget_far (y := d1) (HS.out.far (hW.more m os)) (Nat.le_trans hn' (by decide)))
      have C0 := fun m os => cell_grown (cell_in hc0) hc0 m os
      have C1 := fun m os => cell_grown (cell_in hc1) hc1 m os
      have hk1 : (k : Int) < (n : Int) := by omega
      have hk0 : (0 : Int) ≤ (k : Int) := by omega
      generalize gt B d1 = z at hG hsn
      clear hs hcell hl hc0 hc1
      by_cases hz : z < d2
      · go_wp2_with fail
        refine wp_region_quiet_grown mixed (by kernel_rfl) ?_
        repeat (go_big_quiet_step ((first | (go_at_call 52; exact hG _ _))))
        refine wpQuiet_nil ?_
        intro _ hw'
        obtain ⟨⟨nq, osq⟩, hw''⟩ := hw'
        subst hw''
        simp only []
        go_wp2
        go_ret
        exact ⟨by rw [belv_take (k + 1) (by rw [hsn.out]; simp; omega)]; rfl, hW.more nq osq⟩
      · go_wp2_with fail
        refine wp_region_quiet_grown mixed (by kernel_rfl) ?_
        repeat (go_big_quiet_step ((first | (go_at_call 52; exact hG _ _))))
        refine wpQuiet_nil ?_
        intro _ hw'
        obtain ⟨⟨nq, osq⟩, hw''⟩ := hw'
        subst hw''
        simp only []
        go_wp2
        go_roundw
        case rel => exact ⟨k + 1, by omega, by go_num, hid (by rw [hsn.out]; simp; omega), hW.more nq osq⟩
        case measure => simp [intOf]; omega
    · obtain rfl : k = n := by omega
      go_wp2
      go_ret
      have h := hb.out
      rw [List.take_of_length_le (by rw [HL.out]; exact Nat.le_refl _)] at h
      exact ⟨by rw [h]; rfl, hW⟩

/-- What is missing of one actor. -/
def ms1 (B : List Dt) (d : Dt) : List Dt := (List.range (d.2 - gt B d.1).toNat).map fun (j : Nat) => (d.1, gt B d.1 + 1 + (j : Int))

/-- What is missing. -/
def mss (A B : List Dt) : List Dt := A.flatMap (ms1 B)

theorem mss_snoc (l : List Dt) (d : Dt) (B : List Dt) : mss (l ++ [d]) B = mss l B ++ ms1 B d := by simp [mss]

theorem ms1_take {B : List Dt} {d : Dt} {j : Nat} (h : j < (d.2 - gt B d.1).toNat) : (ms1 B d).take (j + 1) = (ms1 B d).take j ++ [(d.1, gt B d.1 + 1 + (j : Int))] := by
  have hl : j < (ms1 B d).length := by simp [ms1, h]
  rw [List.take_succ_eq_append_getElem hl]
  simp [ms1]

theorem ms1_all {B : List Dt} {d : Dt} {j : Nat} (h : (d.2 - gt B d.1).toNat ≤ j) : (ms1 B d).take j = ms1 B d := List.take_of_length_le (by rw [show (ms1 B d).length = (d.2 - gt B d.1).toNat by simp [ms1]]; exact h)

theorem mss_append (l m B : List Dt) : mss (l ++ m) B = mss l B ++ mss m B := by simp [mss]
theorem mss_cons (d : Dt) (l B : List Dt) : mss (d :: l) B = ms1 B d ++ mss l B := by simp [mss]

theorem mss_split {A B : List Dt} {k : Nat} (h : k < A.length) (j : Nat) : ∃ r, mss A B = (mss (A.take k) B ++ (ms1 B A[k]).take j) ++ r := by
  refine ⟨(ms1 B A[k]).drop j ++ mss (A.drop (k + 1)) B, ?_⟩
  have e : A.take k ++ (A[k] :: A.drop (k + 1)) = A := by rw [← List.drop_eq_getElem_cons h, List.take_append_drop]
  have e2 : mss A B = mss (A.take k) B ++ (ms1 B A[k] ++ mss (A.drop (k + 1)) B) := by
    rw [← mss_cons, ← mss_append, e]
  have e3 : (ms1 B A[k]).take j ++ (ms1 B A[k]).drop j = ms1 B A[k] := List.take_append_drop j _
  rw [e2, List.append_assoc, ← List.append_assoc ((ms1 B A[k]).take j), e3]

/-- A row that is full. -/
theorem take_full {R r : List Dt} {m : Int} (h1 : m ≤ (R.length : Int)) (h2 : R.length ≤ m.toNat) : (R ++ r).take m.toNat = R := by
  have : m.toNat = R.length := by omega
  rw [this, List.take_left]

theorem cell_kept {w w' : World} {p : Addr} {v : Value} {row : Option Nat} (h : w.cell? p = some v) (hg : w.grownBy w' row) (hne : some p.block ≠ row) : w'.cell? p = some v := by
  rw [World.cell?_of_block (w := w) (hg.block p.block (cell_in h) hne)]
  exact h

theorem wpList_append_dot_at {y z : Int} {w : World} {ops : Array Oper} {rest : List Oper} {o : Oper} {a : Act} {Q : Exit → Act → World → Prop} (hgd : o.guard = none) (s x : Operand)
    (ho : o.op = .call { callee := .builtin .append, args := #[s, x], argTypes := #[33, 33] }) (base : Nat) (v : Value) (n : Nat) (xs : List Value) (hs : a.eval s = v) (w0 : World) (hw : w = w0.alloc (.cells #[.int .i64 y, .int .i64 z] 32)) (hown : w0.ownsRow base 32 2 v n xs)
    (hx : a.eval x = .slice (some ⟨w0.heap.size, 0, none⟩) 1 1) (hb : n ≤ 4000000) (hbase : base ≤ w0.heap.size)
    (h : ∀ v' w', w'.ownsRow base 32 2 v' (n + 1) (xs ++ flat [(y, z)]) → w.grownBy w' v.ownBlock → (v'.ownBlock = v.ownBlock ∨ v'.ownBlock = some w.heap.size) → wpList Tryz.prog ops Q rest (a.put o.dst v') w') : wpList Tryz.prog ops Q (o :: rest) a w := by
  obtain ⟨i0, hi, hz0, hz1, hz2⟩ := info_parts Tryz.info32
  subst hw
  exact wpList_append_own_at _ hgd s x 33 ho base 32 i0 _ 2 16 Tryz.underlying33 hi hz0 hz1 hz2 rfl (by decide) v n xs hs (hown.alloc _) ⟨w0.heap.size, 0, none⟩ 1 1 (flat [(y, z)]) hx rfl (cell_two_new w0 _ _ 32) (flat_one _) (by unfold maxLen; omega) (by omega) (by simp; omega)
      (fun v' w' h1 h2 _ h4 => h v' w' h1 h2 h4)

/-- Of two rows, one behind the other, the first so many. -/
theorem take_room {R S : List Dt} {m : Nat} (h : R.length < m) (x : Dt) (hx : R = S.take m) : R ++ [x] = (S ++ [x]).take m := by
  have hS : S.take m = S := List.take_of_length_le (by
    rcases Nat.lt_or_ge m S.length with h' | h'
    · rw [hx, List.length_take] at h
      omega
    · exact h')
  rw [hS] at hx
  subst hx
  rw [List.take_of_length_le (by simp; omega)]

theorem take_no_room {R S r : List Dt} {m : Int} (h : ¬ ((R.length : Int) < m)) (hx : R = S.take m.toNat) : R = (S ++ r).take m.toNat := by
  have hl : R.length = m.toNat := by
    have : R.length ≤ m.toNat := by rw [hx, List.length_take]; omega
    omega
  have hS : m.toNat ≤ S.length := by
    rw [hx, List.length_take] at hl
    omega
  rw [List.take_append_of_le_length hS]
  exact hx

end
end Go.Proofs.YtlncokkpdkddlaaGreat
