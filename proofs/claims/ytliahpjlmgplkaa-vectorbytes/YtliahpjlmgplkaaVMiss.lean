/- Below and Missing, and the reference's: what they tell. -/
import Derived.Test.YtliahpjlmgplkaaVWith
import Derived.Maps.AppendAt
import Derived.WalkMore
namespace Go.Proofs.Ytliahpjlmgplkaa
open Go.RowKit
open Go.Sort (grow)

theorem belv_snoc (l : List Dt) (d : Dt) (B : List Dt) : belv (l ++ [d]) B = (belv l B && decide (d.2 ≤ gt B d.1)) := by simp [belv]
theorem belv_take {A B : List Dt} (k : Nat) (h : belv (A.take k) B = false) : belv A B = false := by
  cases hb : belv A B with
  | false => rfl
  | true =>
    unfold belv at *
    rw [List.all_eq_true] at hb
    have : (A.take k).all (fun d => decide (d.2 ≤ gt B d.1)) = true := List.all_eq_true.2 fun d hd => hb d (List.mem_of_mem_take hd)
    rw [h] at this
    cases this

set_option maxHeartbeats 1000000 in
theorem below_any {a : Option Addr} {n c : Nat} {A : List Dt} {a' : Option Addr} {n' c' : Nat} {B : List Dt} {w : World} (hs : PS w a n c A) (hn : n ≤ 1000000) (hs' : PS w a' n' c' B) (hn' : n' ≤ 1000000) (hA : VM A) (hB : VM B) :
    Tells 25 #[.slice a n c, .slice a' n' c'] w (.bool (belv A B)) := by
  have HL := hid hs.len
  have HV := hid (And.intro hA hB)
  have HS := hid hs'
  clear hA hB hs'
  go_enter Try.func25, Try.ntmps25
  go_wp2
  go_loopw [9] (fun i wr => ∃ k : Nat, k ≤ n ∧ i = .int .i64 k ∧ Hid (belv (A.take k) B = true) ∧ Far w wr) (fun i _ => n - (intOf i).toNat)
  case atStart => exact ⟨0, by omega, rfl, hid rfl, Far.refl _⟩
  case round =>
    obtain ⟨k, hk, rfl, hb, hW⟩ := hrel
    by_cases hlt : k < n
    · have hl := HL.out
      obtain ⟨g, o, rfl, hg, hcell⟩ := (hs.far hW).at (by omega)
      obtain ⟨hc0, hc1⟩ := hcell k (by omega)
      have hts : Hid _ := hid (take_snoc (L := A) (k := k) (by omega))
      have hmd := HV.out.1.may (A[k]'(by omega)) (List.getElem_mem _)
      generalize (A[k]'(by omega)) = d at hc0 hc1 hts hmd
      obtain ⟨d1, d2⟩ := d
      have hsn : Hid (belv (A.take (k + 1)) B = decide (d2 ≤ gt B d1)) := hid (by rw [hts.out, belv_snoc, hb.out]; rfl)
      have hW1 := hW.alloc (.cells #[.int .i64 d1, .int .i64 d2] 24)
      have hH := has_any a' n' c' B (d1, d2) _ (HS.out.far hW1) hn' HV.out.2.ac
      have hhv : hasv B (d1, d2) = decide (d2 ≤ gt B d1) := by unfold hasv; rw [hmd]; rfl
      rw [hhv] at hH
      generalize decide (d2 ≤ gt B d1) = r at hH hsn
      clear hs hcell hl hhv hmd
      cases r
      · go_wp2_with (first | (go_at_call 15; refine hH.mono ?_; rintro e w2 ⟨rfl, hF2⟩))
        go_ret
        exact ⟨by rw [belv_take (k + 1) hsn.out]; rfl, hW1.trans hF2⟩
      · go_wp2_with (first | (go_at_call 15; refine hH.mono ?_; rintro e w2 ⟨rfl, hF2⟩))
        go_roundw
        case rel => exact ⟨k + 1, by omega, by go_num, hsn, hW1.trans hF2⟩
        case measure => simp [intOf]; omega
    · obtain rfl : k = n := by omega
      go_wp2
      go_ret
      have h := hb.out
      rw [List.take_of_length_le (by rw [HL.out]; exact Nat.le_refl _)] at h
      exact ⟨by rw [h]; rfl, hW⟩

set_option maxRecDepth 100000 in
set_option maxHeartbeats 1000000 in
theorem rbelow_any {a : Option Addr} {n c : Nat} {A : List Dt} {a' : Option Addr} {n' c' : Nat} {B : List Dt} {w : World} (hs : PS w a n c A) (hn : n ≤ 1000000) (hs' : PS w a' n' c' B) (hn' : n' ≤ 1000000) :
    Tells 26 #[.slice a n c, .slice a' n' c'] w (.bool (belv A B)) := by
  have mixed := mixed
  have HL := hid hs.len
  have HS := hid hs'
  clear hs'
  go_enter Try.func26, Try.ntmps26
  go_wp2
  go_loopw [5] (fun i wr => ∃ k : Nat, k ≤ n ∧ i = .int .i64 k ∧ Hid (belv (A.take k) B = true) ∧ Far w wr) (fun i _ => n - (intOf i).toNat)
  case atStart => exact ⟨0, by omega, rfl, hid rfl, Far.refl _⟩
  case round =>
    obtain ⟨k, hk, rfl, hb, hW⟩ := hrel
    by_cases hlt : k < n
    · have hl := HL.out
      obtain ⟨g, o, rfl, hg, hcell⟩ := (hs.far hW).at (by omega)
      obtain ⟨hc0, hc1⟩ := hcell k (by omega)
      have hts : Hid _ := hid (take_snoc (L := A) (k := k) (by omega))
      generalize (A[k]'(by omega)) = d at hc0 hc1 hts
      obtain ⟨d1, d2⟩ := d
      have hsn : Hid (belv (A.take (k + 1)) B = decide (d2 ≤ gt B d1)) := hid (by rw [hts.out, belv_snoc, hb.out]; rfl)
      have hG := fun m os => tells_q (rget_far (y := d1) (HS.out.far (hW.more m os)) hn')
      have C0 := fun m os => cell_grown (cell_in hc0) hc0 m os
      have C1 := fun m os => cell_grown (cell_in hc1) hc1 m os
      have hk1 : (k : Int) < (n : Int) := by omega
      have hk0 : (0 : Int) ≤ (k : Int) := by omega
      generalize gt B d1 = z at hG hsn
      clear hs hcell hl hc0 hc1
      by_cases hz : z < d2
      · go_wp2_with fail
        refine wp_region_quiet_grown mixed (by kernel_rfl) ?_
        repeat (go_big_quiet_step ((first | (go_at_call 14; exact hG _ _))))
        refine wpQuiet_nil ?_
        intro _ hw'
        obtain ⟨⟨nq, osq⟩, hw''⟩ := hw'
        subst hw''
        simp only []
        go_wp2
        go_ret
        exact ⟨by rw [belv_take (k + 1) (by rw [hsn.out]; simp; omega)]; rfl, hW.more nq osq⟩
      · go_wp2_with fail
        refine wp_region_quiet_grown mixed (by kernel_rfl) ?_
        repeat (go_big_quiet_step ((first | (go_at_call 14; exact hG _ _))))
        refine wpQuiet_nil ?_
        intro _ hw'
        obtain ⟨⟨nq, osq⟩, hw''⟩ := hw'
        subst hw''
        simp only []
        go_wp2
        go_roundw
        case rel => exact ⟨k + 1, by omega, by go_num, hid (by rw [hsn.out]; simp; omega), hW.more nq osq⟩
        case measure => simp [intOf]; omega
    · obtain rfl : k = n := by omega
      go_wp2
      go_ret
      have h := hb.out
      rw [List.take_of_length_le (by rw [HL.out]; exact Nat.le_refl _)] at h
      exact ⟨by rw [h]; rfl, hW⟩

/-- What is missing of one actor. -/
def ms1 (B : List Dt) (d : Dt) : List Dt := (List.range (d.2 - gt B d.1).toNat).map fun (j : Nat) => (d.1, gt B d.1 + 1 + (j : Int))

/-- What is missing. -/
def mss (A B : List Dt) : List Dt := A.flatMap (ms1 B)

theorem mss_snoc (l : List Dt) (d : Dt) (B : List Dt) : mss (l ++ [d]) B = mss l B ++ ms1 B d := by simp [mss]

theorem ms1_take {B : List Dt} {d : Dt} {j : Nat} (h : j < (d.2 - gt B d.1).toNat) : (ms1 B d).take (j + 1) = (ms1 B d).take j ++ [(d.1, gt B d.1 + 1 + (j : Int))] := by
  have hl : j < (ms1 B d).length := by simp [ms1, h]
  rw [List.take_succ_eq_append_getElem hl]
  simp [ms1]

theorem ms1_all {B : List Dt} {d : Dt} {j : Nat} (h : (d.2 - gt B d.1).toNat ≤ j) : (ms1 B d).take j = ms1 B d := List.take_of_length_le (by rw [show (ms1 B d).length = (d.2 - gt B d.1).toNat by simp [ms1]]; exact h)

theorem mss_append (l m B : List Dt) : mss (l ++ m) B = mss l B ++ mss m B := by simp [mss]
theorem mss_cons (d : Dt) (l B : List Dt) : mss (d :: l) B = ms1 B d ++ mss l B := by simp [mss]

theorem mss_split {A B : List Dt} {k : Nat} (h : k < A.length) (j : Nat) : ∃ r, mss A B = (mss (A.take k) B ++ (ms1 B A[k]).take j) ++ r := by
  refine ⟨(ms1 B A[k]).drop j ++ mss (A.drop (k + 1)) B, ?_⟩
  have e : A.take k ++ (A[k] :: A.drop (k + 1)) = A := by rw [← List.drop_eq_getElem_cons h, List.take_append_drop]
  have e2 : mss A B = mss (A.take k) B ++ (ms1 B A[k] ++ mss (A.drop (k + 1)) B) := by
    rw [← mss_cons, ← mss_append, e]
  have e3 : (ms1 B A[k]).take j ++ (ms1 B A[k]).drop j = ms1 B A[k] := List.take_append_drop j _
  rw [e2, List.append_assoc, ← List.append_assoc ((ms1 B A[k]).take j), e3]

/-- A row that is full. -/
theorem take_full {R r : List Dt} {m : Int} (h1 : m ≤ (R.length : Int)) (h2 : R.length ≤ m.toNat) : (R ++ r).take m.toNat = R := by
  have : m.toNat = R.length := by omega
  rw [this, List.take_left]

theorem cell_kept {w w' : World} {p : Addr} {v : Value} {row : Option Nat} (h : w.cell? p = some v) (hg : w.grownBy w' row) (hne : some p.block ≠ row) : w'.cell? p = some v := by
  rw [World.cell?_of_block (w := w) (hg.block p.block (cell_in h) hne)]
  exact h

theorem wpList_append_dot_at {y z : Int} {w : World} {ops : Array Oper} {rest : List Oper} {o : Oper} {a : Act} {Q : Exit → Act → World → Prop} (hgd : o.guard = none) (s x : Operand)
    (ho : o.op = .call { callee := .builtin .append, args := #[s, x], argTypes := #[22, 22] }) (base : Nat) (v : Value) (n : Nat) (xs : List Value) (hs : a.eval s = v) (w0 : World) (hw : w = w0.alloc (.cells #[.int .i64 y, .int .i64 z] 24)) (hown : w0.ownsRow base 24 2 v n xs)
    (hx : a.eval x = .slice (some ⟨w0.heap.size, 0, none⟩) 1 1) (hb : n ≤ 4000000) (hbase : base ≤ w0.heap.size)
    (h : ∀ v' w', w'.ownsRow base 24 2 v' (n + 1) (xs ++ flat [(y, z)]) → w.grownBy w' v.ownBlock → (v'.ownBlock = v.ownBlock ∨ v'.ownBlock = some w.heap.size) → wpList Try.prog ops Q rest (a.put o.dst v') w') : wpList Try.prog ops Q (o :: rest) a w := by
  obtain ⟨i0, hi, hz0, hz1, hz2⟩ := info_parts Try.info24
  subst hw
  exact wpList_append_own_at _ hgd s x 22 ho base 24 i0 _ 2 16 Try.underlying22 hi hz0 hz1 hz2 rfl (by decide) v n xs hs (hown.alloc _) ⟨w0.heap.size, 0, none⟩ 1 1 (flat [(y, z)]) hx rfl (cell_two_new w0 _ _ 24) (flat_one _) (by unfold maxLen; omega) (by omega) (by simp; omega)
      (fun v' w' h1 h2 _ h4 => h v' w' h1 h2 h4)

set_option maxRecDepth 100000 in
set_option maxHeartbeats 4000000 in
theorem missing_any {a : Option Addr} {n c : Nat} {A : List Dt} {a' : Option Addr} {n' c' : Nat} {B : List Dt} {m : Int} {w : World} (hs : PS w a n c A) (hn : n ≤ 1000000) (hs' : PS w a' n' c' B) (hn' : n' ≤ 1000000) (hA : VM A) (hB : VM B) (hm : m ≤ 1000000) :
    Calls Try.prog 29 #[.slice a n c, .slice a' n' c', .int .i64 m] w (Gives w ((mss A B).take m.toNat)) := by
  have HL := hid hs.len
  have HV := hid (And.intro hA hB)
  have HS := hid (And.intro hs hs')
  have m1 := vmay_any a n c A w hs hn
  rw [(vmb_iff A).2 hA] at m1
  have m2 := fun W (hW : Far w W) => vmay_any a' n' c' B W (hs'.far hW) hn'
  rw [(vmb_iff B).2 hB] at m2
  clear hA hB hs hs'
  go_enter Try.func29, Try.ntmps29
  go_wp2_with fail
  go_step3
  go_wp2_with (first
    | (go_at_call 11; have hq := hF1; refine (m2 _ hF1).mono ?_; rintro e w2 ⟨rfl, hF2⟩)
    | (go_at_call 11; refine m1.mono ?_; rintro e w1 ⟨rfl, hF1⟩))
  have hF := hid (hF1.trans hF2)
  clear m1 m2 hF1 hF2
  go_step3
  go_wp2
  go_loopw [21, 7] (fun s i7 wr => ∃ (k : Nat) (R : List Dt), k ≤ n ∧ s = .int .i64 k ∧ R.length ≤ m.toNat ∧ Hid (R = mss (A.take k) B) ∧ Hid (wr.ownsRow w.heap.size 24 2 i7 R.length (flat R)) ∧ Hid (RowKit.Below w.heap.size w wr)) (fun s _ _ => n - (intOf s).toNat)
  case atStart => exact ⟨0, [], by omega, rfl, by simp, hid (by simp [mss]), hid (World.ownsRow_nil _ _ _ _), hid hF.out.below⟩
  case round =>
    obtain ⟨k, R, hk, rfl, hRm, hR, hO, hbl⟩ := hrel
    have hl := HL.out
    by_cases hlt : k < n
    · obtain ⟨g, o, rfl, hg, hcell⟩ := (HS.out.1.below hbl.out).at (by omega)
      obtain ⟨hc0, hc1⟩ := hcell k (by omega)
      have hts : Hid _ := hid (take_snoc (L := A) (k := k) (by omega))
      have hsp : Hid _ := hid (fun j => mss_split (A := A) (B := B) (k := k) (by omega) j)
      have hmd := (mayd_iff _).1 (HV.out.1.may (A[k]'(by omega)) (List.getElem_mem _))
      generalize (A[k]'(by omega)) = d at hc0 hc1 hts hsp hmd
      have hgb := HV.out.2.gt_bounds d.1
      have hG := get_any a' n' c' B d.1 _ ((HS.out.2.below hbl.out).far ((Far.refl wr).alloc (.cells #[.int .i64 d.1, .int .i64 d.2] 24))) hn' HV.out.2.ac
      have t1 : Hid (∀ j : Nat, j < (d.2 - gt B d.1).toNat → (ms1 B d).take (j + 1) = (ms1 B d).take j ++ [(d.1, gt B d.1 + 1 + (j : Int))]) := hid (fun j h => ms1_take h)
      have t2 : Hid (∀ j : Nat, (d.2 - gt B d.1).toNat ≤ j → (ms1 B d).take j = ms1 B d) := hid (fun j h => ms1_all h)
      generalize gt B d.1 = z at hgb hG t1 t2
      obtain ⟨d1, d2⟩ := d
      simp only at hc0 hc1 hmd hG t1 t2
      have hq0 : (wr.alloc (.cells #[.int .i64 d1, .int .i64 d2] 24)).cell? ⟨wr.heap.size, 0, none⟩ = some (.int .i64 d1) := by go_simp
      have hq1 : (wr.alloc (.cells #[.int .i64 d1, .int .i64 d2] 24)).cell? ⟨wr.heap.size, 1, none⟩ = some (.int .i64 d2) := by go_simp
      have hfr : Far wr (wr.alloc (.cells #[.int .i64 d1, .int .i64 d2] 24)) := (Far.refl wr).alloc _
      have hon := hid (fun j hj => (hO.out.lt j hj).2)
      obtain ⟨hmd1, hmd2, hmd3, hmd4⟩ := hmd
      obtain ⟨hz0, hz1⟩ := hgb
      clear hcell hl
      go_wp2_with (first | (go_at_call 13; refine hG.mono ?_; rintro e w3 ⟨rfl, hF3⟩; have r0 := (hF3.below.cell (p := ⟨wr.heap.size, 0, none⟩) (cell_in hq0)).trans hq0; have r1 := (hF3.below.cell (p := ⟨wr.heap.size, 1, none⟩) (cell_in hq1)).trans hq1))
      have hF4 := hfr.trans hF3
      have hO3 := hid (own_far hO.out hF4)
      have hB3 := hid (hbl.out.trans (hF4.below.mono hbl.out.size))
      clear hc0 hc1 hq0 hq1 hfr hF3 hF4 hG
      generalize wr.heap.size = q at r0 r1 hon ⊢
      have hr0 := hid r0
      have hr1 := hid r1
      clear r0 r1
      go_loopw [10, 7] (fun s i7 wi => ∃ (j : Nat) (R' : List Dt), j ≤ (d2 - z).toNat ∧ s = .int .i64 (z + 1 + (j : Int)) ∧ R'.length ≤ m.toNat ∧ Hid (R' = mss (A.take k) B ++ (ms1 B (d1, d2)).take j) ∧ Hid (wi.ownsRow w.heap.size 24 2 i7 R'.length (flat R')) ∧ Hid (RowKit.Below w.heap.size w wi) ∧ Hid (wi.cell? ⟨q, 0, none⟩ = some (.int .i64 d1)) ∧ Hid (wi.cell? ⟨q, 1, none⟩ = some (.int .i64 d2)) ∧ Hid (i7.ownBlock ≠ some q)) (fun s _ _ => (d2 + 1 - intOf s).toNat)
      case atStart => exact ⟨0, R, by omega, by simp, hRm, hid (by rw [hR.out]; simp), hO3, hB3, hr0, hr1, hid (fun e => by have := hon.out q e; omega)⟩
      case round =>
        obtain ⟨j, R', hj, rfl, hRm', hR', hO', hbl', hx0, hx1, hnq⟩ := hrel
        have c0 := hx0.out
        have c1 := hx1.out
        have hRb : R'.length ≤ 1000000 := by omega
        obtain ⟨a7, c7, rfl, hp7⟩ := owned_ps hO'.out rfl
        have HP7 := hid hp7
        clear hp7
        by_cases hle : z + 1 + (j : Int) ≤ d2
        · by_cases hfull : m ≤ (R'.length : Int)
          · go_wp2_with fail
            try rw [Exit.noGoto_ret]
            go_ret
            obtain ⟨r, hr⟩ := hsp.out j
            rw [hr, ← hR'.out, take_full hfull hRm']
            exact ⟨_, rfl, hO'.out, hbl'.out⟩
          · have hsz := hbl'.out.size
            have hsz' := cell_in c0
            simp only at hsz'
            have hnb := hid hsz'
            clear hsz'
            go_wp2_with (first
              | (at_builtin; refine wpList_append_dot_at (y := d1) (z := z + 1 + (j : Int)) rfl _ _ rfl w.heap.size _ R'.length (flat R') rfl wr rfl hO'.out rfl (by omega) hsz ?_; intro v5 w5 ho5 hg5 hat5))
            go_roundw
            case rel =>
              refine ⟨j + 1, R' ++ [(d1, z + 1 + (j : Int))], by omega, by go_num, by rw [List.length_append, List.length_singleton]; omega, hid ?_, hid ?_, hid ?_, hid ?_, hid ?_, hid ?_⟩
              · rw [t1.out j (by omega), hR'.out, List.append_assoc]
              · rw [List.length_append, List.length_singleton, flat_append]; exact ho5
              · exact (hbl'.out.alloc hbl'.out.size _).grown hg5 (by simp; omega) (fun j hj => (hO'.out.lt j hj).1)
              · exact cell_kept (p := ⟨q, 0, none⟩) (by rw [World.cell?_alloc_lt _ _ _ hnb.out]; exact hx0.out) hg5 (fun e => hnq.out e.symm)
              · exact cell_kept (p := ⟨q, 1, none⟩) (by rw [World.cell?_alloc_lt _ _ _ hnb.out]; exact hx1.out) hg5 (fun e => hnq.out e.symm)
              · intro e
                rcases hat5 with h | h
                · exact hnq.out (h.symm.trans e)
                · rw [h] at e
                  have := hnb.out
                  simp at e
                  omega
            case measure => simp [intOf]; omega
        · go_wp2_with fail
          go_roundw
          case rel =>
            have hj2 : (d2 - z).toNat ≤ j := by omega
            refine ⟨k + 1, R', by omega, by go_num, hRm', hid ?_, hO', hbl'⟩
            rw [hR'.out, t2.out j hj2, hts.out, mss_snoc]
          case measure => simp [intOf]; omega
    · obtain rfl : k = n := by omega
      clear hl
      go_wp2_with fail
      try rw [Exit.noGoto_ret]
      go_ret
      have e1 : R = mss A B := by rw [hR.out, List.take_of_length_le (by rw [HL.out]; exact Nat.le_refl _)]
      rw [← e1, List.take_of_length_le hRm]
      exact ⟨_, rfl, hO.out, hbl.out⟩

/-- Of two rows, one behind the other, the first so many. -/
theorem take_room {R S : List Dt} {m : Nat} (h : R.length < m) (x : Dt) (hx : R = S.take m) : R ++ [x] = (S ++ [x]).take m := by
  have hS : S.take m = S := List.take_of_length_le (by
    rcases Nat.lt_or_ge m S.length with h' | h'
    · rw [hx, List.length_take] at h
      omega
    · exact h')
  rw [hS] at hx
  subst hx
  rw [List.take_of_length_le (by simp; omega)]

theorem take_no_room {R S r : List Dt} {m : Int} (h : ¬ ((R.length : Int) < m)) (hx : R = S.take m.toNat) : R = (S ++ r).take m.toNat := by
  have hl : R.length = m.toNat := by
    have : R.length ≤ m.toNat := by rw [hx, List.length_take]; omega
    omega
  have hS : m.toNat ≤ S.length := by
    rw [hx, List.length_take] at hl
    omega
  rw [List.take_append_of_le_length hS]
  exact hx

set_option maxRecDepth 100000 in
set_option maxHeartbeats 4000000 in
theorem rmissing_any {a : Option Addr} {n c : Nat} {A : List Dt} {a' : Option Addr} {n' c' : Nat} {B : List Dt} {m : Int} {w : World} (hs : PS w a n c A) (hn : n ≤ 1000000) (hs' : PS w a' n' c' B) (hn' : n' ≤ 1000000) (hA : VM A) (hB : VM B) (hm : m ≤ 1000000) :
    Calls Try.prog 30 #[.slice a n c, .slice a' n' c', .int .i64 m] w (Gives w ((mss A B).take m.toNat)) := by
  have HL := hid hs.len
  have HV := hid (And.intro hA hB)
  have HS := hid (And.intro hs hs')
  clear hA hB hs hs'
  go_enter Try.func30, Try.ntmps30
  go_wp2
  go_loopw [8, 7] (fun s i7 wr => ∃ (k : Nat) (R : List Dt), k ≤ n ∧ s = .int .i64 k ∧ Hid (R = (mss (A.take k) B).take m.toNat) ∧ Hid (wr.ownsRow w.heap.size 24 2 i7 R.length (flat R)) ∧ Hid (RowKit.Below w.heap.size w wr)) (fun s _ _ => n - (intOf s).toNat)
  case atStart => exact ⟨0, [], by omega, rfl, hid (by simp [mss]), hid (World.ownsRow_nil _ _ _ _), hid (Below.refl _ _)⟩
  case round =>
    obtain ⟨k, R, hk, rfl, hR, hO, hbl⟩ := hrel
    have hl := HL.out
    by_cases hlt : k < n
    · obtain ⟨g, o, rfl, hg, hcell0⟩ := HS.out.1.at (by omega)
      have hcell := hid (fun W (hW : RowKit.Below w.heap.size w W) => And.intro ((hW.cell (p := ⟨g, o + k * 2, none⟩) hg).trans (hcell0 k (by omega)).1) ((hW.cell (p := ⟨g, o + k * 2 + 1, none⟩) hg).trans (hcell0 k (by omega)).2))
      have hts : Hid _ := hid (take_snoc (L := A) (k := k) (by omega))
      have hmd := (mayd_iff _).1 (HV.out.1.may (A[k]'(by omega)) (List.getElem_mem _))
      clear hcell0
      generalize (A[k]'(by omega)) = d at hcell hts hmd
      have hgb := HV.out.2.gt_bounds d.1
      have hG := rget_eq (y := d.1) (HS.out.2.below hbl.out) hn'
      have t1 : Hid (∀ j : Nat, j < (d.2 - gt B d.1).toNat → (ms1 B d).take (j + 1) = (ms1 B d).take j ++ [(d.1, gt B d.1 + 1 + (j : Int))]) := hid (fun j h => ms1_take h)
      have t2 : Hid (∀ j : Nat, (d.2 - gt B d.1).toNat ≤ j → (ms1 B d).take j = ms1 B d) := hid (fun j h => ms1_all h)
      generalize gt B d.1 = z at hgb hG t1 t2
      obtain ⟨d1, d2⟩ := d
      simp only at hcell hmd hG t1 t2
      obtain ⟨hmd1, hmd2, hmd3, hmd4⟩ := hmd
      obtain ⟨hz0, hz1⟩ := hgb
      have hc0 := (hcell.out wr hbl.out).1
      clear hl
      go_wp2_with (first | (go_at_call 14; refine hG.mono ?_; rintro e w3 ⟨rfl, rfl⟩))
      clear hc0 hG
      go_loopw [9, 7] (fun s i7 wi => ∃ (j : Nat) (R' : List Dt), j ≤ (d2 - z).toNat ∧ s = .int .i64 (z + 1 + (j : Int)) ∧ Hid (R' = (mss (A.take k) B ++ (ms1 B (d1, d2)).take j).take m.toNat) ∧ Hid (wi.ownsRow w.heap.size 24 2 i7 R'.length (flat R')) ∧ Hid (RowKit.Below w.heap.size w wi)) (fun s _ _ => (d2 + 1 - intOf s).toNat)
      case atStart => exact ⟨0, R, by omega, by simp, hid (by rw [hR.out]; simp), hO, hbl⟩
      case round =>
        obtain ⟨j, R', hj, rfl, hR', hO', hbl'⟩ := hrel
        obtain ⟨c0, c1⟩ := hcell.out _ hbl'.out
        have hRm' : R'.length ≤ m.toNat := by rw [hR'.out, List.length_take]; omega
        have hRb : R'.length ≤ 1000000 := by omega
        obtain ⟨a7, c7, rfl, hp7⟩ := owned_ps hO'.out rfl
        have HP7 := hid hp7
        have hsz := hbl'.out.size
        clear hp7
        by_cases hle : z + 1 + (j : Int) ≤ d2
        · by_cases hroom : (R'.length : Int) < m
          · go_wp2_with (first
              | (at_builtin; refine wpList_append_dot_at (y := d1) (z := z + 1 + (j : Int)) rfl _ _ rfl w.heap.size _ R'.length (flat R') rfl wr rfl hO'.out rfl (by omega) hsz ?_; intro v5 w5 ho5 hg5 hat5))
            go_roundw
            case rel =>
              refine ⟨j + 1, R' ++ [(d1, z + 1 + (j : Int))], by omega, by go_num, hid ?_, hid ?_, hid ?_⟩
              · rw [t1.out j (by omega), ← List.append_assoc]
                exact take_room (by omega) _ hR'.out
              · rw [List.length_append, List.length_singleton, flat_append]; exact ho5
              · exact (hbl'.out.alloc hbl'.out.size _).grown hg5 (by simp; omega) (fun j hj => (hO'.out.lt j hj).1)
            case measure => simp [intOf]; omega
          · have hfin : Hid (R' = (mss (A.take (k + 1)) B).take m.toNat) := hid (by
              have e : mss (A.take (k + 1)) B = (mss (A.take k) B ++ (ms1 B (d1, d2)).take j) ++ (ms1 B (d1, d2)).drop j := by
                rw [hts.out, mss_snoc, List.append_assoc, List.take_append_drop]
              rw [e]
              exact take_no_room hroom hR'.out)
            go_wp2_with fail
            go_roundw
            case rel => exact ⟨k + 1, R', by omega, by go_num, hfin, hO', hbl'⟩
            case measure => simp [intOf]; omega
        · have hfin : Hid (R' = (mss (A.take (k + 1)) B).take m.toNat) := hid (by
            rw [hR'.out, t2.out j (by omega), hts.out, mss_snoc])
          go_wp2_with fail
          go_roundw
          case rel => exact ⟨k + 1, R', by omega, by go_num, hfin, hO', hbl'⟩
          case measure => simp [intOf]; omega
    · obtain rfl : k = n := by omega
      clear hl
      go_wp2_with fail
      go_ret
      have e1 : R = (mss A B).take m.toNat := by rw [hR.out, List.take_of_length_le (l := A) (by rw [HL.out]; exact Nat.le_refl _)]
      rw [← e1]
      exact ⟨_, rfl, hO.out, hbl.out⟩

end Go.Proofs.Ytliahpjlmgplkaa
