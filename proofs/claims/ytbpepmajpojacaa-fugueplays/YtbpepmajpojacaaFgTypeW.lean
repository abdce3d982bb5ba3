/- FugueTypes: its walk. -/
import Derived.Test.YtbpepmajpojacaaFgTypeM
import Derived.Test.YtbpepmajpojacaaFgStayV
set_option linter.unusedVariables false
set_option linter.unusedSimpArgs false
namespace Go.Proofs.Ytbpepmajpojacaa
open Go.RowKit

/-- A row of numbers of one's own. -/
structure IR (w : World) (v : Value) (n : Nat) (L : List Int) : Prop where
  own : w.ownsRow 0 3 1 v n (L.map (Value.int .i64))
  len : L.length = n

theorem IR.fr {t : Nat} {w w' : World} {v : Value} {n : Nat} {L : List Int} (h : IR w v n L) (hf : FrW t w w') : IR w' v n L := by
  refine ⟨⟨h.own.1, ?_⟩, h.len⟩
  rcases h.own.2 with h0 | ⟨g, cap, cur, h1, h2, h3, h4⟩
  · exact Or.inl h0
  · exact Or.inr ⟨g, cap, cur, h1, h2, (hf.block g (Array.getElem?_eq_some_iff.1 h3).1 (Or.inr ⟨_, _, h3, by decide, by decide, by decide⟩)).trans h3, h4⟩
theorem IR.below {w w' : World} {v : Value} {n : Nat} {L : List Int} (h : IR w v n L) (hb : Below w.heap.size w w') : IR w' v n L := h.fr (t := 0) (FrW.of_below hb)

/-- Where a row's cells lie. -/
theorem IR.form {w : World} {v : Value} {n : Nat} {L : List Int} (h : IR w v n L) : (v = .slice none 0 0 ∧ n = 0 ∧ L = []) ∨ ∃ g c, v = .slice (some ⟨g, 0, none⟩) n c ∧ n ≤ c ∧ c ≤ 9223372036854775807 ∧ g < w.heap.size ∧ ∀ i (hi : i < L.length), w.cell? ⟨g, i, none⟩ = some (.int .i64 L[i]) := by
  rcases h.own.2 with ⟨rfl, h0⟩ | ⟨g, cap, cur, rfl, hB, hg, hn, hc, hcs, ht⟩
  · refine Or.inl ⟨rfl, h0, List.eq_nil_of_length_eq_zero (by rw [h.len]; exact h0)⟩
  · refine Or.inr ⟨g, cap, rfl, hn, by unfold maxLen at hc; omega, (Array.getElem?_eq_some_iff.1 hg).1, fun i hi => ?_⟩
    have := h.own.cellAt i (by have := h.len; omega)
    rw [this]
    simp [List.getElem?_eq_getElem hi]

theorem IR.cells {w : World} {g n c m : Nat} {L : List Int} (h : IR w (.slice (some ⟨g, 0, none⟩) m c) n L) : n = m ∧ n ≤ c ∧ c ≤ 9223372036854775807 ∧ g < w.heap.size ∧ ∀ i (hi : i < L.length), w.cell? ⟨g, i, none⟩ = some (.int .i64 L[i]) := by
  rcases h.form with ⟨e, _⟩ | ⟨g', c', e, h1, h2, h3, h4⟩
  · cases e
  · cases e
    exact ⟨rfl, h1, h2, h3, h4⟩

theorem IR.is {w : World} {v : Value} {n : Nat} {L : List Int} (h : IR w v n L) : ∃ a c, v = .slice a n c ∧ IS w a n c L := own_is h.own

/-- append of a row of numbers, none or not, to a slice of the call's own. -/
theorem wpList_append_ints {w : World} {ops : Array Oper} {rest : List Oper} {o : Oper} {a : Act} {Q : Exit → Act → World → Prop} (hgd : o.guard = none) (s x : Operand) (t : TypeId) (ht : Try.prog.underlying t = some (.slice 3))
    (ho : o.op = .call { callee := .builtin .append, args := #[s, x], argTypes := #[t, t] }) (base : Nat) (v : Value) (n : Nat) (xs : List Value) (hs : a.eval s = v) (hown : w.ownsRow base 3 1 v n xs)
    (ao : Option Addr) (m c : Nat) (L : List Int) (hx : a.eval x = .slice ao m c) (hL : IS w ao m c L) (hnil : ao = none → m = 0 ∧ c = 0) (hb : n + m ≤ 8000000) (hbase : base ≤ w.heap.size)
    (h : ∀ v' w', w'.ownsRow base 3 1 v' (n + m) (xs ++ L.map (Value.int .i64)) → w.grownBy w' v.ownBlock → wpList Try.prog ops Q rest (a.put o.dst v') w') : wpList Try.prog ops Q (o :: rest) a w := by
  obtain ⟨i0, hi, hz0, hz1, hz2⟩ := info_parts Try.infoI
  cases ao with
  | none =>
    obtain ⟨rfl, rfl⟩ := hnil rfl
    have : L = [] := List.eq_nil_of_length_eq_zero hL.len
    subst this
    refine wpList_append_own_none hgd s x t ho base 3 i0 1 ht hi v n xs hs hown hx ?_
    exact h v w (by simpa using hown) (World.grownBy.refl _ _)
  | some ad =>
    refine wpList_append_own w hgd s x t ho base 3 i0 _ 1 8 ht hi hz0 hz1 hz2 rfl (by decide) v n xs hs hown ad m c (L.map (Value.int .i64)) hx (by rw [List.length_map, hL.len]; omega) (fun j u hj => ?_) (fun u hu => ?_) (by unfold maxLen; omega) (by omega) hbase
      (fun v' w' h1 h2 _ => h v' w' h1 h2)
    · rw [List.getElem?_map, Option.map_eq_some_iff] at hj
      obtain ⟨y, hy, rfl⟩ := hj
      have hjl := (List.getElem?_eq_some_iff.1 hy).1
      obtain ⟨g, of, e, _, hc⟩ := hL.at_ (by have := hL.len; omega)
      cases e
      rw [fadd_none, hc j hjl]
      rw [List.getElem?_eq_getElem hjl] at hy
      cases hy
      rfl
    · obtain ⟨y, _, rfl⟩ := List.mem_map.1 hu
      rfl

theorem is_take {w : World} {g m c : Nat} {L : List Int} (hm : L.length = m) (hc : m ≤ c) (hx : c ≤ 9223372036854775807) (hg : g < w.heap.size) (hcell : ∀ i (hi : i < L.length), w.cell? ⟨g, i, none⟩ = some (.int .i64 L[i])) {K : Nat} (hK : K ≤ m) : IS w (some ⟨g, 0, none⟩) K c (L.take K) :=
  ⟨by rw [List.length_take]; omega, by omega, by unfold maxLen; omega, fun _ => ⟨g, 0, rfl, hg, fun i hi => by
    have hil : i < L.length := by rw [List.length_take] at hi; omega
    rw [Nat.zero_add, hcell i hil, List.getElem_take]⟩⟩

theorem is_drop {w : World} {g m c : Nat} {L : List Int} (hm : L.length = m) (hc : m ≤ c) (hx : c ≤ 9223372036854775807) (hg : g < w.heap.size) (hcell : ∀ i (hi : i < L.length), w.cell? ⟨g, i, none⟩ = some (.int .i64 L[i])) {K : Nat} (hK : K ≤ m) : IS w (some ⟨g, K, none⟩) (m - K) (c - K) (L.drop K) :=
  ⟨by rw [List.length_drop, hm], by omega, by unfold maxLen; omega, fun _ => ⟨g, K, rfl, hg, fun i hi => by
    have hil : K + i < L.length := by rw [List.length_drop] at hi; omega
    rw [hcell (K + i) hil, List.getElem_drop]⟩⟩

theorem is_drop_all {w : World} {g m c : Nat} {L : List Int} (hm : L.length = m) (hc : m ≤ c) {K : Nat} (hK : c = K) (hKm : K ≤ m) : IS w (some ⟨g, 0, none⟩) (m - K) (c - K) (L.drop K) := by
  have h0 : m = K := by omega
  refine ⟨by rw [List.length_drop, hm], by omega, by unfold maxLen; omega, fun h => absurd h (by omega)⟩

theorem is_none (w : World) : IS w none 0 0 [] := ⟨rfl, Nat.le_refl _, Nat.zero_le _, fun h => absurd h (by omega)⟩

theorem is_one (w : World) (x : Int) : IS (w.alloc (.cells #[.int .i64 x] 3)) (some ⟨w.heap.size, 0, none⟩) 1 1 [x] :=
  ⟨rfl, Nat.le_refl _, by decide, fun _ => ⟨w.heap.size, 0, rfl, by simp, fun i hi => by
    have h0 : i = 0 := by simp at hi; omega
    subst h0
    exact (Boxed.new w 3 (.int .i64 x)).cell⟩⟩

structure TS (w0 : World) (t : Nat) (T : List Cr) (w : World) : Prop where
  tm : TM w t T
  bel : Below w0.heap.size w0 w
  low : w0.heap.size ≤ t

theorem TS.fr {w0 : World} {t : Nat} {T T' : List Cr} {w w' : World} (h : TS w0 t T w) (htm : TM w' t T') (hf : FrW t w w') : TS w0 t T' w' :=
  ⟨htm, ⟨hf.os.trans h.bel.os, hf.tape.trans h.bel.tape, hf.output.trans h.bel.output, Nat.le_trans h.bel.size hf.size, fun k hk => (hf.block k (Nat.lt_of_lt_of_le hk h.bel.size) (Or.inl (Nat.lt_of_lt_of_le hk h.low))).trans (h.bel.block k hk)⟩, h.low⟩
theorem TS.below {w0 : World} {t : Nat} {T : List Cr} {w w' : World} (h : TS w0 t T w) (hb : Below w.heap.size w w') : TS w0 t T w' := h.fr (h.tm.below hb) (FrW.of_below hb)

theorem NumS.at {w : World} {a : Option Addr} {n c : Nat} {L : List Int} (h : NumS w a n c L) {k : Nat} (hk : k < n) : ∃ g o, a = some ⟨g, o, none⟩ ∧ w.cell? ⟨g, o + k, none⟩ = some (.int .i64 (L[k]'(by rw [h.len]; exact hk))) := by
  obtain ⟨g, o, e, hg, hx⟩ := h.at_ (by omega)
  exact ⟨g, o, e, hx k (by rw [h.len]; exact hk)⟩

theorem chars_is {w : World} {t : Nat} {T : List Cr} (h : TM w t T) (hn : T.length ≤ 1000000) : Calls Try.prog 27 #[.pointer (some ⟨t, 0, none⟩)] w fun e w' => ∃ a n c, e = .returned (.slice a n c) ∧ IS w' a n c ((seenC T).map (·.ch)) ∧ Below w.heap.size w w' :=
  (chars_tm h hn).mono (fun e w' ⟨v, h1, h2, h3⟩ => by
    have h2' : w'.ownsRow w.heap.size 3 1 v (seenC T).length (((seenC T).map (·.ch)).map (Value.int .i64)) := by rw [List.map_map]; exact h2
    obtain ⟨a, c, rfl, hi⟩ := own_is h2'
    exact ⟨a, _, c, h1, hi, h3⟩)

theorem ints_same {w : World} {a a' : Option Addr} {n c n' c' : Nat} {L : List Int} (h : IS w a n c L) (h' : IS w a' n' c' L) (hL : L.length ≤ 1000000) : Calls Try.prog 26 #[.slice a n c, .slice a' n' c'] w fun e w' => e = .returned (.bool true) ∧ Below w.heap.size w w' :=
  (ints_any h (by have := h.len; omega) h' (by have := h'.len; omega)).mono (fun e w' ⟨k1, k2⟩ => by
    simp only [decide_true] at k1
    exact ⟨k1, k2⟩)

theorem app_below {B n5 : Nat} {w4 w5 w6 : World} {v5 : Value} {xs5 : List Value} (hb5 : Below B w4 w5) (hB : B ≤ w5.heap.size) (ho5 : w5.ownsRow B 3 1 v5 n5 xs5) (hg6 : w5.grownBy w6 v5.ownBlock) : Below B w4 w6 :=
  hb5.grown hg6 hB (fun j ej => (World.ownsRow.lt ho5 j ej).1)

theorem app_fin {B n' : Nat} {w6 : World} {v6 : Value} {ys : List Value} {Lx : List Int} (ho6 : w6.ownsRow B 3 1 v6 n' ys) (hys : ys = Lx.map (Value.int .i64)) : ∃ a6 n6 c6, v6 = .slice a6 n6 c6 ∧ IS w6 a6 n6 c6 Lx ∧ Hid (IR w6 (.slice a6 n6 c6) n6 Lx) := by
  subst hys
  obtain ⟨a6, c6, rfl, hi⟩ := own_is ho6
  exact ⟨a6, n', c6, rfl, hi, hid ⟨own_base0 ho6, hi.len⟩⟩

set_option maxRecDepth 100000 in
set_option maxHeartbeats 4000000 in
theorem types_walk (a : Option Addr) (n c : Nat) (L : List Int) (a' : Option Addr) (n' c' : Nat) (M : List Int) (w : World) (hL : NumS w a n c L) (hM : NumS w a' n' c' M) :
    Calls Try.prog 6 #[.slice a n c, .slice a' n' c'] w fun e w' => e = .returned (.bool true) ∧ Below w.heap.size w w' := by
  have haw : Calls Try.prog 8 #[] w fun e w1 => e = .returned (.bool true) ∧ Below w.heap.size w w1 := awake_any w
  have hnew : ∀ w1, Below w.heap.size w w1 → Calls Try.prog 9 #[] w1 fun e w2 => ∃ t, e = .returned (.pointer (some ⟨t, 0, none⟩)) ∧ Hid (TS w t [] w2) := fun w1 h1 => (new_tm w1).mono (fun e w2 ⟨k1, k2, k3⟩ => ⟨w1.heap.size, k1, hid ⟨k2, h1.trans (k3.mono h1.size), h1.size⟩⟩)
  have hcap := hL.cap
  have hmx := hL.max
  have hcap' := hM.cap
  have hmx' := hM.max
  unfold maxLen at hmx hmx'
  go_enter Try.func6, Try.ntmps6
  go_wp2_with (first
    | (go_at_call 8; refine haw.mono ?_; rintro e w1 ⟨rfl, h1⟩)
    | (go_at_call 9; refine (hnew _ h1).mono ?_; rintro e w2 ⟨t, rfl, h2⟩))
  go_loopw [7, 8] (fun v i wr => ∃ k : Nat, k ≤ n ∧ k ≤ 40 ∧ i = .int .i64 k ∧ Hid (∃ T, T.length ≤ k ∧ (∀ x ∈ T, x.id.2 ≤ (k : Int)) ∧ TS w t T wr ∧ IR wr v (seenC T).length ((seenC T).map (·.ch)))) (fun _ i _ => n - (intOf i).toNat)
  case atStart => exact ⟨0, by omega, by omega, rfl, hid ⟨[], by simp, by simp, h2.out, World.ownsRow_nil _ _ _ _, rfl⟩⟩
  case round =>
    obtain ⟨k, hk, hk40, rfl, hS⟩ := hrel
    obtain ⟨T, hTl, hids, hTS, hIR⟩ := hS.out
    clear hS
    have hTm : T.length ≤ 1000000 := by omega
    have hTn : T.length ≤ 100000 := by omega
    obtain ⟨m, hm⟩ : ∃ m, m = (seenC T).length := ⟨_, rfl⟩
    have hmT : m ≤ T.length := by rw [hm, ← allC_len hTS.tm.wt]; exact List.length_filter_le _ _
    have hmH : Hid (m = (seenC T).length) := hid hm
    rw [← hm] at hIR
    clear hm
    by_cases hlt : k < n ∧ k < 40
    · obtain ⟨hk1, hk2⟩ := hlt
      have hb1 : decide ((k : Int) < (n : Int)) = true := by simp [hk1]
      have hb2 : decide ((k : Int) < 40) = true := by simp; omega
      obtain ⟨g, of, rfl, hc0⟩ := hL.at hk1
      obtain ⟨p, hp⟩ : ∃ p, p = L[k]'(by rw [hL.len]; exact hk1) := ⟨_, rfl⟩
      rw [← hp] at hc0
      have hpi : I64 p := hL.i64 p (by rw [hp]; exact List.getElem_mem _)
      clear hp
      unfold I64 at hpi
      have c0 : wr.cell? ⟨g, of + k, none⟩ = some (.int .i64 p) := by rw [hTS.bel.cell (p := ⟨g, of + k, none⟩) (cell_in hc0)]; exact hc0
      obtain ⟨K, hK⟩ : ∃ K : Nat, K = (p.tmod ((m : Int) + 1)).natAbs := ⟨_, rfl⟩
      have hKm : K ≤ m := by
        rw [hK]
        have h1 : (p.tmod ((m : Int) + 1)).natAbs < ((m : Int) + 1).natAbs := by
          rw [Int.natAbs_tmod]
          exact Nat.mod_lt _ (by omega)
        omega
      have hKH := hid hK
      clear hK
      obtain ⟨a7, c7, rfl, his⟩ := hIR.is
      go_upto_if 43 with fail
      go_cut [10] from 23 to 133 (fun s wc => s = .int .i64 (K : Int) ∧ wr = wc)
      case first =>
        by_cases hs : p.tmod ((m : Int) + 1) < 0
        · have hb3 : decide (p.tmod ((m : Int) + 1) < 0) = true := by simp [hs]
          go_wp2_with fail
          go_meet
          case rel =>
            have hKq := hKH.out
            refine ⟨?_, rfl⟩
            generalize p.tmod ((m : Int) + 1) = q at hKq hs ⊢
            first
              | (congr 1; omega)
              | (rw [Go.IntWalk.wrap64_in _ ⟨by omega, by omega⟩]; congr 1; omega)
        · have hb3 : decide (p.tmod ((m : Int) + 1) < 0) = false := by simp; omega
          go_wp2_with fail
          go_meet
          case rel => exact ⟨by rw [hKH.out]; congr 1; omega, rfl⟩
      case rest =>
        obtain ⟨rfl, rfl⟩ := hcut
        obtain ⟨B, hB⟩ : ∃ B : Bool, B = (decide (k < n') && (decide ((M[k]?.getD 0).tmod 4 = 0) && decide (K < m))) := ⟨_, rfl⟩
        go_upto_region 13 with fail
        go_cut [62] from 23 to 133 (fun s wc => s = .bool B ∧ wr = wc)
        case first =>
          by_cases hkn : k < n'
          · have hb4 : decide ((k : Int) < (n' : Int)) = true := by simp [hkn]
            obtain ⟨g', of', rfl, hc1⟩ := hM.at hkn
            have hMk : M[k]?.getD 0 = M[k]'(by rw [hM.len]; exact hkn) := by rw [List.getElem?_eq_getElem (by rw [hM.len]; exact hkn)]; rfl
            rw [hMk] at hB
            obtain ⟨y, hy⟩ : ∃ y, y = M[k]'(by rw [hM.len]; exact hkn) := ⟨_, rfl⟩
            rw [← hy] at hB hc1
            have hyi : I64 y := hM.i64 y (by rw [hy]; exact List.getElem_mem _)
            unfold I64 at hyi
            clear hy hMk
            have c1 : wr.cell? ⟨g', of' + k, none⟩ = some (.int .i64 y) := by rw [hTS.bel.cell (p := ⟨g', of' + k, none⟩) (cell_in hc1)]; exact hc1
            by_cases hy4 : y.tmod 4 = 0
            · have hb5 : (y.tmod 4 == 0) = true := by simp [hy4]
              have hBe : Hid (B = decide (K < m)) := hid (by rw [hB]; simp [hkn, hy4])
              clear hB hy4
              go_wp2_with fail
              go_meet
              case rel => exact ⟨by rw [hBe.out]; try simp, rfl⟩
            · have hb5 : (y.tmod 4 == 0) = false := by simpa using hy4
              have hBe : Hid (B = false) := hid (by rw [hB]; simp [hy4])
              clear hB hy4
              go_wp2_with fail
              go_meet
              case rel => exact ⟨by rw [hBe.out], rfl⟩
          · have hb4 : decide ((k : Int) < (n' : Int)) = false := by simp; omega
            have hBe : Hid (B = false) := hid (by rw [hB]; simp [hkn])
            clear hB
            go_wp2_with fail
            go_meet
            case rel => exact ⟨by rw [hBe.out], rfl⟩
        case rest =>
          obtain ⟨rfl, rfl⟩ := hcut
          have hBK : B = true → K < m := fun h => by rw [hB] at h; simp at h; exact h.2.2
          clear hB
          have hlenC : Hid (((seenC T).map (·.ch)).length = m) := hid (by rw [List.length_map, hmH.out])
          cases B with
          | true =>
            have hKlt := hBK rfl
            have hb62 : decide (K < m) = true := by simp [hKlt]
            obtain ⟨x, hx⟩ : ∃ x, (seenC T)[K]? = some x := ⟨_, List.getElem?_eq_getElem (by have := hmH.out; omega)⟩
            obtain ⟨hd1, hd2⟩ := hide_place hTS.tm.wt hx
            have hxT : x ∈ T := seenC_mem (List.mem_of_getElem? hx)
            have hxd := hTS.tm.wt.dw x hxT
            have hdots := dots_tm hTS.tm hTm
            have hdel : ∀ w3, TS w t T w3 → Calls Try.prog 10 #[.pointer (some ⟨t, 0, none⟩), .agg #[.int .i64 x.id.1, .int .i64 x.id.2]] w3 fun e w4 => e = .returned (.int .i64 0) ∧ TS w t (hide T x.id) w4 ∧ FrW t w3 w4 := fun w3 h3 => (delete_tm h3.tm x.id hxd).mono (fun e w4 ⟨k1, k2, k3⟩ => by rw [hd1] at k1 k2; exact ⟨k1, h3.fr k2 k3, k3⟩)
            have hdg : ∀ w3 a11 n11 c11, DR w3 a11 n11 c11 ((seenC T).map (·.id)) → m = n11 ∧ ∃ g11 o11, a11 = some ⟨g11, o11, none⟩ ∧ n11 ≤ c11 ∧ c11 ≤ 9223372036854775807 ∧ w3.cell? ⟨g11, o11 + K * 2, none⟩ = some (.int .i64 x.id.1) ∧ w3.cell? ⟨g11, o11 + K * 2 + 1, none⟩ = some (.int .i64 x.id.2) := fun w3 a11 n11 c11 h3 => by
              have hl := h3.len
              rw [List.length_map, ← hmH.out] at hl
              obtain ⟨g11, o11, e, _, hc⟩ := h3.ps.at (by omega)
              have hKl : K < ((seenC T).map (·.id)).length := by rw [List.length_map, ← hmH.out]; exact hKlt
              have hxe : ((seenC T).map (·.id))[K]'hKl = x.id := by
                rw [List.getElem_map]
                have := List.getElem?_eq_getElem (l := seenC T) (i := K) (by rw [← hmH.out]; exact hKlt)
                rw [hx] at this
                cases this
                rfl
              obtain ⟨q0, q1⟩ := hc K hKl
              rw [hxe] at q0 q1
              have hmm := h3.ps.max
              unfold maxLen at hmm
              exact ⟨hl, g11, o11, e, h3.ps.cap, hmm, q0, q1⟩
            have hn7m : 0 < m := by omega
            obtain ⟨g7, rfl⟩ : ∃ g7, a7 = some ⟨g7, 0, none⟩ := by
              rcases hIR.form with ⟨e, h0, _⟩ | ⟨g', c', e, _⟩
              · omega
              · cases e
                exact ⟨g', rfl⟩
            go_upto_region 17 with (first
              | (go_at_call 24; refine hdots.mono ?_; intro e w3 h3; obtain ⟨a11, n11, c11, rfl, d3, b3⟩ := gives_dr h3; have s3 := hTS.below b3; obtain ⟨rfl, g11, o11, rfl, u1c, u2c, y0, y1⟩ := hdg _ _ _ _ d3)
              | (go_at_call 10; refine (hdel _ s3).mono ?_; rintro e w4 ⟨rfl, s4, f4⟩))
            have ir4 := (hIR.below b3).fr f4
            obtain ⟨_, hn7, hc7, hg7, hcell7⟩ := ir4.cells
            obtain ⟨Lr, hLrd⟩ : ∃ Lr, Lr = (seenC T).map (·.ch) := ⟨_, rfl⟩
            rw [← hLrd] at hcell7
            have hLr : Lr.length = m := by rw [hLrd]; exact hlenC.out
            have hd2' : (seenC (hide T x.id)).map (·.ch) = Lr.take K ++ Lr.drop (K + 1) := by rw [hd2, List.map_append, List.map_take, List.map_drop, hLrd]
            have hlh := hid (show (hide T x.id).length = T.length by have := congrArg List.length (hide_ids T x.id); simpa using this)
            have hidl := hid (show ∀ y ∈ hide T x.id, y.id.2 ≤ ((k + 1 : Nat) : Int) from fun y hy => by
              obtain ⟨z, hz, e, _⟩ := hide_mem hy
              have := hids z hz
              rw [← e]
              omega)
            have hLx := hid (show (Lr.take K ++ Lr.drop (K + 1)).length ≤ 1000000 by rw [List.length_append, List.length_take, List.length_drop]; omega)
            have hir := hid (show ∀ (W : World) (v : Value) {n6 : Nat}, IR W v n6 (Lr.take K ++ Lr.drop (K + 1)) → IR W v (seenC (hide T x.id)).length ((seenC (hide T x.id)).map (·.ch)) from fun W v n6 h => by
              have hl : n6 = (seenC (hide T x.id)).length := by rw [← h.len, ← hd2', List.length_map]
              rw [hd2', ← hl]
              exact h)
            clear hLrd hd1 hd2 hdel hdots hdg y0 y1
            by_cases hcc : c7 = K + 1
            · subst hcc
              go_upto_region 29 with (first
                | (have hq := ho5; at_builtin; refine wpList_append_ints rfl _ _ 45 Try.underlying45 rfl w4.heap.size v5 (0 + K) _ rfl ho5 (some ⟨g7, 0, none⟩) 0 0 (Lr.drop (K + 1)) rfl (IS.mk (by rw [List.length_drop, hLr]; omega) (Nat.le_refl _) (Nat.zero_le _) (fun h => absurd h (by omega))) (fun h => by cases h) (by omega) hb5.size ?_; intro v6 w6 ho6 hg6; have hb6 := app_below hb5 hb5.size ho5 hg6; obtain ⟨a6, n6, c6, rfl, is6, ir6⟩ := app_fin (Lx := Lr.take K ++ Lr.drop (K + 1)) ho6 (by simp))
                | (at_builtin; refine wpList_append_ints rfl _ _ 45 Try.underlying45 rfl w4.heap.size (.slice none 0 0) 0 [] rfl (World.ownsRow_nil _ _ _ _) (some ⟨g7, 0, none⟩) K (K + 1) (Lr.take K) rfl (is_take hLr hn7 hc7 hg7 hcell7 (by omega)) (fun h => by cases h) (by omega) (Nat.le_refl _) ?_; intro v5 w5 ho5 hg5; have hb5 : Below w4.heap.size w4 w5 := (Below.refl _ w4).grown hg5 (Nat.le_refl _) (fun j ej => by cases ej)))
              have s6 := s4.below hb6
              have hch := chars_is s6.tm (by rw [hlh.out]; exact hTm)
              rw [hd2'] at hch
              go_wp2_with (first
                | (go_at_call 27; refine hch.mono ?_; rintro e w7 ⟨a7', n7', c7', rfl, is7, hb7⟩)
                | (go_at_call 26; refine (ints_same is7 (is6.below hb7) hLx.out).mono ?_; rintro e w8 ⟨rfl, hb8⟩))
              go_roundw
              case rel => exact ⟨k + 1, by omega, by omega, by go_num, hid ⟨hide T x.id, by rw [hlh.out]; omega, hidl.out, (s6.below hb7).below hb8, hir.out _ _ ((ir6.out.below hb7).below hb8)⟩⟩
              case measure => simp [intOf]; omega
            · have hccb : decide (c7 = K + 1) = false := by simp [hcc]
              go_upto_region 29 with (first
                | (have hq := ho5; at_builtin; refine wpList_append_ints rfl _ _ 45 Try.underlying45 rfl w4.heap.size v5 (0 + K) _ rfl ho5 (some ⟨g7, K + 1, none⟩) (m - (K + 1)) (c7 - (K + 1)) (Lr.drop (K + 1)) rfl (IS.below (w := w4) (is_drop hLr hn7 hc7 hg7 hcell7 (by omega)) hb5) (fun h => by cases h) (by omega) hb5.size ?_; intro v6 w6 ho6 hg6; have hb6 := app_below hb5 hb5.size ho5 hg6; obtain ⟨a6, n6, c6, rfl, is6, ir6⟩ := app_fin (Lx := Lr.take K ++ Lr.drop (K + 1)) ho6 (by simp))
                | (at_builtin; refine wpList_append_ints rfl _ _ 45 Try.underlying45 rfl w4.heap.size (.slice none 0 0) 0 [] rfl (World.ownsRow_nil _ _ _ _) (some ⟨g7, 0, none⟩) K c7 (Lr.take K) rfl (is_take hLr hn7 hc7 hg7 hcell7 (by omega)) (fun h => by cases h) (by omega) (Nat.le_refl _) ?_; intro v5 w5 ho5 hg5; have hb5 : Below w4.heap.size w4 w5 := (Below.refl _ w4).grown hg5 (Nat.le_refl _) (fun j ej => by cases ej)))
              have s6 := s4.below hb6
              have hch := chars_is s6.tm (by rw [hlh.out]; exact hTm)
              rw [hd2'] at hch
              go_wp2_with (first
                | (go_at_call 27; refine hch.mono ?_; rintro e w7 ⟨a7', n7', c7', rfl, is7, hb7⟩)
                | (go_at_call 26; refine (ints_same is7 (is6.below hb7) hLx.out).mono ?_; rintro e w8 ⟨rfl, hb8⟩))
              go_roundw
              case rel => exact ⟨k + 1, by omega, by omega, by go_num, hid ⟨hide T x.id, by rw [hlh.out]; omega, hidl.out, (s6.below hb7).below hb8, hir.out _ _ ((ir6.out.below hb7).below hb8)⟩⟩
              case measure => simp [intOf]; omega
          | false =>
            obtain ⟨id, hid0⟩ : ∃ id : Dt, id = (1 + (k : Int) % 3, 1 + (k : Int)) := ⟨_, rfl⟩
            have hidD : Dw id := by rw [hid0]; exact ⟨wf_i64 (show -9223372036854775808 ≤ 1 + (k : Int) % 3 by omega) (by omega), wf_i64 (show -9223372036854775808 ≤ 1 + (k : Int) by omega) (by omega)⟩
            have hidz : id ≠ (0, 0) := by rw [hid0]; intro e; have := (Prod.mk.inj e).2; omega
            have hidf : ∀ y ∈ T, y.id ≠ id := fun y hy e => by
              have := hids y hy
              rw [e, hid0] at this
              simp at this
              omega
            obtain ⟨ch, hch0⟩ : ∃ ch : Int, ch = 97 + (k : Int) := ⟨_, rfl⟩
            have hchI : I64 ch := by rw [hch0]; unfold I64; omega
            obtain ⟨hp0, hp1, hp2, hp3, hp4⟩ := put_place hTS.tm.wt (k := K) (by rw [← hmH.out]; exact hKm) (ch := ch) hidf hidz hidD
            obtain ⟨at_, hat⟩ : ∃ at_, at_ = (plcI T K).1 := ⟨_, rfl⟩
            obtain ⟨sd, hsd⟩ : ∃ sd, sd = (plcI T K).2.1 := ⟨_, rfl⟩
            rw [← hat, ← hsd] at hp1 hp2 hp3 hp4
            obtain ⟨T', hT'⟩ : ∃ T', T' = (insP T id at_ sd ch).2 := ⟨_, rfl⟩
            rw [← hT'] at hp2 hp3 hp4
            have hatD : Dw at_ := by
              have hn := hp2.node (c := ⟨id, at_, decide (sd = 1), ch, true⟩) (by rw [hp4]; simp)
              rcases hn with e | ⟨y, hy, e⟩
              · have e' : at_ = (0, 0) := e
                rw [e']
                exact ⟨by decide, by decide⟩
              · have e' : y.id = at_ := e
                rw [← e']
                exact hp2.dw y hy
            have hpl : Calls Try.prog 25 #[.pointer (some ⟨t, 0, none⟩), .int .i64 (K : Int)] wr fun e w3 => e = .returned (.tuple #[.agg #[.int .i64 at_.1, .int .i64 at_.2], .int .i64 sd, .int .i64 0]) ∧ Below wr.heap.size wr w3 := (place_tm hTS.tm hTm (K : Int) (by unfold I64; omega)).mono (fun e w3 ⟨k1, k2⟩ => by
              rw [hp0, ← hat, ← hsd] at k1
              exact ⟨k1, k2⟩)
            have hin : ∀ w3, TS w t T w3 → Calls Try.prog 12 #[.pointer (some ⟨t, 0, none⟩), .agg #[.int .i64 (1 + (k : Int) % 3), .int .i64 (1 + (k : Int))], .agg #[.int .i64 at_.1, .int .i64 at_.2], .int .i64 sd, .int .i64 (97 + (k : Int))] w3 fun e w4 => e = .returned (.int .i64 0) ∧ TS w t T' w4 ∧ FrW t w3 w4 := fun w3 h3 => by
              have h := insert_tm h3.tm hTn id at_ sd ch hidD hatD hchI
              rw [hp1, ← hT', hid0, hch0] at h
              exact h.mono (fun e w4 ⟨k1, k2, k3⟩ => ⟨k1, h3.fr k2 k3, k3⟩)
            have hlT := hid (show T'.length ≤ k + 1 by rw [hp4]; simp; omega)
            have hlT' := hid (show T'.length ≤ 1000000 by have := hlT.out; omega)
            have hidl := hid (show ∀ y ∈ T', y.id.2 ≤ ((k + 1 : Nat) : Int) from fun y hy => by
              rw [hp4] at hy
              rcases List.mem_append.1 hy with h | h
              · have := hids y h
                omega
              · simp at h
                rw [h, hid0]
                simp
                omega)
            obtain ⟨Lr, hLrd⟩ : ∃ Lr, Lr = (seenC T).map (·.ch) := ⟨_, rfl⟩
            have hLr : Lr.length = m := by rw [hLrd]; exact hlenC.out
            have hsq := hid (show (seenC T').map (·.ch) = Lr.take K ++ [ch] ++ Lr.drop K by rw [hp3, List.map_append, List.map_append, List.map_take, List.map_drop, hLrd]; rfl)
            have hLx := hid (show (Lr.take K ++ [ch] ++ Lr.drop K).length ≤ 1000000 by simp; omega)
            have hir := hid (show ∀ (W : World) (v : Value) {n6 : Nat}, IR W v n6 (Lr.take K ++ [ch] ++ Lr.drop K) → IR W v (seenC T').length ((seenC T').map (·.ch)) from fun W v n6 h => by
              have hl : n6 = (seenC T').length := by rw [← h.len, ← hsq.out, List.length_map]
              rw [hsq.out, ← hl]
              exact h)
            rw [← hch0] at hin
            have hchH : Hid (ch = 97 + (k : Int)) := hid hch0
            clear hp0 hp1 hp2 hp3 hp4 hT' hat hsd hch0 hid0
            have hch1 : 97 + (k : Int) = ch := hchH.out.symm
            go_upto_region 21 with (go_at_call 25; refine hpl.mono ?_; rintro e w3 ⟨rfl, b3⟩)
            obtain ⟨q3, hq3⟩ : ∃ q3, q3 = w3.heap.size := ⟨_, rfl⟩
            obtain ⟨w3', hw3'⟩ : ∃ w3', w3' = w3.alloc (.cells #[.int .i64 at_.1, .int .i64 at_.2] 24) := ⟨_, rfl⟩
            have b3' : Below wr.heap.size wr w3' := by rw [hw3']; exact b3.alloc b3.size _
            have hb13 : w3'.heap[q3]? = some (.cells #[.int .i64 at_.1, .int .i64 at_.2] 24 (0, 0)) := by rw [hw3', hq3]; exact World.alloc_heap_new _ _
            rw [← hw3', ← hq3]
            clear hw3' hq3
            have z0 : w3'.cell? ⟨q3, 0, none⟩ = some (.int .i64 at_.1) := by simp [World.cell?, hb13]
            have z1 : w3'.cell? ⟨q3, 1, none⟩ = some (.int .i64 at_.2) := by simp [World.cell?, hb13]
            have s3 := hTS.below b3'
            go_upto_region 25 with (go_at_call 12; refine (hin _ s3).mono ?_; rintro e w4 ⟨rfl, s4, f4⟩)
            have ir4 := (hIR.below b3').fr f4
            rcases ir4.form with ⟨e7, hm0, hL0⟩ | ⟨g7, c7'', e7, hn7, hc7, hg7, hcell7⟩
            · obtain ⟨rfl, rfl, rfl⟩ : a7 = none ∧ m = 0 ∧ c7 = 0 := by cases e7; exact ⟨rfl, rfl, rfl⟩
              have hT0 : Lr.take K = [] := by rw [List.eq_nil_of_length_eq_zero hLr]; simp
              have hD0 : Lr.drop K = [] := by rw [List.eq_nil_of_length_eq_zero hLr]; simp
              obtain rfl : K = 0 := by omega
              go_upto_region 29 with (first
                | (have hq := ho6; at_builtin; refine wpList_append_ints rfl _ _ 45 Try.underlying45 rfl w4.heap.size v6 (0 + 0 + 1) _ rfl ho6 none 0 0 [] rfl (IS.below (w := w4) (is_none _) hb6) (fun _ => ⟨rfl, rfl⟩) (by omega) hb6.size ?_; intro v7 w7 ho7 hg7'; have hb7 := app_below hb6 hb6.size ho6 hg7'; obtain ⟨a6, n6, c6, rfl, is6, ir6⟩ := app_fin (Lx := Lr.take 0 ++ [ch] ++ Lr.drop 0) ho7 (by rw [hT0, hD0]; simp))
                | (have hq := ho5; at_builtin; refine wpList_append_ints rfl _ _ 45 Try.underlying45 rfl w4.heap.size v5 (0 + 0) _ rfl (ho5.alloc _) (some ⟨w5.heap.size, 0, none⟩) 1 1 [ch] rfl (is_one w5 ch) (fun h => by cases h) (by omega) (by have := hb5.size; simp; omega) ?_; intro v6 w6 ho6 hg6; have hb6 := app_below (hb5.alloc hb5.size _) (by have := hb5.size; simp; omega) (ho5.alloc _) hg6)
                | (at_builtin; refine wpList_append_ints rfl _ _ 45 Try.underlying45 rfl w4.heap.size (.slice none 0 0) 0 [] rfl (World.ownsRow_nil _ _ _ _) none 0 0 [] rfl (is_none _) (fun _ => ⟨rfl, rfl⟩) (by omega) (Nat.le_refl _) ?_; intro v5 w5 ho5 hg5; have hb5 : Below w4.heap.size w4 w5 := (Below.refl _ w4).grown hg5 (Nat.le_refl _) (fun j ej => by cases ej)))
              have s6 := s4.below hb7
              have hch := chars_is s6.tm hlT'.out
              rw [hsq.out] at hch
              go_wp2_with (first
                | (go_at_call 27; refine hch.mono ?_; rintro e w8 ⟨a7', n7', c7', rfl, is7, hb8⟩)
                | (go_at_call 26; refine (ints_same is7 (is6.below hb8) hLx.out).mono ?_; rintro e w9 ⟨rfl, hb9⟩))
              go_roundw
              case rel => exact ⟨k + 1, by omega, by omega, by go_num, hid ⟨T', hlT.out, hidl.out, (s6.below hb8).below hb9, hir.out _ _ ((ir6.out.below hb8).below hb9)⟩⟩
              case measure => simp [intOf]; omega
            · obtain ⟨rfl, rfl⟩ : a7 = some ⟨g7, 0, none⟩ ∧ c7'' = c7 := by cases e7; exact ⟨rfl, rfl⟩
              rw [← hLrd] at hcell7
              clear hLrd
              by_cases hcc : c7'' = K
              · subst hcc
                obtain rfl : c7'' = m := by omega
                go_upto_region 29 with (first
                  | (have hq := ho6; at_builtin; refine wpList_append_ints rfl _ _ 45 Try.underlying45 rfl w4.heap.size v6 (0 + c7'' + 1) _ rfl ho6 (some ⟨g7, 0, none⟩) 0 0 (Lr.drop c7'') rfl (IS.below (w := w4) (IS.mk (by rw [List.length_drop, hLr]; omega) (Nat.le_refl _) (Nat.zero_le _) (fun h => absurd h (by omega))) hb6) (fun h => by cases h) (by omega) hb6.size ?_; intro v7 w7 ho7 hg7'; have hb7 := app_below hb6 hb6.size ho6 hg7'; obtain ⟨a6, n6, c6, rfl, is6, ir6⟩ := app_fin (Lx := Lr.take c7'' ++ [ch] ++ Lr.drop c7'') ho7 (by simp))
                  | (have hq := ho5; at_builtin; refine wpList_append_ints rfl _ _ 45 Try.underlying45 rfl w4.heap.size v5 (0 + c7'') _ rfl (ho5.alloc _) (some ⟨w5.heap.size, 0, none⟩) 1 1 [ch] rfl (is_one w5 ch) (fun h => by cases h) (by omega) (by have := hb5.size; simp; omega) ?_; intro v6 w6 ho6 hg6; have hb6 := app_below (hb5.alloc hb5.size _) (by have := hb5.size; simp; omega) (ho5.alloc _) hg6)
                  | (at_builtin; refine wpList_append_ints rfl _ _ 45 Try.underlying45 rfl w4.heap.size (.slice none 0 0) 0 [] rfl (World.ownsRow_nil _ _ _ _) (some ⟨g7, 0, none⟩) c7'' c7'' (Lr.take c7'') rfl (is_take hLr hn7 hc7 hg7 hcell7 (by omega)) (fun h => by cases h) (by omega) (Nat.le_refl _) ?_; intro v5 w5 ho5 hg5; have hb5 : Below w4.heap.size w4 w5 := (Below.refl _ w4).grown hg5 (Nat.le_refl _) (fun j ej => by cases ej)))
                have s6 := s4.below hb7
                have hch := chars_is s6.tm hlT'.out
                rw [hsq.out] at hch
                go_wp2_with (first
                  | (go_at_call 27; refine hch.mono ?_; rintro e w8 ⟨a7', n7', c7', rfl, is7, hb8⟩)
                  | (go_at_call 26; refine (ints_same is7 (is6.below hb8) hLx.out).mono ?_; rintro e w9 ⟨rfl, hb9⟩))
                go_roundw
                case rel => exact ⟨k + 1, by omega, by omega, by go_num, hid ⟨T', hlT.out, hidl.out, (s6.below hb8).below hb9, hir.out _ _ ((ir6.out.below hb8).below hb9)⟩⟩
                case measure => simp [intOf]; omega
              · have hccb : decide (c7'' = K) = false := by simp [hcc]
                go_upto_region 29 with (first
                  | (have hq := ho6; at_builtin; refine wpList_append_ints rfl _ _ 45 Try.underlying45 rfl w4.heap.size v6 (0 + K + 1) _ rfl ho6 (some ⟨g7, K, none⟩) (m - K) (c7'' - K) (Lr.drop K) rfl (IS.below (w := w4) (is_drop hLr hn7 hc7 hg7 hcell7 (by omega)) hb6) (fun h => by cases h) (by omega) hb6.size ?_; intro v7 w7 ho7 hg7'; have hb7 := app_below hb6 hb6.size ho6 hg7'; obtain ⟨a6, n6, c6, rfl, is6, ir6⟩ := app_fin (Lx := Lr.take K ++ [ch] ++ Lr.drop K) ho7 (by simp))
                  | (have hq := ho5; at_builtin; refine wpList_append_ints rfl _ _ 45 Try.underlying45 rfl w4.heap.size v5 (0 + K) _ rfl (ho5.alloc _) (some ⟨w5.heap.size, 0, none⟩) 1 1 [ch] rfl (is_one w5 ch) (fun h => by cases h) (by omega) (by have := hb5.size; simp; omega) ?_; intro v6 w6 ho6 hg6; have hb6 := app_below (hb5.alloc hb5.size _) (by have := hb5.size; simp; omega) (ho5.alloc _) hg6)
                  | (at_builtin; refine wpList_append_ints rfl _ _ 45 Try.underlying45 rfl w4.heap.size (.slice none 0 0) 0 [] rfl (World.ownsRow_nil _ _ _ _) (some ⟨g7, 0, none⟩) K c7'' (Lr.take K) rfl (is_take hLr hn7 hc7 hg7 hcell7 (by omega)) (fun h => by cases h) (by omega) (Nat.le_refl _) ?_; intro v5 w5 ho5 hg5; have hb5 : Below w4.heap.size w4 w5 := (Below.refl _ w4).grown hg5 (Nat.le_refl _) (fun j ej => by cases ej)))
                have s6 := s4.below hb7
                have hch := chars_is s6.tm hlT'.out
                rw [hsq.out] at hch
                go_wp2_with (first
                  | (go_at_call 27; refine hch.mono ?_; rintro e w8 ⟨a7', n7', c7', rfl, is7, hb8⟩)
                  | (go_at_call 26; refine (ints_same is7 (is6.below hb8) hLx.out).mono ?_; rintro e w9 ⟨rfl, hb9⟩))
                go_roundw
                case rel => exact ⟨k + 1, by omega, by omega, by go_num, hid ⟨T', hlT.out, hidl.out, (s6.below hb8).below hb9, hir.out _ _ ((ir6.out.below hb8).below hb9)⟩⟩
                case measure => simp [intOf]; omega
    · have hlen := len_tm hTS.tm hTm
      rw [← hmH.out] at hlen
      by_cases hk1 : k < n
      · have hb1 : decide ((k : Int) < (n : Int)) = true := by simp [hk1]
        have hb2 : decide ((k : Int) < 40) = false := by simp; omega
        obtain ⟨a7, c7, rfl, his⟩ := hIR.is
        go_wp2_with (go_at_call 28; refine hlen.mono ?_; rintro e w3 ⟨rfl, b3⟩)
        go_ret
        exact ⟨by simp, (hTS.below b3).bel⟩
      · have hb1 : decide ((k : Int) < (n : Int)) = false := by simp; omega
        obtain ⟨a7, c7, rfl, his⟩ := hIR.is
        go_wp2_with (go_at_call 28; refine hlen.mono ?_; rintro e w3 ⟨rfl, b3⟩)
        go_ret
        exact ⟨by simp, (hTS.below b3).bel⟩
end Go.Proofs.Ytbpepmajpojacaa
