/- The first look. -/
import Derived.Test.YtnmdcdphpcpojaaGreatDoorTrTr
import Derived.Test.YtnmdcdphpcpojaaGreatDoorTrMath
import Derived.Test.YtnmdcdphpcpojaaGreatDoorFgSame
import Derived.BigQuiet
import Derived.Test.YtnmdcdphpcpojaaGreatDoorOlTree
import Derived.Sort.AtCall
namespace Go.Proofs.YtnmdcdphpcpojaaGreatDoor
section
set_option linter.unusedVariables false
set_option linter.unusedSimpArgs false
open Go.RowKit Go.Shelf

/-- What Under tells. -/
def undL (S : List Sp) (σ : Dt → List UInt8) (top : Dt) : List Ln := (undF S σ (S.length + 1) top 0).map undLn

theorem al_old {w : World} {o : Obj} {j : Nat} {x : Obj} (h : w.heap[j]? = some x) : (w.alloc o).heap[j]? = some x := (Below.heap_alloc _ _ _ (Array.getElem?_eq_some_iff.1 h).1).trans h

theorem five_allocs (w : World) (c1 c2 c3 c4 c5 : Array Value) (t1 t2 t3 t4 t5 : TypeId) : ∀ W, W = ((((w.alloc (.cells c1 t1)).alloc (.cells c2 t2)).alloc (.cells c3 t3)).alloc (.cells c4 t4)).alloc (.cells c5 t5) →
    W.heap.size = w.heap.size + 5 ∧ W.heap[w.heap.size]? = some (.cells c1 t1 (0, 0)) ∧ W.heap[w.heap.size + 1]? = some (.cells c2 t2 (0, 0)) ∧ W.heap[w.heap.size + 1 + 1]? = some (.cells c3 t3 (0, 0)) ∧ W.heap[w.heap.size + 1 + 1 + 1]? = some (.cells c4 t4 (0, 0)) ∧ W.heap[w.heap.size + 1 + 1 + 1 + 1]? = some (.cells c5 t5 (0, 0)) ∧ Below w.heap.size w W := by
  rintro W rfl
  have s1 : (w.alloc (.cells c1 t1)).heap.size = w.heap.size + 1 := by simp
  have s2 : ((w.alloc (.cells c1 t1)).alloc (.cells c2 t2)).heap.size = w.heap.size + 1 + 1 := by simp
  have s3 : (((w.alloc (.cells c1 t1)).alloc (.cells c2 t2)).alloc (.cells c3 t3)).heap.size = w.heap.size + 1 + 1 + 1 := by simp
  have s4 : ((((w.alloc (.cells c1 t1)).alloc (.cells c2 t2)).alloc (.cells c3 t3)).alloc (.cells c4 t4)).heap.size = w.heap.size + 1 + 1 + 1 + 1 := by simp
  have e1 : (w.alloc (.cells c1 t1)).heap[w.heap.size]? = some (.cells c1 t1 (0, 0)) := World.alloc_heap_new w _
  have e2 := World.alloc_heap_new (w.alloc (.cells c1 t1)) (.cells c2 t2)
  have e3 := World.alloc_heap_new ((w.alloc (.cells c1 t1)).alloc (.cells c2 t2)) (.cells c3 t3)
  have e4 := World.alloc_heap_new (((w.alloc (.cells c1 t1)).alloc (.cells c2 t2)).alloc (.cells c3 t3)) (.cells c4 t4)
  have e5 := World.alloc_heap_new ((((w.alloc (.cells c1 t1)).alloc (.cells c2 t2)).alloc (.cells c3 t3)).alloc (.cells c4 t4)) (.cells c5 t5)
  rw [s1] at e2
  rw [s2] at e3
  rw [s3] at e4
  rw [s4] at e5
  refine ⟨by simp, al_old (al_old (al_old (al_old e1))), al_old (al_old (al_old e2)), al_old (al_old e3), al_old e4, e5, ?_⟩
  exact (((((Below.refl _ w).alloc (Nat.le_refl _) _).alloc (by simp) _).alloc (by simp; omega) _).alloc (by simp; omega) _).alloc (by simp; omega) _

set_option maxRecDepth 100000 in
set_option maxHeartbeats 4000000 in
theorem under_any (t : Nat) (l : List Mv) (mm : Option Nat) (σ : Dt → List UInt8) (P : Nat → Prop) (top : Dt) (w : World) (h : TP w t l P) (hx : XP P w (.map mm) σ) (hd : Dw top) :
    Calls Tryz.prog 15 #[.pointer (some ⟨t, 0, none⟩), .map mm, dv top] w fun e w' => ∃ v, e = .returned v ∧ w'.ownsRow w.heap.size 54 4 v (undL (run l) σ top).length (flLn (undL (run l) σ top)) ∧ TP w' t l (fun j => P j ∨ v.ownBlock = some j) ∧ KP P w w' := by
  obtain ⟨p1, p2⟩ := top
  obtain ⟨W5, hW5⟩ : ∃ W5, W5 = ((((w.alloc (.cells #[.pointer (some ⟨t, 0, none⟩)] 28)).alloc (.cells #[.map mm] 29)).alloc (.cells #[.int .i64 p1, .int .i64 p2] 24)).alloc (.cells #[.slice none 0 0] 43)).alloc (.cells #[dnV w.heap.size (w.heap.size + 1 + 1 + 1) (w.heap.size + 1) (w.heap.size + 1 + 1 + 1 + 1)] 90) := ⟨_, rfl⟩
  obtain ⟨hz, b1, b2, b3, b4, b5, hB⟩ := five_allocs w _ _ _ _ _ _ _ _ _ _ W5 hW5
  obtain ⟨r, hr⟩ := h.log.1.run_tk
  have hdw : ∀ s ∈ run l, Dw s.b := fun s hs => (run_dw h.log.2.1 s hs).1
  have hll := run_len l
  have hl10 := h.log.2.2
  have hKP : KP P w W5 := KP.below hB h.lt
  have hPlt := h.lt
  have hU : UI (fun j => P j ∨ j = w.heap.size ∨ j = w.heap.size + 1 ∨ j = w.heap.size + 1 + 1 + 1 + 1) t l (.map mm) w.heap.size (w.heap.size + 1 + 1 + 1) (w.heap.size + 1) (w.heap.size + 1 + 1 + 1 + 1) w.heap.size [] W5 := by
    refine ⟨⟨.slice none 0 0, fun j => P j ∨ (w.heap.size ≤ j ∧ j < W5.heap.size), h.turn hB.size (fun j hj _ => hB.block j hj) (fun j hj => hj), fun j hj => ⟨?_, ?_, fun e => by simp [Value.ownBlock] at e⟩, Or.inr ⟨by omega, by omega⟩, fun g e => by simp [Value.ownBlock] at e, b4, World.ownsRow_nil _ _ _ _⟩, ⟨Or.inr (Or.inl rfl), Or.inr (Or.inr (Or.inl rfl)), Or.inr (Or.inr (Or.inr rfl))⟩, b1, b2, b5, hB.size⟩
    · rcases hj with hj | hj | hj | hj
      · exact Or.inl hj
      · exact Or.inr ⟨by omega, by omega⟩
      · exact Or.inr ⟨by omega, by omega⟩
      · exact Or.inr ⟨by omega, by omega⟩
    · rcases hj with hj | hj | hj | hj
      · have := hPlt j hj; omega
      · omega
      · omega
      · omega
  have hX : XP (fun j => P j ∨ j = w.heap.size ∨ j = w.heap.size + 1 ∨ j = w.heap.size + 1 + 1 + 1 + 1) W5 (.map mm) σ := hx.next hKP (fun j hj => Or.inl hj)
  have hlen : ([] : List Ln).length + (undF (run l) σ ((run l).length + 1) (p1, p2) 0).length ≤ 100000 := by
    have := und_len hr σ ((run l).length + 1) (p1, p2) 0
    simp
    omega
  have HD := hid (down_any t l (.map mm) w.heap.size (w.heap.size + 1 + 1 + 1) (w.heap.size + 1) (w.heap.size + 1 + 1 + 1 + 1) w.heap.size σ r hr hdw ((run l).length + 1) (p1, p2) 0 _ [] W5 (Nat.lt_succ_of_le (bel_le _ _ _)) hd (by omega) hU hX hlen)
  have q1 : W5.cell? ⟨w.heap.size + 1 + 1 + 1 + 1, 0, none⟩ = some (.func (.func 40) #[] #[.pointer (some ⟨w.heap.size, 0, none⟩), .pointer (some ⟨w.heap.size + 1 + 1 + 1, 0, none⟩), .pointer (some ⟨w.heap.size + 1, 0, none⟩), .pointer (some ⟨w.heap.size + 1 + 1 + 1 + 1, 0, none⟩)]) := by rw [Lib.cell_of_heap b5]; rfl
  have q2 : W5.cell? ⟨w.heap.size + 1 + 1, 0, none⟩ = some (.int .i64 p1) := by rw [Lib.cell_of_heap b3]; rfl
  have q3 : W5.cell? ⟨w.heap.size + 1 + 1, 1, none⟩ = some (.int .i64 p2) := by rw [Lib.cell_of_heap b3]; rfl
  have HW5 := hid hW5
  have HKP := hid hKP
  clear hW5 b1 b2 b3 b4 b5 hB hU hX hlen hz hKP h hx hr hPlt
  show Calls Tryz.prog 15 #[.pointer (some ⟨t, 0, none⟩), .map mm, .agg #[.int .i64 p1, .int .i64 p2]] w _
  go_enter Tryz.func15, Tryz.ntmps15
  go_upto_region 4 with fail
  have HW5' := HW5.out
  unfold dnV at HW5'
  rw [← HW5']
  clear HW5'
  go_upto_region 5 with (go_at_call 40; refine HD.out.mono ?_; rintro e V6 ⟨rfl, hU6, hK6⟩)
  obtain ⟨vo, Q, h1, h2, h3, h4, h5, h6⟩ := hU6.row
  have q4 : V6.cell? ⟨w.heap.size + 1 + 1 + 1, 0, none⟩ = some vo := by rw [Lib.cell_of_heap h5]; rfl
  have HFIN : Hid (V6.ownsRow w.heap.size 54 4 vo (undL (run l) σ (p1, p2)).length (flLn (undL (run l) σ (p1, p2))) ∧ TP V6 t l (fun j => P j ∨ vo.ownBlock = some j) ∧ KP P w V6) := hid ⟨h6, h1.mono (fun j hj => by
    rcases hj with hj | hj
    · exact (h2 j (Or.inl hj)).1
    · exact h4 j hj), HKP.out.trans (hK6.mono (fun j hj => Or.inl hj))⟩
  clear h1 h2 h3 h4 h5 h6 hU6 hK6
  go_wp2
  go_ret
  exact ⟨vo, rfl, HFIN.out⟩
end

section
set_option linter.unusedVariables false
open Go.RowKit Go.Sort Go.Maps

theorem own_held {w w' : World} {base e size n : Nat} {v : Value} {xs : List Value} (h : w.ownsRow base e size v n xs) (hk : ∀ j, v.ownBlock = some j → w'.heap[j]? = w.heap[j]?) : w'.ownsRow base e size v n xs := by
  obtain ⟨l1, ⟨rfl, l2⟩ | ⟨g, cap, cur, rfl, hb, hgb, hr⟩⟩ := h
  · exact ⟨l1, Or.inl ⟨rfl, l2⟩⟩
  · exact ⟨l1, Or.inr ⟨g, cap, cur, rfl, hb, (hk g rfl).trans hgb, hr⟩⟩

theorem own_ge {w : World} {base e size n : Nat} {v : Value} {xs : List Value} (h : w.ownsRow base e size v n xs) {j : Nat} (hj : v.ownBlock = some j) : base ≤ j ∧ j < w.heap.size := by
  obtain ⟨l1, ⟨rfl, l2⟩ | ⟨g, cap, cur, rfl, hb, hgb, hr⟩⟩ := h
  · simp [Value.ownBlock] at hj
  · obtain rfl : g = j := by simpa [Value.ownBlock] using hj
    exact ⟨hb, (Array.getElem?_eq_some_iff.1 hgb).1⟩

/-- All of a text's blocks lie from its own on. -/
theorem TX.held {w w' : World} {t : Nat} {T : List Cr} {G M : Dt → Option Nat} {n : Nat} {R : Dt → Bool → Value} (h : TX w t T G M n R) (hk : ∀ j, t ≤ j → j < w.heap.size → w'.heap[j]? = w.heap[j]?) : TX w' t T G M n R := by
  refine ⟨h.wt, ?_, h.gd, fun c hc => ?_, fun d s hd => ?_, h.apart⟩
  · obtain ⟨fm, h1, h2⟩ := h.tb
    refine ⟨fm, (hk _ (Nat.le_refl _) (Array.getElem?_eq_some_iff.1 h1).1).trans h1, ?_⟩
    rcases h2 with h2 | ⟨mb, e, hm, hp⟩
    · exact Or.inl h2
    · exact Or.inr ⟨mb, e, hm, hp.same (hk _ (by omega) hp.lt)⟩
  · obtain ⟨g, h1, h2, h3⟩ := h.ch c hc
    exact ⟨g, h1, h2, (hk _ (by omega) (Array.getElem?_eq_some_iff.1 h3).1).trans h3⟩
  · obtain ⟨gs, h1, h2⟩ := h.rows d s hd
    exact ⟨gs, h1, own_held h2 (fun j hj => hk j (own_ge h2 hj).1 (own_ge h2 hj).2)⟩

theorem TM.held {w w' : World} {t : Nat} {T : List Cr} (h : TM w t T) (hk : ∀ j, t ≤ j → j < w.heap.size → w'.heap[j]? = w.heap[j]?) : TM w' t T := by
  obtain ⟨⟨G, R, h⟩, hc⟩ := h
  exact ⟨⟨G, R, h.held hk⟩, hc⟩

/-- Maps of texts. -/
theorem zeroText (w : World) : (zeroValue 64).run Tryz.prog w = .ok (pvoc none) w := Tryz.zeroValue64 w

theorem PMc.lookT {w : World} {b n : Nat} {G : Dt → Option Nat} (h : PMc w b n G) {d : Dt} (hd : Dw d) : (Instr.lookup 29 (.map (some b)) (dv d) false).run Tryz.prog w = .ok (pvoc (G d)) w := by
  obtain ⟨D, ho, hT⟩ := h
  obtain ⟨v, ps, hr, hv⟩ := ho.lookup law Tryz.underlying29 (zeroText w) (pRc_mk none) (keyOf_dot hd)
  rw [(hT d hd).2] at hv
  rw [hr, pRc_inv hv]

theorem PMc.putT {w : World} {b n : Nat} {G : Dt → Option Nat} (h : PMc w b n G) {d : Dt} (hd : Dw d) (g : Nat) (hn : n < maxLen) : ∃ w', (Instr.mapUpdate 29 (.map (some b)) (dv d) (pvFc g)).run Tryz.prog w = .ok () w' ∧ PMc w' b (n + 1) (fun e => if e = d then some g else G e) ∧ w.grownBy w' (some b) := by
  obtain ⟨D, ho, hT⟩ := h
  obtain ⟨w', hr, ho', hg⟩ := ho.update law Tryz.underlying29 hn (keyOf_dot hd) (pRc_mk (some g))
  refine ⟨w', hr, ⟨_, ho', fun e he => ?_⟩, hg⟩
  by_cases hea : e = d
  · subst hea
    simp only [if_true]
    exact ⟨by rw [has_put_same ho.isMap (kl_isKey _)]; rfl, atKey_put_same ho.isMap (kl_isKey _) _ _⟩
  · have hne : kl e ≠ kl d := fun h' => hea (kl_inj he hd h')
    simp only [hea, if_false]
    exact ⟨by rw [has_put_other hne]; exact (hT e he).1, by rw [atKey_put_other hne]; exact (hT e he).2⟩

/-- The texts of a map, told. -/
theorem XP.of {P : Nat → Prop} {W : World} {b n : Nat} {G : Dt → Option Nat} {T : Nat → List Cr} {σ : Dt → List UInt8} (h : PMc W b n G) (hb : P b) (hT : ∀ d g, Dw d → G d = some g → (T g).length ≤ 1000000 ∧ σ d = strB (seenC (T g)) ∧ ∀ V, KP P W V → TM V g (T g)) (hN : ∀ d, Dw d → G d = none → σ d = []) : XP P W (.map (some b)) σ := fun d hd => ⟨pvoc (G d), fun V hV => ⟨(h.same (hV.keep b hb)).lookT hd, by
  cases e : G d with
  | none =>
    rw [hN d hd e]
    exact string_of (sight_none V (fun _ => none)) (rdc_none _ _) (fun c hc => by simp at hc) (by omega)
  | some g =>
    obtain ⟨h1, h2, h3⟩ := hT d g hd e
    rw [h2]
    exact string_tm (h3 V hV) h1⟩⟩
end

section
set_option linter.unusedVariables false
open Go.Shelf Go.RowKit

set_option maxRecDepth 100000 in
set_option maxHeartbeats 2000000 in
theorem show_any (a : Option Addr) (n c : Nat) (L : List Ln) (m : Int) (w : World) (hs : LnS w a n c L) (hL : ∀ x ∈ L, -9223372036854775808 ≤ x.d ∧ x.d ≤ 100000 ∧ x.t.length ≤ 100000) (hn : n ≤ 1000) (hm : w.cell? ⟨0, 0, none⟩ = some (.int .i64 m)) (h0 : 0 < w.heap.size) :
    Calls Tryz.prog 18 #[.slice a n c] w fun e w' => e = .returned (.string (sB (showL L))) ∧ Below w.heap.size w w' := by
  have hlen := hs.len
  have hcap := hs.cap
  go_enter Tryz.func18, Tryz.ntmps18
  go_wp2
  go_loopw [8] (fun i wr => ∃ k : Nat, k ≤ n ∧ i = .int .i64 k ∧ Bld w.heap.size w.heap.size (Lib.byteCells (showL (L.take k))) wr ∧ Below w.heap.size w wr) (fun i _ => n - (intOf i).toNat)
  case atStart => exact ⟨0, by omega, rfl, new_bld w, (Below.refl _ w).alloc (Nat.le_refl _) _⟩
  case round =>
    obtain ⟨k, hk, rfl, hb, hB⟩ := hrel
    by_cases hlt : k < n
    · have hkl : k < L.length := by omega
      obtain ⟨g, o, rfl, hg, hcell⟩ := (hs.below hB).at_ (by omega)
      have hX := hcell k hkl
      have hLk := hL _ (List.getElem_mem hkl)
      have hts := hid (List.take_succ_eq_append_getElem hkl)
      have hsl := showL_len (L.take k) (fun y hy => (hL y (List.mem_of_mem_take hy)).2)
      rw [List.length_take, Nat.min_eq_left (by omega)] at hsl
      generalize L[k] = x at *
      obtain ⟨⟨x1, x2⟩, xd, xt⟩ := x
      have c0 := hX 0 _ rfl
      have c1 := hX 1 _ rfl
      have c2 := hX 2 _ rfl
      have c3 := hX 3 _ rfl
      simp only [Nat.add_zero] at c0 c1 c2 c3 hLk
      clear hX hcell hL
      go_upto_region 5 with fail
      obtain ⟨W1, hW1⟩ : ∃ W1, W1 = wr.alloc (.cells #[.int .i64 x1, .int .i64 x2, .int .i64 xd, .string ⟨xt.toArray⟩] 54) := ⟨_, rfl⟩
      have hW1b : Below wr.heap.size wr W1 := by rw [hW1]; exact (Below.refl _ wr).alloc (Nat.le_refl _) _
      have hsz1 : W1.heap.size = wr.heap.size + 1 := by rw [hW1]; simp
      have hbk : W1.heap[wr.heap.size]? = some (.cells #[.int .i64 x1, .int .i64 x2, .int .i64 xd, .string ⟨xt.toArray⟩] 54 (0, 0)) := by rw [hW1]; exact World.alloc_heap_new wr _
      have hb1 := bld_below hb hW1b
      rw [← hW1]
      clear hW1
      have hlb := Lib.byteCells_length (showL (L.take k))
      have d2 : ∀ q, (W1.drewN q).cell? ⟨wr.heap.size, 2, none⟩ = some (.int .i64 xd) := fun _ => by show W1.cell? _ = _; rw [Lib.cell_of_heap hbk]; rfl
      have d20 : W1.cell? ⟨wr.heap.size, 2, none⟩ = some (.int .i64 xd) := d2 0
      have hLe : ∀ q, Calls Tryz.prog 44 #[.pointer (some ⟨w.heap.size, 0, none⟩)] (W1.drewN q) fun e w' => e = .returned (.int .i64 (Lib.byteCells (showL (L.take k))).length) ∧ w' = W1.drewN q := fun q => bld_len w.heap.size w.heap.size _ (W1.drewN q) hb1
      rw [hlb] at hLe
      obtain ⟨sl, hslq⟩ : ∃ sl, sl = (showL (L.take k)).length := ⟨_, rfl⟩
      rw [← hslq] at hLe hsl hlb
      have HSL := hid hslq
      clear hslq
      have hcmp : decide ((2147483647 - (sl : Int)) / 2 < xd) = false := by
        simp
        omega
      go_wp2_with fail
      go_quiet (first | (go_at_call 44; exact Calls.quiet_of_same (hLe _)))
      have hB1 : Below w.heap.size w W1 := hB.trans (hW1b.mono hB.size)
      have hbq : Bld w.heap.size w.heap.size (Lib.byteCells (showL (L.take k))) (W1.drewN nq) := hb1
      have hBq : Below w.heap.size w (W1.drewN nq) := hB1.trans (((Far.refl W1).drewN nq).below.mono hB1.size)
      have hbkq : (W1.drewN nq).heap[wr.heap.size]? = some (.cells #[.int .i64 x1, .int .i64 x2, .int .i64 xd, .string ⟨xt.toArray⟩] 54 (0, 0)) := hbk
      have hltq : wr.heap.size < (W1.drewN nq).heap.size := by show _ < W1.heap.size; omega
      generalize W1.drewN nq = W2 at *
      have e2 : W2.cell? ⟨wr.heap.size, 2, none⟩ = some (.int .i64 xd) := by rw [Lib.cell_of_heap hbkq]; rfl
      have e3 : W2.cell? ⟨wr.heap.size, 3, none⟩ = some (.string ⟨xt.toArray⟩) := by rw [Lib.cell_of_heap hbkq]; rfl
      obtain ⟨D, hD⟩ : ∃ D : Nat, D = xd.toNat := ⟨_, rfl⟩
      have HMX : Hid (max xd 0 = (D : Int)) := hid (by omega)
      have hDl : D ≤ 100000 := by omega
      have HD := hid hD
      clear hD hLe d2 d20 hbk
      have hne : wr.heap.size ≠ w.heap.size := by
        have h1 := hB.size
        have h2 : w.heap.size < wr.heap.size := by
          rcases hb with ⟨_, v, h, _⟩ | ⟨_, v, h, _⟩ <;> exact (Array.getElem?_eq_some_iff.1 h).1
        omega
      have kp : ∀ X Y : World, X.heap[wr.heap.size]? = some (.cells #[.int .i64 x1, .int .i64 x2, .int .i64 xd, .string ⟨xt.toArray⟩] 54 (0, 0)) → Lib.OthersKept 5 (some w.heap.size) X Y → Y.heap[wr.heap.size]? = some (.cells #[.int .i64 x1, .int .i64 x2, .int .i64 xd, .string ⟨xt.toArray⟩] 54 (0, 0)) := fun X Y h1 h2 => h2 _ _ h1 (fun e => hne (by first | exact Option.some.inj e | exact (Option.some.inj e).symm | exact e)) (fun c' fz' e => by cases e)
      have hel := esc_len xt
      obtain ⟨S0, hS0⟩ : ∃ S0, S0 = Lib.byteCells (showL (L.take k)) := ⟨_, rfl⟩
      have HS0 := hid hS0
      rw [← hS0] at hbq hlb
      obtain ⟨sp, hsp⟩ : ∃ sp, sp = sB (List.replicate (2 * D) 32) := ⟨_, rfl⟩
      have HSP := hid hsp
      have hspl : sp.size ≤ 2 * D := by rw [hsp, sB_size, List.length_replicate]; exact Nat.le_refl _
      obtain ⟨xe, hxe⟩ : ∃ xe, xe = sB (esc xt) := ⟨_, rfl⟩
      have HXE := hid hxe
      have hxel : xe.size ≤ 2 * xt.length := by rw [hxe, sB_size]; exact hel
      have HREP : ∀ W, Calls Tryz.prog 46 #[.string ⟨#[32, 32]⟩, .int .i64 D] W fun e w' => e = .returned (.string sp) ∧ Below W.heap.size W w' := fun W => by
        have := repeat_any [32, 32] D W (by omega) (by decide)
        rw [rep_two, ← hsp] at this
        exact this
      have HESC : ∀ W, W.cell? ⟨0, 0, none⟩ = some (.int .i64 m) → 0 < W.heap.size → Calls Tryz.prog 47 #[.string ⟨xt.toArray⟩] W fun e w' => e = .returned (.string xe) ∧ Below W.heap.size W w' := fun W h1 h2 => by
        have := escaped_any xt m W (by omega) h1 h2
        rw [← hxe] at this
        exact this
      clear hsp hxe hS0
      go_upto_region 8 with (first
        | (go_at_call 46; rw [HMX.out]; refine (HREP _).mono ?_; rintro e w3 ⟨rfl, hB3⟩; have hb3 := bld_below hbq hB3; have hBw3 := hBq.trans (hB3.mono hBq.size); have hk3 := (hB3.block _ hltq).trans hbkq)
        | (go_at_call 45; refine (write_string w.heap.size w.heap.size S0 sp w3 hb3 (by omega) hBw3.size).mono ?_; rintro e w4 ⟨rfl, hb4, hB4, hK4⟩; have hk4 := kp _ _ hk3 hK4; have hBw4 := hBw3.trans hB4))
      obtain ⟨S1, hS1⟩ : ∃ S1, S1 = S0 ++ Lib.strCells sp := ⟨_, rfl⟩
      have HS1 := hid hS1
      have hl1 : S1.length ≤ sl + 2 * D := by rw [hS1, List.length_append, Lib.strCells_length]; omega
      rw [← hS1] at hb4
      clear hS1 hb3 hB3 hB4 hK4 hk3 hbq
      go_upto_region 9 with (go_at_call 45; refine (write_string w.heap.size w.heap.size S1 ⟨#[45, 32]⟩ w4 (Or.inr hb4) (by show S1.length + 2 ≤ _; omega) hBw4.size).mono ?_; rintro e w5 ⟨rfl, hb5, hB5, hK5⟩)
      have hk5 := kp _ _ hk4 hK5
      have hBw5 := hBw4.trans hB5
      have e5 : w5.cell? ⟨wr.heap.size, 3, none⟩ = some (.string ⟨xt.toArray⟩) := by rw [Lib.cell_of_heap hk5]; rfl
      have hm5 : w5.cell? ⟨0, 0, none⟩ = some (.int .i64 m) := by rw [hBw5.cell (by simpa using h0)]; exact hm
      obtain ⟨S2, hS2⟩ : ∃ S2, S2 = S1 ++ Lib.strCells ⟨#[45, 32]⟩ := ⟨_, rfl⟩
      have HS2 := hid hS2
      have hl2 : S2.length ≤ sl + 2 * D + 2 := by rw [hS2, List.length_append]; exact Nat.add_le_add_right hl1 2
      rw [← hS2] at hb5
      have hz5 : 0 < w5.heap.size := by have := hBw5.size; omega
      clear hS2 hb4 hB5 hK5 hk4
      go_upto_region 10 with (first
        | (go_at_call 47; refine (HESC w5 hm5 hz5).mono ?_; rintro e w6 ⟨rfl, hB6⟩; have hb6 := bld_below (Or.inr hb5) hB6; have hBw6 := hBw5.trans (hB6.mono hBw5.size))
        | (go_at_call 45; refine (write_string w.heap.size w.heap.size S2 xe w6 hb6 (by omega) hBw6.size).mono ?_; rintro e w7 ⟨rfl, hb7, hB7, hK7⟩))
      have hBw7 := hBw6.trans hB7
      obtain ⟨S3, hS3⟩ : ∃ S3, S3 = S2 ++ Lib.strCells xe := ⟨_, rfl⟩
      have HS3 := hid hS3
      have hl3 : S3.length ≤ sl + 2 * D + 2 + 2 * xt.length := by rw [hS3, List.length_append, Lib.strCells_length]; omega
      rw [← hS3] at hb7
      clear hS3 hb5 hb6 hB6 hB7 hK7
      go_wp2_with (go_at_call 48; refine (write_byte w.heap.size w.heap.size S3 10 w7 (Or.inr hb7) (by omega) hBw7.size).mono ?_; rintro e w8 ⟨rfl, hb8, hB8, hK8⟩; have hBw8 := hBw7.trans hB8)
      go_roundw
      case rel =>
        refine ⟨k + 1, by omega, by go_num, ?_, hBw8⟩
        rw [hts.out, showL_snoc]
        have e : Lib.byteCells (showL (L.take k) ++ Ln.sh ⟨(x1, x2), xd, xt⟩) = S3 ++ [.int .u8 10] := by
          rw [HS3.out, HS2.out, HS1.out, HS0.out, HSP.out, HXE.out]
          simp only [strCells_sB, Ln.sh, lnB, HD.out, Lib.byteCells, List.map_append, List.map_cons, List.map_nil, List.append_assoc, List.cons_append, List.nil_append]
          rfl
        rw [e]
        exact Or.inr hb8
      case measure => simp [intOf]; omega
    · obtain rfl : k = n := by omega
      have hB0 := hB
      rw [← hlen, List.take_length] at hb
      go_wp2_with (go_at_call 49; refine (bld_string w.heap.size w.heap.size (showL L) _ hb hB.size).mono ?_; rintro e w3 ⟨rfl, _, hB3, _⟩)
      go_ret
      exact ⟨rfl, hB.trans hB3⟩
end

section
set_option linter.unusedVariables false
open Go.RowKit

def awA : Mv := ⟨(1, 1), 1, (1, 1), (0, -1), ⟨#[110]⟩⟩
def awB : Mv := ⟨(1, 2), 2, (1, 2), (1, 1), ⟨#[110]⟩⟩
theorem aw_1 : mvE [] awA = 0 ∧ mvL [] awA = [awA] := by
  have h : mvE [] awA = 0 := by decide +kernel
  refine ⟨h, ?_⟩
  unfold mvL
  rw [if_pos h]
  have hr : rkL mvl [] awA = 0 := by decide +kernel
  unfold insL
  rw [hr]
  rfl
theorem aw_2 : mvE [awA] awB = 0 ∧ mvL [awA] awB = [awA, awB] := by
  have h : mvE [awA] awB = 0 := by decide +kernel
  refine ⟨h, ?_⟩
  unfold mvL
  rw [if_pos h]
  have hr : rkL mvl [awA] awB = 1 := by decide +kernel
  unfold insL
  rw [hr]
  rfl
end

section
set_option linter.unusedVariables false
open Go.RowKit

def oaT : List Cr := [⟨(1, 3), (0, 0), true, 121, true⟩]
def oaσ (d : Dt) : List UInt8 := if d = (1, 2) then [121] else []
def oaL : List Ln := [⟨(1, 1), 0, []⟩, ⟨(1, 2), 1, [121]⟩]

theorem oa1 : insP [] (1, 3) (0, 0) 1 121 = (0, oaT) := by simp [insP, mayI, oaT]
theorem oa2 : strB (seenC oaT) = [121] := by decide +kernel
theorem oa3 : kidD (run [awA, awB]) (0, -1) = [(1, 1)] := by decide +kernel
theorem oa4 : kidD (run [awA, awB]) (1, 1) = [(1, 2)] := by decide +kernel
theorem oa5 : kidD (run [awA, awB]) (1, 2) = [] := by decide +kernel
theorem oa6 : (run [awA, awB]).length = 2 := by decide +kernel
theorem oa7 : undL (run [awA, awB]) oaσ (0, -1) = oaL := by
  unfold undL
  rw [oa6]
  simp [undF, oa3, oa4, oa5, undLn, oaL, oaσ]
theorem oa8 : showL oaL = [45, 32, 10, 32, 32, 45, 32, 121, 10] := by decide +kernel
theorem oa9 : rdR [45, 32, 10, 32, 32, 45, 32, 121, 10] = some [(0, []), (1, [121])] := by decide +kernel
theorem oa10 : rdR [32, 32, 45, 32, 121, 10] = none := by decide +kernel
theorem oa11 : rdM [45, 32, 10, 32, 32, 45, 32, 121, 10] = [⟨(0, 0), 0, []⟩, ⟨(0, 0), 1, [121]⟩] ∧ rdE [45, 32, 10, 32, 32, 45, 32, 121, 10] = 0 := by
  unfold rdM rdE
  rw [oa9]
  exact ⟨rfl, rfl⟩
theorem oa12 : rdM [32, 32, 45, 32, 121, 10] = [] ∧ rdE [32, 32, 45, 32, 121, 10] = 11 := by
  unfold rdM rdE
  rw [oa10]
  exact ⟨rfl, rfl⟩
end

section
set_option linter.unusedVariables false
open Go.RowKit

def awT : Mv := ⟨(2, 1), 1, (2, 1), (0, -1), ⟨#[110]⟩⟩

theorem awt_1 : mvE [] awT = 0 ∧ mvL [] awT = [awT] := by
  have h : mvE [] awT = 0 := by decide +kernel
  refine ⟨h, ?_⟩
  unfold mvL
  rw [if_pos h]
  have hr : rkL mvl [] awT = 0 := by decide +kernel
  unfold insL
  rw [hr]
  rfl
theorem awt_2 : kidD (run [awT]) (0, -1) = [(2, 1)] := by decide +kernel
theorem awt_3 : kidD (run [awT]) (2, 1) = [] := by decide +kernel
theorem awt_4 : (run [awT]).length = 1 := by decide +kernel
def txσ (st : List UInt8) (d : Dt) : List UInt8 := if d = (2, 1) then st else []
theorem awt_5 (st : List UInt8) : undL (run [awT]) (txσ st) (0, -1) = [⟨(2, 1), 0, st⟩] := by
  unfold undL
  rw [awt_4]
  simp [undF, awt_2, awt_3, undLn, txσ]
end

section
set_option linter.unusedVariables false
set_option linter.unusedSimpArgs false
open Go.RowKit

theorem tp_far {W W' : World} {t : Nat} {l : List Mv} {P Q : Nat → Prop} {X4 : World} (h : TP W t l P ∧ KP Q X4 W) (hq : ∀ j, Q j → P j) (hf : Far W W') : TP W' t l P ∧ KP Q X4 W' :=
  ⟨h.1.below hf.below, h.2.trans (KP.below hf.below (fun j hj => h.1.lt j (hq j hj)))⟩
end
end Go.Proofs.YtnmdcdphpcpojaaGreatDoor
