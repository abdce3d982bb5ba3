/- The reference's rows of kids. No function of the program. -/
import Derived.Test.YtplcohjpchfkkaaTrSRow
import Derived.Test.YtplcohjpchfkkaaTrInsD
import Derived.BigQuiet
namespace Go.Proofs.Ytplcohjpchfkkaa
section
set_option linter.unusedVariables false
open Go.RowKit
open Go.Sort (grow)

/-- A spot as a value. -/
def Sp.val (s : Sp) : Value := .agg s.rc

theorem sps_one (w : World) (s : Sp) : SpR (w.alloc (.cells s.rc 81)) (some ⟨w.heap.size, 0, none⟩) 1 1 [s] :=
  ⟨rfl, Nat.le_refl _, by decide, (fun e => by cases e), fun _ => ⟨w.heap.size, 0, rfl, by simp, fun i hi j u hj => by
    have hi0 : i = 0 := by simpa using hi
    subst hi0
    have e := World.alloc_heap_new w (.cells s.rc 81)
    simp only [World.cell?]
    rw [e]
    simpa using hj⟩⟩

theorem spS_form {w : World} {base n : Nat} {v : Value} {L : List Sp} (h : w.ownsRow base 81 5 v n (flS L)) : ∃ a c, v = .slice a n c := by
  rcases h.2 with ⟨e, h0⟩ | ⟨g, cap, cur, e, _⟩
  · exact ⟨none, 0, by rw [e, h0]⟩
  · exact ⟨_, _, e⟩

theorem ownS_below {w w' : World} {base n : Nat} {v : Value} {L : List Sp} (h : w.ownsRow base 81 5 v n (flS L)) (hb : Below w.heap.size w w') : w'.ownsRow base 81 5 v n (flS L) := by
  refine ⟨h.1, ?_⟩
  rcases h.2 with h' | ⟨g', cap, cur, e, hb', hg, r⟩
  · exact Or.inl h'
  · exact Or.inr ⟨g', cap, cur, e, hb', (hb.block g' (Array.getElem?_eq_some_iff.1 hg).1).trans hg, r⟩

theorem ownS_low {w : World} {b b' n : Nat} {v : Value} {L : List Sp} (h : w.ownsRow b 81 5 v n (flS L)) (hb : b' ≤ b) : w.ownsRow b' 81 5 v n (flS L) := by
  refine ⟨h.1, ?_⟩
  rcases h.2 with h' | ⟨g', cap, cur, e, hb', r⟩
  · exact Or.inl h'
  · exact Or.inr ⟨g', cap, cur, e, Nat.le_trans hb hb', r⟩

set_option maxRecDepth 100000 in
set_option maxHeartbeats 4000000 in
theorem trput_any (a : Option Addr) (n c : Nat) (T : List Sp) (s : Sp) (w : World) (h : SpR w a n c T) (hn : n ≤ 100000) :
    Calls Try.prog 52 #[.slice a n c, s.val] w fun e w' => ∃ v, e = .returned v ∧ w'.ownsRow w.heap.size 81 5 v (put T s).length (flS (put T s)) ∧ Below w.heap.size w w' := by
  obtain ⟨⟨b1, b2⟩, ⟨p1, p2⟩, ky⟩ := s
  have mixed := mixed
  obtain ⟨W0, hW0⟩ : ∃ W0, W0 = w.alloc (.cells #[.int .i64 b1, .int .i64 b2, .int .i64 p1, .int .i64 p2, .string ky] 81) := ⟨_, rfl⟩
  have hB0 : Below w.heap.size w W0 := by rw [hW0]; exact (Below.refl _ w).alloc (Nat.le_refl _) _
  have hz0 : w.heap.size < W0.heap.size := by rw [hW0]; simp
  have hb1 : W0.heap[w.heap.size]? = some (.cells #[.int .i64 b1, .int .i64 b2, .int .i64 p1, .int .i64 p2, .string ky] 81 (0, 0)) := by rw [hW0]; exact World.alloc_heap_new w _
  have hcap := h.cap
  have hmax := h.max
  unfold maxLen at hmax
  have HL := hid h.len
  have HS := hid h
  have HB0 := hid hB0
  have HBX : Hid (∀ U, Below W0.heap.size W0 U → U.cell? ⟨w.heap.size, 0, none⟩ = some (.int .i64 b1) ∧ U.cell? ⟨w.heap.size, 1, none⟩ = some (.int .i64 b2) ∧ U.cell? ⟨w.heap.size, 2, none⟩ = some (.int .i64 p1) ∧ U.cell? ⟨w.heap.size, 3, none⟩ = some (.int .i64 p2) ∧ U.cell? ⟨w.heap.size, 4, none⟩ = some (.string ky)) := hid (fun U hU => by
    have e := hU.block w.heap.size hz0
    rw [hb1] at e
    exact ⟨by simp [World.cell?, e], by simp [World.cell?, e], by simp [World.cell?, e], by simp [World.cell?, e], by simp [World.cell?, e]⟩)
  clear hB0 hb1 hz0 h
  show Calls Try.prog 52 #[.slice a n c, .agg #[.int .i64 b1, .int .i64 b2, .int .i64 p1, .int .i64 p2, .string ky]] w _
  go_enter Try.func52, Try.ntmps52
  go_wp2
  rw [← hW0]
  clear hW0
  go_loopw [5, 6] (fun v i wr => ∃ (oa : Option Addr) (m oc k : Nat), v = .slice oa m oc ∧ k ≤ n ∧ m ≤ k ∧ i = .int .i64 k ∧ Hid (m = ((T.take k).filter (fun x => decide (x.b ≠ (b1, b2)))).length) ∧ Hid (wr.ownsRow W0.heap.size 81 5 (.slice oa m oc) m (flS ((T.take k).filter (fun x => decide (x.b ≠ (b1, b2)))))) ∧ Hid (Below W0.heap.size W0 wr)) (fun _ i _ => n - (intOf i).toNat)
  case atStart => exact ⟨none, 0, 0, 0, rfl, by omega, by omega, rfl, hid rfl, hid (World.ownsRow_nil _ _ _ _), hid (Below.refl _ _)⟩
  case round =>
    obtain ⟨oa, m, oc, k, rfl, hk, hmk, rfl, HM, HO, HB⟩ := hrel
    by_cases hkn : k < n
    · have hlt : decide ((k : Int) < (n : Int)) = true := by simp [hkn]
      have hkT : k < T.length := by rw [HL.out]; exact hkn
      obtain ⟨g, o, rfl, _⟩ := (HS.out.below (HB0.out.trans (HB.out.mono HB0.out.size))).at hkn
      obtain ⟨x, hx⟩ : ∃ x, x = T[k]'hkT := ⟨_, rfl⟩
      have HSa : Hid (∀ U, Below W0.heap.size W0 U → SpAt U g (o + k * 5) x) := hid (fun U hU => by
        obtain ⟨g', o', e', ha⟩ := (HS.out.below (HB0.out.trans (hU.mono HB0.out.size))).at hkn
        cases e'
        rw [hx]
        exact ha)
      have hts : Hid (T.take (k + 1) = T.take k ++ [x]) := hid (by rw [hx]; exact List.take_succ_eq_append_getElem hkT)
      clear hx hkT
      obtain ⟨⟨x1, x2⟩, ⟨y1, y2⟩, kx⟩ := x
      haveI : Nonempty (Wb wr) := ⟨⟨wr, Below.refl _ _⟩⟩
      have HBU : Hid (∀ pp : Wb wr, Below W0.heap.size W0 pp.u) := hid (fun pp => HB.out.trans (pp.h.mono HB.out.size))
      have q0 : ∀ pp : Wb wr, pp.u.cell? ⟨w.heap.size, 0, none⟩ = some (.int .i64 b1) := fun pp => (HBX.out _ (HBU.out pp)).1
      have q1 : ∀ pp : Wb wr, pp.u.cell? ⟨w.heap.size, 1, none⟩ = some (.int .i64 b2) := fun pp => (HBX.out _ (HBU.out pp)).2.1
      have r0 : ∀ pp : Wb wr, pp.u.cell? ⟨g, o + k * 5, none⟩ = some (.int .i64 x1) := fun pp => (HSa.out _ (HBU.out pp)).c0
      have r1 : ∀ pp : Wb wr, pp.u.cell? ⟨g, o + k * 5 + 1, none⟩ = some (.int .i64 x2) := fun pp => (HSa.out _ (HBU.out pp)).c1
      have HOU : Hid (∀ pp : Wb wr, pp.u.ownsRow W0.heap.size 81 5 (.slice oa m oc) m (flS ((T.take k).filter (fun x => decide (x.b ≠ (b1, b2)))))) := hid (fun pp => ownS_below HO.out pp.h)
      by_cases hxe : x1 = b1 ∧ x2 = b2
      · obtain ⟨rfl, rfl⟩ := hxe
        have HFt : Hid ((T.take (k + 1)).filter (fun x => decide (x.b ≠ (x1, x2))) = (T.take k).filter (fun x => decide (x.b ≠ (x1, x2)))) := hid (by rw [hts.out, List.filter_append]; simp)
        go_wp2_with fail
        refine wp_region_below mixed (by kernel_rfl) ?_
        repeat (go_big_quiet_step (fail))
        refine wpQuiet_nil ?_
        intro _ hw'
        obtain ⟨pp, hw''⟩ := hw'
        subst hw''
        go_wp2
        go_roundw
        case rel => exact ⟨oa, m, oc, k + 1, rfl, by omega, by omega, by go_num, by rw [HFt.out]; exact HM, hid (by rw [HFt.out]; exact HOU.out pp), hid (HBU.out pp)⟩
        case measure => simp [intOf]; omega
      · have HFt : Hid ((T.take (k + 1)).filter (fun x => decide (x.b ≠ (b1, b2))) = (T.take k).filter (fun x => decide (x.b ≠ (b1, b2))) ++ [⟨(x1, x2), (y1, y2), kx⟩]) := hid (by
          have hne : decide ((⟨(x1, x2), (y1, y2), kx⟩ : Sp).b ≠ (b1, b2)) = true := decide_eq_true (fun e => hxe ⟨(Prod.mk.inj e).1, (Prod.mk.inj e).2⟩)
          rw [hts.out, List.filter_append]
          congr 1
          exact List.filter_cons_of_pos (p := fun x : Sp => decide (x.b ≠ (b1, b2))) hne)
        by_cases h1 : x1 = b1
        · have h2 : ¬ x2 = b2 := fun e => hxe ⟨h1, e⟩
          have f1 : (x1 == b1) = true := by simpa using h1
          have f2 : (x2 == b2) = false := by simpa using h2
          go_wp2_with fail
          refine wp_region_below mixed (by kernel_rfl) ?_
          repeat (go_big_quiet_step (fail))
          refine wpQuiet_nil ?_
          intro _ hw'
          obtain ⟨pp, hw''⟩ := hw'
          subst hw''
          obtain ⟨U, hU⟩ : ∃ U, U = pp.u := ⟨_, rfl⟩
          have hBU := HBU.out pp
          have hOU := HOU.out pp
          have hSa := HSa.out _ hBU
          rw [← hU] at hBU hOU hSa ⊢
          have c0 := hSa.c0
          have c1 := hSa.c1
          have c2 := hSa.c2
          have c3 := hSa.c3
          have c4 := hSa.c4
          clear hSa hU q0 q1 r0 r1 h1 h2 f1 f2 hxe
          go_wp2_with (first
            | (at_builtin; refine wpList_append_sps rfl _ _ 28 Try.underlying28 rfl W0.heap.size _ m _ rfl (hOU.alloc _) (some ⟨U.heap.size, 0, none⟩) 1 1 [⟨(x1, x2), (y1, y2), kx⟩] rfl (sps_one U ⟨(x1, x2), (y1, y2), kx⟩) (by omega) (by have := hBU.size; simp; omega) ?_; intro v5 w5 ho5 hg5))
          rw [← HFt.out] at ho5
          obtain ⟨oa', oc', rfl⟩ := spS_form ho5
          have HBF := hid ((hBU.alloc hBU.size _).grown hg5 (hBU.alloc hBU.size _).size (fun j hj => (hOU.lt j hj).1))
          have HO5 := hid ho5
          clear ho5 hg5 hBU hOU
          go_wp2
          go_roundw
          case rel => exact ⟨oa', m + 1, oc', k + 1, rfl, by omega, by omega, by go_num, hid (by rw [HFt.out, List.length_append, ← HM.out]; rfl), HO5, HBF⟩
          case measure => simp [intOf]; omega
        · have f1 : (x1 == b1) = false := by simpa using h1
          go_wp2_with fail
          refine wp_region_below mixed (by kernel_rfl) ?_
          repeat (go_big_quiet_step (fail))
          refine wpQuiet_nil ?_
          intro _ hw'
          obtain ⟨pp, hw''⟩ := hw'
          subst hw''
          obtain ⟨U, hU⟩ : ∃ U, U = pp.u := ⟨_, rfl⟩
          have hBU := HBU.out pp
          have hOU := HOU.out pp
          have hSa := HSa.out _ hBU
          rw [← hU] at hBU hOU hSa ⊢
          have c0 := hSa.c0
          have c1 := hSa.c1
          have c2 := hSa.c2
          have c3 := hSa.c3
          have c4 := hSa.c4
          clear hSa hU q0 q1 r0 r1 h1 f1 hxe
          go_wp2_with (first
            | (at_builtin; refine wpList_append_sps rfl _ _ 28 Try.underlying28 rfl W0.heap.size _ m _ rfl (hOU.alloc _) (some ⟨U.heap.size, 0, none⟩) 1 1 [⟨(x1, x2), (y1, y2), kx⟩] rfl (sps_one U ⟨(x1, x2), (y1, y2), kx⟩) (by omega) (by have := hBU.size; simp; omega) ?_; intro v5 w5 ho5 hg5))
          rw [← HFt.out] at ho5
          obtain ⟨oa', oc', rfl⟩ := spS_form ho5
          have HBF := hid ((hBU.alloc hBU.size _).grown hg5 (hBU.alloc hBU.size _).size (fun j hj => (hOU.lt j hj).1))
          have HO5 := hid ho5
          clear ho5 hg5 hBU hOU
          go_wp2
          go_roundw
          case rel => exact ⟨oa', m + 1, oc', k + 1, rfl, by omega, by omega, by go_num, hid (by rw [HFt.out, List.length_append, ← HM.out]; rfl), HO5, HBF⟩
          case measure => simp [intOf]; omega
    · obtain rfl : k = n := by omega
      have hlt : decide ((k : Int) < (k : Int)) = false := by simp
      have hTk : T.take k = T := List.take_of_length_le (by rw [HL.out]; exact Nat.le_refl _)
      rw [hTk] at HM HO
      obtain ⟨e0, e1, e2, e3, e4⟩ := HBX.out _ HB.out
      go_wp2_with (first
        | (at_builtin; refine wpList_append_sps rfl _ _ 28 Try.underlying28 rfl W0.heap.size _ m _ rfl (HO.out.alloc _) (some ⟨wr.heap.size, 0, none⟩) 1 1 [⟨(b1, b2), (p1, p2), ky⟩] rfl (sps_one wr ⟨(b1, b2), (p1, p2), ky⟩) (by omega) (by have := HB.out.size; simp; omega) ?_; intro v5 w5 ho5 hg5))
      go_ret
      have hB5 : Below W0.heap.size W0 w5 := (HB.out.alloc HB.out.size _).grown hg5 (HB.out.alloc HB.out.size _).size (fun j hj => (HO.out.lt j hj).1)
      refine ⟨v5, rfl, ?_, HB0.out.trans (hB5.mono HB0.out.size)⟩
      have e : (put T ⟨(b1, b2), (p1, p2), ky⟩).length = m + 1 := by unfold put; rw [List.length_append, HM.out]; rfl
      rw [e]
      exact ownS_low ho5 HB0.out.size
end

section
set_option linter.unusedVariables false
open Go.RowKit

theorem SpR.take {w : World} {a : Option Addr} {n c : Nat} {L : List Sp} (h : SpR w a n c L) (k : Nat) (hk : k ≤ n) : SpR w a k c (L.take k) :=
  ⟨by rw [List.length_take, h.len]; omega, Nat.le_trans hk h.cap, h.max, fun e => ⟨by have := (h.nil e).1; omega, (h.nil e).2⟩, fun hp => by
    obtain ⟨g, o, e, hg, hx⟩ := h.at_ (by omega)
    refine ⟨g, o, e, hg, fun i hi j u hj => ?_⟩
    rw [List.length_take] at hi
    rw [List.getElem_take] at hj
    exact hx i (by omega) j u hj⟩

theorem SpR.drop {w : World} {g o n c : Nat} {L : List Sp} (h : SpR w (some ⟨g, o, none⟩) n c L) (k : Nat) (hk : k ≤ n) : SpR w (some ⟨g, o + k * 5, none⟩) (n - k) (c - k) (L.drop k) :=
  ⟨by rw [List.length_drop, h.len], by have := h.cap; omega, by have := h.max; omega, fun e => (by cases e), fun hp => by
    obtain ⟨g', o', e, hg, hx⟩ := h.at_ (by omega)
    cases e
    refine ⟨g, o + k * 5, rfl, hg, fun i hi j u hj => ?_⟩
    rw [List.length_drop] at hi
    rw [List.getElem_drop] at hj
    have := hx (k + i) (by omega) j u hj
    rw [show o + k * 5 + i * 5 + j = o + (k + i) * 5 + j by omega]
    exact this⟩

theorem SpR.no (w : World) (a : Option Addr) (c : Nat) (h : a = none → c = 0) (hm : c ≤ maxLen) : SpR w a 0 c [] :=
  ⟨rfl, Nat.zero_le _, hm, fun e => ⟨rfl, h e⟩, fun hp => absurd hp (by omega)⟩

/-- The place is where the first one stands that isn't ahead. -/
theorem rk_found {l : List Sp} (h : Srt kdl l) {s : Sp} {q : Nat} (hq : q ≤ l.length) (h1 : ∀ x ∈ l.take q, kdl x s = true) (h2 : ∀ x, l[q]? = some x → kdl x s = false) : q = rkL kdl l s := by
  rcases Nat.lt_trichotomy q (rkL kdl l s) with hlt | he | hgt
  · have hql : q < l.length := Nat.lt_of_lt_of_le hlt (rk_le _ _ _)
    have := rk_lt kdl_lin h s (List.getElem?_eq_getElem hql)
    rw [h2 _ (List.getElem?_eq_getElem hql), decide_eq_true hlt] at this
    cases this
  · exact he
  · have hql : rkL kdl l s < l.length := by omega
    have h3 := rk_lt kdl_lin h s (List.getElem?_eq_getElem hql)
    rw [decide_eq_false (Nat.lt_irrefl _)] at h3
    have h4 := h1 (l[rkL kdl l s]'hql) (by rw [List.mem_take_iff_getElem]; exact ⟨_, by omega, rfl⟩)
    rw [h3] at h4
    cases h4

theorem rkids_fin {w5 : World} {v5 : Value} {B m q : Nat} {O : List Sp} {s : Sp} (hl : O.length = m) (hq : q ≤ m) (he : q = rkL kdl O s) (ho : w5.ownsRow B 81 5 v5 (0 + q + 1 + (m - q)) (flS ([] ++ O.take q ++ [s] ++ O.drop q))) : ∃ a5 c5, v5 = .slice a5 (m + 1) c5 ∧ w5.ownsRow B 81 5 (.slice a5 (m + 1) c5) (m + 1) (flS (insL kdl O s)) := by
  have e1 : 0 + q + 1 + (m - q) = m + 1 := by omega
  have e2 : [] ++ O.take q ++ [s] ++ O.drop q = insL kdl O s := by unfold insL; rw [← he]; simp
  rw [e1, e2] at ho
  obtain ⟨a5, c5, rfl⟩ := spS_form ho
  exact ⟨a5, c5, rfl, ho⟩

theorem kdl_key {x s : Sp} (h : bl (kb x.k) (kb s.k) = true) : kdl x s = true := (kdl_iff _ _).2 (Or.inl h)
theorem kdl_same {x s : Sp} (e : x.k = s.k) : kdl x s = dl x.b s.b := by
  unfold kdl
  rw [e, bl_irrefl]
  simp
theorem kdl_no {x s : Sp} (h : bl (kb x.k) (kb s.k) = false) (hne : kb x.k ≠ kb s.k) : kdl x s = false := by
  unfold kdl
  rw [h, decide_eq_false hne]
  rfl
theorem kb_inj {a b : ByteArray} (h : kb a = kb b) : a = b := by
  have h' : a.toList = b.toList := h
  rw [ByteArray.toList_eq, ByteArray.toList_eq] at h'
  exact ByteArray.ext (Array.toList_inj.1 h')
end
end Go.Proofs.Ytplcohjpchfkkaa
