/- lift, what its steps come to. -/
import Derived.Test.YtnmdcdphpcpojaaGreatDoorTrDelD
set_option linter.unusedVariables false
set_option linter.unusedSimpArgs false
namespace Go.Proofs.YtnmdcdphpcpojaaGreatDoor
open Go.RowKit

theorem RW.parents {w : World} {S : List Sp} {f : Rf} {B : Nat → Prop} (h : RW w S f B) (hn : (S.map Sp.b).Nodup) {d : Dt} (hd : (f d).isSome = true) : d ∈ S.map Sp.p := by
  cases e : kidS S d with
  | nil =>
    have := h.nz d (by unfold kidB; rw [e]; rfl)
    rw [this] at hd
    cases hd
  | cons x r =>
    have hx : x ∈ kidS S d := by rw [e]; simp
    obtain ⟨h1, h2⟩ := (kidS_mem hn).1 hx
    exact List.mem_map.2 ⟨x, h1, h2⟩

/-- A block is taken away: its row is another one, the others are as they were. -/
theorem RW.lift {w w' : World} {S : List Sp} {f f' : Rf} {B B' : Nat → Prop} (h : RW w S f B) (hn : (S.map Sp.b).Nodup) {s : Sp} (hs : s ∈ S) (h1 : ∀ p, p ≠ s.p → f' p = f p)
    (h2 : w'.ownsRow 0 24 2 (slv (f' s.p)) (kidB (lift S s.b) s.p).length (flat (kidB (lift S s.b) s.p))) (h3 : kidB (lift S s.b) s.p = [] → f' s.p = none) (hb : ∀ j, B j → B' j) (h4 : ∀ q, f' s.p = some q → ∃ q0, f s.p = some q0 ∧ q0.1 = q.1) (hk : ∀ p, p ≠ s.p → ∀ q', f p = some q' → w'.heap[q'.1]? = w.heap[q'.1]?) :
    RW w' (Proofs.YtnmdcdphpcpojaaGreatDoor.lift S s.b) f' B' := by
  refine ⟨fun p => ?_, fun p q e => ?_, fun p p' q1 q2 e1 e2 e3 => ?_, fun p hp => ?_⟩
  · by_cases e : p = s.p
    · subst e; exact h2
    · rw [h1 p e, kidB_lift_else hn hs e]
      exact row_kept (h.row p) (hk p e)
  · by_cases e' : p = s.p
    · subst e'
      obtain ⟨q0, a, b⟩ := h4 q e
      rw [← b]
      exact hb _ (h.own _ _ a)
    · rw [h1 p e'] at e
      exact hb _ (h.own p q e)
  · by_cases a1 : p = s.p
    · by_cases a2 : p' = s.p
      · rw [a1, a2]
      · rw [a1] at e1 ⊢
        rw [h1 p' a2] at e2
        obtain ⟨q0, a, b⟩ := h4 q1 e1
        exact h.apart _ _ _ _ a e2 (b.trans e3)
    · by_cases a2 : p' = s.p
      · rw [a2] at e2 ⊢
        rw [h1 p a1] at e1
        obtain ⟨q0, a, b⟩ := h4 q2 e2
        exact h.apart _ _ _ _ e1 a (e3.trans b.symm)
      · rw [h1 p a1] at e1
        rw [h1 p' a2] at e2
        exact h.apart p p' q1 q2 e1 e2 e3
  · by_cases e : p = s.p
    · subst e; exact h3 hp
    · rw [kidB_lift_else hn hs e] at hp
      rw [h1 p e]
      exact h.nz p hp

/-- What the steps come to: W6 is what is there at the end. -/
theorem lift_fin {w W1 W6 : World} {t m k : Nat} {f f' : Rf} {lg fd dn : Value} {S : List Sp} {B : Nat → Prop} {s : Sp} {q0 : Nat × Nat × Nat} {n : Nat} (hBt : ¬ B t) (hBs : ∀ j, B j → j < w.heap.size) (htw : t < w.heap.size) (hs : SM w W1 t m k f lg fd dn S B) (hn : (S.map Sp.b).Nodup) (hin : s ∈ S) (hq : f s.p = some q0) (hsm : Sm W1 W6) (hz : W1.heap.size ≤ W6.heap.size)
    (st : ∀ j, j < W1.heap.size → j ≠ m → j ≠ k → j ≠ q0.1 → W6.heap[j]? = W1.heap[j]?) (hp6 : PLM W6 m (lift S s.b)) (hk6 : KM W6 k n f') (h1 : ∀ p, p ≠ s.p → f' p = f p)
    (h2 : W6.ownsRow 0 24 2 (slv (f' s.p)) (kidB (lift S s.b) s.p).length (flat (kidB (lift S s.b) s.p))) (h3 : kidB (lift S s.b) s.p = [] → f' s.p = none) (h4 : ∀ q, f' s.p = some q → q.1 = q0.1) :
    TB W6 t lg fd dn (.map (some m)) (.map (some k)) ∧ SB W6 (.map (some m)) (.map (some k)) (lift S s.b) (Bn w W6 B) ∧ KB w W6 B t := by
  have hz1 : w.heap.size ≤ W1.heap.size := hs.kb.size
  have hrow : ∀ p q, f p = some q → q.1 < W1.heap.size ∧ q.1 ≠ m ∧ q.1 ≠ k ∧ q.1 ≠ t := fun p q e => by
    have h := hs.rw.row p
    rw [e] at h
    obtain ⟨_, _, _, cs, hc⟩ := row_block h
    refine ⟨(Array.getElem?_eq_some_iff.1 hc).1, hs.pm.cells hc, hs.km.cells hc, fun e' => ?_⟩
    have := hs.tb
    unfold TB at this
    rw [← e', hc] at this
    simp at this
  have htm : t ≠ m := hs.pm.cells hs.tb
  have htk : t ≠ k := hs.km.cells hs.tb
  have hbn : ∀ j, Bn w W1 B j → Bn w W6 B j := fun j hj => hj.imp id (fun h => ⟨h.1, by omega⟩)
  have hrw : RW W6 (lift S s.b) f' (Bn w W6 B) := hs.rw.lift hn hin h1 h2 h3 hbn (fun q e => ⟨q0, hq, (h4 q e).symm⟩) (fun p hp q' e => by
    obtain ⟨a1, a2, a3, _⟩ := hrow _ _ e
    exact st _ a1 a2 a3 (fun e2 => hp (hs.rw.apart p s.p q' q0 e hq e2)))
  have hkm : KM W6 k (lift S s.b).length f' := by
    have := hk6.tight (S := (lift S s.b).map Sp.p) (fun d _ hd => hrw.parents (lift_nodup hn _) hd)
    rwa [List.length_map] at this
  refine ⟨(st t (by omega) htm htk (Ne.symm (hrow _ _ hq).2.2.2)).trans hs.tb, Or.inr ⟨m, k, f', rfl, rfl, hs.ne, hbn _ hs.bm, hbn _ hs.bk, hp6, hkm, hrw⟩, ⟨by omega, fun j hj hB hjt => ?_, hs.kb.sm.trans hsm⟩⟩
  have hnm : ∀ x, Bn w W1 B x → j ≠ x := fun x hx e => by
    subst e
    rcases hx with hx | hx
    · exact hB hx
    · omega
  exact (st j (by omega) (hnm m hs.bm) (hnm k hs.bk) (hnm _ (hs.rw.own _ _ hq))).trans (hs.kb.keep j hj hB hjt)

set_option maxRecDepth 100000 in
theorem lift_tail {w W1 : World} {t m k : Nat} {f : Rf} {lg fd dn : Value} {S : List Sp} {B : Nat → Prop} {b1 b2 p1 p2 : Int} {ky : ByteArray} (hL : LF w W1 t m k f lg fd dn S B b1 b2 p1 p2 ky) (hBt : ¬ B t) (hBs : ∀ j, B j → j < w.heap.size) (htw : t < w.heap.size) (hn : (S.map Sp.b).Nodup) (hin : (⟨(b1, b2), (p1, p2), ky⟩ : Sp) ∈ S) (hdw : ∀ x ∈ S, Dw x.b) (hdp : Dw (p1, p2)) (hlen : S.length ≤ 1000000) :
    ∃ R : Nat, R < 1000000 ∧ Calls Tryz.prog 154 #[.pointer (some ⟨t, 3, none⟩), .agg #[.int .i64 b1, .int .i64 b2], .agg #[.int .i64 p1, .int .i64 p2, .string ky]] W1 fun e W2 => e = .returned (.int .i64 (R : Int)) ∧ (W2.cell? ⟨t, 3, none⟩ = some (.map (some m)) ∧ W2.cell? ⟨t, 4, none⟩ = some (.map (some k)) ∧ W2.cell? ⟨w.heap.size, 0, none⟩ = some (.int .i64 b1) ∧ W2.cell? ⟨w.heap.size, 1, none⟩ = some (.int .i64 b2) ∧ W2.cell? ⟨w.heap.size + 1, 0, none⟩ = some (.int .i64 p1) ∧ W2.cell? ⟨w.heap.size + 1, 1, none⟩ = some (.int .i64 p2) ∧ W2.cell? ⟨w.heap.size + 1, 2, none⟩ = some (.string ky)) ∧ (W2.drew.cell? ⟨t, 3, none⟩ = some (.map (some m)) ∧ W2.drew.cell? ⟨t, 4, none⟩ = some (.map (some k)) ∧ W2.drew.cell? ⟨w.heap.size, 0, none⟩ = some (.int .i64 b1) ∧ W2.drew.cell? ⟨w.heap.size, 1, none⟩ = some (.int .i64 b2) ∧ W2.drew.cell? ⟨w.heap.size + 1, 0, none⟩ = some (.int .i64 p1) ∧ W2.drew.cell? ⟨w.heap.size + 1, 1, none⟩ = some (.int .i64 p2) ∧ W2.drew.cell? ⟨w.heap.size + 1, 2, none⟩ = some (.string ky)) ∧ ∃ vs, (Instr.lookup 114 (.map (some k)) (.agg #[.int .i64 p1, .int .i64 p2]) false).run Tryz.prog W2.drew = .ok vs W2.drew ∧
      Calls Tryz.prog 155 #[vs, .int .i64 (R : Int), .int .i64 ((R : Int) + 1)] W2.drew fun e W3 => ∃ v3 W4 g n4 c, e = .returned v3 ∧ (W3.cell? ⟨t, 3, none⟩ = some (.map (some m)) ∧ W3.cell? ⟨t, 4, none⟩ = some (.map (some k)) ∧ W3.cell? ⟨w.heap.size, 0, none⟩ = some (.int .i64 b1) ∧ W3.cell? ⟨w.heap.size, 1, none⟩ = some (.int .i64 b2) ∧ W3.cell? ⟨w.heap.size + 1, 0, none⟩ = some (.int .i64 p1) ∧ W3.cell? ⟨w.heap.size + 1, 1, none⟩ = some (.int .i64 p2) ∧ W3.cell? ⟨w.heap.size + 1, 2, none⟩ = some (.string ky)) ∧ (Instr.mapUpdate 114 (.map (some k)) (.agg #[.int .i64 p1, .int .i64 p2]) v3).run Tryz.prog W3 = .ok () W4 ∧ (W4.cell? ⟨t, 3, none⟩ = some (.map (some m)) ∧ W4.cell? ⟨t, 4, none⟩ = some (.map (some k)) ∧ W4.cell? ⟨w.heap.size, 0, none⟩ = some (.int .i64 b1) ∧ W4.cell? ⟨w.heap.size, 1, none⟩ = some (.int .i64 b2) ∧ W4.cell? ⟨w.heap.size + 1, 0, none⟩ = some (.int .i64 p1) ∧ W4.cell? ⟨w.heap.size + 1, 1, none⟩ = some (.int .i64 p2) ∧ W4.cell? ⟨w.heap.size + 1, 2, none⟩ = some (.string ky)) ∧ (W4.drew.cell? ⟨t, 3, none⟩ = some (.map (some m)) ∧ W4.drew.cell? ⟨t, 4, none⟩ = some (.map (some k)) ∧ W4.drew.cell? ⟨w.heap.size, 0, none⟩ = some (.int .i64 b1) ∧ W4.drew.cell? ⟨w.heap.size, 1, none⟩ = some (.int .i64 b2) ∧ W4.drew.cell? ⟨w.heap.size + 1, 0, none⟩ = some (.int .i64 p1) ∧ W4.drew.cell? ⟨w.heap.size + 1, 1, none⟩ = some (.int .i64 p2) ∧ W4.drew.cell? ⟨w.heap.size + 1, 2, none⟩ = some (.string ky)) ∧ (Instr.lookup 114 (.map (some k)) (.agg #[.int .i64 p1, .int .i64 p2]) false).run Tryz.prog W4.drew = .ok (.slice (some ⟨g, 0, none⟩) n4 c) W4.drew ∧ (W4.drew.drew.cell? ⟨t, 3, none⟩ = some (.map (some m)) ∧ W4.drew.drew.cell? ⟨t, 4, none⟩ = some (.map (some k)) ∧ W4.drew.drew.cell? ⟨w.heap.size, 0, none⟩ = some (.int .i64 b1) ∧ W4.drew.drew.cell? ⟨w.heap.size, 1, none⟩ = some (.int .i64 b2) ∧ W4.drew.drew.cell? ⟨w.heap.size + 1, 0, none⟩ = some (.int .i64 p1) ∧ W4.drew.drew.cell? ⟨w.heap.size + 1, 1, none⟩ = some (.int .i64 p2) ∧ W4.drew.drew.cell? ⟨w.heap.size + 1, 2, none⟩ = some (.string ky)) ∧
        (n4 = 0 → ∃ W5, (Builtin.delete_ #[114, 24] 0 #[.map (some k), .agg #[.int .i64 p1, .int .i64 p2]]).run Tryz.prog W4.drew.drew = .ok (.tuple #[]) W5 ∧ (W5.cell? ⟨t, 3, none⟩ = some (.map (some m)) ∧ W5.cell? ⟨t, 4, none⟩ = some (.map (some k)) ∧ W5.cell? ⟨w.heap.size, 0, none⟩ = some (.int .i64 b1) ∧ W5.cell? ⟨w.heap.size, 1, none⟩ = some (.int .i64 b2) ∧ W5.cell? ⟨w.heap.size + 1, 0, none⟩ = some (.int .i64 p1) ∧ W5.cell? ⟨w.heap.size + 1, 1, none⟩ = some (.int .i64 p2) ∧ W5.cell? ⟨w.heap.size + 1, 2, none⟩ = some (.string ky)) ∧ (W5.drew.cell? ⟨t, 3, none⟩ = some (.map (some m)) ∧ W5.drew.cell? ⟨t, 4, none⟩ = some (.map (some k)) ∧ W5.drew.cell? ⟨w.heap.size, 0, none⟩ = some (.int .i64 b1) ∧ W5.drew.cell? ⟨w.heap.size, 1, none⟩ = some (.int .i64 b2) ∧ W5.drew.cell? ⟨w.heap.size + 1, 0, none⟩ = some (.int .i64 p1) ∧ W5.drew.cell? ⟨w.heap.size + 1, 1, none⟩ = some (.int .i64 p2) ∧ W5.drew.cell? ⟨w.heap.size + 1, 2, none⟩ = some (.string ky)) ∧ ∃ W6, (Builtin.delete_ #[111, 24] 0 #[.map (some m), .agg #[.int .i64 b1, .int .i64 b2]]).run Tryz.prog W5.drew = .ok (.tuple #[]) W6 ∧ (W6.cell? ⟨t, 3, none⟩ = some (.map (some m)) ∧ W6.cell? ⟨t, 4, none⟩ = some (.map (some k)) ∧ W6.cell? ⟨w.heap.size, 0, none⟩ = some (.int .i64 b1) ∧ W6.cell? ⟨w.heap.size, 1, none⟩ = some (.int .i64 b2) ∧ W6.cell? ⟨w.heap.size + 1, 0, none⟩ = some (.int .i64 p1) ∧ W6.cell? ⟨w.heap.size + 1, 1, none⟩ = some (.int .i64 p2) ∧ W6.cell? ⟨w.heap.size + 1, 2, none⟩ = some (.string ky)) ∧ Hid (TB W6 t lg fd dn (.map (some m)) (.map (some k)) ∧ SB W6 (.map (some m)) (.map (some k)) (lift S (b1, b2)) (Bn w W6 B) ∧ KB w W6 B t)) ∧
        (n4 ≠ 0 → ∃ W6, (Builtin.delete_ #[111, 24] 0 #[.map (some m), .agg #[.int .i64 b1, .int .i64 b2]]).run Tryz.prog W4.drew.drew = .ok (.tuple #[]) W6 ∧ (W6.cell? ⟨t, 3, none⟩ = some (.map (some m)) ∧ W6.cell? ⟨t, 4, none⟩ = some (.map (some k)) ∧ W6.cell? ⟨w.heap.size, 0, none⟩ = some (.int .i64 b1) ∧ W6.cell? ⟨w.heap.size, 1, none⟩ = some (.int .i64 b2) ∧ W6.cell? ⟨w.heap.size + 1, 0, none⟩ = some (.int .i64 p1) ∧ W6.cell? ⟨w.heap.size + 1, 1, none⟩ = some (.int .i64 p2) ∧ W6.cell? ⟨w.heap.size + 1, 2, none⟩ = some (.string ky)) ∧ Hid (TB W6 t lg fd dn (.map (some m)) (.map (some k)) ∧ SB W6 (.map (some m)) (.map (some k)) (lift S (b1, b2)) (Bn w W6 B) ∧ KB w W6 B t)) := by
  have hsm := hL.sm
  have hzw := hsm.kb.size
  have hl0 := (Array.getElem?_eq_some_iff.1 hL.b0).1
  have hl1 := (Array.getElem?_eq_some_iff.1 hL.b1).1
  have htm : t ≠ m := hsm.pm.cells hsm.tb
  have htk : t ≠ k := hsm.km.cells hsm.tb
  have h0m : w.heap.size ≠ m := hsm.pm.cells hL.b0
  have h0k : w.heap.size ≠ k := hsm.km.cells hL.b0
  have h1m : w.heap.size + 1 ≠ m := hsm.pm.cells hL.b1
  have h1k : w.heap.size + 1 ≠ k := hsm.km.cells hL.b1
  have hmw := hsm.pm.lt
  have hkw := hsm.km.lt
  have hrow : ∀ p q, f p = some q → q.1 < W1.heap.size ∧ q.1 ≠ m ∧ q.1 ≠ k ∧ q.1 ≠ t ∧ q.1 ≠ w.heap.size ∧ q.1 ≠ w.heap.size + 1 := fun p q e => by
    have h := hsm.rw.row p
    rw [e] at h
    obtain ⟨_, _, _, cs, hc⟩ := row_block h
    have ho := hL.old _ _ e
    refine ⟨(Array.getElem?_eq_some_iff.1 hc).1, hsm.pm.cells hc, hsm.km.cells hc, fun e' => ?_, by omega, by omega⟩
    have := hsm.tb
    unfold TB at this
    rw [← e', hc] at this
    simp at this
  have hlook : ∀ V : World, V.heap[k]? = W1.heap[k]? → (Instr.lookup 114 (.map (some k)) (.agg #[.int .i64 p1, .int .i64 p2]) false).run Tryz.prog V = .ok (slv (f (p1, p2))) V := fun V hV => by
    have h7 := (hsm.km.same hV).look (d := (p1, p2)) hdp
    unfold dv at h7
    exact h7
  obtain ⟨a, c0, he, hps⟩ := row_ps (hsm.rw.row (p1, p2))
  have hkl : (kidB S (p1, p2)).length ≤ 1000000 := by
    unfold kidB
    rw [List.length_map]
    have := kidS_len hn (p1, p2)
    omega
  have hkin : (⟨(b1, b2), (p1, p2), ky⟩ : Sp) ∈ kidS S (p1, p2) := (kidS_mem hn).2 ⟨hin, rfl⟩
  have hat := rk_at kdl_lin (kidS_srt hn (p1, p2)) hkin
  have hRl : rkL kdl (kidS S (p1, p2)) (⟨(b1, b2), (p1, p2), ky⟩ : Sp) < (kidB S (p1, p2)).length := by
    unfold kidB
    rw [List.length_map]
    exact (List.getElem?_eq_some_iff.1 hat).1
  obtain ⟨q0, hq0⟩ : ∃ q0, f (p1, p2) = some q0 := by
    cases e : f (p1, p2) with
    | none =>
      have h := (hsm.rw.row (p1, p2)).2
      rw [e] at h
      rcases h with ⟨_, h⟩ | ⟨g, cap, cur, h, _⟩
      · omega
      · simp [slv] at h
    | some q => exact ⟨q, rfl⟩
  have hr0 := hsm.rw.row (p1, p2)
  rw [hq0] at hr0
  obtain ⟨hq1, hq2, hq3, _⟩ := row_block hr0
  have hqe : slv (f (p1, p2)) = .slice (some ⟨q0.1, 0, none⟩) (kidB S (p1, p2)).length q0.2.2 := by rw [hq0, ← hq1]; rfl
  obtain ⟨o1, o2, o3, o4, o5, o6⟩ := hrow _ _ hq0
  have cW1 := hL.cells (V := W1) rfl rfl rfl
  have hlk2 : ∀ V : World, Below W1.heap.size W1 V → (Instr.lookup 114 (.map (some k)) (dv (p1, p2)) false).run Tryz.prog V = .ok (.slice a (kidB S (p1, p2)).length c0) V := fun V hV => by
    have := hlook V (hV.block k hkw)
    rw [he] at this
    exact this
  have hR := rank_any t 3 (.map (some m)) (.map (some k)) S a (kidB S (p1, p2)).length c0 (⟨(b1, b2), (p1, p2), ky⟩ : Sp) W1 hn hdw cW1.1 cW1.2.1 (Or.inr ⟨m, rfl, hsm.pm⟩) hlk2 hps hkl
  refine ⟨rkL kdl (kidS S (p1, p2)) (⟨(b1, b2), (p1, p2), ky⟩ : Sp), by omega, hR.mono ?_⟩
  rintro e W2 ⟨rfl, h2⟩
  have hz2 := h2.size
  have a2 : ∀ j, j < W1.heap.size → W2.heap[j]? = W1.heap[j]? := fun j hj => h2.block j hj
  have hlift := kidB_lift hn hin
  have hll : (kidB (lift S (b1, b2)) (p1, p2)).length = (kidB S (p1, p2)).length - 1 := by
    have : kidB (lift S (b1, b2)) (p1, p2) = _ := hlift
    rw [this, List.length_append, List.length_take, List.length_drop]
    show min (rkL kdl (kidS S (p1, p2)) (⟨(b1, b2), (p1, p2), ky⟩ : Sp)) (kidB S (p1, p2)).length + ((kidB S (p1, p2)).length - (rkL kdl (kidS S (p1, p2)) (⟨(b1, b2), (p1, p2), ky⟩ : Sp) + 1)) = _
    omega
  refine ⟨rfl, hL.cells (a2 t (by omega)) (a2 _ hl0) (a2 _ hl1), hL.cells (a2 t (by omega)) (a2 _ hl0) (a2 _ hl1), slv (f (p1, p2)), hlook _ (a2 k hkw), ?_⟩
  have hown2 : W2.drew.ownsRow 0 24 2 (.slice (some ⟨q0.1, 0, none⟩) (kidB S (p1, p2)).length q0.2.2) (kidB S (p1, p2)).length (flat (kidB S (p1, p2))) := by
    have h7 : W2.drew.ownsRow 0 24 2 (slv (some q0)) (kidB S (p1, p2)).length (flat (kidB S (p1, p2))) := row_kept hr0 (fun q e => by cases e; exact a2 _ o1)
    rw [← hq0, hqe] at h7
    exact h7
  rw [hqe]
  refine (ddelete_dots 0 q0.1 q0.2.2 (rkL kdl (kidS S (p1, p2)) (⟨(b1, b2), (p1, p2), ky⟩ : Sp)) (kidB S (p1, p2)) W2.drew hRl hkl hown2).mono ?_
  rintro e W3 ⟨rfl, ho3, g3⟩
  have g3' : W2.grownBy W3 (some q0.1) := (grownBy_drew1 W2 _).trans g3
  have hz3 := g3'.size
  have a3 : ∀ j, j < W1.heap.size → j ≠ q0.1 → W3.heap[j]? = W1.heap[j]? := fun j hj hq => (g3'.block j (by omega) (by simpa using hq)).trans (a2 j hj)
  obtain ⟨n4, hn4⟩ : ∃ n4, n4 = (kidB S (p1, p2)).length - 1 := ⟨_, rfl⟩
  rw [← hn4] at ho3 hll ⊢
  obtain ⟨W4, hr4, hk4, g4⟩ := KM.put (w := W3) (hsm.km.same (a3 k hkw (Ne.symm o3))) hdp (q0.1, n4, q0.2.2) (by unfold maxLen; omega)
  have hz4 := g4.size
  have a4 : ∀ j, j < W1.heap.size → j ≠ q0.1 → j ≠ k → W4.heap[j]? = W1.heap[j]? := fun j hj hq hk => (g4.block j (by omega) (by simpa using hk)).trans (a3 j hj hq)
  have s4 := hL.cells (a4 t (by omega) (Ne.symm o4) htk) (a4 _ hl0 (Ne.symm o5) h0k) (a4 _ hl1 (Ne.symm o6) h1k)
  have hk4d : KM W4.drew k (S.length + 1) (fun e => if e = (p1, p2) then some (q0.1, n4, q0.2.2) else f e) := hk4.same rfl
  have hlook4 : (Instr.lookup 114 (.map (some k)) (.agg #[.int .i64 p1, .int .i64 p2]) false).run Tryz.prog W4.drew = .ok (.slice (some ⟨q0.1, 0, none⟩) n4 q0.2.2) W4.drew := by
    have h7 := hk4d.look (d := (p1, p2)) hdp
    unfold dv at h7
    simp only [if_true] at h7
    exact h7
  have hk4dd : KM W4.drew.drew k (S.length + 1) (fun e => if e = (p1, p2) then some (q0.1, n4, q0.2.2) else f e) := hk4.same rfl
  have hp4 : PLM W4.drew.drew m S := hsm.pm.same (a4 m hmw (Ne.symm o2) hsm.ne)
  have ho4 : W4.drew.drew.ownsRow 0 24 2 (slv (some (q0.1, n4, q0.2.2))) n4 (flat (kidB (lift S (b1, b2)) (p1, p2))) := by
    have : kidB (lift S (b1, b2)) (p1, p2) = _ := hlift
    rw [this]
    exact row_kept (o := some (q0.1, n4, q0.2.2)) ho3 (fun q e => by cases e; exact g4.block q0.1 (by omega) (by simpa using o3))
  have hdb : Dw (b1, b2) := hdw _ hin
  refine ⟨_, W4, q0.1, n4, q0.2.2, rfl, hL.cells (a3 t (by omega) (Ne.symm o4)) (a3 _ hl0 (Ne.symm o5)) (a3 _ hl1 (Ne.symm o6)), hr4, s4, s4, hlook4, s4, fun h0 => ?_, fun h0 => ?_⟩
  · obtain ⟨W5, hr5, hk5, t5⟩ := KM.drop (w := W4.drew.drew) hk4dd hdp 0
    have g5 : W4.grownBy W5 (some k) := ((grownBy_drew1 W4 _).trans (grownBy_drew1 _ _)).trans t5.grown
    have hz5 := g5.size
    have a5 : ∀ j, j < W1.heap.size → j ≠ q0.1 → j ≠ k → W5.heap[j]? = W1.heap[j]? := fun j hj hq hk => (g5.block j (by omega) (by simpa using hk)).trans (a4 j hj hq hk)
    have s5 := hL.cells (a5 t (by omega) (Ne.symm o4) htk) (a5 _ hl0 (Ne.symm o5) h0k) (a5 _ hl1 (Ne.symm o6) h1k)
    have hp5 : PLM W5.drew m S := hsm.pm.same (a5 m hmw (Ne.symm o2) hsm.ne)
    obtain ⟨W6, hr6, hp6, t6⟩ := PLM.lift (w := W5.drew) hp5 hn hin hdb 0
    have g6 : W5.grownBy W6 (some m) := (grownBy_drew1 W5 _).trans t6.grown
    have hz6 := g6.size
    have a6 : ∀ j, j < W1.heap.size → j ≠ m → j ≠ k → j ≠ q0.1 → W6.heap[j]? = W1.heap[j]? := fun j hj hm hk hq => (g6.block j (by omega) (by simpa using hm)).trans (a5 j hj hq hk)
    refine ⟨W5, hr5, s5, s5, W6, hr6, hL.cells (a6 t (by omega) htm htk (Ne.symm o4)) (a6 _ hl0 h0m h0k (Ne.symm o5)) (a6 _ hl1 h1m h1k (Ne.symm o6)), hid ?_⟩
    have hk6 : KM W6 k (S.length + 1) (fun e => if e = (p1, p2) then none else if e = (p1, p2) then some (q0.1, n4, q0.2.2) else f e) := hk5.same (g6.block k (by omega) (by simpa using Ne.symm hsm.ne))
    have hnil : kidB (lift S (b1, b2)) (p1, p2) = [] := List.length_eq_zero_iff.1 (by rw [hll, h0])
    refine lift_fin (s := (⟨(b1, b2), (p1, p2), ky⟩ : Sp)) (q0 := q0) hBt hBs htw hsm hn hin hq0 ((Sm.b h2).trans ((Sm.g g3').trans ((Sm.g g4).trans ((Sm.g g5).trans (Sm.g g6))))) (by omega) a6 hp6 hk6 (fun p hp => ?_) ?_ (fun _ => ?_) (fun q e => ?_)
    · have hp' : p ≠ (p1, p2) := hp
      simp [hp']
    · show W6.ownsRow 0 24 2 (slv (if (p1, p2) = (p1, p2) then none else _)) (kidB (lift S (b1, b2)) (p1, p2)).length (flat (kidB (lift S (b1, b2)) (p1, p2)))
      rw [hnil, if_pos rfl]
      exact ⟨rfl, Or.inl ⟨rfl, rfl⟩⟩
    · exact if_pos rfl
    · have e' : (if (p1, p2) = (p1, p2) then none else (if (p1, p2) = (p1, p2) then some (q0.1, n4, q0.2.2) else f (p1, p2))) = some q := e
      rw [if_pos rfl] at e'
      cases e'
  · obtain ⟨W6, hr6, hp6, t6⟩ := PLM.lift (w := W4.drew.drew) hp4 hn hin hdb 0
    have g6 : W4.grownBy W6 (some m) := ((grownBy_drew1 W4 _).trans (grownBy_drew1 _ _)).trans t6.grown
    have hz6 := g6.size
    have a6 : ∀ j, j < W1.heap.size → j ≠ m → j ≠ k → j ≠ q0.1 → W6.heap[j]? = W1.heap[j]? := fun j hj hm hk hq => (g6.block j (by omega) (by simpa using hm)).trans (a4 j hj hq hk)
    refine ⟨W6, hr6, hL.cells (a6 t (by omega) htm htk (Ne.symm o4)) (a6 _ hl0 h0m h0k (Ne.symm o5)) (a6 _ hl1 h1m h1k (Ne.symm o6)), hid ?_⟩
    have hk6 : KM W6 k (S.length + 1) (fun e => if e = (p1, p2) then some (q0.1, n4, q0.2.2) else f e) := hk4.same (g6.block k (by omega) (by simpa using Ne.symm hsm.ne))
    refine lift_fin (s := (⟨(b1, b2), (p1, p2), ky⟩ : Sp)) (q0 := q0) hBt hBs htw hsm hn hin hq0 ((Sm.b h2).trans ((Sm.g g3').trans ((Sm.g g4).trans (Sm.g g6)))) (by omega) a6 hp6 hk6 (fun p hp => ?_) ?_ (fun hnil => ?_) (fun q e => ?_)
    · have hp' : p ≠ (p1, p2) := hp
      simp [hp']
    · show W6.ownsRow 0 24 2 (slv (if (p1, p2) = (p1, p2) then some (q0.1, n4, q0.2.2) else _)) (kidB (lift S (b1, b2)) (p1, p2)).length (flat (kidB (lift S (b1, b2)) (p1, p2)))
      rw [if_pos rfl, hll]
      exact row_kept (o := some (q0.1, n4, q0.2.2)) ho4 (fun q e => by cases e; exact t6.grown.block q0.1 (by show q0.1 < W4.heap.size; omega) (by simpa using o2))
    · have : kidB (lift S (b1, b2)) (p1, p2) = [] := hnil
      rw [this] at hll
      exact absurd hll.symm h0
    · have e' : (if (p1, p2) = (p1, p2) then some (q0.1, n4, q0.2.2) else f (p1, p2)) = some q := e
      rw [if_pos rfl] at e'
      cases e'
      rfl
end Go.Proofs.YtnmdcdphpcpojaaGreatDoor
