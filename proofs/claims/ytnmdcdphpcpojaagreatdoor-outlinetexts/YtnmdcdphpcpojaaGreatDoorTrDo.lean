/- do: a move is done. -/
import Derived.Test.YtnmdcdphpcpojaaGreatDoorTrDoM
set_option linter.unusedVariables false
set_option linter.unusedSimpArgs false
namespace Go.Proofs.YtnmdcdphpcpojaaGreatDoor
open Go.RowKit

/-- What is stored beside a move. -/
def put4 (w : World) (g : Nat) (T : Bool) (q1 q2 : Int) (qk : ByteArray) : World := (((w.setCell ⟨g, 8, none⟩ (.bool T)).setCell ⟨g, 9, none⟩ (.int .i64 q1)).setCell ⟨g, 10, none⟩ (.int .i64 q2)).setCell ⟨g, 11, none⟩ (.string qk)

theorem put4_block {w : World} {g : Nat} {m : Mv} {tk0 : Bool} {was0 : Pl} (h : EN w g m tk0 was0) (T : Bool) (q1 q2 : Int) (qk : ByteArray) : EN (put4 w g T q1 q2 qk) g m T ((q1, q2), qk) := by
  have h0 := set_blk (j := 8) h (.bool T)
  have h1 := set_blk (j := 9) h0 (.int .i64 q1)
  have h2 := set_blk (j := 10) h1 (.int .i64 q2)
  have h3 := set_blk (j := 11) h2 (.string qk)
  unfold EN put4
  simpa using h3

theorem put4_grown (w : World) (g : Nat) (T : Bool) (q1 q2 : Int) (qk : ByteArray) : w.grownBy (put4 w g T q1 q2 qk) (some g) :=
  (((grownBy_setCell _ g 8 _).trans (grownBy_setCell _ g 9 _)).trans (grownBy_setCell _ g 10 _)).trans (grownBy_setCell _ g 11 _)

set_option maxRecDepth 100000 in
set_option maxHeartbeats 8000000 in
theorem do_any (t g : Nat) (lg fd dn pl kd : Value) (S : List Sp) (r : Dt → Nat) (B : Nat → Prop) (m : Mv) (tk0 : Bool) (was0 : Pl) (w : World) (hTk : Tk S r) (hT : TB w t lg fd dn pl kd) (hS : SB w pl kd S B) (hE : EN w g m tk0 was0) (hBt : ¬ B t) (hBg : ¬ B g) (hBs : ∀ j, B j → j < w.heap.size) (hW : Ws S) (hdw : ∀ x ∈ S, Dw x.b) (hen : ¬ isEnd m.block) (hdb : Dw m.block) (hdp : Dw m.parent) (hlen : S.length < 1000000) :
    Calls Tryz.prog 92 #[.pointer (some ⟨t, 3, none⟩), .pointer (some ⟨g, 0, none⟩)] w fun e w' => e = .returned (.tuple #[]) ∧ ∃ pl' kd', TB w' t lg fd dn pl' kd' ∧ SB w' pl' kd' (step S m) (Bn w w' B) ∧ EN w' g m (takes S m) ((lk S m.block).getD pl0) ∧ KB w w' (fun j => B j ∨ j = g) t := by
  have htw : t < w.heap.size := (Array.getElem?_eq_some_iff.1 hT).1
  have hgw : g < w.heap.size := (Array.getElem?_eq_some_iff.1 hE).1
  have htg : t ≠ g := fun e => by
    unfold TB at hT
    unfold EN at hE
    rw [e, hE] at hT
    simp at hT
  have hnd := hTk.nd
  obtain ⟨⟨i1, i2⟩, tm, ⟨b1, b2⟩, ⟨p1, p2⟩, ky⟩ := m
  have hmxo : Tryz.prog.follows .mixedOrders = true := by kernel_rfl
  obtain ⟨q1, q2, qk, hq⟩ : ∃ q1 q2 qk, (lk S (b1, b2)).getD pl0 = ((q1, q2), qk) := ⟨_, _, _, rfl⟩
  obtain ⟨T, hTT⟩ : ∃ T, T = takes S ⟨(i1, i2), tm, (b1, b2), (p1, p2), ky⟩ := ⟨_, rfl⟩
  have HC : Hid (∀ V : World, V.heap[t]? = w.heap[t]? → V.heap[g]? = w.heap[g]? → (V.cell? ⟨t, 3, none⟩ = some pl ∧ V.cell? ⟨g, 0, none⟩ = some (.int .i64 i1) ∧ V.cell? ⟨g, 1, none⟩ = some (.int .i64 i2) ∧ V.cell? ⟨g, 2, none⟩ = some (.int .i64 tm) ∧ V.cell? ⟨g, 3, none⟩ = some (.int .i64 b1) ∧ V.cell? ⟨g, 4, none⟩ = some (.int .i64 b2) ∧ V.cell? ⟨g, 5, none⟩ = some (.int .i64 p1) ∧ V.cell? ⟨g, 6, none⟩ = some (.int .i64 p2) ∧ V.cell? ⟨g, 7, none⟩ = some (.string ky))) := hid (fun V h1 h2 => by
    have e1 := h1.trans hT
    have e2 := h2.trans hE
    exact ⟨by simp [World.cell?, e1], by simp [World.cell?, e2], by simp [World.cell?, e2], by simp [World.cell?, e2], by simp [World.cell?, e2], by simp [World.cell?, e2], by simp [World.cell?, e2], by simp [World.cell?, e2], by simp [World.cell?, e2]⟩)
  have HL : Hid (∀ V : World, PlV V pl S → (Instr.lookup 111 pl (.agg #[.int .i64 b1, .int .i64 b2]) false).run Tryz.prog V = .ok (.agg #[.int .i64 q1, .int .i64 q2, .string qk]) V) := hid (fun V h => by
    have h7 := h.look hdb
    rw [hq] at h7
    exact h7)
  have hb0 : Below w.heap.size w w.drew := ((Far.refl w).drewN 1).below
  have HTa : Hid (Calls Tryz.prog 121 #[.pointer (some ⟨t, 3, none⟩), .agg #[.int .i64 i1, .int .i64 i2, .int .i64 tm, .int .i64 b1, .int .i64 b2, .int .i64 p1, .int .i64 p2, .string ky]] w.drew fun e w' => e = .returned (.bool T) ∧ Hid (Below w.heap.size w w')) := hid (by
    have h7 := takes_any t 3 pl S r hTk hW ⟨(i1, i2), tm, (b1, b2), (p1, p2), ky⟩ hen hdp hdb w.drew ((HC.out w.drew rfl rfl).1) (hS.v.below hb0)
    rw [← hTT] at h7
    exact h7.mono (fun e w' ⟨h1, h2⟩ => ⟨h1, hid (hb0.trans h2)⟩))
  have HX : Hid (∀ W1, Below w.heap.size w W1 → (W1.cell? ⟨t, 3, none⟩ = some pl ∧ W1.cell? ⟨g, 0, none⟩ = some (.int .i64 i1) ∧ W1.cell? ⟨g, 1, none⟩ = some (.int .i64 i2) ∧ W1.cell? ⟨g, 2, none⟩ = some (.int .i64 tm) ∧ W1.cell? ⟨g, 3, none⟩ = some (.int .i64 b1) ∧ W1.cell? ⟨g, 4, none⟩ = some (.int .i64 b2) ∧ W1.cell? ⟨g, 5, none⟩ = some (.int .i64 p1) ∧ W1.cell? ⟨g, 6, none⟩ = some (.int .i64 p2) ∧ W1.cell? ⟨g, 7, none⟩ = some (.string ky) ∧ (Instr.lookup 111 pl (.agg #[.int .i64 b1, .int .i64 b2]) false).run Tryz.prog W1 = .ok (.agg #[.int .i64 q1, .int .i64 q2, .string qk]) W1) ∧ ((W1.setCell ⟨g, 8, none⟩ (.bool T)).cell? ⟨t, 3, none⟩ = some pl ∧ (W1.setCell ⟨g, 8, none⟩ (.bool T)).cell? ⟨g, 0, none⟩ = some (.int .i64 i1) ∧ (W1.setCell ⟨g, 8, none⟩ (.bool T)).cell? ⟨g, 1, none⟩ = some (.int .i64 i2) ∧ (W1.setCell ⟨g, 8, none⟩ (.bool T)).cell? ⟨g, 2, none⟩ = some (.int .i64 tm) ∧ (W1.setCell ⟨g, 8, none⟩ (.bool T)).cell? ⟨g, 3, none⟩ = some (.int .i64 b1) ∧ (W1.setCell ⟨g, 8, none⟩ (.bool T)).cell? ⟨g, 4, none⟩ = some (.int .i64 b2) ∧ (W1.setCell ⟨g, 8, none⟩ (.bool T)).cell? ⟨g, 5, none⟩ = some (.int .i64 p1) ∧ (W1.setCell ⟨g, 8, none⟩ (.bool T)).cell? ⟨g, 6, none⟩ = some (.int .i64 p2) ∧ (W1.setCell ⟨g, 8, none⟩ (.bool T)).cell? ⟨g, 7, none⟩ = some (.string ky) ∧ (Instr.lookup 111 pl (.agg #[.int .i64 b1, .int .i64 b2]) false).run Tryz.prog (W1.setCell ⟨g, 8, none⟩ (.bool T)) = .ok (.agg #[.int .i64 q1, .int .i64 q2, .string qk]) (W1.setCell ⟨g, 8, none⟩ (.bool T))) ∧ ((put4 W1 g T q1 q2 qk).cell? ⟨t, 3, none⟩ = some pl ∧ (put4 W1 g T q1 q2 qk).cell? ⟨g, 0, none⟩ = some (.int .i64 i1) ∧ (put4 W1 g T q1 q2 qk).cell? ⟨g, 1, none⟩ = some (.int .i64 i2) ∧ (put4 W1 g T q1 q2 qk).cell? ⟨g, 2, none⟩ = some (.int .i64 tm) ∧ (put4 W1 g T q1 q2 qk).cell? ⟨g, 3, none⟩ = some (.int .i64 b1) ∧ (put4 W1 g T q1 q2 qk).cell? ⟨g, 4, none⟩ = some (.int .i64 b2) ∧ (put4 W1 g T q1 q2 qk).cell? ⟨g, 5, none⟩ = some (.int .i64 p1) ∧ (put4 W1 g T q1 q2 qk).cell? ⟨g, 6, none⟩ = some (.int .i64 p2) ∧ (put4 W1 g T q1 q2 qk).cell? ⟨g, 7, none⟩ = some (.string ky) ∧ (Instr.lookup 111 pl (.agg #[.int .i64 b1, .int .i64 b2]) false).run Tryz.prog (put4 W1 g T q1 q2 qk) = .ok (.agg #[.int .i64 q1, .int .i64 q2, .string qk]) (put4 W1 g T q1 q2 qk)) ∧ (W1.cell? ⟨g, 8, none⟩ = some (.bool tk0) ∧ W1.cell? ⟨g, 9, none⟩ = some (.int .i64 was0.1.1) ∧ W1.cell? ⟨g, 10, none⟩ = some (.int .i64 was0.1.2) ∧ W1.cell? ⟨g, 11, none⟩ = some (.string was0.2)) ∧ (W1.frozen? ⟨g, 8, none⟩ = false ∧ W1.frozen? ⟨g, 9, none⟩ = false ∧ W1.frozen? ⟨g, 10, none⟩ = false ∧ W1.frozen? ⟨g, 11, none⟩ = false) ∧ (put4 W1 g T q1 q2 qk).cell? ⟨g, 8, none⟩ = some (.bool T) ∧
      (TB (put4 W1 g T q1 q2 qk) t lg fd dn pl kd ∧ SB (put4 W1 g T q1 q2 qk) pl kd S B ∧ EN (put4 W1 g T q1 q2 qk) g ⟨(i1, i2), tm, (b1, b2), (p1, p2), ky⟩ T ((q1, q2), qk) ∧ KB w (put4 W1 g T q1 q2 qk) (fun j => B j ∨ j = g) t)) := hid (fun W1 hb => by
    have hg1 := (hb.block g hgw).trans hE
    have ht1 := (hb.block t htw).trans hT
    have hs1 : SB W1 pl kd S B := hS.kept (fun j hj => hb.block j (hBs j hj))
    have gA := grownBy_setCell W1 g 8 (.bool T)
    have gB := put4_grown W1 g T q1 q2 qk
    have hEA := set_blk (j := 8) hg1 (.bool T)
    have hEB := put4_block (w := W1) (m := ⟨(i1, i2), tm, (b1, b2), (p1, p2), ky⟩) hg1 T q1 q2 qk
    have kA : ∀ (X : World), W1.grownBy X (some g) → ∀ j, j < w.heap.size → j ≠ g → X.heap[j]? = W1.heap[j]? := fun X hX j hj hne => hX.block j (Nat.lt_of_lt_of_le hj hb.size) (by simpa using hne)
    have sA : ∀ (X : World), W1.grownBy X (some g) → SB X pl kd S B := fun X hX => hs1.kept (fun j hj => kA X hX j (hBs j hj) (fun e => hBg (e ▸ hj)))
    have tA : ∀ (X : World), W1.grownBy X (some g) → X.heap[t]? = w.heap[t]? := fun X hX => (kA X hX t htw htg).trans (hb.block t htw)
    have cA : ∀ (X : World) (tk1 : Bool) (w1 : Pl), W1.grownBy X (some g) → EN X g ⟨(i1, i2), tm, (b1, b2), (p1, p2), ky⟩ tk1 w1 → (X.cell? ⟨t, 3, none⟩ = some pl ∧ X.cell? ⟨g, 0, none⟩ = some (.int .i64 i1) ∧ X.cell? ⟨g, 1, none⟩ = some (.int .i64 i2) ∧ X.cell? ⟨g, 2, none⟩ = some (.int .i64 tm) ∧ X.cell? ⟨g, 3, none⟩ = some (.int .i64 b1) ∧ X.cell? ⟨g, 4, none⟩ = some (.int .i64 b2) ∧ X.cell? ⟨g, 5, none⟩ = some (.int .i64 p1) ∧ X.cell? ⟨g, 6, none⟩ = some (.int .i64 p2) ∧ X.cell? ⟨g, 7, none⟩ = some (.string ky) ∧ (Instr.lookup 111 pl (.agg #[.int .i64 b1, .int .i64 b2]) false).run Tryz.prog X = .ok (.agg #[.int .i64 q1, .int .i64 q2, .string qk]) X) := fun X tk1 w1 hX hEX => by
      have e1 := (tA X hX).trans hT
      unfold EN at hEX
      exact ⟨by simp [World.cell?, e1], by simp [World.cell?, hEX], by simp [World.cell?, hEX], by simp [World.cell?, hEX], by simp [World.cell?, hEX], by simp [World.cell?, hEX], by simp [World.cell?, hEX], by simp [World.cell?, hEX], by simp [World.cell?, hEX], HL.out X (sA X hX).v⟩
    have hEA' : EN (W1.setCell ⟨g, 8, none⟩ (.bool T)) g ⟨(i1, i2), tm, (b1, b2), (p1, p2), ky⟩ T was0 := by unfold EN; simpa using hEA
    refine ⟨cA W1 tk0 was0 (World.grownBy.refl _ _) hg1, cA _ T was0 gA hEA', cA _ T ((q1, q2), qk) gB hEB, ⟨by simp [World.cell?, hg1], by simp [World.cell?, hg1], by simp [World.cell?, hg1], by simp [World.cell?, hg1]⟩, ⟨by simp [World.frozen?, hg1], by simp [World.frozen?, hg1], by simp [World.frozen?, hg1], by simp [World.frozen?, hg1]⟩, ?_, (tA _ gB).trans hT, sA _ gB, hEB, ⟨Nat.le_trans hb.size gB.size, fun j hj hB hjt => (kA _ gB j hj (fun e => hB (Or.inr e))).trans (hb.block j hj), (Sm.b hb).trans (Sm.g gB)⟩⟩
    unfold EN at hEB
    simp [World.cell?, hEB])
  have hS0 : w.drew.cell? ⟨t, 3, none⟩ = some pl ∧ w.drew.cell? ⟨g, 0, none⟩ = some (.int .i64 i1) ∧ w.drew.cell? ⟨g, 1, none⟩ = some (.int .i64 i2) ∧ w.drew.cell? ⟨g, 2, none⟩ = some (.int .i64 tm) ∧ w.drew.cell? ⟨g, 3, none⟩ = some (.int .i64 b1) ∧ w.drew.cell? ⟨g, 4, none⟩ = some (.int .i64 b2) ∧ w.drew.cell? ⟨g, 5, none⟩ = some (.int .i64 p1) ∧ w.drew.cell? ⟨g, 6, none⟩ = some (.int .i64 p2) ∧ w.drew.cell? ⟨g, 7, none⟩ = some (.string ky) ∧ (Instr.lookup 111 pl (.agg #[.int .i64 b1, .int .i64 b2]) false).run Tryz.prog w.drew = .ok (.agg #[.int .i64 q1, .int .i64 q2, .string qk]) w.drew := (HX.out _ hb0).1
  have HR : Hid (∀ W2, TB W2 t lg fd dn pl kd → SB W2 pl kd S B → EN W2 g ⟨(i1, i2), tm, (b1, b2), (p1, p2), ky⟩ T ((q1, q2), qk) → KB w W2 (fun j => B j ∨ j = g) t → T = true →
      Calls Tryz.prog 122 #[.pointer (some ⟨t, 3, none⟩), .agg #[.int .i64 b1, .int .i64 b2]] W2 fun e W3 => e = .returned (.tuple #[]) ∧ (W3.drew.cell? ⟨g, 0, none⟩ = some (.int .i64 i1) ∧ W3.drew.cell? ⟨g, 1, none⟩ = some (.int .i64 i2) ∧ W3.drew.cell? ⟨g, 2, none⟩ = some (.int .i64 tm) ∧ W3.drew.cell? ⟨g, 3, none⟩ = some (.int .i64 b1) ∧ W3.drew.cell? ⟨g, 4, none⟩ = some (.int .i64 b2) ∧ W3.drew.cell? ⟨g, 5, none⟩ = some (.int .i64 p1) ∧ W3.drew.cell? ⟨g, 6, none⟩ = some (.int .i64 p2) ∧ W3.drew.cell? ⟨g, 7, none⟩ = some (.string ky)) ∧
        Calls Tryz.prog 123 #[.pointer (some ⟨t, 3, none⟩), .agg #[.int .i64 b1, .int .i64 b2], .agg #[.int .i64 p1, .int .i64 p2, .string ky]] W3.drew fun e W4 => e = .returned (.tuple #[]) ∧ (W4.cell? ⟨g, 0, none⟩ = some (.int .i64 i1) ∧ W4.cell? ⟨g, 1, none⟩ = some (.int .i64 i2) ∧ W4.cell? ⟨g, 2, none⟩ = some (.int .i64 tm) ∧ W4.cell? ⟨g, 3, none⟩ = some (.int .i64 b1) ∧ W4.cell? ⟨g, 4, none⟩ = some (.int .i64 b2) ∧ W4.cell? ⟨g, 5, none⟩ = some (.int .i64 p1) ∧ W4.cell? ⟨g, 6, none⟩ = some (.int .i64 p2) ∧ W4.cell? ⟨g, 7, none⟩ = some (.string ky)) ∧ Hid (∃ pl' kd', TB W4 t lg fd dn pl' kd' ∧ SB W4 pl' kd' (step S ⟨(i1, i2), tm, (b1, b2), (p1, p2), ky⟩) (Bn w W4 B) ∧ EN W4 g ⟨(i1, i2), tm, (b1, b2), (p1, p2), ky⟩ T ((q1, q2), qk) ∧ KB w W4 (fun j => B j ∨ j = g) t)) := hid (fun W2 hT2 hS2 hE2 hK2 htr => by
    have hz2 := hK2.size
    have hB2s := Bn.lt hBs hz2
    refine (lift_any t lg fd dn pl kd S (Bn w W2 B) (b1, b2) W2 hT2 (hS2.mono (fun j h => Or.inl h)) (Bn.not hBt htw) hB2s hnd hdw hW hdb (by omega)).mono ?_
    rintro e W3 ⟨rfl, pl3, kd3, hT3, hS3, hK3⟩
    have hz3 := hK3.size
    have hgB2 : ¬ Bn w W2 B g := Bn.not hBg hgw
    have hE3 : EN W3 g ⟨(i1, i2), tm, (b1, b2), (p1, p2), ky⟩ T ((q1, q2), qk) := (hK3.keep g (by omega) hgB2 (Ne.symm htg)).trans hE2
    have hE3d : EN W3.drew g ⟨(i1, i2), tm, (b1, b2), (p1, p2), ky⟩ T ((q1, q2), qk) := hE3
    have hK3d : KB W2 W3.drew (Bn w W2 B) t := ⟨hK3.size, hK3.keep, hK3.sm⟩
    have hKc := hK2.trans hK3d
    have hS3d : SB W3.drew pl3 kd3 (lift S (b1, b2)) (Bn w W3.drew B) := (hS3.kept (w' := W3.drew) (fun j hj => rfl)).mono (Bn.trans hz2 hz3)
    have hzc : w.heap.size ≤ W3.drew.heap.size := hKc.size
    refine ⟨rfl, ?_, ?_⟩
    · unfold EN at hE3d
      exact ⟨by simp [World.cell?, hE3d], by simp [World.cell?, hE3d], by simp [World.cell?, hE3d], by simp [World.cell?, hE3d], by simp [World.cell?, hE3d], by simp [World.cell?, hE3d], by simp [World.cell?, hE3d], by simp [World.cell?, hE3d]⟩
    · have hll : (lift S (b1, b2)).length ≤ S.length := List.length_filter_le _ _
      refine (lay_any t lg fd dn pl3 kd3 (lift S (b1, b2)) (Bn w W3.drew B) ⟨(b1, b2), (p1, p2), ky⟩ W3.drew hT3 hS3d (Bn.not hBt htw) (Bn.lt hBs hzc) (put_nodup hnd ⟨(b1, b2), (p1, p2), ky⟩) (fun x hx => hdw x (lift_mem.1 hx).1) hdb hdp (by omega)).mono ?_
      rintro e W4 ⟨rfl, pl4, kd4, hT4, hS4, hK4⟩
      have hE4 : EN W4 g ⟨(i1, i2), tm, (b1, b2), (p1, p2), ky⟩ T ((q1, q2), qk) := (hK4.keep g (by omega) (Bn.not hBg hgw) (Ne.symm htg)).trans hE3d
      refine ⟨rfl, ?_, hid ⟨pl4, kd4, hT4, ?_, hE4, hKc.trans hK4⟩⟩
      · unfold EN at hE4
        exact ⟨by simp [World.cell?, hE4], by simp [World.cell?, hE4], by simp [World.cell?, hE4], by simp [World.cell?, hE4], by simp [World.cell?, hE4], by simp [World.cell?, hE4], by simp [World.cell?, hE4], by simp [World.cell?, hE4]⟩
      · have e7 : step S ⟨(i1, i2), tm, (b1, b2), (p1, p2), ky⟩ = lift S (b1, b2) ++ [⟨(b1, b2), (p1, p2), ky⟩] := by
          unfold step
          rw [← hTT, htr]
          rfl
        rw [e7]
        exact hS4.mono (Bn.trans hzc hK4.size))
  have HNo : Hid (T = false → step S ⟨(i1, i2), tm, (b1, b2), (p1, p2), ky⟩ = S) := hid (fun h => by
    unfold step
    rw [← hTT, h]
    rfl)
  have HTT := hid hTT
  have HQ := hid hq
  clear hTT hq hTk hT hS hE hW hdw hen hb0 HC HL hnd
  go_enter Tryz.func92, Tryz.ntmps92
  go_wp2_with fail
  refine wp_region_held_drew (S := fun w' => w'.cell? ⟨t, 3, none⟩ = some pl ∧ w'.cell? ⟨g, 0, none⟩ = some (.int .i64 i1) ∧ w'.cell? ⟨g, 1, none⟩ = some (.int .i64 i2) ∧ w'.cell? ⟨g, 2, none⟩ = some (.int .i64 tm) ∧ w'.cell? ⟨g, 3, none⟩ = some (.int .i64 b1) ∧ w'.cell? ⟨g, 4, none⟩ = some (.int .i64 b2) ∧ w'.cell? ⟨g, 5, none⟩ = some (.int .i64 p1) ∧ w'.cell? ⟨g, 6, none⟩ = some (.int .i64 p2) ∧ w'.cell? ⟨g, 7, none⟩ = some (.string ky) ∧ (Instr.lookup 111 pl (.agg #[.int .i64 b1, .int .i64 b2]) false).run Tryz.prog w' = .ok (.agg #[.int .i64 q1, .int .i64 q2, .string qk]) w') hmxo hS0 ?_
  intro _
  refine wpAnyH_take (i := 0) (v := .pointer (some ⟨g, 0, none⟩)) rfl (by kernel_rfl) (by kernel_rfl) (by kernel_rfl) (fun _ _ _ h => h) (Or.inl ⟨by kernel_rfl, fun w hSw => ?_⟩) hS0 ?_
  · obtain ⟨e, x0, x1, x2, x3, x4, x5, x6, x7, hlk⟩ := hSw; go_simp
  simp only [Act.put, List.getElem_toArray, List.getElem_cons_succ, List.getElem_cons_zero, List.setIfInBounds_toArray, List.set_cons_zero, List.set_cons_succ]
  refine wpAnyH_take (i := 1) (v := .pointer (some ⟨g, 0, none⟩)) rfl (by kernel_rfl) (by kernel_rfl) (by kernel_rfl) (fun _ _ _ h => h) (Or.inl ⟨by kernel_rfl, fun w hSw => ?_⟩) hS0 ?_
  · obtain ⟨e, x0, x1, x2, x3, x4, x5, x6, x7, hlk⟩ := hSw; go_simp
  simp only [Act.put, List.getElem_toArray, List.getElem_cons_succ, List.getElem_cons_zero, List.setIfInBounds_toArray, List.set_cons_zero, List.set_cons_succ]
  refine wpAnyH_take (i := 2) (v := .pointer (some ⟨t, 3, none⟩)) rfl (by kernel_rfl) (by kernel_rfl) (by kernel_rfl) (fun _ _ _ h => h) (Or.inl ⟨by kernel_rfl, fun w hSw => ?_⟩) hS0 ?_
  · obtain ⟨e, x0, x1, x2, x3, x4, x5, x6, x7, hlk⟩ := hSw; go_simp
  simp only [Act.put, List.getElem_toArray, List.getElem_cons_succ, List.getElem_cons_zero, List.setIfInBounds_toArray, List.set_cons_zero, List.set_cons_succ]
  refine wpAnyH_take (i := 3) (v := .pointer (some ⟨g, 0, none⟩)) rfl (by kernel_rfl) (by kernel_rfl) (by kernel_rfl) (fun _ _ _ h => h) (Or.inl ⟨by kernel_rfl, fun w hSw => ?_⟩) hS0 ?_
  · obtain ⟨e, x0, x1, x2, x3, x4, x5, x6, x7, hlk⟩ := hSw; go_simp
  simp only [Act.put, List.getElem_toArray, List.getElem_cons_succ, List.getElem_cons_zero, List.setIfInBounds_toArray, List.set_cons_zero, List.set_cons_succ]
  refine wpAnyH_take (i := 4) (v := .pointer (some ⟨g, 0, none⟩)) rfl (by kernel_rfl) (by kernel_rfl) (by kernel_rfl) (fun _ _ _ h => h) (Or.inl ⟨by kernel_rfl, fun w hSw => ?_⟩) hS0 ?_
  · obtain ⟨e, x0, x1, x2, x3, x4, x5, x6, x7, hlk⟩ := hSw; go_simp
  simp only [Act.put, List.getElem_toArray, List.getElem_cons_succ, List.getElem_cons_zero, List.setIfInBounds_toArray, List.set_cons_zero, List.set_cons_succ]
  refine wpAnyH_take (i := 5) (v := .pointer (some ⟨g, 0, none⟩)) rfl (by kernel_rfl) (by kernel_rfl) (by kernel_rfl) (fun _ _ _ h => h) (Or.inl ⟨by kernel_rfl, fun w hSw => ?_⟩) hS0 ?_
  · obtain ⟨e, x0, x1, x2, x3, x4, x5, x6, x7, hlk⟩ := hSw; go_simp
  simp only [Act.put, List.getElem_toArray, List.getElem_cons_succ, List.getElem_cons_zero, List.setIfInBounds_toArray, List.set_cons_zero, List.set_cons_succ]
  refine wpAnyH_take (i := 6) (v := .agg #[.int .i64 i1, .int .i64 i2, .int .i64 tm, .int .i64 b1, .int .i64 b2, .int .i64 p1, .int .i64 p2, .string ky]) rfl (by kernel_rfl) (by kernel_rfl) (by kernel_rfl) (fun _ _ _ h => h) (Or.inl ⟨by kernel_rfl, fun w hSw => ?_⟩) hS0 ?_
  · obtain ⟨e, x0, x1, x2, x3, x4, x5, x6, x7, hlk⟩ := hSw; go_simp
  simp only [Act.put, List.getElem_toArray, List.getElem_cons_succ, List.getElem_cons_zero, List.setIfInBounds_toArray, List.set_cons_zero, List.set_cons_succ]
  refine wpAnyH_take (i := 8) (v := .pointer (some ⟨t, 3, none⟩)) rfl (by kernel_rfl) (by kernel_rfl) (by kernel_rfl) (fun _ _ _ h => h) (Or.inl ⟨by kernel_rfl, fun w hSw => ?_⟩) hS0 ?_
  · obtain ⟨e, x0, x1, x2, x3, x4, x5, x6, x7, hlk⟩ := hSw; go_simp
  simp only [Act.put, List.getElem_toArray, List.getElem_cons_succ, List.getElem_cons_zero, List.setIfInBounds_toArray, List.set_cons_zero, List.set_cons_succ]
  refine wpAnyH_take (i := 9) (v := .pointer (some ⟨t, 3, none⟩)) rfl (by kernel_rfl) (by kernel_rfl) (by kernel_rfl) (fun _ _ _ h => h) (Or.inl ⟨by kernel_rfl, fun w hSw => ?_⟩) hS0 ?_
  · obtain ⟨e, x0, x1, x2, x3, x4, x5, x6, x7, hlk⟩ := hSw; go_simp
  simp only [Act.put, List.getElem_toArray, List.getElem_cons_succ, List.getElem_cons_zero, List.setIfInBounds_toArray, List.set_cons_zero, List.set_cons_succ]
  refine wpAnyH_take (i := 10) (v := .pointer (some ⟨t, 3, none⟩)) rfl (by kernel_rfl) (by kernel_rfl) (by kernel_rfl) (fun _ _ _ h => h) (Or.inl ⟨by kernel_rfl, fun w hSw => ?_⟩) hS0 ?_
  · obtain ⟨e, x0, x1, x2, x3, x4, x5, x6, x7, hlk⟩ := hSw; go_simp
  simp only [Act.put, List.getElem_toArray, List.getElem_cons_succ, List.getElem_cons_zero, List.setIfInBounds_toArray, List.set_cons_zero, List.set_cons_succ]
  refine wpAnyH_take (i := 11) (v := pl) rfl (by kernel_rfl) (by kernel_rfl) (by kernel_rfl) (fun _ _ _ h => h) (Or.inl ⟨by kernel_rfl, fun w hSw => ?_⟩) hS0 ?_
  · obtain ⟨e, x0, x1, x2, x3, x4, x5, x6, x7, hlk⟩ := hSw; go_simp
  simp only [Act.put, List.getElem_toArray, List.getElem_cons_succ, List.getElem_cons_zero, List.setIfInBounds_toArray, List.set_cons_zero, List.set_cons_succ]
  refine wpAnyH_take (i := 12) (v := .pointer (some ⟨g, 0, none⟩)) rfl (by kernel_rfl) (by kernel_rfl) (by kernel_rfl) (fun _ _ _ h => h) (Or.inl ⟨by kernel_rfl, fun w hSw => ?_⟩) hS0 ?_
  · obtain ⟨e, x0, x1, x2, x3, x4, x5, x6, x7, hlk⟩ := hSw; go_simp
  simp only [Act.put, List.getElem_toArray, List.getElem_cons_succ, List.getElem_cons_zero, List.setIfInBounds_toArray, List.set_cons_zero, List.set_cons_succ]
  refine wpAnyH_take (i := 13) (v := .pointer (some ⟨g, 0, none⟩)) rfl (by kernel_rfl) (by kernel_rfl) (by kernel_rfl) (fun _ _ _ h => h) (Or.inl ⟨by kernel_rfl, fun w hSw => ?_⟩) hS0 ?_
  · obtain ⟨e, x0, x1, x2, x3, x4, x5, x6, x7, hlk⟩ := hSw; go_simp
  simp only [Act.put, List.getElem_toArray, List.getElem_cons_succ, List.getElem_cons_zero, List.setIfInBounds_toArray, List.set_cons_zero, List.set_cons_succ]
  refine wpAnyH_take (i := 14) (v := .pointer (some ⟨g, 0, none⟩)) rfl (by kernel_rfl) (by kernel_rfl) (by kernel_rfl) (fun _ _ _ h => h) (Or.inl ⟨by kernel_rfl, fun w hSw => ?_⟩) hS0 ?_
  · obtain ⟨e, x0, x1, x2, x3, x4, x5, x6, x7, hlk⟩ := hSw; go_simp
  simp only [Act.put, List.getElem_toArray, List.getElem_cons_succ, List.getElem_cons_zero, List.setIfInBounds_toArray, List.set_cons_zero, List.set_cons_succ]
  refine wpAnyH_take (i := 15) (v := .pointer (some ⟨g, 3, none⟩)) rfl (by kernel_rfl) (by kernel_rfl) (by kernel_rfl) (fun _ _ _ h => h) (Or.inl ⟨by kernel_rfl, fun w hSw => ?_⟩) hS0 ?_
  · obtain ⟨e, x0, x1, x2, x3, x4, x5, x6, x7, hlk⟩ := hSw; go_simp
  simp only [Act.put, List.getElem_toArray, List.getElem_cons_succ, List.getElem_cons_zero, List.setIfInBounds_toArray, List.set_cons_zero, List.set_cons_succ]
  refine wpAnyH_take (i := 16) (v := .agg #[.int .i64 b1, .int .i64 b2]) rfl (by kernel_rfl) (by kernel_rfl) (by kernel_rfl) (fun _ _ _ h => h) (Or.inl ⟨by kernel_rfl, fun w hSw => ?_⟩) hS0 ?_
  · obtain ⟨e, x0, x1, x2, x3, x4, x5, x6, x7, hlk⟩ := hSw; go_simp
  simp only [Act.put, List.getElem_toArray, List.getElem_cons_succ, List.getElem_cons_zero, List.setIfInBounds_toArray, List.set_cons_zero, List.set_cons_succ]
  refine wpAnyH_take (i := 17) (v := .agg #[.int .i64 q1, .int .i64 q2, .string qk]) rfl (by kernel_rfl) (by kernel_rfl) (by kernel_rfl) (fun _ _ _ h => h) (Or.inl ⟨by kernel_rfl, fun w hSw => ?_⟩) hS0 ?_
  · obtain ⟨e, x0, x1, x2, x3, x4, x5, x6, x7, hlk⟩ := hSw; go_simp
  simp only [Act.put, List.getElem_toArray, List.getElem_cons_succ, List.getElem_cons_zero, List.setIfInBounds_toArray, List.set_cons_zero, List.set_cons_succ]
  refine wpAnyH_ready (rs := [7]) (by kernel_rfl) (by simp) ?_
  refine AllReadyH.cons rfl (fun K hK => ?_) AllReadyH.nil
  go_simp
  refine HTa.out.mono ?_
  rintro e W1 ⟨rfl, HB1⟩
  obtain ⟨S1, S1a, S1b, ⟨k8, k9, k10, k11⟩, ⟨z8, z9, z10, z11⟩, k8b, hT2, hS2, hE2, hK2⟩ := HX.out _ HB1.out
  refine hK.out _ _ S1 (fun _ => ?_)
  clear hK K
  refine wpAnyH_take (i := 18) (v := .pointer (some ⟨g, 0, none⟩)) rfl (by kernel_rfl) (by kernel_rfl) (by kernel_rfl) (fun _ _ _ h => h) (Or.inl ⟨by kernel_rfl, fun w hSw => ?_⟩) S1 ?_
  · obtain ⟨e, x0, x1, x2, x3, x4, x5, x6, x7, hlk⟩ := hSw; go_simp
  simp only [Act.put, List.getElem_toArray, List.getElem_cons_succ, List.getElem_cons_zero, List.setIfInBounds_toArray, List.set_cons_zero, List.set_cons_succ]
  refine wpAnyH_take (i := 19) (v := .pointer (some ⟨g, 8, none⟩)) rfl (by kernel_rfl) (by kernel_rfl) (by kernel_rfl) (fun _ _ _ h => h) (Or.inl ⟨by kernel_rfl, fun w hSw => ?_⟩) S1 ?_
  · obtain ⟨e, x0, x1, x2, x3, x4, x5, x6, x7, hlk⟩ := hSw; go_simp
  simp only [Act.put, List.getElem_toArray, List.getElem_cons_succ, List.getElem_cons_zero, List.setIfInBounds_toArray, List.set_cons_zero, List.set_cons_succ]
  refine wpAnyH_ready (rs := [20]) (by kernel_rfl) (by simp) ?_
  refine AllReadyH.cons rfl (fun K hK => ?_) AllReadyH.nil
  go_simp
  refine hK.out _ _ S1a (fun _ => ?_)
  clear hK K
  refine wpAnyH_take (i := 21) (v := .pointer (some ⟨g, 0, none⟩)) rfl (by kernel_rfl) (by kernel_rfl) (by kernel_rfl) (fun _ _ _ h => h) (Or.inl ⟨by kernel_rfl, fun w hSw => ?_⟩) S1a ?_
  · obtain ⟨e, x0, x1, x2, x3, x4, x5, x6, x7, hlk⟩ := hSw; go_simp
  simp only [Act.put, List.getElem_toArray, List.getElem_cons_succ, List.getElem_cons_zero, List.setIfInBounds_toArray, List.set_cons_zero, List.set_cons_succ]
  refine wpAnyH_take (i := 22) (v := .pointer (some ⟨g, 9, none⟩)) rfl (by kernel_rfl) (by kernel_rfl) (by kernel_rfl) (fun _ _ _ h => h) (Or.inl ⟨by kernel_rfl, fun w hSw => ?_⟩) S1a ?_
  · obtain ⟨e, x0, x1, x2, x3, x4, x5, x6, x7, hlk⟩ := hSw; go_simp
  simp only [Act.put, List.getElem_toArray, List.getElem_cons_succ, List.getElem_cons_zero, List.setIfInBounds_toArray, List.set_cons_zero, List.set_cons_succ]
  refine wpAnyH_ready (rs := [23]) (by kernel_rfl) (by simp) ?_
  refine AllReadyH.cons rfl (fun K hK => ?_) AllReadyH.nil
  go_simp
  refine hK.out _ _ S1b (fun _ => ?_)
  clear hK K
  refine wpAnyH_done (by kernel_rfl) ?_ _
  obtain ⟨W2, hW2⟩ : ∃ W2, W2 = put4 W1 g T q1 q2 qk := ⟨_, rfl⟩
  have hW3 : W2 = (((W1.setCell ⟨g, 8, none⟩ (.bool T)).setCell ⟨g, 9, none⟩ (.int .i64 q1)).setCell ⟨g, 10, none⟩ (.int .i64 q2)).setCell ⟨g, 11, none⟩ (.string qk) := hW2
  rw [← hW2] at hT2 hS2 hE2 hK2 k8b S1b
  rw [← hW3]
  obtain ⟨_, x0, x1, x2, x3, x4, x5, x6, x7, _⟩ := S1b
  have HF := hid (And.intro hT2 (And.intro hS2 (And.intro hE2 hK2)))
  clear hW2 hW3 hT2 hS2 hE2 hK2 S1 S1a k8 k9 k10 k11 z8 z9 z10 z11 hS0
  cases hcs : T with
  | false =>
    have hno := hid (HNo.out hcs)
    rw [hcs] at k8b
    go_wp2
    refine bodyPost_end (results_none rfl _ _ _) rfl ?_
    obtain ⟨h1, h2, h3, h4⟩ := HF.out
    refine ⟨rfl, pl, kd, h1, ?_, ?_, h4⟩
    · rw [hno.out]; exact h2.mono (fun j h => Or.inl h)
    · rw [← HTT.out, HQ.out]; exact h3
  | true =>
    obtain ⟨h1, h2, h3, h4⟩ := HF.out
    have HR1 := HR.out W2 h1 h2 h3 h4 hcs
    clear h1 h2 h3 h4 HR
    rw [hcs] at k8b
    go_wp2_with (go_at_call 122; refine HR1.mono ?_; rintro e W3 ⟨rfl, HC3, HY⟩)
    refine wp_region_held_drew (S := fun w' => w'.cell? ⟨g, 0, none⟩ = some (.int .i64 i1) ∧ w'.cell? ⟨g, 1, none⟩ = some (.int .i64 i2) ∧ w'.cell? ⟨g, 2, none⟩ = some (.int .i64 tm) ∧ w'.cell? ⟨g, 3, none⟩ = some (.int .i64 b1) ∧ w'.cell? ⟨g, 4, none⟩ = some (.int .i64 b2) ∧ w'.cell? ⟨g, 5, none⟩ = some (.int .i64 p1) ∧ w'.cell? ⟨g, 6, none⟩ = some (.int .i64 p2) ∧ w'.cell? ⟨g, 7, none⟩ = some (.string ky)) hmxo HC3 ?_
    intro _
    refine wpAnyH_take (i := 0) (v := .pointer (some ⟨t, 3, none⟩)) rfl (by kernel_rfl) (by kernel_rfl) (by kernel_rfl) (fun _ _ _ h => h) (Or.inl ⟨by kernel_rfl, fun w hSw => ?_⟩) HC3 ?_
    · obtain ⟨x0, x1, x2, x3, x4, x5, x6, x7⟩ := hSw; go_simp
    simp only [Act.put, List.getElem_toArray, List.getElem_cons_succ, List.getElem_cons_zero, List.setIfInBounds_toArray, List.set_cons_zero, List.set_cons_succ]
    refine wpAnyH_take (i := 1) (v := .pointer (some ⟨g, 0, none⟩)) rfl (by kernel_rfl) (by kernel_rfl) (by kernel_rfl) (fun _ _ _ h => h) (Or.inl ⟨by kernel_rfl, fun w hSw => ?_⟩) HC3 ?_
    · obtain ⟨x0, x1, x2, x3, x4, x5, x6, x7⟩ := hSw; go_simp
    simp only [Act.put, List.getElem_toArray, List.getElem_cons_succ, List.getElem_cons_zero, List.setIfInBounds_toArray, List.set_cons_zero, List.set_cons_succ]
    refine wpAnyH_take (i := 2) (v := .pointer (some ⟨g, 0, none⟩)) rfl (by kernel_rfl) (by kernel_rfl) (by kernel_rfl) (fun _ _ _ h => h) (Or.inl ⟨by kernel_rfl, fun w hSw => ?_⟩) HC3 ?_
    · obtain ⟨x0, x1, x2, x3, x4, x5, x6, x7⟩ := hSw; go_simp
    simp only [Act.put, List.getElem_toArray, List.getElem_cons_succ, List.getElem_cons_zero, List.setIfInBounds_toArray, List.set_cons_zero, List.set_cons_succ]
    refine wpAnyH_take (i := 3) (v := .pointer (some ⟨g, 0, none⟩)) rfl (by kernel_rfl) (by kernel_rfl) (by kernel_rfl) (fun _ _ _ h => h) (Or.inl ⟨by kernel_rfl, fun w hSw => ?_⟩) HC3 ?_
    · obtain ⟨x0, x1, x2, x3, x4, x5, x6, x7⟩ := hSw; go_simp
    simp only [Act.put, List.getElem_toArray, List.getElem_cons_succ, List.getElem_cons_zero, List.setIfInBounds_toArray, List.set_cons_zero, List.set_cons_succ]
    refine wpAnyH_take (i := 4) (v := .pointer (some ⟨g, 3, none⟩)) rfl (by kernel_rfl) (by kernel_rfl) (by kernel_rfl) (fun _ _ _ h => h) (Or.inl ⟨by kernel_rfl, fun w hSw => ?_⟩) HC3 ?_
    · obtain ⟨x0, x1, x2, x3, x4, x5, x6, x7⟩ := hSw; go_simp
    simp only [Act.put, List.getElem_toArray, List.getElem_cons_succ, List.getElem_cons_zero, List.setIfInBounds_toArray, List.set_cons_zero, List.set_cons_succ]
    refine wpAnyH_take (i := 5) (v := .agg #[.int .i64 b1, .int .i64 b2]) rfl (by kernel_rfl) (by kernel_rfl) (by kernel_rfl) (fun _ _ _ h => h) (Or.inl ⟨by kernel_rfl, fun w hSw => ?_⟩) HC3 ?_
    · obtain ⟨x0, x1, x2, x3, x4, x5, x6, x7⟩ := hSw; go_simp
    simp only [Act.put, List.getElem_toArray, List.getElem_cons_succ, List.getElem_cons_zero, List.setIfInBounds_toArray, List.set_cons_zero, List.set_cons_succ]
    refine wpAnyH_take (i := 6) (v := .pointer (some ⟨g, 0, none⟩)) rfl (by kernel_rfl) (by kernel_rfl) (by kernel_rfl) (fun _ _ _ h => h) (Or.inl ⟨by kernel_rfl, fun w hSw => ?_⟩) HC3 ?_
    · obtain ⟨x0, x1, x2, x3, x4, x5, x6, x7⟩ := hSw; go_simp
    simp only [Act.put, List.getElem_toArray, List.getElem_cons_succ, List.getElem_cons_zero, List.setIfInBounds_toArray, List.set_cons_zero, List.set_cons_succ]
    refine wpAnyH_take (i := 7) (v := .pointer (some ⟨g, 0, none⟩)) rfl (by kernel_rfl) (by kernel_rfl) (by kernel_rfl) (fun _ _ _ h => h) (Or.inl ⟨by kernel_rfl, fun w hSw => ?_⟩) HC3 ?_
    · obtain ⟨x0, x1, x2, x3, x4, x5, x6, x7⟩ := hSw; go_simp
    simp only [Act.put, List.getElem_toArray, List.getElem_cons_succ, List.getElem_cons_zero, List.setIfInBounds_toArray, List.set_cons_zero, List.set_cons_succ]
    refine wpAnyH_take (i := 8) (v := .pointer (some ⟨g, 0, none⟩)) rfl (by kernel_rfl) (by kernel_rfl) (by kernel_rfl) (fun _ _ _ h => h) (Or.inl ⟨by kernel_rfl, fun w hSw => ?_⟩) HC3 ?_
    · obtain ⟨x0, x1, x2, x3, x4, x5, x6, x7⟩ := hSw; go_simp
    simp only [Act.put, List.getElem_toArray, List.getElem_cons_succ, List.getElem_cons_zero, List.setIfInBounds_toArray, List.set_cons_zero, List.set_cons_succ]
    refine wpAnyH_take (i := 9) (v := .pointer (some ⟨g, 5, none⟩)) rfl (by kernel_rfl) (by kernel_rfl) (by kernel_rfl) (fun _ _ _ h => h) (Or.inl ⟨by kernel_rfl, fun w hSw => ?_⟩) HC3 ?_
    · obtain ⟨x0, x1, x2, x3, x4, x5, x6, x7⟩ := hSw; go_simp
    simp only [Act.put, List.getElem_toArray, List.getElem_cons_succ, List.getElem_cons_zero, List.setIfInBounds_toArray, List.set_cons_zero, List.set_cons_succ]
    refine wpAnyH_take (i := 10) (v := .agg #[.int .i64 p1, .int .i64 p2, .string ky]) rfl (by kernel_rfl) (by kernel_rfl) (by kernel_rfl) (fun _ _ _ h => h) (Or.inl ⟨by kernel_rfl, fun w hSw => ?_⟩) HC3 ?_
    · obtain ⟨x0, x1, x2, x3, x4, x5, x6, x7⟩ := hSw; go_simp
    simp only [Act.put, List.getElem_toArray, List.getElem_cons_succ, List.getElem_cons_zero, List.setIfInBounds_toArray, List.set_cons_zero, List.set_cons_succ]
    refine wpAnyH_ready (rs := [11]) (by kernel_rfl) (by simp) ?_
    refine AllReadyH.cons rfl (fun K hK => ?_) AllReadyH.nil
    go_simp
    refine HY.mono ?_
    rintro e W4 ⟨rfl, S4, hfin⟩
    refine hK.out _ _ S4 (fun _ => ?_)
    clear hK K
    refine wpAnyH_done (by kernel_rfl) ?_ _
    go_wp2
    refine bodyPost_end (results_none rfl _ _ _) rfl ?_
    obtain ⟨pl', kd', g1, g2, g3, g4⟩ := hfin.out
    exact ⟨rfl, pl', kd', g1, g2, by rw [← HTT.out, HQ.out]; exact g3, g4⟩
end Go.Proofs.YtnmdcdphpcpojaaGreatDoor
