/- The first look: what its calls tell. No function of the program but those of the tree. -/
import Derived.Test.YtnmdcdphpcpojaaGreatDoorOlUndM
import Derived.BigQuiet
import Derived.Deep.RegionHeld
import Derived.Test.YtnmdcdphpcpojaaGreatDoorOlSmall
import Derived.Maps.AppendAt
namespace Go.Proofs.YtnmdcdphpcpojaaGreatDoor
section
set_option linter.unusedVariables false
set_option linter.unusedSimpArgs false
open Go.RowKit Go.Shelf

/-- The lines of the first so many kids. -/
def olch (S : List Sp) (σ : Dt → List UInt8) (f d : Nat) (K : List Dt) : List Ln := (K.flatMap (fun b => (b, d, σ b) :: undF S σ f b (d + 1))).map undLn

theorem olch_snoc (S : List Sp) (σ : Dt → List UInt8) (f d : Nat) (K : List Dt) (b : Dt) : olch S σ f d (K ++ [b]) = olch S σ f d K ++ [⟨b, d, σ b⟩] ++ (undF S σ f b (d + 1)).map undLn := by
  unfold olch
  rw [List.flatMap_append, List.map_append, List.append_assoc]
  simp [undLn]

theorem olch_len (S : List Sp) (σ : Dt → List UInt8) (f d : Nat) (p : Dt) (k : Nat) : (olch S σ f d ((kidD S p).take k)).length ≤ (undF S σ (f + 1) p d).length := by
  unfold olch
  rw [List.length_map]
  show _ ≤ ((kidD S p).flatMap _).length
  conv => rhs; rw [← List.take_append_drop k (kidD S p), List.flatMap_append, List.length_append]
  omega

theorem olch_step (S : List Sp) (σ : Dt → List UInt8) (f d : Nat) (p : Dt) (k : Nat) (hk : k < (kidD S p).length) : (olch S σ f d ((kidD S p).take k)).length + 1 + (undF S σ f ((kidD S p)[k]) (d + 1)).length ≤ (undF S σ (f + 1) p d).length := by
  have h := olch_len S σ f d p (k + 1)
  rw [List.take_succ_eq_append_getElem hk, olch_snoc, List.length_append, List.length_append, List.length_map] at h
  simpa using h

theorem oladd_block (ad : Addr) (j : Nat) : (ad.add j).block = ad.block := by unfold Addr.add; split <;> rfl

theorem olps_kept {w w' : World} {a : Option Addr} {n c : Nat} {L : List Dt} (h : PS w a n c L) (hb : ∀ ad, a = some ad → w'.heap[ad.block]? = w.heap[ad.block]?) : PS w' a n c L :=
  ⟨h.len, h.cap, h.max, h.nil, fun ad ha j u hj => (World.cell?_of_block (by rw [oladd_block]; exact hb ad ha)).trans (h.cells ad ha j u hj)⟩

theorem olappend_step {P : Program} {ops : Array Oper} {o : Oper} {a : Act} {w : World} {K : Act → World → Prop} {Q : Exit → Act → World → Prop} (s x : Operand) (t : TypeId) (v u v' : Value) (w' : World)
    (hgd : o.guard = none) (hop : o.op = Op.call { callee := Callee.builtin Builtin.append, args := #[s, x], argTypes := #[t, t] }) (hs : a.eval s = v) (hx : a.eval x = u)
    (hrun : (Builtin.append_ #[t, t] o.type #[v, u]).run P w = .ok v' w') (hK : K (a.put o.dst v') w') :
    if Region.wanted o (yielded ops a.tmps) = true then Oper.wp P o a w K Q else K (a.put o.dst undef) w := by
  simp only [Region.wanted, hgd, if_true]
  unfold Oper.wp
  simp [execOp, hop, resolve, invoke, builtin, hs, hx, hrun, Result.andThen, Oper.upon]
  exact hK

/-- What a line's coming wants, ahead of a call that makes new memory alone. -/
theorem UI.line {P : Nat → Prop} {t : Nat} {l : List Mv} {mv : Value} {bt bo bx bd n0 : Nat} {L : List Ln} {V : World} (h : UI P t l mv bt bo bx bd n0 L V) (hn : L.length ≤ 1000000) : ∃ vo, V.cell? ⟨bo, 0, none⟩ = some vo ∧ ∀ V', Below V.heap.size V V' → V'.cell? ⟨bo, 0, none⟩ = some vo ∧ ∀ x : Ln,
    (V'.alloc (.cells x.cells.toArray 54)).cell? ⟨bo, 0, none⟩ = some vo ∧ KP P V' (V'.alloc (.cells x.cells.toArray 54)) ∧ ∃ a5 n5 c5 w', (Builtin.append_ #[43, 43] 43 #[vo, .slice (some ⟨V'.heap.size, 0, none⟩) 1 1]).run Tryz.prog (V'.alloc (.cells x.cells.toArray 54)) = .ok (.slice a5 n5 c5) w' ∧
      w'.cell? ⟨bo, 0, none⟩ = some vo ∧ w'.frozen? ⟨bo, 0, none⟩ = false ∧ UI P t l mv bt bo bx bd n0 (L ++ [x]) (w'.setCell ⟨bo, 0, none⟩ (.slice a5 n5 c5)) ∧ KP P V' (w'.setCell ⟨bo, 0, none⟩ (.slice a5 n5 c5)) ∧ KP P V' w' := by
  obtain ⟨vo, Q, h1, h2, h3, h4, h5, h6⟩ := h.row
  refine ⟨vo, by rw [Lib.cell_of_heap h5]; rfl, fun V' hb => ?_⟩
  have h5' := (hb.block bo (h1.lt _ h3)).trans h5
  have hU' : UI P t l mv bt bo bx bd n0 L V' := h.more hb (fun j hj => Or.inl hj) (fun j hj => hj)
  refine ⟨by rw [Lib.cell_of_heap h5']; rfl, fun x => ?_⟩
  have hba : Below V'.heap.size V' (V'.alloc (.cells x.cells.toArray 54)) := (Below.refl _ V').alloc (Nat.le_refl _) _
  have h5a := (hba.block bo (Array.getElem?_eq_some_iff.1 h5').1).trans h5'
  exact ⟨by rw [Lib.cell_of_heap h5a]; rfl, hU'.kept hba, hU'.app (h1.below hb) h2 h3 h4 h5' (lns_below h6 hb) x hn⟩

set_option maxRecDepth 100000 in
set_option maxHeartbeats 4000000 in
theorem down_any (t : Nat) (l : List Mv) (mv : Value) (bt bo bx bd n0 : Nat) (σ : Dt → List UInt8) (r : Dt → Nat) (hr : Tk (run l) r) (hdw : ∀ s ∈ run l, Dw s.b) : ∀ (f : Nat) (p : Dt) (d : Nat) (P : Nat → Prop) (L : List Ln) (V : World), bel (run l) r p < f → Dw p → d + f ≤ 100000 → UI P t l mv bt bo bx bd n0 L V → XP P V mv σ → L.length + (undF (run l) σ f p d).length ≤ 100000 →
    Calls Tryz.prog 40 #[dv p, .int .i64 d, .pointer (some ⟨bt, 0, none⟩), .pointer (some ⟨bo, 0, none⟩), .pointer (some ⟨bx, 0, none⟩), .pointer (some ⟨bd, 0, none⟩)] V fun e V' => e = .returned (.tuple #[]) ∧ UI P t l mv bt bo bx bd n0 (L ++ (undF (run l) σ f p d).map undLn) V' ∧ KP P V V' := by
  intro f
  induction f with
  | zero => intro p d P L V h; omega
  | succ f ih =>
    intro p d P L V hbl hp hdf hU hX hlen
    obtain ⟨p1, p2⟩ := p
    have mixed := mixed
    have hmxo : Tryz.prog.follows .mixedOrders = true := by kernel_rfl
    obtain ⟨K, hK⟩ : ∃ K, K = kidD (run l) (p1, p2) := ⟨_, rfl⟩
    obtain ⟨n, hn⟩ : ∃ n, n = K.length := ⟨_, rfl⟩
    obtain ⟨V0, hV0⟩ : ∃ V0, V0 = V.alloc (.cells #[.int .i64 p1, .int .i64 p2] 24) := ⟨_, rfl⟩
    have hB0 : Below V.heap.size V V0 := by rw [hV0]; exact (Below.refl _ V).alloc (Nat.le_refl _) _
    have hb0 : V0.heap[V.heap.size]? = some (.cells #[.int .i64 p1, .int .i64 p2] 24 (0, 0)) := by rw [hV0]; exact World.alloc_heap_new V _
    have hU0 : UI (fun j => P j ∨ j = V.heap.size) t l mv bt bo bx bd n0 L V0 := hU.more hB0 (fun j hj => hj.imp id (fun e => by subst e; exact ⟨Nat.le_refl _, by rw [hV0]; simp⟩)) (fun j hj => Or.inl hj)
    have hX0 : XP (fun j => P j ∨ j = V.heap.size) V0 mv σ := hX.next (hU.kept hB0) (fun j hj => Or.inl hj)
    have hKD := hU0.kids (p1, p2) hp
    rw [← hK, ← hn] at hKD
    have q0 : V0.cell? ⟨bt, 0, none⟩ = some (.pointer (some ⟨t, 0, none⟩)) := by rw [Lib.cell_of_heap hU0.cbt]; rfl
    have q1 : V0.cell? ⟨V.heap.size, 0, none⟩ = some (.int .i64 p1) := by rw [Lib.cell_of_heap hb0]; rfl
    have q2 : V0.cell? ⟨V.heap.size, 1, none⟩ = some (.int .i64 p2) := by rw [Lib.cell_of_heap hb0]; rfl
    have HV0 := hid hV0
    have HK0 := hid (hU.kept hB0)
    have HX0 := hid hX0
    have HP := hid hU.pt
    have HKE := hid hK
    have HN := hid hn
    have HLEN := hid hlen
    have hnl : n ≤ 100000 := by
      have h1 := olch_len (run l) σ f d (p1, p2) (kidD (run l) (p1, p2)).length
      rw [List.take_length] at h1
      have h2 : (kidD (run l) (p1, p2)).length ≤ (olch (run l) σ f d (kidD (run l) (p1, p2))).length := by
        unfold olch
        rw [List.length_map]
        generalize kidD (run l) (p1, p2) = K
        induction K with
        | nil => simp
        | cons b K ihK => rw [List.flatMap_cons, List.length_append, List.length_cons, List.length_cons]; omega
      rw [hn, hK]
      omega
    clear hV0 hU hB0 hb0 hU0 hX hX0 hK hn hlen
    show Calls Tryz.prog 40 #[.agg #[.int .i64 p1, .int .i64 p2], .int .i64 d, .pointer (some ⟨bt, 0, none⟩), .pointer (some ⟨bo, 0, none⟩), .pointer (some ⟨bx, 0, none⟩), .pointer (some ⟨bd, 0, none⟩)] V _
    go_enter Tryz.func40, Tryz.ntmps40
    go_upto_region 1 with fail
    rw [← HV0.out]
    go_wp2_with (go_at_call 41; refine hKD.mono ?_; rintro e V1 ⟨a, c, rfl, hps, hU1, hK1⟩)
    obtain ⟨P1, hP1⟩ : ∃ P1 : Nat → Prop, P1 = fun j => (P j ∨ j = V.heap.size) ∨ ∃ ad, a = some ad ∧ ad.block = j := ⟨_, rfl⟩
    rw [← hP1] at hU1
    have HPS := hid hps
    have HU1 := hid hU1
    have HX1 := hid (HX0.out.next hK1 (P' := P1) (fun j hj => by rw [hP1]; exact Or.inl hj))
    have HK1 := hid (HK0.out.trans (hK1.mono (fun j hj => Or.inl hj)))
    have HPA : Hid (∀ ad, a = some ad → P1 ad.block) := hid (fun ad h => by rw [hP1]; exact Or.inr ⟨ad, h, rfl⟩)
    have HPP : Hid (∀ j, P j → P1 j) := hid (fun j h => by rw [hP1]; exact Or.inl (Or.inl h))
    have HPB := hid hU1.pt
    clear hps hU1 hK1 hP1 hKD q0 q1 q2
    go_loopw [14] (fun i wr => ∃ k : Nat, k ≤ n ∧ i = .int .i64 k ∧ Hid (UI P1 t l mv bt bo bx bd n0 (L ++ olch (run l) σ f d (K.take k)) wr ∧ KP P1 V1 wr)) (fun i _ => n - (intOf i).toNat)
    case atStart => exact ⟨0, by omega, rfl, hid ⟨by rw [List.take_zero]; show UI P1 t l mv bt bo bx bd n0 (L ++ []) V1; rw [List.append_nil]; exact HU1.out, KP.refl _ _⟩⟩
    case round =>
      obtain ⟨k, hk, rfl, HR⟩ := hrel
      by_cases hlt : k < n
      · have hkK : k < K.length := by rw [← HN.out]; exact hlt
        obtain ⟨g, o, rfl, hg, hat⟩ := (olps_kept HPS.out (fun ad h => HR.out.2.keep _ (HPA.out ad h))).at (by omega)
        have hc := hat k hkK
        obtain ⟨b, hb⟩ : ∃ b, b = K[k] := ⟨_, rfl⟩
        rw [← hb] at hc
        have HTS : Hid (K.take (k + 1) = K.take k ++ [b]) := hid (by rw [hb]; exact List.take_succ_eq_append_getElem hkK)
        have hbk : b ∈ kidD (run l) (p1, p2) := by rw [hb, ← HKE.out]; exact List.getElem_mem hkK
        have HBD : Hid (bel (run l) r b < f ∧ Dw b) := hid ⟨by have := (kidD_bel hr hbk).1; omega, by
          obtain ⟨s, hs, e⟩ := List.mem_map.1 (kidD_bel hr hbk).2.2
          rw [← e]; exact hdw s hs⟩
        have HLS : Hid ((L ++ olch (run l) σ f d (K.take k) ++ [(⟨b, d, σ b⟩ : Ln)]).length + (undF (run l) σ f b (d + 1)).length ≤ 100000) := hid (by
          have h1 := olch_step (run l) σ f d (p1, p2) k (by rw [← HKE.out]; exact hkK)
          have h2 := HLEN.out
          have h3 : (kidD (run l) (p1, p2))[k]'(by rw [← HKE.out]; exact hkK) = b := by rw [hb]; congr 1; exact HKE.out.symm
          rw [h3, ← HKE.out] at h1
          rw [List.length_append, List.length_append, List.length_singleton]
          omega)
        have hLl : (L ++ olch (run l) σ f d (K.take k)).length ≤ 1000000 := by
          have := HLS.out
          rw [List.length_append] at this
          omega
        clear hat hb hkK hbk
        obtain ⟨b1, b2⟩ := b
        obtain ⟨c0, c1⟩ := hc
        go_upto_region 4 with fail
        obtain ⟨V2, hV2⟩ : ∃ V2, V2 = wr.alloc (.cells #[.int .i64 b1, .int .i64 b2] 24) := ⟨_, rfl⟩
        obtain ⟨q9, hq9⟩ : ∃ q9, q9 = wr.heap.size := ⟨_, rfl⟩
        have hB2 : Below wr.heap.size wr V2 := by rw [hV2]; exact (Below.refl _ wr).alloc (Nat.le_refl _) _
        have hb9 : V2.heap[q9]? = some (.cells #[.int .i64 b1, .int .i64 b2] 24 (0, 0)) := by rw [hV2, hq9]; exact World.alloc_heap_new wr _
        obtain ⟨P2, hP2⟩ : ∃ P2 : Nat → Prop, P2 = fun j => P1 j ∨ j = q9 := ⟨_, rfl⟩
        have hU2 : UI P2 t l mv bt bo bx bd n0 (L ++ olch (run l) σ f d (K.take k)) V2 := HR.out.1.more hB2 (fun j hj => by rw [hP2] at hj; exact hj.imp id (fun e => ⟨by omega, by rw [e, hq9, hV2]; simp⟩)) (fun j hj => by rw [hP2]; exact Or.inl hj)
        have hK2 : KP P1 wr V2 := HR.out.1.kept hB2
        have hX2 : XP P2 V2 mv σ := HX1.out.next (HR.out.2.trans hK2) (fun j hj => by rw [hP2]; exact Or.inl hj)
        obtain ⟨pv, hpv⟩ := hX2 (b1, b2) HBD.out.2
        obtain ⟨vo, co, hLN⟩ := hU2.line hLl
        have hVd : Below V2.heap.size V2 V2.drew := ((Far.refl V2).drewN 1).below
        have HS : Hid (∀ W, KP P2 V2 W → (W.cell? ⟨q9, 0, none⟩ = some (.int .i64 b1) ∧ W.cell? ⟨q9, 1, none⟩ = some (.int .i64 b2) ∧ W.cell? ⟨bx, 0, none⟩ = some mv ∧ (Instr.lookup 29 mv (.agg #[.int .i64 b1, .int .i64 b2]) false).run Tryz.prog W = .ok pv W)) := hid (fun W hW => by
          have h9 := (hW.keep q9 (by rw [hP2]; exact Or.inr rfl)).trans hb9
          have hx := (hW.keep bx hU2.pt.2.1).trans hU2.cbx
          exact ⟨by rw [Lib.cell_of_heap h9]; rfl, by rw [Lib.cell_of_heap h9]; rfl, by rw [Lib.cell_of_heap hx]; rfl, (hpv W hW).1⟩)
        have hS0 := HS.out V2.drew (hU2.kept hVd)
        have co0 : V2.drew.cell? ⟨bo, 0, none⟩ = some vo := (hLN _ hVd).1
        obtain ⟨tx, htx⟩ : ∃ tx, tx = σ (b1, b2) := ⟨_, rfl⟩
        have HSTR : Calls Tryz.prog 42 #[pv] V2.drew fun e V3 => e = .returned (.string ⟨tx.toArray⟩) ∧ (V3.cell? ⟨q9, 0, none⟩ = some (.int .i64 b1) ∧ V3.cell? ⟨q9, 1, none⟩ = some (.int .i64 b2) ∧ V3.cell? ⟨bx, 0, none⟩ = some mv ∧ (Instr.lookup 29 mv (.agg #[.int .i64 b1, .int .i64 b2]) false).run Tryz.prog V3 = .ok pv V3) ∧ V3.cell? ⟨bo, 0, none⟩ = some vo ∧
            ((V3.alloc (.cells #[.int .i64 b1, .int .i64 b2, .int .i64 d, .string ⟨tx.toArray⟩] 54)).cell? ⟨q9, 0, none⟩ = some (.int .i64 b1) ∧ (V3.alloc (.cells #[.int .i64 b1, .int .i64 b2, .int .i64 d, .string ⟨tx.toArray⟩] 54)).cell? ⟨q9, 1, none⟩ = some (.int .i64 b2) ∧ (V3.alloc (.cells #[.int .i64 b1, .int .i64 b2, .int .i64 d, .string ⟨tx.toArray⟩] 54)).cell? ⟨bx, 0, none⟩ = some mv ∧ (Instr.lookup 29 mv (.agg #[.int .i64 b1, .int .i64 b2]) false).run Tryz.prog (V3.alloc (.cells #[.int .i64 b1, .int .i64 b2, .int .i64 d, .string ⟨tx.toArray⟩] 54)) = .ok pv (V3.alloc (.cells #[.int .i64 b1, .int .i64 b2, .int .i64 d, .string ⟨tx.toArray⟩] 54))) ∧
            (V3.alloc (.cells #[.int .i64 b1, .int .i64 b2, .int .i64 d, .string ⟨tx.toArray⟩] 54)).cell? ⟨bo, 0, none⟩ = some vo ∧ ∃ a5 n5 c5 w5, (Builtin.append_ #[43, 43] 43 #[vo, .slice (some ⟨V3.heap.size, 0, none⟩) 1 1]).run Tryz.prog (V3.alloc (.cells #[.int .i64 b1, .int .i64 b2, .int .i64 d, .string ⟨tx.toArray⟩] 54)) = .ok (.slice a5 n5 c5) w5 ∧
            w5.cell? ⟨bo, 0, none⟩ = some vo ∧ w5.frozen? ⟨bo, 0, none⟩ = false ∧ (w5.cell? ⟨q9, 0, none⟩ = some (.int .i64 b1) ∧ w5.cell? ⟨q9, 1, none⟩ = some (.int .i64 b2) ∧ w5.cell? ⟨bx, 0, none⟩ = some mv ∧ (Instr.lookup 29 mv (.agg #[.int .i64 b1, .int .i64 b2]) false).run Tryz.prog w5 = .ok pv w5) ∧
            ((w5.setCell ⟨bo, 0, none⟩ (.slice a5 n5 c5)).cell? ⟨q9, 0, none⟩ = some (.int .i64 b1) ∧ (w5.setCell ⟨bo, 0, none⟩ (.slice a5 n5 c5)).cell? ⟨q9, 1, none⟩ = some (.int .i64 b2) ∧ (w5.setCell ⟨bo, 0, none⟩ (.slice a5 n5 c5)).cell? ⟨bx, 0, none⟩ = some mv ∧ (Instr.lookup 29 mv (.agg #[.int .i64 b1, .int .i64 b2]) false).run Tryz.prog (w5.setCell ⟨bo, 0, none⟩ (.slice a5 n5 c5)) = .ok pv (w5.setCell ⟨bo, 0, none⟩ (.slice a5 n5 c5))) ∧
            Hid (UI P2 t l mv bt bo bx bd n0 (L ++ olch (run l) σ f d (K.take k) ++ [(⟨(b1, b2), d, σ (b1, b2)⟩ : Ln)]) (w5.setCell ⟨bo, 0, none⟩ (.slice a5 n5 c5)) ∧ KP P2 V2 (w5.setCell ⟨bo, 0, none⟩ (.slice a5 n5 c5))) := by
          refine ((hpv V2.drew (hU2.kept hVd)).2).mono ?_
          rintro e V3 ⟨rfl, hb3⟩
          have hb23 : Below V2.heap.size V2 V3 := hVd.trans (hb3.mono hVd.size)
          have kp3 := hU2.kept hb23
          obtain ⟨m1, m2⟩ := hLN V3 hb23
          obtain ⟨m3, m4, a5, n5, c5, w5, m5, m6, m7, m8, m9, m10⟩ := m2 ⟨(b1, b2), d, σ (b1, b2)⟩
          rw [htx]
          exact ⟨rfl, HS.out V3 kp3, m1, HS.out _ (kp3.trans m4), m3, a5, n5, c5, w5, m5, m6, m7, HS.out _ (kp3.trans m10), HS.out _ (kp3.trans m9), hid ⟨m8, kp3.trans m9⟩⟩
        have HX2 := hid hX2
        have HK2 := hid hK2
        have HP2 := hid hP2
        have HQ9 := hid hq9
        rw [← hV2, ← hq9]
        clear hq9 hB2 hb9 hU2 hK2 hX2 hpv hLN hVd hV2 hP2 HS htx co
        refine wp_region_held_drew (S := fun w' => w'.cell? ⟨q9, 0, none⟩ = some (.int .i64 b1) ∧ w'.cell? ⟨q9, 1, none⟩ = some (.int .i64 b2) ∧ w'.cell? ⟨bx, 0, none⟩ = some mv ∧ (Instr.lookup 29 mv (.agg #[.int .i64 b1, .int .i64 b2]) false).run Tryz.prog w' = .ok pv w') hmxo hS0 ?_
        intro _
        refine wpAnyH_take (i := 1) (v := .agg #[.int .i64 b1, .int .i64 b2]) rfl (by kernel_rfl) (by kernel_rfl) (by kernel_rfl) (fun _ _ _ h => h) (Or.inl ⟨by kernel_rfl, fun w hSw => ?_⟩) hS0 ?_
        · obtain ⟨e1, e2, e3, e4⟩ := hSw; go_simp
        simp only [Act.put, List.getElem_toArray, List.getElem_cons_succ, List.getElem_cons_zero, List.setIfInBounds_toArray, List.set_cons_zero, List.set_cons_succ]
        refine wpAnyH_take (i := 2) (v := .int .i64 d) rfl (by kernel_rfl) (by kernel_rfl) (by kernel_rfl) (fun _ _ _ h => h) (Or.inl ⟨by kernel_rfl, fun w hSw => ?_⟩) hS0 ?_
        · obtain ⟨e1, e2, e3, e4⟩ := hSw; go_simp
        simp only [Act.put, List.getElem_toArray, List.getElem_cons_succ, List.getElem_cons_zero, List.setIfInBounds_toArray, List.set_cons_zero, List.set_cons_succ]
        refine wpAnyH_take (i := 3) (v := mv) rfl (by kernel_rfl) (by kernel_rfl) (by kernel_rfl) (fun _ _ _ h => h) (Or.inl ⟨by kernel_rfl, fun w hSw => ?_⟩) hS0 ?_
        · obtain ⟨e1, e2, e3, e4⟩ := hSw; go_simp
        simp only [Act.put, List.getElem_toArray, List.getElem_cons_succ, List.getElem_cons_zero, List.setIfInBounds_toArray, List.set_cons_zero, List.set_cons_succ]
        refine wpAnyH_take (i := 4) (v := .agg #[.int .i64 b1, .int .i64 b2]) rfl (by kernel_rfl) (by kernel_rfl) (by kernel_rfl) (fun _ _ _ h => h) (Or.inl ⟨by kernel_rfl, fun w hSw => ?_⟩) hS0 ?_
        · obtain ⟨e1, e2, e3, e4⟩ := hSw; go_simp
        simp only [Act.put, List.getElem_toArray, List.getElem_cons_succ, List.getElem_cons_zero, List.setIfInBounds_toArray, List.set_cons_zero, List.set_cons_succ]
        refine wpAnyH_take (i := 5) (v := pv) rfl (by kernel_rfl) (by kernel_rfl) (by kernel_rfl) (fun _ _ _ h => h) (Or.inl ⟨by kernel_rfl, fun w hSw => ?_⟩) hS0 ?_
        · obtain ⟨e1, e2, e3, e4⟩ := hSw; go_simp
        simp only [Act.put, List.getElem_toArray, List.getElem_cons_succ, List.getElem_cons_zero, List.setIfInBounds_toArray, List.set_cons_zero, List.set_cons_succ]
        refine wpAnyH_ready (rs := [0, 6]) (by kernel_rfl) (by simp) ?_
        refine AllReadyH.cons rfl (fun K hK => ?_) (AllReadyH.cons rfl (fun K hK => ?_) AllReadyH.nil)
        · go_simp
          refine hK.out _ _ hS0 (fun _ => ?_)
          clear hK K
          refine wpAnyH_ready (rs := [6]) (by kernel_rfl) (by simp) ?_
          refine AllReadyH.cons rfl (fun K hK => ?_) AllReadyH.nil
          go_simp
          refine HSTR.mono ?_
          rintro e V3 ⟨rfl, hS3, co3, HF3⟩
          refine hK.out _ _ hS3 (fun _ => ?_)
          clear hK K
          obtain ⟨hS4, co4, a5, n5, c5, w5, hrun, hc5, hf5, hS5, hS6, HF5⟩ := HF3
          refine wpAnyH_take (i := 7) (v := .agg #[.int .i64 b1, .int .i64 b2, .int .i64 d, .string ⟨tx.toArray⟩]) rfl (by kernel_rfl) (by kernel_rfl) (by kernel_rfl) (fun _ _ _ h => h) (Or.inl ⟨by kernel_rfl, fun w hSw => ?_⟩) hS3 ?_
          · obtain ⟨e1, e2, e3, e4⟩ := hSw; go_simp
          simp only [Act.put, List.getElem_toArray, List.getElem_cons_succ, List.getElem_cons_zero, List.setIfInBounds_toArray, List.set_cons_zero, List.set_cons_succ]
          refine wpAnyH_ready (rs := [8]) (by kernel_rfl) (by simp) ?_
          refine AllReadyH.cons rfl (fun K hK => ?_) AllReadyH.nil
          go_simp
          refine hK.out _ _ hS4 (fun _ => ?_)
          clear hK K
          refine wpAnyH_ready (rs := [9]) (by kernel_rfl) (by simp) ?_
          refine AllReadyH.cons rfl (fun K hK => ?_) AllReadyH.nil
          refine olappend_step _ _ 43 vo _ _ w5 rfl rfl rfl rfl hrun ?_
          refine hK.out _ _ hS5 (fun _ => ?_)
          clear hK K
          simp only [Act.put, List.getElem_toArray, List.getElem_cons_succ, List.getElem_cons_zero, List.setIfInBounds_toArray, List.set_cons_zero, List.set_cons_succ]
          refine wpAnyH_ready (rs := [10]) (by kernel_rfl) (by simp) ?_
          refine AllReadyH.cons rfl (fun K hK => ?_) AllReadyH.nil
          go_simp
          refine hK.out _ _ hS6 (fun _ => ?_)
          clear hK K
          refine wpAnyH_done (by kernel_rfl) ?_ _
          obtain ⟨hU5, hK5⟩ := HF5.out
          obtain ⟨V5, hV5⟩ : ∃ V5, V5 = w5.setCell ⟨bo, 0, none⟩ (.slice a5 n5 c5) := ⟨_, rfl⟩
          rw [← hV5] at hU5 hK5 hS6 ⊢
          clear hV5 hrun hc5 hf5 hS5 hS4 co4 hS3 co3 HF5 HSTR hS0 co0
          obtain ⟨s1, s2, _, _⟩ := hS6
          have s3 : V5.cell? ⟨bd, 0, none⟩ = some (.func (.func 40) #[] #[.pointer (some ⟨bt, 0, none⟩), .pointer (some ⟨bo, 0, none⟩), .pointer (some ⟨bx, 0, none⟩), .pointer (some ⟨bd, 0, none⟩)]) := by rw [Lib.cell_of_heap hU5.cbd]; rfl
          have HIH := hid (ih (b1, b2) (d + 1) P2 _ V5 HBD.out.1 HBD.out.2 (by omega) hU5 (HX2.out.next hK5 (fun _ h => h)) HLS.out)
          have HK5 := hid hK5
          clear hU5 hK5
          go_wp2_with (go_at_call 40; refine HIH.out.mono ?_; rintro e V6 ⟨rfl, hU6, hK6⟩)
          go_roundw
          case rel =>
            refine ⟨k + 1, by omega, by go_num, hid ⟨?_, ?_⟩⟩
            · rw [HTS.out, olch_snoc, ← List.append_assoc, ← List.append_assoc]
              exact hU6.mono (fun j hj => by rw [HP2.out]; exact Or.inl hj) HPB.out
            · refine HR.out.2.trans ((HK2.out.mono (fun j hj => hj)).trans (((HK5.out.trans hK6)).mono (fun j hj => by rw [HP2.out]; exact Or.inl hj)))
          case measure => simp [intOf]; omega
        · go_simp
          refine HSTR.mono ?_
          rintro e V3 ⟨rfl, hS3, co3, HF3⟩
          refine hK.out _ _ hS3 (fun _ => ?_)
          clear hK K
          obtain ⟨hS4, co4, a5, n5, c5, w5, hrun, hc5, hf5, hS5, hS6, HF5⟩ := HF3
          refine wpAnyH_take (i := 7) (v := .agg #[.int .i64 b1, .int .i64 b2, .int .i64 d, .string ⟨tx.toArray⟩]) rfl (by kernel_rfl) (by kernel_rfl) (by kernel_rfl) (fun _ _ _ h => h) (Or.inl ⟨by kernel_rfl, fun w hSw => ?_⟩) hS3 ?_
          · obtain ⟨e1, e2, e3, e4⟩ := hSw; go_simp
          simp only [Act.put, List.getElem_toArray, List.getElem_cons_succ, List.getElem_cons_zero, List.setIfInBounds_toArray, List.set_cons_zero, List.set_cons_succ]
          refine wpAnyH_ready (rs := [0, 8]) (by kernel_rfl) (by simp) ?_
          refine AllReadyH.cons rfl (fun K hK => ?_) (AllReadyH.cons rfl (fun K hK => ?_) AllReadyH.nil)
          · go_simp
            refine hK.out _ _ hS3 (fun _ => ?_)
            clear hK K
            refine wpAnyH_ready (rs := [8]) (by kernel_rfl) (by simp) ?_
            refine AllReadyH.cons rfl (fun K hK => ?_) AllReadyH.nil
            go_simp
            refine hK.out _ _ hS4 (fun _ => ?_)
            clear hK K
            refine wpAnyH_ready (rs := [9]) (by kernel_rfl) (by simp) ?_
            refine AllReadyH.cons rfl (fun K hK => ?_) AllReadyH.nil
            refine olappend_step _ _ 43 vo _ _ w5 rfl rfl rfl rfl hrun ?_
            refine hK.out _ _ hS5 (fun _ => ?_)
            clear hK K
            simp only [Act.put, List.getElem_toArray, List.getElem_cons_succ, List.getElem_cons_zero, List.setIfInBounds_toArray, List.set_cons_zero, List.set_cons_succ]
            refine wpAnyH_ready (rs := [10]) (by kernel_rfl) (by simp) ?_
            refine AllReadyH.cons rfl (fun K hK => ?_) AllReadyH.nil
            go_simp
            refine hK.out _ _ hS6 (fun _ => ?_)
            clear hK K
            refine wpAnyH_done (by kernel_rfl) ?_ _
            obtain ⟨hU5, hK5⟩ := HF5.out
            obtain ⟨V5, hV5⟩ : ∃ V5, V5 = w5.setCell ⟨bo, 0, none⟩ (.slice a5 n5 c5) := ⟨_, rfl⟩
            rw [← hV5] at hU5 hK5 hS6 ⊢
            clear hV5 hrun hc5 hf5 hS5 hS4 co4 hS3 co3 HF5 HSTR hS0 co0
            obtain ⟨s1, s2, _, _⟩ := hS6
            have s3 : V5.cell? ⟨bd, 0, none⟩ = some (.func (.func 40) #[] #[.pointer (some ⟨bt, 0, none⟩), .pointer (some ⟨bo, 0, none⟩), .pointer (some ⟨bx, 0, none⟩), .pointer (some ⟨bd, 0, none⟩)]) := by rw [Lib.cell_of_heap hU5.cbd]; rfl
            have HIH := hid (ih (b1, b2) (d + 1) P2 _ V5 HBD.out.1 HBD.out.2 (by omega) hU5 (HX2.out.next hK5 (fun _ h => h)) HLS.out)
            have HK5 := hid hK5
            clear hU5 hK5
            go_wp2_with (go_at_call 40; refine HIH.out.mono ?_; rintro e V6 ⟨rfl, hU6, hK6⟩)
            go_roundw
            case rel =>
              refine ⟨k + 1, by omega, by go_num, hid ⟨?_, ?_⟩⟩
              · rw [HTS.out, olch_snoc, ← List.append_assoc, ← List.append_assoc]
                exact hU6.mono (fun j hj => by rw [HP2.out]; exact Or.inl hj) HPB.out
              · refine HR.out.2.trans ((HK2.out.mono (fun j hj => hj)).trans (((HK5.out.trans hK6)).mono (fun j hj => by rw [HP2.out]; exact Or.inl hj)))
            case measure => simp [intOf]; omega
          · go_simp
            refine hK.out _ _ hS4 (fun _ => ?_)
            clear hK K
            refine wpAnyH_ready (rs := [0]) (by kernel_rfl) (by simp) ?_
            refine AllReadyH.cons rfl (fun K hK => ?_) AllReadyH.nil
            go_simp
            refine hK.out _ _ hS4 (fun _ => ?_)
            clear hK K
            refine wpAnyH_ready (rs := [9]) (by kernel_rfl) (by simp) ?_
            refine AllReadyH.cons rfl (fun K hK => ?_) AllReadyH.nil
            refine olappend_step _ _ 43 vo _ _ w5 rfl rfl rfl rfl hrun ?_
            refine hK.out _ _ hS5 (fun _ => ?_)
            clear hK K
            simp only [Act.put, List.getElem_toArray, List.getElem_cons_succ, List.getElem_cons_zero, List.setIfInBounds_toArray, List.set_cons_zero, List.set_cons_succ]
            refine wpAnyH_ready (rs := [10]) (by kernel_rfl) (by simp) ?_
            refine AllReadyH.cons rfl (fun K hK => ?_) AllReadyH.nil
            go_simp
            refine hK.out _ _ hS6 (fun _ => ?_)
            clear hK K
            refine wpAnyH_done (by kernel_rfl) ?_ _
            obtain ⟨hU5, hK5⟩ := HF5.out
            obtain ⟨V5, hV5⟩ : ∃ V5, V5 = w5.setCell ⟨bo, 0, none⟩ (.slice a5 n5 c5) := ⟨_, rfl⟩
            rw [← hV5] at hU5 hK5 hS6 ⊢
            clear hV5 hrun hc5 hf5 hS5 hS4 co4 hS3 co3 HF5 HSTR hS0 co0
            obtain ⟨s1, s2, _, _⟩ := hS6
            have s3 : V5.cell? ⟨bd, 0, none⟩ = some (.func (.func 40) #[] #[.pointer (some ⟨bt, 0, none⟩), .pointer (some ⟨bo, 0, none⟩), .pointer (some ⟨bx, 0, none⟩), .pointer (some ⟨bd, 0, none⟩)]) := by rw [Lib.cell_of_heap hU5.cbd]; rfl
            have HIH := hid (ih (b1, b2) (d + 1) P2 _ V5 HBD.out.1 HBD.out.2 (by omega) hU5 (HX2.out.next hK5 (fun _ h => h)) HLS.out)
            have HK5 := hid hK5
            clear hU5 hK5
            go_wp2_with (go_at_call 40; refine HIH.out.mono ?_; rintro e V6 ⟨rfl, hU6, hK6⟩)
            go_roundw
            case rel =>
              refine ⟨k + 1, by omega, by go_num, hid ⟨?_, ?_⟩⟩
              · rw [HTS.out, olch_snoc, ← List.append_assoc, ← List.append_assoc]
                exact hU6.mono (fun j hj => by rw [HP2.out]; exact Or.inl hj) HPB.out
              · refine HR.out.2.trans ((HK2.out.mono (fun j hj => hj)).trans (((HK5.out.trans hK6)).mono (fun j hj => by rw [HP2.out]; exact Or.inl hj)))
            case measure => simp [intOf]; omega
      · obtain rfl : k = n := by omega
        have HFIN : Hid (UI P t l mv bt bo bx bd n0 (L ++ (undF (run l) σ (f + 1) (p1, p2) d).map undLn) wr ∧ KP P V wr) := hid (by
          have h1 := HR.out.1
          rw [HN.out, List.take_length, HKE.out] at h1
          exact ⟨h1.mono HPP.out HP.out, HK1.out.trans (HR.out.2.mono HPP.out)⟩)
        go_wp2
        refine bodyPost_end (results_none rfl _ _ _) rfl ?_
        exact ⟨rfl, HFIN.out⟩
end

section
set_option linter.unusedVariables false
open Go.RowKit

/-- The moves that a tree has, behind these. -/
def tr (L : List Mv) : List Mv := L.foldl mvL []

theorem Lg.run_tk {l : List Mv} (h : Lg l) : ∃ r, Tk (run l) r := by
  have := h.tk l.length
  rwa [List.take_length] at this

theorem run_dw {l : List Mv} (h : ∀ m ∈ l, Dw m.id ∧ Dw m.block ∧ Dw m.parent) : ∀ s ∈ run l, Dw s.b ∧ Dw s.p := fun s hs => by
  obtain ⟨m, hm, rfl⟩ := run_mem hs
  exact ⟨(h m hm).2.1, (h m hm).2.2⟩
end

section
set_option linter.unusedVariables false
set_option linter.unusedSimpArgs false
open Go.RowKit Go.Shelf

/-- What Under tells. -/
def undL (S : List Sp) (σ : Dt → List UInt8) (top : Dt) : List Ln := (undF S σ (S.length + 1) top 0).map undLn

theorem al_old {w : World} {o : Obj} {j : Nat} {x : Obj} (h : w.heap[j]? = some x) : (w.alloc o).heap[j]? = some x := (Below.heap_alloc _ _ _ (Array.getElem?_eq_some_iff.1 h).1).trans h

theorem five_allocs (w : World) (c1 c2 c3 c4 c5 : Array Value) (t1 t2 t3 t4 t5 : TypeId) : ∀ W, W = ((((w.alloc (.cells c1 t1)).alloc (.cells c2 t2)).alloc (.cells c3 t3)).alloc (.cells c4 t4)).alloc (.cells c5 t5) →
    W.heap.size = w.heap.size + 5 ∧ W.heap[w.heap.size]? = some (.cells c1 t1 (0, 0)) ∧ W.heap[w.heap.size + 1]? = some (.cells c2 t2 (0, 0)) ∧ W.heap[w.heap.size + 1 + 1]? = some (.cells c3 t3 (0, 0)) ∧ W.heap[w.heap.size + 1 + 1 + 1]? = some (.cells c4 t4 (0, 0)) ∧ W.heap[w.heap.size + 1 + 1 + 1 + 1]? = some (.cells c5 t5 (0, 0)) ∧ Below w.heap.size w W := by
  rintro W rfl
  have s1 : (w.alloc (.cells c1 t1)).heap.size = w.heap.size + 1 := by simp
  have s2 : ((w.alloc (.cells c1 t1)).alloc (.cells c2 t2)).heap.size = w.heap.size + 1 + 1 := by simp
  have s3 : (((w.alloc (.cells c1 t1)).alloc (.cells c2 t2)).alloc (.cells c3 t3)).heap.size = w.heap.size + 1 + 1 + 1 := by simp
  have s4 : ((((w.alloc (.cells c1 t1)).alloc (.cells c2 t2)).alloc (.cells c3 t3)).alloc (.cells c4 t4)).heap.size = w.heap.size + 1 + 1 + 1 + 1 := by simp
  have e1 : (w.alloc (.cells c1 t1)).heap[w.heap.size]? = some (.cells c1 t1 (0, 0)) := World.alloc_heap_new w _
  have e2 := World.alloc_heap_new (w.alloc (.cells c1 t1)) (.cells c2 t2)
  have e3 := World.alloc_heap_new ((w.alloc (.cells c1 t1)).alloc (.cells c2 t2)) (.cells c3 t3)
  have e4 := World.alloc_heap_new (((w.alloc (.cells c1 t1)).alloc (.cells c2 t2)).alloc (.cells c3 t3)) (.cells c4 t4)
  have e5 := World.alloc_heap_new ((((w.alloc (.cells c1 t1)).alloc (.cells c2 t2)).alloc (.cells c3 t3)).alloc (.cells c4 t4)) (.cells c5 t5)
  rw [s1] at e2
  rw [s2] at e3
  rw [s3] at e4
  rw [s4] at e5
  refine ⟨by simp, al_old (al_old (al_old (al_old e1))), al_old (al_old (al_old e2)), al_old (al_old e3), al_old e4, e5, ?_⟩
  exact (((((Below.refl _ w).alloc (Nat.le_refl _) _).alloc (by simp) _).alloc (by simp; omega) _).alloc (by simp; omega) _).alloc (by simp; omega) _

set_option maxRecDepth 100000 in
set_option maxHeartbeats 4000000 in
theorem under_any (t : Nat) (l : List Mv) (mm : Option Nat) (σ : Dt → List UInt8) (P : Nat → Prop) (top : Dt) (w : World) (h : TP w t l P) (hx : XP P w (.map mm) σ) (hd : Dw top) :
    Calls Tryz.prog 15 #[.pointer (some ⟨t, 0, none⟩), .map mm, dv top] w fun e w' => ∃ v, e = .returned v ∧ w'.ownsRow w.heap.size 54 4 v (undL (run l) σ top).length (flLn (undL (run l) σ top)) ∧ TP w' t l (fun j => P j ∨ v.ownBlock = some j) ∧ KP P w w' := by
  obtain ⟨p1, p2⟩ := top
  obtain ⟨W5, hW5⟩ : ∃ W5, W5 = ((((w.alloc (.cells #[.pointer (some ⟨t, 0, none⟩)] 28)).alloc (.cells #[.map mm] 29)).alloc (.cells #[.int .i64 p1, .int .i64 p2] 24)).alloc (.cells #[.slice none 0 0] 43)).alloc (.cells #[dnV w.heap.size (w.heap.size + 1 + 1 + 1) (w.heap.size + 1) (w.heap.size + 1 + 1 + 1 + 1)] 90) := ⟨_, rfl⟩
  obtain ⟨hz, b1, b2, b3, b4, b5, hB⟩ := five_allocs w _ _ _ _ _ _ _ _ _ _ W5 hW5
  obtain ⟨r, hr⟩ := h.log.1.run_tk
  have hdw : ∀ s ∈ run l, Dw s.b := fun s hs => (run_dw h.log.2.1 s hs).1
  have hll := run_len l
  have hl10 := h.log.2.2
  have hKP : KP P w W5 := KP.below hB h.lt
  have hPlt := h.lt
  have hU : UI (fun j => P j ∨ j = w.heap.size ∨ j = w.heap.size + 1 ∨ j = w.heap.size + 1 + 1 + 1 + 1) t l (.map mm) w.heap.size (w.heap.size + 1 + 1 + 1) (w.heap.size + 1) (w.heap.size + 1 + 1 + 1 + 1) w.heap.size [] W5 := by
    refine ⟨⟨.slice none 0 0, fun j => P j ∨ (w.heap.size ≤ j ∧ j < W5.heap.size), h.turn hB.size (fun j hj _ => hB.block j hj) (fun j hj => hj), fun j hj => ⟨?_, ?_, fun e => by simp [Value.ownBlock] at e⟩, Or.inr ⟨by omega, by omega⟩, fun g e => by simp [Value.ownBlock] at e, b4, World.ownsRow_nil _ _ _ _⟩, ⟨Or.inr (Or.inl rfl), Or.inr (Or.inr (Or.inl rfl)), Or.inr (Or.inr (Or.inr rfl))⟩, b1, b2, b5, hB.size⟩
    · rcases hj with hj | hj | hj | hj
      · exact Or.inl hj
      · exact Or.inr ⟨by omega, by omega⟩
      · exact Or.inr ⟨by omega, by omega⟩
      · exact Or.inr ⟨by omega, by omega⟩
    · rcases hj with hj | hj | hj | hj
      · have := hPlt j hj; omega
      · omega
      · omega
      · omega
  have hX : XP (fun j => P j ∨ j = w.heap.size ∨ j = w.heap.size + 1 ∨ j = w.heap.size + 1 + 1 + 1 + 1) W5 (.map mm) σ := hx.next hKP (fun j hj => Or.inl hj)
  have hlen : ([] : List Ln).length + (undF (run l) σ ((run l).length + 1) (p1, p2) 0).length ≤ 100000 := by
    have := und_len hr σ ((run l).length + 1) (p1, p2) 0
    simp
    omega
  have HD := hid (down_any t l (.map mm) w.heap.size (w.heap.size + 1 + 1 + 1) (w.heap.size + 1) (w.heap.size + 1 + 1 + 1 + 1) w.heap.size σ r hr hdw ((run l).length + 1) (p1, p2) 0 _ [] W5 (Nat.lt_succ_of_le (bel_le _ _ _)) hd (by omega) hU hX hlen)
  have q1 : W5.cell? ⟨w.heap.size + 1 + 1 + 1 + 1, 0, none⟩ = some (.func (.func 40) #[] #[.pointer (some ⟨w.heap.size, 0, none⟩), .pointer (some ⟨w.heap.size + 1 + 1 + 1, 0, none⟩), .pointer (some ⟨w.heap.size + 1, 0, none⟩), .pointer (some ⟨w.heap.size + 1 + 1 + 1 + 1, 0, none⟩)]) := by rw [Lib.cell_of_heap b5]; rfl
  have q2 : W5.cell? ⟨w.heap.size + 1 + 1, 0, none⟩ = some (.int .i64 p1) := by rw [Lib.cell_of_heap b3]; rfl
  have q3 : W5.cell? ⟨w.heap.size + 1 + 1, 1, none⟩ = some (.int .i64 p2) := by rw [Lib.cell_of_heap b3]; rfl
  have HW5 := hid hW5
  have HKP := hid hKP
  clear hW5 b1 b2 b3 b4 b5 hB hU hX hlen hz hKP h hx hr hPlt
  show Calls Tryz.prog 15 #[.pointer (some ⟨t, 0, none⟩), .map mm, .agg #[.int .i64 p1, .int .i64 p2]] w _
  go_enter Tryz.func15, Tryz.ntmps15
  go_upto_region 4 with fail
  have HW5' := HW5.out
  unfold dnV at HW5'
  rw [← HW5']
  clear HW5'
  go_upto_region 5 with (go_at_call 40; refine HD.out.mono ?_; rintro e V6 ⟨rfl, hU6, hK6⟩)
  obtain ⟨vo, Q, h1, h2, h3, h4, h5, h6⟩ := hU6.row
  have q4 : V6.cell? ⟨w.heap.size + 1 + 1 + 1, 0, none⟩ = some vo := by rw [Lib.cell_of_heap h5]; rfl
  have HFIN : Hid (V6.ownsRow w.heap.size 54 4 vo (undL (run l) σ (p1, p2)).length (flLn (undL (run l) σ (p1, p2))) ∧ TP V6 t l (fun j => P j ∨ vo.ownBlock = some j) ∧ KP P w V6) := hid ⟨h6, h1.mono (fun j hj => by
    rcases hj with hj | hj
    · exact (h2 j (Or.inl hj)).1
    · exact h4 j hj), HKP.out.trans (hK6.mono (fun j hj => Or.inl hj))⟩
  clear h1 h2 h3 h4 h5 h6 hU6 hK6
  go_wp2
  go_ret
  exact ⟨vo, rfl, HFIN.out⟩
end

section
set_option linter.unusedVariables false
open Go.RowKit Go.Shelf

/-- Those that are seen, in order. -/
def seenC (T : List Cr) : List Cr := (allC T).filter (·.seen)

theorem seenC_mem {T : List Cr} {c : Cr} (h : c ∈ seenC T) : c ∈ T := allC_mem (List.mem_filter.1 h).1
end

section
set_option linter.unusedVariables false
open Go.RowKit

/-- An int. -/
def I64 (i : Int) : Prop := -9223372036854775808 ≤ i ∧ i ≤ 9223372036854775807

/-- Block t is a text of these characters. -/
def TM (w : World) (t : Nat) (T : List Cr) : Prop := (∃ G R, TX w t T G G T.length R) ∧ ∀ c ∈ T, I64 c.ch

theorem TM.wt {w : World} {t : Nat} {T : List Cr} (h : TM w t T) : WT T := by
  obtain ⟨⟨G, R, h⟩, _⟩ := h
  exact h.wt
theorem TM.lt {w : World} {t : Nat} {T : List Cr} (h : TM w t T) : t < w.heap.size := by
  obtain ⟨⟨G, R, h⟩, _⟩ := h
  exact h.lt
theorem TM.below {w w' : World} {t : Nat} {T : List Cr} (h : TM w t T) (hb : Below w.heap.size w w') : TM w' t T := by
  obtain ⟨⟨G, R, h⟩, hc⟩ := h
  exact ⟨⟨G, R, h.below hb⟩, hc⟩

/-- What Insert tells, and what is there then. -/
def insP (T : List Cr) (id at_ : Dt) (side ch : Int) : Int × List Cr :=
  if mayI id at_ side = false then (1, T)
  else if ∃ c ∈ T, c.id = id then (32, T)
  else if ¬ (at_ = (0, 0) ∨ ∃ c ∈ T, c.id = at_) then (41, T)
  else (0, T ++ [⟨id, at_, decide (side = 1), ch, true⟩])

theorem new_tm (w : World) : Calls Tryz.prog 25 #[] w fun e w' => e = .returned (.pointer (some ⟨w.heap.size, 0, none⟩)) ∧ TM w' w.heap.size [] ∧ Below w.heap.size w w' :=
  (new_any w).mono (fun e w' ⟨h1, h2, h3⟩ => ⟨h1, ⟨⟨_, _, h2⟩, by simp⟩, h3⟩)

theorem insert_tm {w : World} {t : Nat} {T : List Cr} (h : TM w t T) (hn : T.length ≤ 100000) (id at_ : Dt) (side ch : Int) (hid0 : Dw id) (hat : Dw at_) (hch : I64 ch) :
    Calls Tryz.prog 26 #[.pointer (some ⟨t, 0, none⟩), dv id, dv at_, .int .i64 side, .int .i64 ch] w fun e w' => e = .returned (.int .i64 (insP T id at_ side ch).1) ∧ TM w' t (insP T id at_ side ch).2 ∧ FrW t w w' := by
  obtain ⟨⟨G, R, hx⟩, hc⟩ := h
  unfold insP
  by_cases hm : mayI id at_ side = false
  · rw [if_pos hm]
    exact (ins_no t T G R id at_ side ch w hx hid0 hat hm).mono (fun e w' ⟨h1, h2⟩ => ⟨h1, ⟨⟨G, R, hx.below h2⟩, hc⟩, FrW.of_below h2⟩)
  · rw [if_neg hm]
    have hm' : mayI id at_ side = true := by simpa using hm
    by_cases hf : ∃ c ∈ T, c.id = id
    · rw [if_pos hf]
      exact (ins_twice t T G R id at_ side ch w hx hid0 hat hm' hf).mono (fun e w' ⟨h1, h2⟩ => ⟨h1, ⟨⟨G, R, hx.below h2⟩, hc⟩, FrW.of_below h2⟩)
    · rw [if_neg hf]
      by_cases hnd : at_ = (0, 0) ∨ ∃ c ∈ T, c.id = at_
      · rw [if_neg (fun h => h hnd)]
        have hcn : ∀ b, ∀ c ∈ T ++ [(⟨id, at_, b, ch, true⟩ : Cr)], I64 c.ch := fun b c hcm => by
          rcases List.mem_append.1 hcm with h | h
          · exact hc c h
          · simp at h; rw [h]; exact hch
        have hlen : ∀ b, (T ++ [(⟨id, at_, b, ch, true⟩ : Cr)]).length = T.length + 1 := fun b => by simp
        have hs : side = 0 ∨ side = 1 := by
          unfold mayI at hm'
          split at hm'
          · exact Or.inl (by assumption)
          · split at hm'
            · exact Or.inr (by assumption)
            · cases hm'
        rcases hs with rfl | rfl
        · have h0 : at_ ≠ (0, 0) := by
            intro e
            simp [mayI, e] at hm'
          refine (ins_left t T G R id at_ ch w hx hid0 hat hm' hf hn h0 hnd).mono ?_
          rintro e w' ⟨h1, G', R', h2, h3⟩
          exact ⟨h1, ⟨⟨G', R', by rw [hlen]; exact h2⟩, hcn _⟩, h3⟩
        · by_cases h0 : at_ = (0, 0)
          · refine (ins_root t T G R id at_ ch w hx hid0 hat hm' hf hn h0).mono ?_
            rintro e w' ⟨h1, G', R', h2, h3⟩
            exact ⟨h1, ⟨⟨G', R', by rw [hlen]; exact h2⟩, hcn _⟩, h3⟩
          · refine (ins_right t T G R id at_ ch w hx hid0 hat hm' hf hn h0 hnd).mono ?_
            rintro e w' ⟨h1, G', R', h2, h3⟩
            exact ⟨h1, ⟨⟨G', R', by rw [hlen]; exact h2⟩, hcn _⟩, h3⟩
      · rw [if_pos hnd]
        exact (ins_index t T G R id at_ side ch w hx hid0 hat hm' hf hnd).mono (fun e w' ⟨h1, h2⟩ => ⟨h1, ⟨⟨G, R, hx.below h2⟩, hc⟩, FrW.of_below h2⟩)

theorem string_tm {w : World} {t : Nat} {T : List Cr} (h : TM w t T) (hn : T.length ≤ 1000000) :
    Calls Tryz.prog 42 #[.pointer (some ⟨t, 0, none⟩)] w fun e w' => e = .returned (.string ⟨(strB (seenC T)).toArray⟩) ∧ Below w.heap.size w w' := by
  obtain ⟨⟨G, R, hx⟩, hc⟩ := h
  exact string_of (hx.sight hn) (fun c hc => hx.rdc c (List.mem_filter.1 hc).1) (fun c hcm => hc c (seenC_mem hcm)) hn
end

section
set_option linter.unusedVariables false
open Go.RowKit Go.Sort Go.Maps

theorem own_held {w w' : World} {base e size n : Nat} {v : Value} {xs : List Value} (h : w.ownsRow base e size v n xs) (hk : ∀ j, v.ownBlock = some j → w'.heap[j]? = w.heap[j]?) : w'.ownsRow base e size v n xs := by
  obtain ⟨l1, ⟨rfl, l2⟩ | ⟨g, cap, cur, rfl, hb, hgb, hr⟩⟩ := h
  · exact ⟨l1, Or.inl ⟨rfl, l2⟩⟩
  · exact ⟨l1, Or.inr ⟨g, cap, cur, rfl, hb, (hk g rfl).trans hgb, hr⟩⟩

theorem own_ge {w : World} {base e size n : Nat} {v : Value} {xs : List Value} (h : w.ownsRow base e size v n xs) {j : Nat} (hj : v.ownBlock = some j) : base ≤ j ∧ j < w.heap.size := by
  obtain ⟨l1, ⟨rfl, l2⟩ | ⟨g, cap, cur, rfl, hb, hgb, hr⟩⟩ := h
  · simp [Value.ownBlock] at hj
  · obtain rfl : g = j := by simpa [Value.ownBlock] using hj
    exact ⟨hb, (Array.getElem?_eq_some_iff.1 hgb).1⟩

/-- All of a text's blocks lie from its own on. -/
theorem TX.held {w w' : World} {t : Nat} {T : List Cr} {G M : Dt → Option Nat} {n : Nat} {R : Dt → Bool → Value} (h : TX w t T G M n R) (hk : ∀ j, t ≤ j → j < w.heap.size → w'.heap[j]? = w.heap[j]?) : TX w' t T G M n R := by
  refine ⟨h.wt, ?_, h.gd, fun c hc => ?_, fun d s hd => ?_, h.apart⟩
  · obtain ⟨fm, h1, h2⟩ := h.tb
    refine ⟨fm, (hk _ (Nat.le_refl _) (Array.getElem?_eq_some_iff.1 h1).1).trans h1, ?_⟩
    rcases h2 with h2 | ⟨mb, e, hm, hp⟩
    · exact Or.inl h2
    · exact Or.inr ⟨mb, e, hm, hp.same (hk _ (by omega) hp.lt)⟩
  · obtain ⟨g, h1, h2, h3⟩ := h.ch c hc
    exact ⟨g, h1, h2, (hk _ (by omega) (Array.getElem?_eq_some_iff.1 h3).1).trans h3⟩
  · obtain ⟨gs, h1, h2⟩ := h.rows d s hd
    exact ⟨gs, h1, own_held h2 (fun j hj => hk j (own_ge h2 hj).1 (own_ge h2 hj).2)⟩

theorem TM.held {w w' : World} {t : Nat} {T : List Cr} (h : TM w t T) (hk : ∀ j, t ≤ j → j < w.heap.size → w'.heap[j]? = w.heap[j]?) : TM w' t T := by
  obtain ⟨⟨G, R, h⟩, hc⟩ := h
  exact ⟨⟨G, R, h.held hk⟩, hc⟩

/-- Maps of texts. -/
theorem zeroText (w : World) : (zeroValue 64).run Tryz.prog w = .ok (pvoc none) w := Tryz.zeroValue64 w

theorem PMc.lookT {w : World} {b n : Nat} {G : Dt → Option Nat} (h : PMc w b n G) {d : Dt} (hd : Dw d) : (Instr.lookup 29 (.map (some b)) (dv d) false).run Tryz.prog w = .ok (pvoc (G d)) w := by
  obtain ⟨D, ho, hT⟩ := h
  obtain ⟨v, ps, hr, hv⟩ := ho.lookup law Tryz.underlying29 (zeroText w) (pRc_mk none) (keyOf_dot hd)
  rw [(hT d hd).2] at hv
  rw [hr, pRc_inv hv]

theorem PMc.putT {w : World} {b n : Nat} {G : Dt → Option Nat} (h : PMc w b n G) {d : Dt} (hd : Dw d) (g : Nat) (hn : n < maxLen) : ∃ w', (Instr.mapUpdate 29 (.map (some b)) (dv d) (pvFc g)).run Tryz.prog w = .ok () w' ∧ PMc w' b (n + 1) (fun e => if e = d then some g else G e) ∧ w.grownBy w' (some b) := by
  obtain ⟨D, ho, hT⟩ := h
  obtain ⟨w', hr, ho', hg⟩ := ho.update law Tryz.underlying29 hn (keyOf_dot hd) (pRc_mk (some g))
  refine ⟨w', hr, ⟨_, ho', fun e he => ?_⟩, hg⟩
  by_cases hea : e = d
  · subst hea
    simp only [if_true]
    exact ⟨by rw [has_put_same ho.isMap (kl_isKey _)]; rfl, atKey_put_same ho.isMap (kl_isKey _) _ _⟩
  · have hne : kl e ≠ kl d := fun h' => hea (kl_inj he hd h')
    simp only [hea, if_false]
    exact ⟨by rw [has_put_other hne]; exact (hT e he).1, by rw [atKey_put_other hne]; exact (hT e he).2⟩

/-- The texts of a map, told. -/
theorem XP.of {P : Nat → Prop} {W : World} {b n : Nat} {G : Dt → Option Nat} {T : Nat → List Cr} {σ : Dt → List UInt8} (h : PMc W b n G) (hb : P b) (hT : ∀ d g, Dw d → G d = some g → (T g).length ≤ 1000000 ∧ σ d = strB (seenC (T g)) ∧ ∀ V, KP P W V → TM V g (T g)) (hN : ∀ d, Dw d → G d = none → σ d = []) : XP P W (.map (some b)) σ := fun d hd => ⟨pvoc (G d), fun V hV => ⟨(h.same (hV.keep b hb)).lookT hd, by
  cases e : G d with
  | none =>
    rw [hN d hd e]
    exact string_of (sight_none V (fun _ => none)) (rdc_none _ _) (fun c hc => by simp at hc) (by omega)
  | some g =>
    obtain ⟨h1, h2, h3⟩ := hT d g hd e
    rw [h2]
    exact string_tm (h3 V hV) h1⟩⟩
end

section
set_option linter.unusedVariables false
open Go.RowKit

def awA : Mv := ⟨(1, 1), 1, (1, 1), (0, -1), ⟨#[110]⟩⟩
def awB : Mv := ⟨(1, 2), 2, (1, 2), (1, 1), ⟨#[110]⟩⟩
theorem aw_1 : mvE [] awA = 0 ∧ mvL [] awA = [awA] := by
  have h : mvE [] awA = 0 := by decide +kernel
  refine ⟨h, ?_⟩
  unfold mvL
  rw [if_pos h]
  have hr : rkL mvl [] awA = 0 := by decide +kernel
  unfold insL
  rw [hr]
  rfl
theorem aw_2 : mvE [awA] awB = 0 ∧ mvL [awA] awB = [awA, awB] := by
  have h : mvE [awA] awB = 0 := by decide +kernel
  refine ⟨h, ?_⟩
  unfold mvL
  rw [if_pos h]
  have hr : rkL mvl [awA] awB = 1 := by decide +kernel
  unfold insL
  rw [hr]
  rfl
end
end Go.Proofs.YtnmdcdphpcpojaaGreatDoor
