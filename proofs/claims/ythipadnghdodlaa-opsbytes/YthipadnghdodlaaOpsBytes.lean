/- For any bytes and any operation OpsBytes answers true: what is put of one that may be is what the document says, and is taken as it. No condition. -/
import Derived.Test.YthipadnghdodlaaOOneM
import Derived.Test.YthipadnghdodlaaOPut
import Derived.Deep.RegionHeldLaw
import Derived.Deep.AppendLies
import Derived.Deep.CutBlock
import Derived.Deep.CutRange
import Derived.Test.YthipadnghdodlaaORCheck
import Derived.Test.YthipadnghdodlaaORSame
import Derived.Test.YthipadnghdodlaaOArg
import Derived.WalkKit
import Derived.WalkSpells
import Derived.WalkLawsBesides
import Derived.ProofKit
import Derived.OpenShut
import Derived.ShutString
import Derived.ChangeOld
import Derived.Below
import Derived.ChangeMaps5
import Derived.Lib.SmallJoins
namespace Go.Proofs.Ythipadnghdodlaa
section
open Go.RowKit

theorem tks_app {V : List Dt} (hV : Dws V) {R : List Int} (hR : Bts R) : ∀ k, k ≤ V.length → tks (encs V ++ R) 0 k = (V.take k, encs (V.drop k) ++ R, 0)
  | 0, _ => by simp [tks]
  | k + 1, hk => by
    have ih := tks_app hV hR k (by omega)
    have hd : V.drop k = V[k] :: V.drop (k + 1) := List.drop_eq_getElem_cons (by omega)
    have ht := tk_app (hV _ (List.getElem_mem (l := V) (n := k) (by omega))) ((bts_encs (V.drop (k + 1))).append hR)
    simp only [tks]
    rw [ih]
    simp only
    rw [hd, encs_cons, List.append_assoc, ht]
    simp only
    rw [take_snoc (by omega)]

theorem vtk_app {V : List Dt} (hV : VM V) (hn : V.length ≤ 1000000) {R : List Int} (hR : Bts R) : vtk (encv V ++ R) 0 = (V, R, 0) := by
  have e1 : dec (encv V ++ R) 0 = ((V.length : Int), encs V ++ R, 0) := by
    unfold encv
    rw [List.append_assoc]
    exact dec_enc _ _ (by omega) (by omega) ((bts_encs V).append hR)
  have e2 : cnt (encv V ++ R) 0 2 = ((V.length : Int), encs V ++ R, 0) := by
    unfold cnt
    rw [e1]
    simp only
    rw [if_neg]
    have := encs_ge V
    rw [show max (2 : Int) 1 = 2 by omega, List.length_append]
    omega
  unfold vtk
  rw [e2]
  simp only [Int.toNat_natCast]
  rw [tks_app hV.dws hR _ (Nat.le_refl _)]
  unfold vfin
  rw [if_pos rfl, List.take_length, if_pos ((vmb_iff V).2 hV), List.drop_length]
  rfl

theorem dec_zig {n : Int} (h : -9223372036854775808 ≤ n ∧ n ≤ 9223372036854775807) {R : List Int} (hR : Bts R) : dec (enc (zig n) ++ R) 0 = (zig n, R, 0) := by
  have := zig_range n h.1 h.2
  exact dec_enc _ _ this.1 this.2 hR

theorem bts_encd' (d : Dt) : Bts (encd d) := bts_encd d
theorem bts_encp (o : OpIn) : Bts (encp o) := by
  unfold encp
  split
  · exact ((bts_encd _).append (bts_enc _)).append (bts_enc _)
  · split
    · exact bts_encd _
    · split
      · exact (bts_encd _).append ((bts_enc _).append (bts_sb _))
      · intro x hx; simp at hx

theorem bts_enco (o : OpIn) (V : List Dt) : Bts (enco o V) := by
  unfold enco
  exact ((((bts_encd _).append (bts_enc _)).append (bts_encv V)).append ((bts_enc _).append (bts_encd _))).append (bts_encp o)

theorem key_none {o : OpIn} (h : o.key.toList.isEmpty = true) : o.key = { data := #[] } := by
  have h1 : o.key.toList.length = 0 := by rw [List.isEmpty_iff] at h; rw [h]; rfl
  rw [tl_length] at h1
  exact empty_of h1

/-- The parts are read as they were. -/
theorem prt_app {o : OpIn} (hf : OFit o) (hb : barb o = true) (hk : o.kind = 1 ∨ o.kind = 2 ∨ o.kind = 3) : prt o.kind (encp o) 0 = ((o.at, o.side, o.char, o.par, o.key), [], 0) := by
  have hN : Bts ([] : List Int) := fun x hx => by simp at hx
  rcases hk with hk | hk | hk
  · have hb' := hb
    simp only [barb, pat, pch, ppl, hk] at hb'
    simp only [decide_true, Bool.true_or, Bool.true_and, show decide ((1 : Int) = 3) = false from by decide, Bool.false_or, Bool.and_eq_true, beq_iff_eq] at hb'
    rw [encp_ins hk, prt_ins hk, List.append_assoc]
    have e1 : tk (encd o.at ++ (enc (zig o.side) ++ enc (zig o.char))) 0 = (o.at, enc (zig o.side) ++ enc (zig o.char), 0) := tk_app hf.at' ((bts_enc _).append (bts_enc _))
    rw [e1]
    simp only
    have e2 : dec (enc (zig o.side) ++ enc (zig o.char)) 0 = (zig o.side, enc (zig o.char), 0) := dec_zig hf.side (bts_enc _)
    rw [e2]
    simp only
    have e3 : dec (enc (zig o.char)) 0 = (zig o.char, [], 0) := by have := dec_zig hf.char hN; rwa [List.append_nil] at this
    rw [e3]
    simp only [dint_zig]
    rw [key_none hb'.2]
    have : o.par = (0, 0) := Prod.ext hb'.1.1 hb'.1.2
    rw [this]
  · have hb' := hb
    simp only [barb, pat, pch, ppl, hk] at hb'
    simp only [decide_true, Bool.or_true, Bool.true_and, show decide ((2 : Int) = 1) = false from by decide, show decide ((2 : Int) = 3) = false from by decide, Bool.false_or, Bool.true_or, Bool.and_eq_true, beq_iff_eq] at hb'
    rw [encp_del hk, prt_del hk]
    have e1 : tk (encd o.at) 0 = (o.at, [], 0) := tk_encd hf.at'
    rw [e1, key_none hb'.2.2, hb'.1.1, hb'.1.2]
    have : o.par = (0, 0) := Prod.ext hb'.2.1.1 hb'.2.1.2
    rw [this]
  · have hb' := hb
    simp only [barb, pat, pch, ppl, hk] at hb'
    simp only [decide_true, Bool.and_true, show decide ((3 : Int) = 1) = false from by decide, show decide ((3 : Int) = 2) = false from by decide, Bool.false_or, Bool.true_or, Bool.and_eq_true, beq_iff_eq] at hb'
    rw [encp_mov hk, prt_mov hk]
    have e1 : tk (encd o.par ++ (enc o.key.size ++ sb o.key)) 0 = (o.par, enc o.key.size ++ sb o.key, 0) := tk_app hf.par ((bts_enc _).append (bts_sb _))
    rw [e1]
    simp only
    have e2 : rtx (enc o.key.size ++ sb o.key) 0 = (sb o.key, [], 0) := by have := rtx_text o.key [] hN hf.key; rwa [List.append_nil] at this
    rw [e2]
    simp only
    rw [str_sb, hb'.2.1, hb'.2.2]
    have : o.at = (0, 0) := Prod.ext hb'.1.1 hb'.1.2
    rw [this]

theorem otk_enco {o : OpIn} {V : List Dt} (h : chk o V = true) (hn : V.length ≤ 1000000) : otk (enco o V) 0 = ((o, V), [], 0) := by
  obtain ⟨hf, hV, hk⟩ := chk_fit h
  have hb : barb o = true := by simp only [chk, Bool.and_eq_true] at h; exact h.1.2
  have bp := bts_encp o
  have b4 : Bts (encd o.blk ++ encp o) := (bts_encd _).append bp
  have b3 : Bts (enc (zig o.kind) ++ (encd o.blk ++ encp o)) := (bts_enc _).append b4
  have b2 : Bts (encv V ++ (enc (zig o.kind) ++ (encd o.blk ++ encp o))) := (bts_encv V).append b3
  have b1 : Bts (enc (zig o.time) ++ (encv V ++ (enc (zig o.kind) ++ (encd o.blk ++ encp o)))) := (bts_enc _).append b2
  have e0 : enco o V = encd o.id ++ (enc (zig o.time) ++ (encv V ++ (enc (zig o.kind) ++ (encd o.blk ++ encp o)))) := by unfold enco; simp only [List.append_assoc]
  have hh : hd7 (enco o V) 0 = ((o.id, o.time, V, o.kind), encd o.blk ++ encp o, 0) := by
    unfold hd7
    rw [e0, tk_app hf.id b1]
    simp only
    rw [dec_zig hf.time b2]
    simp only
    rw [vtk_app hV hn b3]
    simp only
    rw [dec_zig hf.kind b4]
    simp only [dint_zig]
    rw [kfl_yes hk]
  unfold otk tl7
  rw [hh]
  simp only
  rw [tk_app hf.blk bp]
  simp only
  rw [prt_app hf hb hk]
  exact ofin_ok (o := o) h []
end

section
open Go.RowKit
open Go.Sort (grow)

/-- A call hands back new bytes, m of them, of its own. -/
def OwnsN (w : World) (T : List Int) (m : Nat) (e : Ending) (w' : World) : Prop :=
  ∃ g cap, e = .returned (.slice (some ⟨g, 0, none⟩) m cap) ∧ w'.ownsRow w.heap.size 5 1 (.slice (some ⟨g, 0, none⟩) m cap) m (b8s T) ∧ Below w.heap.size w w'

set_option maxRecDepth 100000 in
set_option maxHeartbeats 4000000 in
theorem rput_own (d : Dt) (T : List Int) (m : Nat) (w : World) (hd : Dw d) (hT : T = encd d) (hm : T.length = m) : Calls Try.prog 44 #[dv d] w (OwnsN w T m) := by
  subst hT
  rw [encd_len'] at hm
  obtain ⟨d1, d2⟩ := d
  simp only at hm
  subst hm
  obtain ⟨⟨x0, x1⟩, y0, y1⟩ := dw_bounds hd
  simp only at x0 x1 y0 y1
  obtain ⟨i0, hi, hi0, hi1, hi2⟩ := info_parts Try.info5
  have hz1 := sz_le (zig d1)
  have hz2 := sz_le (zig d2)
  have hp1 := sz_pos (zig d1)
  have hp2 := sz_pos (zig d2)
  have zr1 := zig_range d1 x0 x1
  have zr2 := zig_range d2 y0 y1
  have hb : RowKit.Below w.heap.size w (w.alloc (.cells #[.int .i64 d1, .int .i64 d2] 23)) := (Below.refl _ w).alloc (Nat.le_refl _) _
  obtain ⟨k0, k1⟩ := boxc (w := w) (x := d1) (y := d2) (B := w.heap.size + 1) (by omega) (Below.refl _ _)
  have hq : w.heap.size < (w.alloc (.cells #[.int .i64 d1, .int .i64 d2] 23)).heap.size := by simp
  go_enter Try.func44, Try.ntmps44
  go_wp2_with fail
  generalize (w.alloc (.cells #[.int .i64 d1, .int .i64 d2] 23)) = W0 at hb k0 k1 hq ⊢
  have c1 := rint_own d1 W0.drew x0 x1
  clear zr1 zr2
  go_region_held_law (fun W => W.cell? ⟨w.heap.size, 0, none⟩ = some (.int .i64 d1) ∧ W.cell? ⟨w.heap.size, 1, none⟩ = some (.int .i64 d2))
    (first | exact ⟨by assumption, by assumption⟩ | go_keep)
    (first
      | (refine step_append_lies _ rfl _ _ 32 rfl W0.heap.size 5 i0 (.int .u8 0) 1 1 Try.underlying32 hi hi0 hi1 hi2 rfl (by decide) (.slice (some ⟨g1, 0, none⟩) (sz (zig d1)) c1') (sz (zig d1)) _ rfl o1' ⟨g2, 0, none⟩ (sz (zig d2)) c2' ((enc (zig d2)).map (Value.int .u8)) rfl (by rw [List.length_map, enc_length]; omega) (src_news s2 hp2) (ones_u8 _) hp2 (by unfold maxLen; omega) (by omega) (Nat.le_trans l1.size l2.size) w2.heap.size rfl ?_; intro g3 c3 w3 o3 hg3 hat3 hlt3; have p0 := (hg3.cell_far ⟨w.heap.size, 0, none⟩ (cell_in n0) (hne1 _)).trans n0; have p1 := (hg3.cell_far ⟨w.heap.size, 1, none⟩ (cell_in n1) (hne1 _)).trans n1)
      | (go_at_call 45; have hq2 := l1; refine (rint_own d2 w1 y0 y1).mono ?_; rintro e w2 ⟨g2, c2', rfl, hg2, o2, s2, l2⟩; have n0 := (l2.cell (p := ⟨w.heap.size, 0, none⟩) (cell_in m0)).trans m0; have n1 := (l2.cell (p := ⟨w.heap.size, 1, none⟩) (cell_in m1)).trans m1; have o1' := own_below5 o1 l2)
      | (go_at_call 45; refine c1.mono ?_; rintro e w1 ⟨g1, c1', rfl, hg1, o1, s1, l1⟩; have hne1 : ∀ c, some w.heap.size ≠ (Value.slice (some ⟨g1, 0, none⟩) (sz (zig d1)) c).ownBlock := (fun c e => by have e2 : w.heap.size = g1 := (by simpa [Value.ownBlock] using e); have h1 : W0.heap.size ≤ g1 := hg1; omega); have m0 := (l1.cell (p := ⟨w.heap.size, 0, none⟩) hq).trans k0; have m1 := (l1.cell (p := ⟨w.heap.size, 1, none⟩) hq).trans k1))
  have b2' : RowKit.Below w.heap.size w w2 := below2' (below2' hb.drew l1) l2
  have hbg : w.heap.size ≤ g1 := Nat.le_trans hb.size hg1
  have b3 : RowKit.Below w.heap.size w w3 := b2'.grown hg3 b2'.size (fun j hj => by
    have : g1 = j := by simpa [Value.ownBlock] using hj
    omega)
  have hl : (encd (d1, d2)).length = sz (zig d1) + sz (zig d2) := by unfold encd; rw [List.length_append, enc_length, enc_length]
  have hg3b : w.heap.size ≤ g3 := by
    rcases hat3 with h | h
    · have : g1 = g3 := by simpa [Value.ownBlock] using h
      omega
    · rw [h]; exact b2'.size
  have hs3 : Src w3 (some ⟨g3, 0, none⟩) (sz (zig d1) + sz (zig d2)) (encd (d1, d2)) := owns_src (by
    unfold encd
    rw [List.map_append]
    exact o3)
  have o4 : w3.ownsRow w.heap.size 5 1 (.slice (some ⟨g3, 0, none⟩) (sz (zig d1) + sz (zig d2)) c3) (sz (zig d1) + sz (zig d2)) (b8s (encd (d1, d2))) := owns_base (by unfold encd b8s; rw [List.map_append]; exact o3) hb.size
  clear hat3 hg3 o3 o1' s2 s1 o1 o2 p0 p1 n0 n1 m0 m1 k0 k1
  change Exit.then _ _ Exit.normal { tmps := #[dv (d1, d2), .pointer (some ⟨w.heap.size, 0, none⟩), .slice (some ⟨g3, 0, none⟩) (sz (zig d1) + sz (zig d2)) c3, .pointer (some ⟨w.heap.size, 0, none⟩), .int .i64 d1, .slice (some ⟨g1, 0, none⟩) (sz (zig d1)) c1', .pointer (some ⟨w.heap.size, 1, none⟩), .int .i64 d2, .slice (some ⟨g2, 0, none⟩) (sz (zig d2)) c2', .slice (some ⟨g3, 0, none⟩) (sz (zig d1) + sz (zig d2)) c3], defers := [] } w3
  go_wp2_with fail
  go_ret
  exact ⟨g3, c3, rfl, o4, b3⟩

theorem OpAt.grown' {w w' : World} {q b : Nat} {o : OpIn} {v : Value} (h : OpAt w q o v) (hg : w.grownBy w' (some b)) (hne : q ≠ b) : OpAt w' q o v := by
  have hl := h.lt
  have k : ∀ i, w'.cell? ⟨q, i, none⟩ = w.cell? ⟨q, i, none⟩ := fun i => World.cell?_of_block (w := w) (hg.block q hl (by simpa using hne))
  exact ⟨(k _).trans h.c0, (k _).trans h.c1, (k _).trans h.c2, (k _).trans h.c3, (k _).trans h.c4, (k _).trans h.c5, (k _).trans h.c6, (k _).trans h.c7, (k _).trans h.c8, (k _).trans h.c9, (k _).trans h.c10, (k _).trans h.c11, (k _).trans h.c12, (k _).trans h.c13⟩

theorem makes_n {w : World} {L T : List Int} {m : Nat} {e : Ending} {w' : World} (h : Makes w L e w') (hT : T = L) (hm : T.length = m) : MakesN w T m e w' := by
  obtain ⟨g, c, he, hg, hs, hb⟩ := h
  subst hT hm
  exact ⟨g, c, he, hg, hs, hb⟩

theorem gives_n {w : World} {L T : List Int} {m : Nat} {e : Ending} {w' : World} (h : GivesB w L e w') (hT : T = L) (hm : T.length = m) (hp : 0 < m) : MakesN w T m e w' := by
  obtain ⟨v, he, ho, hb⟩ := h
  subst hT hm
  obtain ⟨g, c', hv, hg, _, _, _, s⟩ := owned_bytes ho hp
  exact ⟨g, c', by rw [he, hv], hg, s, hb⟩

/-- The reference's Put under way: the bytes of its own, the operation in its block. -/
structure Pt (w0 wi : World) (q : Nat) (o : OpIn) (a : Option Addr) (n c : Nat) (V : List Dt) (g cap : Nat) (T : List Int) (m : Nat) : Prop where
  own : wi.ownsRow w0.heap.size 5 1 (.slice (some ⟨g, 0, none⟩) m cap) m (b8s T)
  op : OpAt wi q o (.slice a n c)
  ps : PS wi a n c V
  bel : Below w0.heap.size w0 wi

theorem Pt.call {w0 wi wj : World} {q : Nat} {o : OpIn} {a : Option Addr} {n c : Nat} {V : List Dt} {g cap : Nat} {T : List Int} {m : Nat} (h : Pt w0 wi q o a n c V g cap T m) (b : Below wi.heap.size wi wj) : Pt w0 wj q o a n c V g cap T m :=
  ⟨own_below5 h.own b, h.op.below b, h.ps.below b, below2' h.bel b⟩

theorem Pt.app {w0 wi wj : World} {q : Nat} {o : OpIn} {a : Option Addr} {n c : Nat} {V : List Dt} {g cap : Nat} {T X T' : List Int} {m x m' : Nat} {v : Value} (h : Pt w0 wi q o a n c V g cap T m) (h0 : PS w0 a n c V) (hq : q < w0.heap.size)
    (ho : wj.ownsRow w0.heap.size 5 1 v (m + x) (b8s (T ++ X))) (hg : wi.grownBy wj (Value.slice (some ⟨g, 0, none⟩) m cap).ownBlock) (hT : T' = T ++ X) (hm : T'.length = m') (hl : T.length = m) (hx : X.length = x) (hp : 0 < m) :
    ∃ g' cap', v = .slice (some ⟨g', 0, none⟩) m' cap' ∧ Pt w0 wj q o a n c V g' cap' T' m' := by
  have hg' : wi.grownBy wj (some g) := hg
  have hgB : w0.heap.size ≤ g := (h.own.lt g rfl).1
  have e1 : m + x = m' := by rw [← hm, hT, List.length_append, hl, hx]
  rw [e1, ← hT] at ho
  obtain ⟨g2, c2, hv, _⟩ := owned_bytes (M := T') (by rw [hm]; exact ho) (by omega)
  rw [hm] at hv
  subst hv
  refine ⟨g2, c2, rfl, ho, h.op.grown' hg' (by omega), ?_, h.bel.grown hg' h.bel.size (fun j hj => by simp at hj; omega)⟩
  refine ⟨h.ps.len, h.ps.cap, h.ps.max, h.ps.nil, fun ad ha j u hj => ?_⟩
  have hl0 := cell_in (h0.cells ad ha j u hj)
  have hw := h.bel.size
  rw [World.cell?_of_block (w := wi) (hg'.block _ (by omega) (by simp; omega))]
  exact h.ps.cells ad ha j u hj

end

section
open Go.RowKit
open Go.Sort (grow)

set_option maxRecDepth 100000 in
set_option maxHeartbeats 8000000 in
theorem rp_del (o : OpIn) (a : Option Addr) (n c : Nat) (V : List Dt) (T : List Int) (m : Nat) (w : World) (hp : PS w a n c V) (hn : n ≤ 10000) (hV : VM V) (hf : OFit o) (hk : o.kind = 2) (hT : T = enco o V) (hm : T.length = m) :
    Calls Try.prog 17 #[ov o (.slice a n c)] w (MakesN w T m) := by
  have hA := opAt_alloc w o (.slice a n c) 27
  have hF := (Far.refl w).alloc (.cells (o.cells (.slice a n c)) 27)
  have hps := hp.far hF
  have B0 := hF.below
  unfold enco at hT
  rw [encp_del hk] at hT
  obtain ⟨X0, x0, hX0, hx0⟩ := named (encd o.id)
  obtain ⟨X1, x1, hX1, hx1⟩ := named (enc (zig o.time))
  obtain ⟨X2, x2, hX2, hx2⟩ := named (encv V)
  obtain ⟨X3, x3, hX3, hx3⟩ := named (enc (zig o.kind))
  obtain ⟨X4, x4, hX4, hx4⟩ := named (encd o.blk)
  obtain ⟨X5, x5, hX5, hx5⟩ := named (encd o.at)
  obtain ⟨T0, m0, hT0, hm0⟩ := named X0
  obtain ⟨T1, m1, hT1, hm1⟩ := named (T0 ++ X1)
  obtain ⟨T2, m2, hT2, hm2⟩ := named (T1 ++ X2)
  obtain ⟨T3, m3, hT3, hm3⟩ := named (T2 ++ X3)
  obtain ⟨T4, m4, hT4, hm4⟩ := named (T3 ++ X4)
  obtain ⟨T5, m5, hT5, hm5⟩ := named (T4 ++ X5)
  have hTT : T = T5 := by rw [hT, hT5, hT4, hT3, hT2, hT1, hT0, hX0, hX1, hX2, hX3, hX4, hX5]; simp only [List.append_assoc]
  have hmm : m = m5 := by rw [← hm, hTT, hm5]
  have bx0 : x0 ≤ 18 ∧ 0 < x0 := by rw [← hx0, hX0, encd_len']; have := sz_le (zig (o.id).1); have := sz_le (zig (o.id).2); have := sz_pos (zig (o.id).1); omega
  have bx1 : x1 ≤ 9 ∧ 0 < x1 := by rw [← hx1, hX1, enc_length]; exact ⟨sz_le _, sz_pos _⟩
  have bx2 : x2 ≤ 200000 ∧ 0 < x2 := by rw [← hx2, hX2]; have := (encv_len V); have := hp.len; omega
  have bx3 : x3 ≤ 9 ∧ 0 < x3 := by rw [← hx3, hX3, enc_length]; exact ⟨sz_le _, sz_pos _⟩
  have bx4 : x4 ≤ 18 ∧ 0 < x4 := by rw [← hx4, hX4, encd_len']; have := sz_le (zig (o.blk).1); have := sz_le (zig (o.blk).2); have := sz_pos (zig (o.blk).1); omega
  have bx5 : x5 ≤ 18 ∧ 0 < x5 := by rw [← hx5, hX5, encd_len']; have := sz_le (zig (o.at).1); have := sz_le (zig (o.at).2); have := sz_pos (zig (o.at).1); omega
  have bm0 : m0 = x0 := by rw [← hm0, hT0, hx0]
  have bm1 : m1 = m0 + x1 := by rw [← hm1, hT1, List.length_append, hm0, hx1]
  have bm2 : m2 = m1 + x2 := by rw [← hm2, hT2, List.length_append, hm1, hx2]
  have bm3 : m3 = m2 + x3 := by rw [← hm3, hT3, List.length_append, hm2, hx3]
  have bm4 : m4 = m3 + x4 := by rw [← hm4, hT4, List.length_append, hm3, hx4]
  have bm5 : m5 = m4 + x5 := by rw [← hm5, hT5, List.length_append, hm4, hx5]
  have c0 := fun W => rput_own o.id T0 m0 W hf.id (by rw [hT0, hX0]) hm0
  have c1 := fun W => (rint_ref o.time W hf.time.1 hf.time.2).mono fun e w' h => makes_n h hX1 hx1
  have c2 := fun W (h : PS W a n c V) => (rvput_any a n c V W h (by omega) hV).mono fun e w' h => gives_n h hX2 hx2 bx2.2
  have c3 := fun W => (rint_ref o.kind W hf.kind.1 hf.kind.2).mono fun e w' h => makes_n h hX3 hx3
  have c4 := fun W => (rput_any o.blk W hf.blk).mono fun e w' h => makes_n h hX4 hx4
  have c5 := fun W => (rput_any o.at W hf.at').mono fun e w' h => makes_n h hX5 hx5
  have HTT := hid hTT
  have HMM := hid hmm
  clear hTT hmm
  have k1 : (o.kind == 1) = false := by simp [hk]
  have k2 : (o.kind == 2) = true := by simp [hk]
  have HX0 := hid hx0
  have HT0 := hid hT0
  have HM0 := hid hm0
  have BM0 := hid bm0
  have HX1 := hid hx1
  have HT1 := hid hT1
  have HM1 := hid hm1
  have BM1 := hid bm1
  have HX2 := hid hx2
  have HT2 := hid hT2
  have HM2 := hid hm2
  have BM2 := hid bm2
  have HX3 := hid hx3
  have HT3 := hid hT3
  have HM3 := hid hm3
  have BM3 := hid bm3
  have HX4 := hid hx4
  have HT4 := hid hT4
  have HM4 := hid hm4
  have BM4 := hid bm4
  have HX5 := hid hx5
  have HT5 := hid hT5
  have HM5 := hid hm5
  have BM5 := hid bm5
  clear hT hm hk hf hV hp hF hX0 hx0 hT0 hm0 bm0 hX1 hx1 hT1 hm1 bm1 hX2 hx2 hT2 hm2 bm2 hX3 hx3 hT3 hm3 bm3 hX4 hx4 hT4 hm4 bm4 hX5 hx5 hT5 hm5 bm5
  unfold OwnsN at c0
  unfold MakesN at c1 c2 c3 c4 c5 ⊢
  have E0 := hA.c0
  have E1 := hA.c1
  have b0s := B0.size
  go_enter Try.func17, Try.ntmps17
  go_upto_region 2 with (first
    | (go_at_call 44; refine (c0 _).mono ?_; rintro e w1 ⟨g0, d0, rfl, ow0, l0⟩))
  have P0 : Pt (w.alloc (.cells (o.cells (.slice a n c)) 27)) w1 w.heap.size o a n c V g0 d0 T0 m0 := ⟨ow0, hA.below l0, hps.below l0, l0⟩
  have hq := hA.lt
  generalize w.alloc (.cells (o.cells (.slice a n c)) 27) = w0 at P0 hps hq B0 b0s ⊢
  generalize hqq : w.heap.size = q at P0 hq B0 ⊢
  clear hA E0 E1 ow0 l0 c0
  have E2 := P0.op.c2
  go_upto_region 3 with (first
    | (go_at_call 45; refine (c1 _).mono ?_; rintro e wa1 ⟨gx1, dx1, rfl, hgx1, sx1, lx1⟩; have Q1 := P0.call lx1)
    | (at_builtin; refine wpList_append_bytes rfl _ _ rfl w0.heap.size _ _ T0 rfl Q1.own gx1 x1 dx1 X1 rfl sx1 (by have h1 := bx0; have h2 := BM0.out; have u1 := BM1.out; have y1 := bx1; omega) Q1.bel.size ?_; intro vv1 wb1 ho1 hg1))
  obtain ⟨g1, d1, rfl, P1⟩ := Q1.app hps hq ho1 hg1 HT1.out HM1.out HM0.out HX1.out (by have h1 := bx0; have h2 := BM0.out; omega)
  clear E2 P0 Q1 ho1 hg1 sx1 lx1 hgx1 c1
  have E3 := P1.op.c3
  go_upto_region 4 with (first
    | (go_at_call 46; refine (c2 _ P1.ps).mono ?_; rintro e wa2 ⟨gx2, dx2, rfl, hgx2, sx2, lx2⟩; have Q2 := P1.call lx2)
    | (at_builtin; refine wpList_append_bytes rfl _ _ rfl w0.heap.size _ _ T1 rfl Q2.own gx2 x2 dx2 X2 rfl sx2 (by have h1 := bx0; have h2 := BM0.out; have u1 := BM1.out; have y1 := bx1; have u2 := BM2.out; have y2 := bx2; omega) Q2.bel.size ?_; intro vv2 wb2 ho2 hg2))
  obtain ⟨g2, d2, rfl, P2⟩ := Q2.app hps hq ho2 hg2 HT2.out HM2.out HM1.out HX2.out (by have h1 := bx0; have h2 := BM0.out; have u1 := BM1.out; have y1 := bx1; omega)
  clear E3 P1 Q2 ho2 hg2 sx2 lx2 hgx2 c2
  have E4 := P2.op.c4
  go_upto_region 5 with (first
    | (go_at_call 45; refine (c3 _).mono ?_; rintro e wa3 ⟨gx3, dx3, rfl, hgx3, sx3, lx3⟩; have Q3 := P2.call lx3)
    | (at_builtin; refine wpList_append_bytes rfl _ _ rfl w0.heap.size _ _ T2 rfl Q3.own gx3 x3 dx3 X3 rfl sx3 (by have h1 := bx0; have h2 := BM0.out; have u1 := BM1.out; have y1 := bx1; have u2 := BM2.out; have y2 := bx2; have u3 := BM3.out; have y3 := bx3; omega) Q3.bel.size ?_; intro vv3 wb3 ho3 hg3))
  obtain ⟨g3, d3, rfl, P3⟩ := Q3.app hps hq ho3 hg3 HT3.out HM3.out HM2.out HX3.out (by have h1 := bx0; have h2 := BM0.out; have u1 := BM1.out; have y1 := bx1; have u2 := BM2.out; have y2 := bx2; omega)
  clear E4 P2 Q3 ho3 hg3 sx3 lx3 hgx3 c3
  have E5 := P3.op.c5
  have E6 := P3.op.c6
  go_upto_region 6 with (first
    | (go_at_call 44; refine (c4 _).mono ?_; rintro e wa4 ⟨gx4, dx4, rfl, hgx4, sx4, lx4⟩; have Q4 := P3.call lx4)
    | (at_builtin; refine wpList_append_bytes rfl _ _ rfl w0.heap.size _ _ T3 rfl Q4.own gx4 x4 dx4 X4 rfl sx4 (by have h1 := bx0; have h2 := BM0.out; have u1 := BM1.out; have y1 := bx1; have u2 := BM2.out; have y2 := bx2; have u3 := BM3.out; have y3 := bx3; have u4 := BM4.out; have y4 := bx4; omega) Q4.bel.size ?_; intro vv4 wb4 ho4 hg4))
  obtain ⟨g4, d4, rfl, P4⟩ := Q4.app hps hq ho4 hg4 HT4.out HM4.out HM3.out HX4.out (by have h1 := bx0; have h2 := BM0.out; have u1 := BM1.out; have y1 := bx1; have u2 := BM2.out; have y2 := bx2; have u3 := BM3.out; have y3 := bx3; omega)
  clear E5 E6 P3 Q4 ho4 hg4 sx4 lx4 hgx4 c4
  have E7 := P4.op.c7
  have E8 := P4.op.c8
  have E4 := P4.op.c4
  go_upto_region 16 with (first
    | (go_at_call 44; refine (c5 _).mono ?_; rintro e wa5 ⟨gx5, dx5, rfl, hgx5, sx5, lx5⟩; have Q5 := P4.call lx5; have e4 := Q5.op.c4)
    | (at_builtin; refine wpList_append_bytes rfl _ _ rfl w0.heap.size _ _ T4 rfl Q5.own gx5 x5 dx5 X5 rfl sx5 (by have h1 := bx0; have h2 := BM0.out; have u1 := BM1.out; have y1 := bx1; have u2 := BM2.out; have y2 := bx2; have u3 := BM3.out; have y3 := bx3; have u4 := BM4.out; have y4 := bx4; have u5 := BM5.out; have y5 := bx5; omega) Q5.bel.size ?_; intro vv5 wb5 ho5 hg5))
  obtain ⟨g5, d5, rfl, P5⟩ := Q5.app hps hq ho5 hg5 HT5.out HM5.out HM4.out HX5.out (by have h1 := bx0; have h2 := BM0.out; have u1 := BM1.out; have y1 := bx1; have u2 := BM2.out; have y2 := bx2; have u3 := BM3.out; have y3 := bx3; have u4 := BM4.out; have y4 := bx4; omega)
  clear E7 E8 E4 e4 P4 Q5 ho5 hg5 sx5 lx5 hgx5 c5
  go_wp2_with fail
  go_ret
  have B1 : Below w.heap.size w wb5 := by rw [hqq]; exact B0.trans (P5.bel.mono (by rw [← hqq]; exact b0s))
  have hg9 := (P5.own.lt g5 rfl).1
  refine ⟨g5, d5, by rw [HMM.out]; rfl, by omega, by rw [HMM.out, HTT.out]; exact owns_src P5.own, B1⟩

set_option maxRecDepth 100000 in
set_option maxHeartbeats 8000000 in
theorem rp_ins (o : OpIn) (a : Option Addr) (n c : Nat) (V : List Dt) (T : List Int) (m : Nat) (w : World) (hp : PS w a n c V) (hn : n ≤ 10000) (hV : VM V) (hf : OFit o) (hk : o.kind = 1) (hT : T = enco o V) (hm : T.length = m) :
    Calls Try.prog 17 #[ov o (.slice a n c)] w (MakesN w T m) := by
  have hA := opAt_alloc w o (.slice a n c) 27
  have hF := (Far.refl w).alloc (.cells (o.cells (.slice a n c)) 27)
  have hps := hp.far hF
  have B0 := hF.below
  unfold enco at hT
  rw [encp_ins hk] at hT
  obtain ⟨X0, x0, hX0, hx0⟩ := named (encd o.id)
  obtain ⟨X1, x1, hX1, hx1⟩ := named (enc (zig o.time))
  obtain ⟨X2, x2, hX2, hx2⟩ := named (encv V)
  obtain ⟨X3, x3, hX3, hx3⟩ := named (enc (zig o.kind))
  obtain ⟨X4, x4, hX4, hx4⟩ := named (encd o.blk)
  obtain ⟨X5, x5, hX5, hx5⟩ := named (encd o.at)
  obtain ⟨X6, x6, hX6, hx6⟩ := named (enc (zig o.side))
  obtain ⟨X7, x7, hX7, hx7⟩ := named (enc (zig o.char))
  obtain ⟨T0, m0, hT0, hm0⟩ := named X0
  obtain ⟨T1, m1, hT1, hm1⟩ := named (T0 ++ X1)
  obtain ⟨T2, m2, hT2, hm2⟩ := named (T1 ++ X2)
  obtain ⟨T3, m3, hT3, hm3⟩ := named (T2 ++ X3)
  obtain ⟨T4, m4, hT4, hm4⟩ := named (T3 ++ X4)
  obtain ⟨T5, m5, hT5, hm5⟩ := named (T4 ++ X5)
  obtain ⟨T6, m6, hT6, hm6⟩ := named (T5 ++ X6)
  obtain ⟨T7, m7, hT7, hm7⟩ := named (T6 ++ X7)
  have hTT : T = T7 := by rw [hT, hT7, hT6, hT5, hT4, hT3, hT2, hT1, hT0, hX0, hX1, hX2, hX3, hX4, hX5, hX6, hX7]; simp only [List.append_assoc]
  have hmm : m = m7 := by rw [← hm, hTT, hm7]
  have bx0 : x0 ≤ 18 ∧ 0 < x0 := by rw [← hx0, hX0, encd_len']; have := sz_le (zig (o.id).1); have := sz_le (zig (o.id).2); have := sz_pos (zig (o.id).1); omega
  have bx1 : x1 ≤ 9 ∧ 0 < x1 := by rw [← hx1, hX1, enc_length]; exact ⟨sz_le _, sz_pos _⟩
  have bx2 : x2 ≤ 200000 ∧ 0 < x2 := by rw [← hx2, hX2]; have := (encv_len V); have := hp.len; omega
  have bx3 : x3 ≤ 9 ∧ 0 < x3 := by rw [← hx3, hX3, enc_length]; exact ⟨sz_le _, sz_pos _⟩
  have bx4 : x4 ≤ 18 ∧ 0 < x4 := by rw [← hx4, hX4, encd_len']; have := sz_le (zig (o.blk).1); have := sz_le (zig (o.blk).2); have := sz_pos (zig (o.blk).1); omega
  have bx5 : x5 ≤ 18 ∧ 0 < x5 := by rw [← hx5, hX5, encd_len']; have := sz_le (zig (o.at).1); have := sz_le (zig (o.at).2); have := sz_pos (zig (o.at).1); omega
  have bx6 : x6 ≤ 9 ∧ 0 < x6 := by rw [← hx6, hX6, enc_length]; exact ⟨sz_le _, sz_pos _⟩
  have bx7 : x7 ≤ 9 ∧ 0 < x7 := by rw [← hx7, hX7, enc_length]; exact ⟨sz_le _, sz_pos _⟩
  have bm0 : m0 = x0 := by rw [← hm0, hT0, hx0]
  have bm1 : m1 = m0 + x1 := by rw [← hm1, hT1, List.length_append, hm0, hx1]
  have bm2 : m2 = m1 + x2 := by rw [← hm2, hT2, List.length_append, hm1, hx2]
  have bm3 : m3 = m2 + x3 := by rw [← hm3, hT3, List.length_append, hm2, hx3]
  have bm4 : m4 = m3 + x4 := by rw [← hm4, hT4, List.length_append, hm3, hx4]
  have bm5 : m5 = m4 + x5 := by rw [← hm5, hT5, List.length_append, hm4, hx5]
  have bm6 : m6 = m5 + x6 := by rw [← hm6, hT6, List.length_append, hm5, hx6]
  have bm7 : m7 = m6 + x7 := by rw [← hm7, hT7, List.length_append, hm6, hx7]
  have c0 := fun W => rput_own o.id T0 m0 W hf.id (by rw [hT0, hX0]) hm0
  have c1 := fun W => (rint_ref o.time W hf.time.1 hf.time.2).mono fun e w' h => makes_n h hX1 hx1
  have c2 := fun W (h : PS W a n c V) => (rvput_any a n c V W h (by omega) hV).mono fun e w' h => gives_n h hX2 hx2 bx2.2
  have c3 := fun W => (rint_ref o.kind W hf.kind.1 hf.kind.2).mono fun e w' h => makes_n h hX3 hx3
  have c4 := fun W => (rput_any o.blk W hf.blk).mono fun e w' h => makes_n h hX4 hx4
  have c5 := fun W => (rput_any o.at W hf.at').mono fun e w' h => makes_n h hX5 hx5
  have c6 := fun W => (rint_ref o.side W hf.side.1 hf.side.2).mono fun e w' h => makes_n h hX6 hx6
  have c7 := fun W => (rint_ref o.char W hf.char.1 hf.char.2).mono fun e w' h => makes_n h hX7 hx7
  have HTT := hid hTT
  have HMM := hid hmm
  clear hTT hmm
  have k1 : (o.kind == 1) = true := by simp [hk]
  have HX0 := hid hx0
  have HT0 := hid hT0
  have HM0 := hid hm0
  have BM0 := hid bm0
  have HX1 := hid hx1
  have HT1 := hid hT1
  have HM1 := hid hm1
  have BM1 := hid bm1
  have HX2 := hid hx2
  have HT2 := hid hT2
  have HM2 := hid hm2
  have BM2 := hid bm2
  have HX3 := hid hx3
  have HT3 := hid hT3
  have HM3 := hid hm3
  have BM3 := hid bm3
  have HX4 := hid hx4
  have HT4 := hid hT4
  have HM4 := hid hm4
  have BM4 := hid bm4
  have HX5 := hid hx5
  have HT5 := hid hT5
  have HM5 := hid hm5
  have BM5 := hid bm5
  have HX6 := hid hx6
  have HT6 := hid hT6
  have HM6 := hid hm6
  have BM6 := hid bm6
  have HX7 := hid hx7
  have HT7 := hid hT7
  have HM7 := hid hm7
  have BM7 := hid bm7
  clear hT hm hk hf hV hp hF hX0 hx0 hT0 hm0 bm0 hX1 hx1 hT1 hm1 bm1 hX2 hx2 hT2 hm2 bm2 hX3 hx3 hT3 hm3 bm3 hX4 hx4 hT4 hm4 bm4 hX5 hx5 hT5 hm5 bm5 hX6 hx6 hT6 hm6 bm6 hX7 hx7 hT7 hm7 bm7
  unfold OwnsN at c0
  unfold MakesN at c1 c2 c3 c4 c5 c6 c7 ⊢
  have E0 := hA.c0
  have E1 := hA.c1
  have b0s := B0.size
  go_enter Try.func17, Try.ntmps17
  go_upto_region 2 with (first
    | (go_at_call 44; refine (c0 _).mono ?_; rintro e w1 ⟨g0, d0, rfl, ow0, l0⟩))
  have P0 : Pt (w.alloc (.cells (o.cells (.slice a n c)) 27)) w1 w.heap.size o a n c V g0 d0 T0 m0 := ⟨ow0, hA.below l0, hps.below l0, l0⟩
  have hq := hA.lt
  generalize w.alloc (.cells (o.cells (.slice a n c)) 27) = w0 at P0 hps hq B0 b0s ⊢
  generalize hqq : w.heap.size = q at P0 hq B0 ⊢
  clear hA E0 E1 ow0 l0 c0
  have E2 := P0.op.c2
  go_upto_region 3 with (first
    | (go_at_call 45; refine (c1 _).mono ?_; rintro e wa1 ⟨gx1, dx1, rfl, hgx1, sx1, lx1⟩; have Q1 := P0.call lx1)
    | (at_builtin; refine wpList_append_bytes rfl _ _ rfl w0.heap.size _ _ T0 rfl Q1.own gx1 x1 dx1 X1 rfl sx1 (by have h1 := bx0; have h2 := BM0.out; have u1 := BM1.out; have y1 := bx1; omega) Q1.bel.size ?_; intro vv1 wb1 ho1 hg1))
  obtain ⟨g1, d1, rfl, P1⟩ := Q1.app hps hq ho1 hg1 HT1.out HM1.out HM0.out HX1.out (by have h1 := bx0; have h2 := BM0.out; omega)
  clear E2 P0 Q1 ho1 hg1 sx1 lx1 hgx1 c1
  have E3 := P1.op.c3
  go_upto_region 4 with (first
    | (go_at_call 46; refine (c2 _ P1.ps).mono ?_; rintro e wa2 ⟨gx2, dx2, rfl, hgx2, sx2, lx2⟩; have Q2 := P1.call lx2)
    | (at_builtin; refine wpList_append_bytes rfl _ _ rfl w0.heap.size _ _ T1 rfl Q2.own gx2 x2 dx2 X2 rfl sx2 (by have h1 := bx0; have h2 := BM0.out; have u1 := BM1.out; have y1 := bx1; have u2 := BM2.out; have y2 := bx2; omega) Q2.bel.size ?_; intro vv2 wb2 ho2 hg2))
  obtain ⟨g2, d2, rfl, P2⟩ := Q2.app hps hq ho2 hg2 HT2.out HM2.out HM1.out HX2.out (by have h1 := bx0; have h2 := BM0.out; have u1 := BM1.out; have y1 := bx1; omega)
  clear E3 P1 Q2 ho2 hg2 sx2 lx2 hgx2 c2
  have E4 := P2.op.c4
  go_upto_region 5 with (first
    | (go_at_call 45; refine (c3 _).mono ?_; rintro e wa3 ⟨gx3, dx3, rfl, hgx3, sx3, lx3⟩; have Q3 := P2.call lx3)
    | (at_builtin; refine wpList_append_bytes rfl _ _ rfl w0.heap.size _ _ T2 rfl Q3.own gx3 x3 dx3 X3 rfl sx3 (by have h1 := bx0; have h2 := BM0.out; have u1 := BM1.out; have y1 := bx1; have u2 := BM2.out; have y2 := bx2; have u3 := BM3.out; have y3 := bx3; omega) Q3.bel.size ?_; intro vv3 wb3 ho3 hg3))
  obtain ⟨g3, d3, rfl, P3⟩ := Q3.app hps hq ho3 hg3 HT3.out HM3.out HM2.out HX3.out (by have h1 := bx0; have h2 := BM0.out; have u1 := BM1.out; have y1 := bx1; have u2 := BM2.out; have y2 := bx2; omega)
  clear E4 P2 Q3 ho3 hg3 sx3 lx3 hgx3 c3
  have E5 := P3.op.c5
  have E6 := P3.op.c6
  go_upto_region 6 with (first
    | (go_at_call 44; refine (c4 _).mono ?_; rintro e wa4 ⟨gx4, dx4, rfl, hgx4, sx4, lx4⟩; have Q4 := P3.call lx4)
    | (at_builtin; refine wpList_append_bytes rfl _ _ rfl w0.heap.size _ _ T3 rfl Q4.own gx4 x4 dx4 X4 rfl sx4 (by have h1 := bx0; have h2 := BM0.out; have u1 := BM1.out; have y1 := bx1; have u2 := BM2.out; have y2 := bx2; have u3 := BM3.out; have y3 := bx3; have u4 := BM4.out; have y4 := bx4; omega) Q4.bel.size ?_; intro vv4 wb4 ho4 hg4))
  obtain ⟨g4, d4, rfl, P4⟩ := Q4.app hps hq ho4 hg4 HT4.out HM4.out HM3.out HX4.out (by have h1 := bx0; have h2 := BM0.out; have u1 := BM1.out; have y1 := bx1; have u2 := BM2.out; have y2 := bx2; have u3 := BM3.out; have y3 := bx3; omega)
  clear E5 E6 P3 Q4 ho4 hg4 sx4 lx4 hgx4 c4
  have E7 := P4.op.c7
  have E8 := P4.op.c8
  have E4 := P4.op.c4
  go_upto_region 9 with (first
    | (go_at_call 44; refine (c5 _).mono ?_; rintro e wa5 ⟨gx5, dx5, rfl, hgx5, sx5, lx5⟩; have Q5 := P4.call lx5; have e4 := Q5.op.c4)
    | (at_builtin; refine wpList_append_bytes rfl _ _ rfl w0.heap.size _ _ T4 rfl Q5.own gx5 x5 dx5 X5 rfl sx5 (by have h1 := bx0; have h2 := BM0.out; have u1 := BM1.out; have y1 := bx1; have u2 := BM2.out; have y2 := bx2; have u3 := BM3.out; have y3 := bx3; have u4 := BM4.out; have y4 := bx4; have u5 := BM5.out; have y5 := bx5; omega) Q5.bel.size ?_; intro vv5 wb5 ho5 hg5))
  obtain ⟨g5, d5, rfl, P5⟩ := Q5.app hps hq ho5 hg5 HT5.out HM5.out HM4.out HX5.out (by have h1 := bx0; have h2 := BM0.out; have u1 := BM1.out; have y1 := bx1; have u2 := BM2.out; have y2 := bx2; have u3 := BM3.out; have y3 := bx3; have u4 := BM4.out; have y4 := bx4; omega)
  clear E7 E8 E4 e4 P4 Q5 ho5 hg5 sx5 lx5 hgx5 c5
  have E9 := P5.op.c9
  go_upto_region 10 with (first
    | (go_at_call 45; refine (c6 _).mono ?_; rintro e wa6 ⟨gx6, dx6, rfl, hgx6, sx6, lx6⟩; have Q6 := P5.call lx6)
    | (at_builtin; refine wpList_append_bytes rfl _ _ rfl w0.heap.size _ _ T5 rfl Q6.own gx6 x6 dx6 X6 rfl sx6 (by have h1 := bx0; have h2 := BM0.out; have u1 := BM1.out; have y1 := bx1; have u2 := BM2.out; have y2 := bx2; have u3 := BM3.out; have y3 := bx3; have u4 := BM4.out; have y4 := bx4; have u5 := BM5.out; have y5 := bx5; have u6 := BM6.out; have y6 := bx6; omega) Q6.bel.size ?_; intro vv6 wb6 ho6 hg6))
  obtain ⟨g6, d6, rfl, P6⟩ := Q6.app hps hq ho6 hg6 HT6.out HM6.out HM5.out HX6.out (by have h1 := bx0; have h2 := BM0.out; have u1 := BM1.out; have y1 := bx1; have u2 := BM2.out; have y2 := bx2; have u3 := BM3.out; have y3 := bx3; have u4 := BM4.out; have y4 := bx4; have u5 := BM5.out; have y5 := bx5; omega)
  clear E9 P5 Q6 ho6 hg6 sx6 lx6 hgx6 c6
  have E10 := P6.op.c10
  go_upto_region 16 with (first
    | (go_at_call 45; refine (c7 _).mono ?_; rintro e wa7 ⟨gx7, dx7, rfl, hgx7, sx7, lx7⟩; have Q7 := P6.call lx7)
    | (at_builtin; refine wpList_append_bytes rfl _ _ rfl w0.heap.size _ _ T6 rfl Q7.own gx7 x7 dx7 X7 rfl sx7 (by have h1 := bx0; have h2 := BM0.out; have u1 := BM1.out; have y1 := bx1; have u2 := BM2.out; have y2 := bx2; have u3 := BM3.out; have y3 := bx3; have u4 := BM4.out; have y4 := bx4; have u5 := BM5.out; have y5 := bx5; have u6 := BM6.out; have y6 := bx6; have u7 := BM7.out; have y7 := bx7; omega) Q7.bel.size ?_; intro vv7 wb7 ho7 hg7))
  obtain ⟨g7, d7, rfl, P7⟩ := Q7.app hps hq ho7 hg7 HT7.out HM7.out HM6.out HX7.out (by have h1 := bx0; have h2 := BM0.out; have u1 := BM1.out; have y1 := bx1; have u2 := BM2.out; have y2 := bx2; have u3 := BM3.out; have y3 := bx3; have u4 := BM4.out; have y4 := bx4; have u5 := BM5.out; have y5 := bx5; have u6 := BM6.out; have y6 := bx6; omega)
  clear E10 P6 Q7 ho7 hg7 sx7 lx7 hgx7 c7
  go_wp2_with fail
  go_ret
  have B1 : Below w.heap.size w wb7 := by rw [hqq]; exact B0.trans (P7.bel.mono (by rw [← hqq]; exact b0s))
  have hg9 := (P7.own.lt g7 rfl).1
  refine ⟨g7, d7, by rw [HMM.out]; rfl, by omega, by rw [HMM.out, HTT.out]; exact owns_src P7.own, B1⟩

set_option maxRecDepth 100000 in
set_option maxHeartbeats 8000000 in
theorem rp_mov (o : OpIn) (a : Option Addr) (n c : Nat) (V : List Dt) (T : List Int) (m : Nat) (w : World) (hp : PS w a n c V) (hn : n ≤ 10000) (hV : VM V) (hf : OFit o) (hk : o.kind = 3) (hT : T = enco o V) (hm : T.length = m) :
    Calls Try.prog 17 #[ov o (.slice a n c)] w (MakesN w T m) := by
  have hA := opAt_alloc w o (.slice a n c) 27
  have hF := (Far.refl w).alloc (.cells (o.cells (.slice a n c)) 27)
  have hps := hp.far hF
  have B0 := hF.below
  unfold enco at hT
  rw [encp_mov hk] at hT
  obtain ⟨X0, x0, hX0, hx0⟩ := named (encd o.id)
  obtain ⟨X1, x1, hX1, hx1⟩ := named (enc (zig o.time))
  obtain ⟨X2, x2, hX2, hx2⟩ := named (encv V)
  obtain ⟨X3, x3, hX3, hx3⟩ := named (enc (zig o.kind))
  obtain ⟨X4, x4, hX4, hx4⟩ := named (encd o.blk)
  obtain ⟨X5, x5, hX5, hx5⟩ := named (encd o.par)
  obtain ⟨X6, x6, hX6, hx6⟩ := named (enc o.key.size ++ sb o.key)
  obtain ⟨T0, m0, hT0, hm0⟩ := named X0
  obtain ⟨T1, m1, hT1, hm1⟩ := named (T0 ++ X1)
  obtain ⟨T2, m2, hT2, hm2⟩ := named (T1 ++ X2)
  obtain ⟨T3, m3, hT3, hm3⟩ := named (T2 ++ X3)
  obtain ⟨T4, m4, hT4, hm4⟩ := named (T3 ++ X4)
  obtain ⟨T5, m5, hT5, hm5⟩ := named (T4 ++ X5)
  obtain ⟨T6, m6, hT6, hm6⟩ := named (T5 ++ X6)
  have hTT : T = T6 := by rw [hT, hT6, hT5, hT4, hT3, hT2, hT1, hT0, hX0, hX1, hX2, hX3, hX4, hX5, hX6]; simp only [List.append_assoc]
  have hmm : m = m6 := by rw [← hm, hTT, hm6]
  have bx0 : x0 ≤ 18 ∧ 0 < x0 := by rw [← hx0, hX0, encd_len']; have := sz_le (zig (o.id).1); have := sz_le (zig (o.id).2); have := sz_pos (zig (o.id).1); omega
  have bx1 : x1 ≤ 9 ∧ 0 < x1 := by rw [← hx1, hX1, enc_length]; exact ⟨sz_le _, sz_pos _⟩
  have bx2 : x2 ≤ 200000 ∧ 0 < x2 := by rw [← hx2, hX2]; have := (encv_len V); have := hp.len; omega
  have bx3 : x3 ≤ 9 ∧ 0 < x3 := by rw [← hx3, hX3, enc_length]; exact ⟨sz_le _, sz_pos _⟩
  have bx4 : x4 ≤ 18 ∧ 0 < x4 := by rw [← hx4, hX4, encd_len']; have := sz_le (zig (o.blk).1); have := sz_le (zig (o.blk).2); have := sz_pos (zig (o.blk).1); omega
  have bx5 : x5 ≤ 18 ∧ 0 < x5 := by rw [← hx5, hX5, encd_len']; have := sz_le (zig (o.par).1); have := sz_le (zig (o.par).2); have := sz_pos (zig (o.par).1); omega
  have bx6 : x6 ≤ 2000 ∧ 0 < x6 := by rw [← hx6, hX6, List.length_append, enc_length, sb_length]; have := hf.key; have := sz_le o.key.size; have := sz_pos o.key.size; omega
  have bm0 : m0 = x0 := by rw [← hm0, hT0, hx0]
  have bm1 : m1 = m0 + x1 := by rw [← hm1, hT1, List.length_append, hm0, hx1]
  have bm2 : m2 = m1 + x2 := by rw [← hm2, hT2, List.length_append, hm1, hx2]
  have bm3 : m3 = m2 + x3 := by rw [← hm3, hT3, List.length_append, hm2, hx3]
  have bm4 : m4 = m3 + x4 := by rw [← hm4, hT4, List.length_append, hm3, hx4]
  have bm5 : m5 = m4 + x5 := by rw [← hm5, hT5, List.length_append, hm4, hx5]
  have bm6 : m6 = m5 + x6 := by rw [← hm6, hT6, List.length_append, hm5, hx6]
  have c0 := fun W => rput_own o.id T0 m0 W hf.id (by rw [hT0, hX0]) hm0
  have c1 := fun W => (rint_ref o.time W hf.time.1 hf.time.2).mono fun e w' h => makes_n h hX1 hx1
  have c2 := fun W (h : PS W a n c V) => (rvput_any a n c V W h (by omega) hV).mono fun e w' h => gives_n h hX2 hx2 bx2.2
  have c3 := fun W => (rint_ref o.kind W hf.kind.1 hf.kind.2).mono fun e w' h => makes_n h hX3 hx3
  have c4 := fun W => (rput_any o.blk W hf.blk).mono fun e w' h => makes_n h hX4 hx4
  have c5 := fun W => (rput_any o.par W hf.par).mono fun e w' h => makes_n h hX5 hx5
  have c6 := fun W => (rtext_ref o.key W hf.key).mono fun e w' h => makes_n h hX6 hx6
  have HTT := hid hTT
  have HMM := hid hmm
  clear hTT hmm
  have k1 : (o.kind == 1) = false := by simp [hk]
  have k2 : (o.kind == 2) = false := by simp [hk]
  have k3 : (o.kind == 3) = true := by simp [hk]
  have HX0 := hid hx0
  have HT0 := hid hT0
  have HM0 := hid hm0
  have BM0 := hid bm0
  have HX1 := hid hx1
  have HT1 := hid hT1
  have HM1 := hid hm1
  have BM1 := hid bm1
  have HX2 := hid hx2
  have HT2 := hid hT2
  have HM2 := hid hm2
  have BM2 := hid bm2
  have HX3 := hid hx3
  have HT3 := hid hT3
  have HM3 := hid hm3
  have BM3 := hid bm3
  have HX4 := hid hx4
  have HT4 := hid hT4
  have HM4 := hid hm4
  have BM4 := hid bm4
  have HX5 := hid hx5
  have HT5 := hid hT5
  have HM5 := hid hm5
  have BM5 := hid bm5
  have HX6 := hid hx6
  have HT6 := hid hT6
  have HM6 := hid hm6
  have BM6 := hid bm6
  clear hT hm hk hf hV hp hF hX0 hx0 hT0 hm0 bm0 hX1 hx1 hT1 hm1 bm1 hX2 hx2 hT2 hm2 bm2 hX3 hx3 hT3 hm3 bm3 hX4 hx4 hT4 hm4 bm4 hX5 hx5 hT5 hm5 bm5 hX6 hx6 hT6 hm6 bm6
  unfold OwnsN at c0
  unfold MakesN at c1 c2 c3 c4 c5 c6 ⊢
  have E0 := hA.c0
  have E1 := hA.c1
  have b0s := B0.size
  go_enter Try.func17, Try.ntmps17
  go_upto_region 2 with (first
    | (go_at_call 44; refine (c0 _).mono ?_; rintro e w1 ⟨g0, d0, rfl, ow0, l0⟩))
  have P0 : Pt (w.alloc (.cells (o.cells (.slice a n c)) 27)) w1 w.heap.size o a n c V g0 d0 T0 m0 := ⟨ow0, hA.below l0, hps.below l0, l0⟩
  have hq := hA.lt
  generalize w.alloc (.cells (o.cells (.slice a n c)) 27) = w0 at P0 hps hq B0 b0s ⊢
  generalize hqq : w.heap.size = q at P0 hq B0 ⊢
  clear hA E0 E1 ow0 l0 c0
  have E2 := P0.op.c2
  go_upto_region 3 with (first
    | (go_at_call 45; refine (c1 _).mono ?_; rintro e wa1 ⟨gx1, dx1, rfl, hgx1, sx1, lx1⟩; have Q1 := P0.call lx1)
    | (at_builtin; refine wpList_append_bytes rfl _ _ rfl w0.heap.size _ _ T0 rfl Q1.own gx1 x1 dx1 X1 rfl sx1 (by have h1 := bx0; have h2 := BM0.out; have u1 := BM1.out; have y1 := bx1; omega) Q1.bel.size ?_; intro vv1 wb1 ho1 hg1))
  obtain ⟨g1, d1, rfl, P1⟩ := Q1.app hps hq ho1 hg1 HT1.out HM1.out HM0.out HX1.out (by have h1 := bx0; have h2 := BM0.out; omega)
  clear E2 P0 Q1 ho1 hg1 sx1 lx1 hgx1 c1
  have E3 := P1.op.c3
  go_upto_region 4 with (first
    | (go_at_call 46; refine (c2 _ P1.ps).mono ?_; rintro e wa2 ⟨gx2, dx2, rfl, hgx2, sx2, lx2⟩; have Q2 := P1.call lx2)
    | (at_builtin; refine wpList_append_bytes rfl _ _ rfl w0.heap.size _ _ T1 rfl Q2.own gx2 x2 dx2 X2 rfl sx2 (by have h1 := bx0; have h2 := BM0.out; have u1 := BM1.out; have y1 := bx1; have u2 := BM2.out; have y2 := bx2; omega) Q2.bel.size ?_; intro vv2 wb2 ho2 hg2))
  obtain ⟨g2, d2, rfl, P2⟩ := Q2.app hps hq ho2 hg2 HT2.out HM2.out HM1.out HX2.out (by have h1 := bx0; have h2 := BM0.out; have u1 := BM1.out; have y1 := bx1; omega)
  clear E3 P1 Q2 ho2 hg2 sx2 lx2 hgx2 c2
  have E4 := P2.op.c4
  go_upto_region 5 with (first
    | (go_at_call 45; refine (c3 _).mono ?_; rintro e wa3 ⟨gx3, dx3, rfl, hgx3, sx3, lx3⟩; have Q3 := P2.call lx3)
    | (at_builtin; refine wpList_append_bytes rfl _ _ rfl w0.heap.size _ _ T2 rfl Q3.own gx3 x3 dx3 X3 rfl sx3 (by have h1 := bx0; have h2 := BM0.out; have u1 := BM1.out; have y1 := bx1; have u2 := BM2.out; have y2 := bx2; have u3 := BM3.out; have y3 := bx3; omega) Q3.bel.size ?_; intro vv3 wb3 ho3 hg3))
  obtain ⟨g3, d3, rfl, P3⟩ := Q3.app hps hq ho3 hg3 HT3.out HM3.out HM2.out HX3.out (by have h1 := bx0; have h2 := BM0.out; have u1 := BM1.out; have y1 := bx1; have u2 := BM2.out; have y2 := bx2; omega)
  clear E4 P2 Q3 ho3 hg3 sx3 lx3 hgx3 c3
  have E5 := P3.op.c5
  have E6 := P3.op.c6
  go_upto_region 6 with (first
    | (go_at_call 44; refine (c4 _).mono ?_; rintro e wa4 ⟨gx4, dx4, rfl, hgx4, sx4, lx4⟩; have Q4 := P3.call lx4)
    | (at_builtin; refine wpList_append_bytes rfl _ _ rfl w0.heap.size _ _ T3 rfl Q4.own gx4 x4 dx4 X4 rfl sx4 (by have h1 := bx0; have h2 := BM0.out; have u1 := BM1.out; have y1 := bx1; have u2 := BM2.out; have y2 := bx2; have u3 := BM3.out; have y3 := bx3; have u4 := BM4.out; have y4 := bx4; omega) Q4.bel.size ?_; intro vv4 wb4 ho4 hg4))
  obtain ⟨g4, d4, rfl, P4⟩ := Q4.app hps hq ho4 hg4 HT4.out HM4.out HM3.out HX4.out (by have h1 := bx0; have h2 := BM0.out; have u1 := BM1.out; have y1 := bx1; have u2 := BM2.out; have y2 := bx2; have u3 := BM3.out; have y3 := bx3; omega)
  clear E5 E6 P3 Q4 ho4 hg4 sx4 lx4 hgx4 c4
  have E11 := P4.op.c11
  have E12 := P4.op.c12
  have E4 := P4.op.c4
  go_upto_region 15 with (first
    | (go_at_call 44; refine (c5 _).mono ?_; rintro e wa5 ⟨gx5, dx5, rfl, hgx5, sx5, lx5⟩; have Q5 := P4.call lx5; have e4 := Q5.op.c4)
    | (at_builtin; refine wpList_append_bytes rfl _ _ rfl w0.heap.size _ _ T4 rfl Q5.own gx5 x5 dx5 X5 rfl sx5 (by have h1 := bx0; have h2 := BM0.out; have u1 := BM1.out; have y1 := bx1; have u2 := BM2.out; have y2 := bx2; have u3 := BM3.out; have y3 := bx3; have u4 := BM4.out; have y4 := bx4; have u5 := BM5.out; have y5 := bx5; omega) Q5.bel.size ?_; intro vv5 wb5 ho5 hg5))
  obtain ⟨g5, d5, rfl, P5⟩ := Q5.app hps hq ho5 hg5 HT5.out HM5.out HM4.out HX5.out (by have h1 := bx0; have h2 := BM0.out; have u1 := BM1.out; have y1 := bx1; have u2 := BM2.out; have y2 := bx2; have u3 := BM3.out; have y3 := bx3; have u4 := BM4.out; have y4 := bx4; omega)
  clear E11 E12 E4 e4 P4 Q5 ho5 hg5 sx5 lx5 hgx5 c5
  have E13 := P5.op.c13
  go_upto_region 16 with (first
    | (go_at_call 47; refine (c6 _).mono ?_; rintro e wa6 ⟨gx6, dx6, rfl, hgx6, sx6, lx6⟩; have Q6 := P5.call lx6)
    | (at_builtin; refine wpList_append_bytes rfl _ _ rfl w0.heap.size _ _ T5 rfl Q6.own gx6 x6 dx6 X6 rfl sx6 (by have h1 := bx0; have h2 := BM0.out; have u1 := BM1.out; have y1 := bx1; have u2 := BM2.out; have y2 := bx2; have u3 := BM3.out; have y3 := bx3; have u4 := BM4.out; have y4 := bx4; have u5 := BM5.out; have y5 := bx5; have u6 := BM6.out; have y6 := bx6; omega) Q6.bel.size ?_; intro vv6 wb6 ho6 hg6))
  obtain ⟨g6, d6, rfl, P6⟩ := Q6.app hps hq ho6 hg6 HT6.out HM6.out HM5.out HX6.out (by have h1 := bx0; have h2 := BM0.out; have u1 := BM1.out; have y1 := bx1; have u2 := BM2.out; have y2 := bx2; have u3 := BM3.out; have y3 := bx3; have u4 := BM4.out; have y4 := bx4; have u5 := BM5.out; have y5 := bx5; omega)
  clear E13 P5 Q6 ho6 hg6 sx6 lx6 hgx6 c6
  go_wp2_with fail
  go_ret
  have B1 : Below w.heap.size w wb6 := by rw [hqq]; exact B0.trans (P6.bel.mono (by rw [← hqq]; exact b0s))
  have hg9 := (P6.own.lt g6 rfl).1
  refine ⟨g6, d6, by rw [HMM.out]; rfl, by omega, by rw [HMM.out, HTT.out]; exact owns_src P6.own, B1⟩

theorem rput7_any (o : OpIn) (a : Option Addr) (n c : Nat) (V : List Dt) (T : List Int) (m : Nat) (w : World) (hp : PS w a n c V) (hn : n ≤ 10000) (hV : VM V) (hf : OFit o) (hk : o.kind = 1 ∨ o.kind = 2 ∨ o.kind = 3) (hT : T = enco o V) (hm : T.length = m) :
    Calls Try.prog 17 #[ov o (.slice a n c)] w (MakesN w T m) := by
  rcases hk with hk | hk | hk
  · exact rp_ins o a n c V T m w hp hn hV hf hk hT hm
  · exact rp_del o a n c V T m w hp hn hV hf hk hT hm
  · exact rp_mov o a n c V T m w hp hn hV hf hk hT hm
end

section
open Go.RowKit
open Go.Sort (grow)

theorem so_same (o : OpIn) (V : List Dt) : so o o V V = true := by simp [so]

theorem PS.grownP {w0 w w' : World} {a : Option Addr} {n c b : Nat} {V : List Dt} (h : PS w a n c V) (h0 : PS w0 a n c V) (hg : w.grownBy w' (some b)) (hb : w0.heap.size ≤ b) (hw : w0.heap.size ≤ w.heap.size) : PS w' a n c V := by
  refine ⟨h.len, h.cap, h.max, h.nil, fun ad ha j u hj => ?_⟩
  have hl0 := cell_in (h0.cells ad ha j u hj)
  rw [World.cell?_of_block (w := w) (hg.block _ (by omega) (by simp; omega))]
  exact h.cells ad ha j u hj

set_option maxRecDepth 100000 in
set_option maxHeartbeats 16000000 in
theorem bytes_walk (a : Option Addr) (len cap : Nat) (L : List Int) (o : OpIn) (a2 : Option Addr) (n c : Nat) (V : List Dt) (w : World) (hs : Src w a len L) (hal : a = none → len = 0 ∧ cap = 0) (hp : PS w a2 n c V) (hk : o.key.size ≤ maxLen) :
    Calls Try.prog 5 #[.slice a len cap, ov o (.slice a2 n c)] w fun e w' => e = .returned (.bool true) ∧ Below w.heap.size w w' := by
  have hA := opAt_alloc w o (.slice a2 n c) 27
  have b0 : Below w.heap.size w (w.alloc (.cells (o.cells (.slice a2 n c)) 27)) := (Below.refl _ w).alloc (Nat.le_refl _) _
  go_enter Try.func5, Try.ntmps5
  go_upto_region 4 with (first
    | (go_at_call 9; refine (awake_any _).mono ?_; rintro e w1 ⟨rfl, b1⟩))
  have hA1 := hA.below b1
  have B1 := below2 b0 b1
  have hs1 := hs.below B1
  have hp1 := hp.below B1
  clear hA b0 b1 hs hp
  have hlen := hp1.max
  unfold maxLen at hlen
  have hcp := hp1.cap
  generalize w.heap.size = q at hA1 ⊢
  have e0 := hA1.c0
  have e1 := hA1.c1
  have e2 := hA1.c2
  have e3 := hA1.c3
  have e4 := hA1.c4
  have e5 := hA1.c5
  have e6 := hA1.c6
  have e7 := hA1.c7
  have e8 := hA1.c8
  have e9 := hA1.c9
  have e10 := hA1.c10
  have e11 := hA1.c11
  have e12 := hA1.c12
  have e13 := hA1.c13
  have cR : Tells 11 #[.agg #[.int .i64 o.id0, .int .i64 o.id1, .int .i64 o.time, .slice a2 n c, .int .i64 o.kind, .int .i64 o.bl0, .int .i64 o.bl1, .int .i64 o.at0, .int .i64 o.at1, .int .i64 o.side, .int .i64 o.char, .int .i64 o.pa0, .int .i64 o.pa1, .string o.key]] w1 (.bool (chk o V)) := rcheck_any o a2 n c V w1 hp1 (by omega) hk
  obtain ⟨r, hr⟩ : ∃ r, chk o V = r := ⟨_, rfl⟩
  rw [hr] at cR
  go_upto_region 5 with (first
    | (go_at_call 11; refine cR.mono ?_; rintro e w2 ⟨rfl, F2⟩))
  have hA2 := hA1.far F2
  have B2 := below2 B1 F2.below
  have hs2 := hs1.below F2.below
  have hp2 := hp1.far F2
  clear e0 e1 e2 e3 e4 e5 e6 e7 e8 e9 e10 e11 e12 e13 hA1 B1 hs1 hp1 F2 cR
  have e3 := hA2.c3
  by_cases hbig : 1000 < len
  · go_wp2_with fail
    go_ret
    exact ⟨rfl, B2⟩
  by_cases hbn : 200 < n
  · go_wp2_with fail
    go_ret
    exact ⟨rfl, B2⟩
  cases r with
  | false =>
    go_wp2_with fail
    go_ret
    exact ⟨rfl, B2⟩
  | true =>
    obtain ⟨hf, hV, hkd⟩ := chk_fit hr
    have hVn : V.length ≤ 200 := by have := hp2.len; omega
    obtain ⟨X, x, hX, hx⟩ := named (enco o V)
    obtain ⟨T, m, hT, hm⟩ := named (L ++ X)
    have hxm : m = len + x := by rw [← hm, hT, List.length_append, hs2.1, hx]
    have hm1 : m ≤ len + x := by omega
    have hm2 : len + x ≤ m := by omega
    clear hxm
    have hxp : 0 < x := by rw [← hx, hX]; unfold enco; simp only [List.length_append, enc_length]; have := sz_pos (zig o.time); omega
    have hxl : x ≤ 100000 := by
      rw [← hx, hX]
      unfold enco
      have h1 := encd_le o.id
      have h2 := encd_le o.blk
      have h3 := (encv_len V).1
      have h4 := encp_le hf
      have h5 := sz_le (zig o.time)
      have h6 := sz_le (zig o.kind)
      simp only [List.length_append, enc_length]
      omega
    have hsz : (strOfNums L).size + (strOfNums X).size ≤ 9223372036854775807 := by rw [strOfNums_size, strOfNums_size, hs2.1, hx]; omega
    have cP : Calls Try.prog 16 #[.slice a len cap, .agg #[.int .i64 o.id0, .int .i64 o.id1, .int .i64 o.time, .slice a2 n c, .int .i64 o.kind, .int .i64 o.bl0, .int .i64 o.bl1, .int .i64 o.at0, .int .i64 o.at1, .int .i64 o.side, .int .i64 o.char, .int .i64 o.pa0, .int .i64 o.pa1, .string o.key]] w2 (MakesC w2 T m) := oput_any a len cap L o a2 n c V T m w2 hs2 hal (by omega) hp2 (by omega) hV hf hkd (by rw [hT, hX]) hm
    have cQ : ∀ W, PS W a2 n c V → Calls Try.prog 17 #[.agg #[.int .i64 o.id0, .int .i64 o.id1, .int .i64 o.time, .slice a2 n c, .int .i64 o.kind, .int .i64 o.bl0, .int .i64 o.bl1, .int .i64 o.at0, .int .i64 o.at1, .int .i64 o.side, .int .i64 o.char, .int .i64 o.pa0, .int .i64 o.pa1, .string o.key]] W (MakesN W X x) := fun W h => rput7_any o a2 n c V X x W h (by omega) hV hf hkd hX hx
    have hotk := otk_enco hr (by omega)
    rw [← hX] at hotk
    have hBX : Bts X := by rw [hX]; exact bts_enco o V
    have HT := hid hT
    have HX := hid hx
    have hLl := hs2.1
    have HLl := hid hLl
    clear hT hm hX hx hf hV hkd hr hLl
    have f0 := hA2.c0
    have f1 := hA2.c1
    have f2 := hA2.c2
    have f4 := hA2.c4
    have f5 := hA2.c5
    have f6 := hA2.c6
    have f7 := hA2.c7
    have f8 := hA2.c8
    have f9 := hA2.c9
    have f10 := hA2.c10
    have f11 := hA2.c11
    have f12 := hA2.c12
    have f13 := hA2.c13
    go_upto_region 8 with (first
      | (go_at_call 16; refine cP.mono ?_; rintro e w3 ⟨g, cx, rfl, hg, s3, l3, x3, y3⟩))
    unfold maxLen at y3
    have hA3 := hA2.below l3
    have B3 := below2' B2 l3
    have hs3 := hs2.below l3
    have hp3 := hp2.below l3
    have hg3 : g < w3.heap.size := src_block s3 _ (by omega) rfl
    clear e3 f0 f1 f2 f4 f5 f6 f7 f8 f9 f10 f11 f12 f13 cP hA2 B2 hs2 hp2 l3 hal
    have H : Hid (∀ W, Below w3.heap.size w3 W → W.cell? ⟨q, 0, none⟩ = some (.int .i64 o.id0) ∧ W.cell? ⟨q, 1, none⟩ = some (.int .i64 o.id1) ∧ W.cell? ⟨q, 2, none⟩ = some (.int .i64 o.time) ∧ W.cell? ⟨q, 3, none⟩ = some (.slice a2 n c) ∧ W.cell? ⟨q, 4, none⟩ = some (.int .i64 o.kind) ∧ W.cell? ⟨q, 5, none⟩ = some (.int .i64 o.bl0) ∧ W.cell? ⟨q, 6, none⟩ = some (.int .i64 o.bl1) ∧ W.cell? ⟨q, 7, none⟩ = some (.int .i64 o.at0) ∧ W.cell? ⟨q, 8, none⟩ = some (.int .i64 o.at1) ∧ W.cell? ⟨q, 9, none⟩ = some (.int .i64 o.side) ∧ W.cell? ⟨q, 10, none⟩ = some (.int .i64 o.char) ∧ W.cell? ⟨q, 11, none⟩ = some (.int .i64 o.pa0) ∧ W.cell? ⟨q, 12, none⟩ = some (.int .i64 o.pa1) ∧ W.cell? ⟨q, 13, none⟩ = some (.string o.key) ∧ (convert 32 9 (.slice (some ⟨g, 0, none⟩) m cx)).run Try.prog W = .ok (.string (strOfNums L ++ strOfNums X)) W ∧ (convert 32 9 (.slice a len cap)).run Try.prog W = .ok (.string (strOfNums L)) W) := hid (fun W hW => by
      have h := hA3.below hW
      refine ⟨h.c0, h.c1, h.c2, h.c3, h.c4, h.c5, h.c6, h.c7, h.c8, h.c9, h.c10, h.c11, h.c12, h.c13, ?_, conv_src (hs3.below hW) cap⟩
      rw [← str_app, ← HT.out]
      exact conv_src (s3.below hW) cx)
    have L0 : Below w3.heap.size w3 w3 := Below.refl _ _
    have LD : Below w3.heap.size w3 w3.drew := (Below.refl _ _).drew
    have PP := hid (fun W (hW : Below w3.heap.size w3 W) => hp3.below hW)
    have HS := hid s3
    have HA := hid hA3
    have HSs := hid hs3
    clear hA3 hp3 hs3 s3
    go_region_held (fun W => W.cell? ⟨q, 0, none⟩ = some (.int .i64 o.id0) ∧ W.cell? ⟨q, 1, none⟩ = some (.int .i64 o.id1) ∧ W.cell? ⟨q, 2, none⟩ = some (.int .i64 o.time) ∧ W.cell? ⟨q, 3, none⟩ = some (.slice a2 n c) ∧ W.cell? ⟨q, 4, none⟩ = some (.int .i64 o.kind) ∧ W.cell? ⟨q, 5, none⟩ = some (.int .i64 o.bl0) ∧ W.cell? ⟨q, 6, none⟩ = some (.int .i64 o.bl1) ∧ W.cell? ⟨q, 7, none⟩ = some (.int .i64 o.at0) ∧ W.cell? ⟨q, 8, none⟩ = some (.int .i64 o.at1) ∧ W.cell? ⟨q, 9, none⟩ = some (.int .i64 o.side) ∧ W.cell? ⟨q, 10, none⟩ = some (.int .i64 o.char) ∧ W.cell? ⟨q, 11, none⟩ = some (.int .i64 o.pa0) ∧ W.cell? ⟨q, 12, none⟩ = some (.int .i64 o.pa1) ∧ W.cell? ⟨q, 13, none⟩ = some (.string o.key) ∧ (convert 32 9 (.slice (some ⟨g, 0, none⟩) m cx)).run Try.prog W = .ok (.string (strOfNums L ++ strOfNums X)) W ∧ (convert 32 9 (.slice a len cap)).run Try.prog W = .ok (.string (strOfNums L)) W)
      (exact H.out _ (by assumption))
      (first
        | (go_at_call 17; refine (cQ _ (PP.out _ LD)).mono ?_; rintro e w4 ⟨g4, d4, rfl, hg4, s4, l4⟩; have L4 := below2' LD l4; have v4 := conv_src s4 d4))
    have hA4 := HA.out.below L4
    have s5 := HS.out.below L4
    have p4 := PP.out _ L4
    have B4 := below2' B3 L4
    have hg4' : g < w4.heap.size := Nat.lt_of_lt_of_le hg3 L4.size
    clear H L0 LD PP HS HA HSs L4 l4 s4 v4 cQ hsz B3 hg3
    have sd : Src w4 (some ⟨g, len, none⟩) x X := by
      have := src_drop s5 len
      rw [HT.out, ← HLl.out, List.drop_left, HLl.out, show m - len = x by omega] at this
      simpa using this
    generalize Value.string (strOfNums L ++ strOfNums X) = S1
    generalize Value.string (strOfNums L) = S2
    generalize Value.string (strOfNums X) = S3
    clear s5
    go_upto_region 11 with (first
      | (go_at_call 18; refine (read_any w4 _ _ _ _ rfl).mono ?_; rintro e w5 ⟨rfl, rd5, l5⟩))
    have R5 : Rdr w5 w4.heap.size g X 0 := ⟨_, _, _, rd5, by rw [show m - len = x by omega]; exact sd.below l5, by omega, by omega, ⟨fun ad _ h => by cases h; rfl, by omega⟩, hBX, fun h => absurd rfl h⟩
    have cT := take7_any w5 w4.heap.size g X 0 R5 (Nat.lt_of_lt_of_le hg4' l5.size) (by rw [HX.out]; omega)
    rw [hotk] at cT
    have cT' : Calls Try.prog 19 #[.pointer (some ⟨w4.heap.size, 0, none⟩)] w5 fun r w' => ∃ av cv, r = .returned (.agg #[.int .i64 o.id0, .int .i64 o.id1, .int .i64 o.time, .slice av V.length cv, .int .i64 o.kind, .int .i64 o.bl0, .int .i64 o.bl1, .int .i64 o.at0, .int .i64 o.at1, .int .i64 o.side, .int .i64 o.char, .int .i64 o.pa0, .int .i64 o.pa1, .string o.key]) ∧ PS w' av V.length cv V ∧ Rdr w' w4.heap.size g [] 0 ∧ w5.grownBy w' (some w4.heap.size) := cT.mono fun r w' ⟨av, cv, h1, h2, h3, h4, _⟩ => ⟨av, cv, h1, h2, h3, h4⟩
    have hA5 := hA4.below l5
    have p5 := p4.below l5
    have B5 := below2' B4 l5
    have hqb := hA4.lt
    have hws := B4.size
    have h45 := l5.size
    go_upto_region 12 with (first
      | (go_at_call 19; refine cT'.mono ?_; rintro e w6 ⟨av, cv, rfl, P6, R6, G6⟩))
    have hA6 := hA5.grown G6 (by omega)
    have p6 := p5.grownP p4 G6 (by omega) (by omega)
    have B6 : Below w.heap.size w w6 := B5.grown G6 B5.size (fun j hj => by simp at hj; omega)
    have l7 := (Below.refl w6.heap.size w6).alloc (Nat.le_refl _) (.cells #[.int .i64 o.id0, .int .i64 o.id1, .int .i64 o.time, .slice av V.length cv, .int .i64 o.kind, .int .i64 o.bl0, .int .i64 o.bl1, .int .i64 o.at0, .int .i64 o.at1, .int .i64 o.side, .int .i64 o.char, .int .i64 o.pa0, .int .i64 o.pa1, .string o.key] 27)
    have hQ7 : OpAt (w6.alloc (.cells #[.int .i64 o.id0, .int .i64 o.id1, .int .i64 o.time, .slice av V.length cv, .int .i64 o.kind, .int .i64 o.bl0, .int .i64 o.bl1, .int .i64 o.at0, .int .i64 o.at1, .int .i64 o.side, .int .i64 o.char, .int .i64 o.pa0, .int .i64 o.pa1, .string o.key] 27)) w6.heap.size o (.slice av V.length cv) := opAt_alloc w6 o (.slice av V.length cv) 27
    have hA7 := hA6.below l7
    have p7 := p6.below l7
    have P7 := P6.below l7
    have R7 := R6.below l7
    have B7 := below2' B6 l7
    have cS : Tells 15 #[.agg #[.int .i64 o.id0, .int .i64 o.id1, .int .i64 o.time, .slice av V.length cv, .int .i64 o.kind, .int .i64 o.bl0, .int .i64 o.bl1, .int .i64 o.at0, .int .i64 o.at1, .int .i64 o.side, .int .i64 o.char, .int .i64 o.pa0, .int .i64 o.pa1, .string o.key], .agg #[.int .i64 o.id0, .int .i64 o.id1, .int .i64 o.time, .slice a2 n c, .int .i64 o.kind, .int .i64 o.bl0, .int .i64 o.bl1, .int .i64 o.at0, .int .i64 o.at1, .int .i64 o.side, .int .i64 o.char, .int .i64 o.pa0, .int .i64 o.pa1, .string o.key]] (w6.alloc (.cells #[.int .i64 o.id0, .int .i64 o.id1, .int .i64 o.time, .slice av V.length cv, .int .i64 o.kind, .int .i64 o.bl0, .int .i64 o.bl1, .int .i64 o.at0, .int .i64 o.at1, .int .i64 o.side, .int .i64 o.char, .int .i64 o.pa0, .int .i64 o.pa1, .string o.key] 27)) (.bool true) := by
      have := rsame7_any o o av a2 V.length cv n c V V _ P7 p7 (by omega) (by omega)
      rw [so_same] at this
      exact this
    generalize w6.alloc (.cells #[.int .i64 o.id0, .int .i64 o.id1, .int .i64 o.time, .slice av V.length cv, .int .i64 o.kind, .int .i64 o.bl0, .int .i64 o.bl1, .int .i64 o.at0, .int .i64 o.at1, .int .i64 o.side, .int .i64 o.char, .int .i64 o.pa0, .int .i64 o.pa1, .string o.key] 27) = w7 at hQ7 hA7 p7 P7 R7 B7 cS ⊢
    generalize w6.heap.size = q2 at hQ7 ⊢
    clear cT cT' hA5 p5 B5 P6 R6 G6 hA6 p6 B6 l7 hA4 p4 B4 R5 rd5 l5 sd hotk
    have e0 := hQ7.c0
    have e1 := hQ7.c1
    have e2 := hQ7.c2
    have e3 := hQ7.c3
    have e4 := hQ7.c4
    have e5 := hQ7.c5
    have e6 := hQ7.c6
    have e7 := hQ7.c7
    have e8 := hQ7.c8
    have e9 := hQ7.c9
    have e10 := hQ7.c10
    have e11 := hQ7.c11
    have e12 := hQ7.c12
    have e13 := hQ7.c13
    have f0 := hA7.c0
    have f1 := hA7.c1
    have f2 := hA7.c2
    have f3 := hA7.c3
    have f4 := hA7.c4
    have f5 := hA7.c5
    have f6 := hA7.c6
    have f7 := hA7.c7
    have f8 := hA7.c8
    have f9 := hA7.c9
    have f10 := hA7.c10
    have f11 := hA7.c11
    have f12 := hA7.c12
    have f13 := hA7.c13
    go_wp2_with (first
      | (go_at_call 15; refine cS.mono ?_; rintro e w8 ⟨rfl, F8⟩; have R8 := R7.below F8.below)
      | (go_at_call 20; refine (end_nil _ _ _ _ R8).mono ?_; rintro e w9 ⟨rfl, rfl⟩))
    go_ret
    exact ⟨rfl, below2' B7 F8.below⟩

namespace opsBytes
open Go.ChangeShapes Go.WideShapes Go.ChangeAt Go.RowKit
open Go.ChangeMaps (open_string shut_string)
set_option linter.unusedVariables false

theorem own : ownKnob Try.prog.godebug = none := by kernel_rfl
theorem laidOut : laidOutB Try.prog = true := by kernel_rfl

set_option maxRecDepth 100000 in
theorem lifted (os : Os) (started : os.Started) (H : Type) (enc : TypeId × Value → H) :
    ReturnsInHanded {} Try.checked os 5 .any (Rows.opsBytesSpec.pre6 enc Try.prog Try.f5 Rows.opsBytesRow.domain false) (Rows.opsBytesSpec.post enc Try.prog Try.f5 false true false false) := by
  refine returnsInHanded_of_change (C := Try.checked) own started (by kernel_rfl) Try.func5
    (ChangeSpec.witness6 (enc := enc) (C := Try.checked) false ⟨#[], #[.slice none 0 0, .agg #[.int .i64 0, .int .i64 0, .int .i64 0, .slice none 0 0, .int .i64 0, .int .i64 0, .int .i64 0, .int .i64 0, .int .i64 0, .int .i64 0, .int .i64 0, .int .i64 0, .int .i64 0, .string ByteArray.empty]], []⟩ 8 (by kernel_rfl) (by kernel_rfl) (by kernel_rfl) (by kernel_rfl)) ?_
  intro W base args ds gs before hval0 hW hcnd _
  have hval : ∀ (j : Nat) t v, Try.f5.params[j]? = some t → args[j]? = some v → Value.okWide Try.prog W .any base t v := hval0
  have hW' := hW
  obtain ⟨p, q, hA0, hV, rfl, hfz, hnd⟩ := hW
  have hA : DataW.TrodAll enc Try.prog W 0 (fun _ => true) true Try.f5.params.toList args.toList ds p := hA0
  rw [Try.params5] at hA hval
  obtain ⟨v0, vs0, d0, ds0, p0, q0, hargs, rfl, rfl, h0, r0⟩ := trodAll_cons hA
  obtain ⟨v1, vs1, d1, ds1, p1, q1, rfl, rfl, rfl, h1, r1⟩ := trodAll_cons r0
  obtain ⟨rfl, rfl, rfl⟩ := trodAll_nil r1
  obtain rfl : args = #[v0, v1] := by cases args; simp_all
  obtain ⟨rfl, rfl⟩ := trodVars_none hV
  obtain ⟨a0, len0, cap0, rfl⟩ := okWide_slice Try.underlying32 (hval 0 32 v0 rfl rfl)
  have k0 := h0
  have k1 := h1
  have lt0 : ∀ x ∈ p0, x.block < W.heap.size := by obtain ⟨m, hm⟩ := k0; exact DataW.trod_lt m _ _ _ hm
  have lt1 : ∀ x ∈ p1, x.block < W.heap.size := by obtain ⟨m, hm⟩ := k1; exact DataW.trod_lt m _ _ _ hm
  obtain ⟨z0, w0, u0, s0, t0, nn0⟩ := open_bytes h0
  obtain ⟨o1, a1, n1, c1, z1, rfl, f1, w1, u1⟩ := open_op7 (hval 1 27 v1 rfl rfl) h1
  clear hA0 hval0
  refine (bytes_walk a0 len0 cap0 z0 o1 a1 n1 c1 z1 W w0 nn0 w1 f1.key).mono fun e W' ⟨he, bel⟩ => ?_
  subst he
  exact ⟨_, rfl, _, _, _, [], _, [], hW', trodAll_mk1 (shut_bool Try.underlying4 _),
    (trodAll_cons_mk (Below.trod laidOut (by kernel_rfl) (of_decide_eq_true (by kernel_rfl)) k0 bel lt0) (trodAll_cons_mk (Below.trod laidOut (by kernel_rfl) (of_decide_eq_true (by kernel_rfl)) k1 bel lt1) trodAll_mk0)), rfl, bel.frame _, fun h => by cases h⟩

theorem over : Rows.opsBytesRow.holds Try.pinned (OpenSpec.ofChange Rows.opsBytesSpec) :=
  OpenClaim.holds_of_wide 5 Try.f5 rfl rfl rfl rfl rfl rfl rfl ⟨rfl, rfl, rfl, rfl, rfl⟩ rfl rfl rfl rfl rfl (by kernel_rfl) Try.func5 (by kernel_rfl)
    (of_decide_eq_true (by kernel_rfl)) (by unfold Func.isWrapper; first | (rw [if_pos (by decide +kernel)]; kernel_rfl) | (rw [if_neg (by decide +kernel)]; exact ⟨rfl, rfl⟩))
    (fun os started H enc _ => lifted os started H enc)

end opsBytes

/-- The statement. -/
theorem opsBytes_holds : Rows.OpsBytesSaid := opsBytes.over
#print axioms opsBytes_holds
end
end Go.Proofs.Ythipadnghdodlaa
