/- The bytes of an operation; what putParts makes. -/
import Derived.Test.YthipadnghdodlaaOConc
import Derived.Test.YthipadnghdodlaaOCheck
import Derived.Test.YthipadnghdodlaaVArg
import Derived.Deep.RegionHeld
namespace Go.Proofs.Ythipadnghdodlaa
open Go.RowKit
open Go.Sort (grow)

/-- The bytes of what a kind has. -/
def encp (o : OpIn) : List Int :=
  if o.kind = 1 then encd o.at ++ enc (zig o.side) ++ enc (zig o.char)
  else if o.kind = 2 then encd o.at
  else if o.kind = 3 then encd o.par ++ (enc o.key.size ++ sb o.key)
  else []

/-- An operation's bytes. -/
def enco (o : OpIn) (V : List Dt) : List Int := encd o.id ++ enc (zig o.time) ++ encv V ++ (enc (zig o.kind) ++ encd o.blk) ++ encp o

theorem encd_len' (d : Dt) : (encd d).length = sz (zig d.1) + sz (zig d.2) := by unfold encd; rw [List.length_append, enc_length, enc_length]

/-- A call hands back new bytes, m of them. -/
def MakesN (w : World) (T : List Int) (m : Nat) (e : Ending) (w' : World) : Prop :=
  ∃ g cap, e = .returned (.slice (some ⟨g, 0, none⟩) m cap) ∧ w.heap.size ≤ g ∧ Src w' (some ⟨g, 0, none⟩) m T ∧ Below w.heap.size w w'

theorem mi_any (a : Option Addr) (n cap : Nat) (L : List Int) (x : Int) (T : List Int) (m : Nat) (w : World) (hs : Src w a n L) (hn : n ≤ 1000000) (h0 : -9223372036854775808 ≤ x) (h1 : x ≤ 9223372036854775807) (hT : T = L ++ enc (zig x)) (hm : T.length = m) : Calls Try.prog 39 #[.slice a n cap, .int .i64 x] w (MakesN w T m) := by
  refine (int_any a n cap x L w hs (by omega) h0 h1).mono ?_
  rintro e w1 ⟨rfl, r1, l1⟩
  have hl : m = n + sz (zig x) := by rw [← hm, hT, List.length_append, enc_length, hs.1]
  exact ⟨w.heap.size, _, by rw [hl], Nat.le_refl _, by rw [hT] at hm ⊢; exact r1.src _ hm, l1⟩

theorem mp_any (a : Option Addr) (n cap : Nat) (L : List Int) (d : Dt) (T : List Int) (m : Nat) (w : World) (hs : Src w a n L) (hn : n ≤ 1000000) (hd : Dw d) (hT : T = L ++ encd d) (hm : T.length = m) : Calls Try.prog 40 #[.slice a n cap, dv d] w (MakesN w T m) := by
  refine (put_any a n cap L d w hs hn hd).mono ?_
  rintro e w1 ⟨g, rfl, hg, r1, l1⟩
  have hl : m = n + sz (zig d.1) + sz (zig d.2) := by rw [← hm, hT, List.length_append, encd_len', hs.1]; omega
  exact ⟨g, _, by rw [hl], hg, by rw [hT] at hm ⊢; exact r1.src _ hm, l1⟩

theorem mt_any (a : Option Addr) (n cap : Nat) (L : List Int) (s : ByteArray) (T : List Int) (m : Nat) (w : World) (hs : Src w a n L) (hn : n ≤ 1000000) (h : s.size ≤ 1000) (hT : T = L ++ (enc s.size ++ sb s)) (hm : T.length = m) : Calls Try.prog 70 #[.slice a n cap, .string s] w (MakesN w T m) := by
  refine (text_any a n cap s L w hs (by omega)).mono ?_
  rintro e w1 ⟨rfl, r1, l1⟩
  have hl : m = n + (sz s.size + s.size) := by rw [← hm, hT, List.length_append, List.length_append, enc_length, sb_length, hs.1]
  exact ⟨w.heap.size, _, by rw [hl], Nat.le_refl _, by rw [hT] at hm ⊢; exact r1.src _ hm, l1⟩

theorem mv_none (a' : Option Addr) (n c : Nat) (V : List Dt) (T : List Int) (m : Nat) (w : World) (hp : PS w a' n c V) (hn : n ≤ 100000) (hV : VM V) (hT : T = encv V) (hm : T.length = m) : Calls Try.prog 41 #[.slice none 0 0, .slice a' n c] w (MakesN w T m) := by
  refine (vput_any none 0 0 [] a' n c V w (src_nil w) (by omega) hp hn hV).mono ?_
  rintro e w1 ⟨v, rfl, o1, l1⟩
  rw [List.nil_append] at o1
  obtain ⟨g, c', hv, hg, _, _, _, s1⟩ := owned_bytes o1 (encv_len V).2
  exact ⟨g, c', by rw [hv, ← hm, hT], hg, by rw [← hm, hT]; exact s1, l1⟩

theorem encd_le (d : Dt) : (encd d).length ≤ 18 := by rw [encd_len']; have := sz_le (zig d.1); have := sz_le (zig d.2); omega

/-- What a kind has fits. -/
structure OFit (o : OpIn) : Prop where
  id : Dw o.id
  time : -9223372036854775808 ≤ o.time ∧ o.time ≤ 9223372036854775807
  kind : -9223372036854775808 ≤ o.kind ∧ o.kind ≤ 9223372036854775807
  blk : Dw o.blk
  at' : Dw o.at
  side : -9223372036854775808 ≤ o.side ∧ o.side ≤ 9223372036854775807
  char : -9223372036854775808 ≤ o.char ∧ o.char ≤ 9223372036854775807
  par : Dw o.par
  key : o.key.size ≤ 1000

theorem encp_ins {o : OpIn} (h : o.kind = 1) : encp o = encd o.at ++ enc (zig o.side) ++ enc (zig o.char) := by simp [encp, h]
theorem encp_del {o : OpIn} (h : o.kind = 2) : encp o = encd o.at := by simp [encp, h]
theorem encp_mov {o : OpIn} (h : o.kind = 3) : encp o = encd o.par ++ (enc o.key.size ++ sb o.key) := by simp [encp, h]

theorem box_cells {w w' : World} {x y z : Value} (h : Below (w.alloc (.cells #[x, y, z] 69)).heap.size (w.alloc (.cells #[x, y, z] 69)) w') : w'.cell? ⟨w.heap.size, 0, none⟩ = some x ∧ w'.cell? ⟨w.heap.size, 1, none⟩ = some y ∧ w'.cell? ⟨w.heap.size, 2, none⟩ = some z := by
  refine ⟨(h.cell (by simp)).trans ?_, (h.cell (by simp)).trans ?_, (h.cell (by simp)).trans ?_⟩ <;> go_simp

theorem named (L : List Int) : ∃ T m, T = L ∧ T.length = m := ⟨L, L.length, rfl, rfl⟩

set_option maxRecDepth 100000 in
set_option maxHeartbeats 4000000 in
theorem pp_del (o : OpIn) (v : Value) (T : List Int) (m : Nat) (w : World) (hf : OFit o) (hk : o.kind = 2) (hT : T = encp o) (hm : T.length = m) : Calls Try.prog 43 #[ov o v] w (MakesN w T m) := by
  rw [encp_del hk] at hT
  have hA := opAt_alloc w o v 27
  have hF := (Far.refl w).alloc (.cells (o.cells v) 27)
  have E4 := hA.c4
  have hP := fun W => partsOf_any o.kind W
  have p1 : pat o.kind = true := by simp [pat, hk]
  have p2 : pch o.kind = false := by simp [pch, hk]
  have p3 : ppl o.kind = false := by simp [ppl, hk]
  unfold pv at hP
  rw [p1, p2, p3] at hP
  have hD := fun W => mp_any none 0 0 [] o.at T m W (src_nil W) (by omega) hf.at' hT hm
  clear p1 p2 p3 hk hf hT hm
  unfold MakesN at hD ⊢
  go_enter Try.func43, Try.ntmps43
  go_wp2_with (first
    | (go_at_call 51; refine (hP _).mono ?_; rintro e w1 ⟨rfl, hF1⟩; have hA1 := hA.far hF1; have F1 := hF.trans hF1; have hlt := hA1.lt; have e7 := hA1.c7; have e8 := hA1.c8)
    | (go_at_call 40; refine (hD _).mono ?_; rintro e w2 ⟨g, cap, rfl, hg, s2, l2⟩; obtain ⟨q0, q1, q2⟩ := box_cells l2))
  go_ret
  have B1 := F1.below.alloc F1.below.size (.cells #[.bool true, .bool false, .bool false] 69)
  exact ⟨g, cap, rfl, Nat.le_trans B1.size hg, s2, B1.trans (l2.mono B1.size)⟩

set_option maxRecDepth 100000 in
set_option maxHeartbeats 4000000 in
theorem pp_ins (o : OpIn) (v : Value) (T : List Int) (m : Nat) (w : World) (hf : OFit o) (hk : o.kind = 1) (hT : T = encp o) (hm : T.length = m) : Calls Try.prog 43 #[ov o v] w (MakesN w T m) := by
  rw [encp_ins hk] at hT
  have hA := opAt_alloc w o v 27
  have hF := (Far.refl w).alloc (.cells (o.cells v) 27)
  have E4 := hA.c4
  have hP := fun W => partsOf_any o.kind W
  have p1 : pat o.kind = true := by simp [pat, hk]
  have p2 : pch o.kind = true := by simp [pch, hk]
  have p3 : ppl o.kind = false := by simp [ppl, hk]
  unfold pv at hP
  rw [p1, p2, p3] at hP
  obtain ⟨M, x, hM, hx⟩ := named (encd o.at)
  obtain ⟨N, y, hN, hy⟩ := named (M ++ enc (zig o.side))
  have hD := fun W => mp_any none 0 0 [] o.at M x W (src_nil W) (by omega) hf.at' hM hx
  have hx18 : x ≤ 18 := by rw [← hx, hM]; exact encd_le _
  have hy27 : y ≤ 27 := by rw [← hy, hN, List.length_append, enc_length]; have := sz_le (zig o.side); omega
  have hI := fun W a cap (h : Src W a x M) => mi_any a x cap M o.side N y W h (by omega) hf.side.1 hf.side.2 hN hy
  have hJ := fun W a cap (h : Src W a y N) => mi_any a y cap N o.char T m W h (by omega) hf.char.1 hf.char.2 (by rw [hT, hN, hM]) hm
  clear p1 p2 p3 hk hf hT hm hM hN hx hy hx18 hy27
  unfold MakesN at hD hI hJ ⊢
  go_enter Try.func43, Try.ntmps43
  go_upto_region 6 with (first
    | (go_at_call 51; refine (hP _).mono ?_; rintro e w1 ⟨rfl, hF1⟩; have hA1 := hA.far hF1; have F1 := hF.trans hF1; have hlt := hA1.lt; have e7 := hA1.c7; have e8 := hA1.c8)
    | (go_at_call 40; refine (hD _).mono ?_; rintro e w2 ⟨g, cap, rfl, hg, s2, l2⟩; obtain ⟨q0, q1, q2⟩ := box_cells l2))
  have B1 := F1.below.alloc F1.below.size (.cells #[.bool true, .bool true, .bool false] 69)
  have B2 := B1.trans (l2.mono B1.size)
  have hA2 := (hA1.far ((Far.refl w1).alloc (.cells #[.bool true, .bool true, .bool false] 69))).below l2
  have hqb : w1.heap.size < w2.heap.size := cell_in q2
  generalize w1.heap.size = qb at q0 q1 q2 hqb hlt ⊢
  have hB2s := B2.size
  generalize hq0 : w.heap.size = q at hA2 hlt B2 hB2s ⊢
  have k9 := hA2.c9
  have k10 := hA2.c10
  have hq : q < w2.heap.size := hA2.lt
  have s2' : Src w2.drew (some ⟨g, 0, none⟩) x M := s2.below (Below.refl _ _).drew
  clear hP hD E4 e7 e8 q0 q1 hF hF1 hA hA1 F1 l2 B1 hA2 hg
  go_region_held (fun W => W.cell? ⟨q, 9, none⟩ = some (.int .i64 o.side) ∧ W.cell? ⟨q, 10, none⟩ = some (.int .i64 o.char))
    (first | exact ⟨by assumption, by assumption⟩ | go_keep)
    (first
      | (go_at_call 39; have hq2 := l3; refine (hJ w3 _ _ s3).mono ?_; rintro e w4 ⟨g4, c4, rfl, hg4, s4, l4⟩; have n9 := (l4.cell (p := ⟨q, 9, none⟩) (cell_in m9)).trans m9; have n10 := (l4.cell (p := ⟨q, 10, none⟩) (cell_in m10)).trans m10; have u2 := (l4.cell (p := ⟨qb, 2, none⟩) (cell_in t2)).trans t2)
      | (go_at_call 39; refine (hI w2.drew _ _ s2').mono ?_; rintro e w3 ⟨g3, c3, rfl, hg3, s3, l3⟩; have m9 := (l3.cell (p := ⟨q, 9, none⟩) hq).trans k9; have m10 := (l3.cell (p := ⟨q, 10, none⟩) hq).trans k10; have t2 := (l3.cell (p := ⟨qb, 2, none⟩) hqb).trans q2))
  all_goals
    go_wp2_with fail
    go_ret
    have B3 : Below w.heap.size w w3 := by rw [hq0]; exact (B2.drew).trans (l3.mono hB2s)
    exact ⟨g4, c4, rfl, Nat.le_trans B3.size hg4, s4, B3.trans (l4.mono B3.size)⟩

set_option maxRecDepth 100000 in
set_option maxHeartbeats 4000000 in
theorem pp_mov (o : OpIn) (v : Value) (T : List Int) (m : Nat) (w : World) (hf : OFit o) (hk : o.kind = 3) (hT : T = encp o) (hm : T.length = m) : Calls Try.prog 43 #[ov o v] w (MakesN w T m) := by
  rw [encp_mov hk] at hT
  have hA := opAt_alloc w o v 27
  have hF := (Far.refl w).alloc (.cells (o.cells v) 27)
  have E4 := hA.c4
  have hP := fun W => partsOf_any o.kind W
  have p1 : pat o.kind = false := by simp [pat, hk]
  have p2 : pch o.kind = false := by simp [pch, hk]
  have p3 : ppl o.kind = true := by simp [ppl, hk]
  unfold pv at hP
  rw [p1, p2, p3] at hP
  obtain ⟨M, x, hM, hx⟩ := named (encd o.par)
  have hD := fun W => mp_any none 0 0 [] o.par M x W (src_nil W) (by omega) hf.par hM hx
  have hx18 : x ≤ 18 := by rw [← hx, hM]; exact encd_le _
  have hI := fun W a cap (h : Src W a x M) => mt_any a x cap M o.key T m W h (by omega) hf.key (by rw [hT, hM]) hm
  clear p1 p2 p3 hk hf hT hm hM hx hx18
  unfold MakesN at hD hI ⊢
  go_enter Try.func43, Try.ntmps43
  go_upto_region 8 with (first
    | (go_at_call 51; refine (hP _).mono ?_; rintro e w1 ⟨rfl, hF1⟩; have hA1 := hA.far hF1; have F1 := hF.trans hF1; have hlt := hA1.lt))
  have B1 := F1.below.alloc F1.below.size (.cells #[.bool false, .bool false, .bool true] 69)
  have hA2 := hA1.far ((Far.refl w1).alloc (.cells #[.bool false, .bool false, .bool true] 69))
  generalize w1.alloc (.cells #[.bool false, .bool false, .bool true] 69) = w2 at B1 hA2 ⊢
  have hB2s := B1.size
  generalize hq0 : w.heap.size = q at hA2 hlt B1 hB2s ⊢
  have k11 := hA2.c11
  have k12 := hA2.c12
  have k13 := hA2.c13
  have hq : q < w2.heap.size := hA2.lt
  clear hP E4 hF hF1 hA hA1 F1 hA2
  go_region_held (fun W => W.cell? ⟨q, 11, none⟩ = some (.int .i64 o.pa0) ∧ W.cell? ⟨q, 12, none⟩ = some (.int .i64 o.pa1) ∧ W.cell? ⟨q, 13, none⟩ = some (.string o.key))
    (first | exact ⟨by assumption, by assumption, by assumption⟩ | go_keep)
    (first
      | (go_at_call 70; refine (hI w3 _ _ s3).mono ?_; rintro e w4 ⟨g4, c4, rfl, hg4, s4, l4⟩; have n11 := (l4.cell (p := ⟨q, 11, none⟩) (cell_in m11)).trans m11; have n12 := (l4.cell (p := ⟨q, 12, none⟩) (cell_in m12)).trans m12; have n13 := (l4.cell (p := ⟨q, 13, none⟩) (cell_in m13)).trans m13)
      | (go_at_call 40; refine (hD w2.drew).mono ?_; rintro e w3 ⟨g3, c3, rfl, hg3, s3, l3⟩; have m11 := (l3.cell (p := ⟨q, 11, none⟩) hq).trans k11; have m12 := (l3.cell (p := ⟨q, 12, none⟩) hq).trans k12; have m13 := (l3.cell (p := ⟨q, 13, none⟩) hq).trans k13))
  all_goals
    go_wp2_with fail
    go_ret
    have B3 : Below w.heap.size w w3 := by rw [hq0]; exact (B1.drew).trans (l3.mono hB2s)
    exact ⟨g4, c4, rfl, Nat.le_trans B3.size hg4, s4, B3.trans (l4.mono B3.size)⟩

theorem putParts_any (o : OpIn) (v : Value) (T : List Int) (m : Nat) (w : World) (hf : OFit o) (hk : o.kind = 1 ∨ o.kind = 2 ∨ o.kind = 3) (hT : T = encp o) (hm : T.length = m) : Calls Try.prog 43 #[ov o v] w (MakesN w T m) := by
  rcases hk with hk | hk | hk
  · exact pp_ins o v T m w hf hk hT hm
  · exact pp_del o v T m w hf hk hT hm
  · exact pp_mov o v T m w hf hk hT hm
end Go.Proofs.Ythipadnghdodlaa
