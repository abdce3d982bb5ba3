/- What Put makes. -/
import Derived.Test.YthipadnghdodlaaOPutA
namespace Go.Proofs.Ythipadnghdodlaa
open Go.RowKit
open Go.Sort (grow)

/-- The one of five. -/
def pick5 {α : Type} (x0 x1 x2 x3 x4 : α) : Nat → α
  | 0 => x0
  | 1 => x1
  | 2 => x2
  | 3 => x3
  | _ => x4

theorem five {P : Nat → Prop} (h0 : P 0) (h1 : P 1) (h2 : P 2) (h3 : P 3) (h4 : P 4) : ∀ i, i < 5 → P i := by
  intro i hi
  match i, hi with
  | 0, _ => exact h0
  | 1, _ => exact h1
  | 2, _ => exact h2
  | 3, _ => exact h3
  | 4, _ => exact h4
  | i + 5, h => omega

/-- A call hands back new bytes, m of them, in a slice that has room for them. -/
def MakesC (w : World) (T : List Int) (m : Nat) (e : Ending) (w' : World) : Prop :=
  ∃ g cap, e = .returned (.slice (some ⟨g, 0, none⟩) m cap) ∧ w.heap.size ≤ g ∧ Src w' (some ⟨g, 0, none⟩) m T ∧ Below w.heap.size w w' ∧ m ≤ cap ∧ cap ≤ maxLen

theorem concat5 (a : Option Addr) (n c : Nat) (L : List Int) (g1 n1 c1 g2 n2 c2 g3 n3 c3 g4 n4 c4 : Nat) (L1 L2 L3 L4 : List Int) (q : Nat) (w : World) (T : List Int) (m : Nat)
    (h0 : w.cell? ⟨q, 0, none⟩ = some (.slice a n c)) (h1 : w.cell? ⟨q, 1, none⟩ = some (.slice (some ⟨g1, 0, none⟩) n1 c1)) (h2 : w.cell? ⟨q, 2, none⟩ = some (.slice (some ⟨g2, 0, none⟩) n2 c2)) (h3 : w.cell? ⟨q, 3, none⟩ = some (.slice (some ⟨g3, 0, none⟩) n3 c3)) (h4 : w.cell? ⟨q, 4, none⟩ = some (.slice (some ⟨g4, 0, none⟩) n4 c4))
    (s0 : Src w a n L) (hn : a = none → n = 0 ∧ c = 0) (s1 : Src w (some ⟨g1, 0, none⟩) n1 L1) (s2 : Src w (some ⟨g2, 0, none⟩) n2 L2) (s3 : Src w (some ⟨g3, 0, none⟩) n3 L3) (s4 : Src w (some ⟨g4, 0, none⟩) n4 L4)
    (k0 : n ≤ 2000000) (k1 : n1 ≤ 2000000) (k2 : n2 ≤ 2000000) (k3 : n3 ≤ 2000000) (k4 : n4 ≤ 2000000) (hT : T = L ++ L1 ++ L2 ++ L3 ++ L4) (hm : T.length = m) (hp : 0 < m) :
    Calls Try.prog 42 #[.slice (some ⟨q, 0, none⟩) 5 5] w (MakesC w T m) := by
  refine (concat_any 5 (pick5 a (some ⟨g1, 0, none⟩) (some ⟨g2, 0, none⟩) (some ⟨g3, 0, none⟩) (some ⟨g4, 0, none⟩)) (pick5 n n1 n2 n3 n4) (pick5 c c1 c2 c3 c4) (pick5 L L1 L2 L3 L4) q w (by omega) (five s0 s1 s2 s3 s4) (five k0 k1 k2 k3 k4)
    (five hn (fun h => by cases h) (fun h => by cases h) (fun h => by cases h) (fun h => by cases h)) (five h0 h1 h2 h3 h4)).mono ?_
  rintro e w1 ⟨v, rfl, o1, l1⟩
  have e1 : cats (pick5 L L1 L2 L3 L4) 5 = T := by rw [hT]; simp [cats, pick5]
  rw [e1] at o1
  obtain ⟨g, c', hv, hg, _, hlc, hcm, s⟩ := owned_bytes o1 (by omega)
  exact ⟨g, c', by rw [hv, hm], hg, by rw [← hm]; exact s, l1, by omega, hcm⟩

theorem encp_le {o : OpIn} (hf : OFit o) : (encp o).length ≤ 2000 := by
  have h1 := encd_le o.at
  have h2 := encd_le o.par
  have h3 := sz_le (zig o.side)
  have h4 := sz_le (zig o.char)
  have h5 := sz_le o.key.size
  have h6 := hf.key
  unfold encp
  split
  · simp only [List.length_append, enc_length]; omega
  · split
    · omega
    · split
      · simp only [List.length_append, enc_length, sb_length]; omega
      · simp

theorem cells5 (w : World) (x0 x1 x2 x3 x4 : Value) (t : TypeId) : (w.alloc (.cells #[x0, x1, x2, x3, x4] t)).cell? ⟨w.heap.size, 0, none⟩ = some x0 ∧ (w.alloc (.cells #[x0, x1, x2, x3, x4] t)).cell? ⟨w.heap.size, 1, none⟩ = some x1 ∧ (w.alloc (.cells #[x0, x1, x2, x3, x4] t)).cell? ⟨w.heap.size, 2, none⟩ = some x2 ∧ (w.alloc (.cells #[x0, x1, x2, x3, x4] t)).cell? ⟨w.heap.size, 3, none⟩ = some x3 ∧ (w.alloc (.cells #[x0, x1, x2, x3, x4] t)).cell? ⟨w.heap.size, 4, none⟩ = some x4 := by
  refine ⟨?_, ?_, ?_, ?_, ?_⟩ <;> go_simp

set_option maxRecDepth 100000 in
set_option maxHeartbeats 4000000 in
theorem oput_any (a : Option Addr) (len cap : Nat) (L : List Int) (o : OpIn) (a' : Option Addr) (n c : Nat) (V : List Dt) (T : List Int) (m : Nat) (w : World) (hs : Src w a len L) (hal : a = none → len = 0 ∧ cap = 0) (hlen : len ≤ 100000) (hp : PS w a' n c V) (hn : n ≤ 10000) (hV : VM V) (hf : OFit o) (hk : o.kind = 1 ∨ o.kind = 2 ∨ o.kind = 3)
    (hT : T = L ++ enco o V) (hm : T.length = m) : Calls Try.prog 16 #[.slice a len cap, ov o (.slice a' n c)] w (MakesC w T m) := by
  have hA := opAt_alloc w o (.slice a' n c) 27
  have hF := (Far.refl w).alloc (.cells (o.cells (.slice a' n c)) 27)
  obtain ⟨M1, x1, hM1, hx1⟩ := named (encd o.id)
  obtain ⟨M2, x2, hM2, hx2⟩ := named (M1 ++ enc (zig o.time))
  obtain ⟨M3, x3, hM3, hx3⟩ := named (encv V)
  obtain ⟨M4, x4, hM4, hx4⟩ := named (enc (zig o.kind))
  obtain ⟨M5, x5, hM5, hx5⟩ := named (M4 ++ encd o.blk)
  obtain ⟨M6, x6, hM6, hx6⟩ := named (encp o)
  have b1 : x1 ≤ 18 := by rw [← hx1, hM1]; exact encd_le _
  have b2 : x2 ≤ 27 ∧ 0 < x2 := by rw [← hx2, hM2, List.length_append, enc_length]; have := sz_le (zig o.time); have := sz_pos (zig o.time); omega
  have b3 : x3 ≤ 200000 := by rw [← hx3, hM3]; have := (encv_len V).1; have := hp.len; omega
  have b4 : x4 ≤ 9 := by rw [← hx4, hM4, enc_length]; exact sz_le _
  have b5 : x5 ≤ 27 := by rw [← hx5, hM5, List.length_append]; have := encd_le o.blk; omega
  have b6 : x6 ≤ 2000 := by rw [← hx6, hM6]; exact encp_le hf
  have c1 := fun W => mp_any none 0 0 [] o.id M1 x1 W (src_nil W) (by omega) hf.id hM1 hx1
  have c2 := fun W a cap (h : Src W a x1 M1) => mi_any a x1 cap M1 o.time M2 x2 W h (by omega) hf.time.1 hf.time.2 hM2 hx2
  have c3 := fun W (h : PS W a' n c V) => mv_none a' n c V M3 x3 W h (by omega) hV hM3 hx3
  have c4 := fun W => mi_any none 0 0 [] o.kind M4 x4 W (src_nil W) (by omega) hf.kind.1 hf.kind.2 hM4 hx4
  have c5 := fun W a cap (h : Src W a x4 M4) => mp_any a x4 cap M4 o.blk M5 x5 W h (by omega) hf.blk hM5 hx5
  have c6 := fun W => putParts_any o (.slice a' n c) M6 x6 W hf hk hM6 hx6
  have hTT : T = L ++ M2 ++ M3 ++ M5 ++ M6 := by rw [hT, hM2, hM1, hM3, hM5, hM4, hM6]; unfold enco; simp only [List.append_assoc]
  have hmp : 0 < m := by rw [← hm, hTT]; simp only [List.length_append, hx2]; omega
  have HTT := hid hTT
  have HM := hid hm
  have HAL := hid hal
  clear hTT hm hT hM1 hM2 hM3 hM4 hM5 hM6 hx1 hx2 hx3 hx4 hx5 hx6 hk hf hV hn hal
  unfold MakesN at c1 c2 c3 c4 c5 c6
  unfold MakesC
  go_enter Try.func16, Try.ntmps16
  go_wp2_with fail
  have hs0 := hs.below hF.below
  have hp0 := hp.far hF
  have B0 := hF.below
  generalize w.alloc (.cells (o.cells (.slice a' n c)) 27) = w0 at hA hF hs0 hp0 B0 ⊢
  clear hs hp hF
  have hB0s := B0.size
  generalize hq0 : w.heap.size = q at hA B0 hB0s ⊢
  have k0 := hA.c0
  have k1 := hA.c1
  have k2 := hA.c2
  have hq : q < w0.heap.size := hA.lt
  go_region_held (fun W => W.cell? ⟨q, 0, none⟩ = some (.int .i64 o.id0) ∧ W.cell? ⟨q, 1, none⟩ = some (.int .i64 o.id1) ∧ W.cell? ⟨q, 2, none⟩ = some (.int .i64 o.time))
    (first | exact ⟨by assumption, by assumption, by assumption⟩ | go_keep)
    (first
      | (go_at_call 39; refine (c2 w1 _ _ s1).mono ?_; rintro e w2 ⟨g2, d2, rfl, hg2, s2, l2⟩; have n0 := (l2.cell (p := ⟨q, 0, none⟩) (cell_in m0)).trans m0; have n1 := (l2.cell (p := ⟨q, 1, none⟩) (cell_in m1)).trans m1; have n2 := (l2.cell (p := ⟨q, 2, none⟩) (cell_in m2)).trans m2)
      | (go_at_call 40; refine (c1 w0.drew).mono ?_; rintro e w1 ⟨g1, d1, rfl, hg1, s1, l1⟩; have m0 := (l1.cell (p := ⟨q, 0, none⟩) hq).trans k0; have m1 := (l1.cell (p := ⟨q, 1, none⟩) hq).trans k1; have m2 := (l1.cell (p := ⟨q, 2, none⟩) hq).trans k2))
  have z1 : Below w0.heap.size w0 w1 := (Below.refl _ _).drew.trans l1
  have z2 := below2' z1 l2
  have hA2 := hA.below z2
  have hs2 := hs0.below z2
  have hp2 := hp0.below z2
  have B2 := B0.trans (z2.mono hB0s)
  clear k0 k1 k2 m0 m1 m2 n0 n1 n2 s1 hg1 z1 z2 l1 l2 hA hs0 hp0 B0 hB0s hq c1 c2
  have e3 := hA2.c3
  go_upto_region 3 with (first
    | (go_at_call 41; refine (c3 _ hp2).mono ?_; rintro e w3 ⟨g3, d3, rfl, hg3, s3, l3⟩))
  have hA3 := hA2.below l3
  have hs3 := hs2.below l3
  have t3 := s2.below l3
  have B3 := B2.trans (l3.mono (hq0 ▸ B2.size))
  have hB3s : q ≤ w3.heap.size := hq0 ▸ B3.size
  have k4 := hA3.c4
  have k5 := hA3.c5
  have k6 := hA3.c6
  have hq : q < w3.heap.size := hA3.lt
  clear e3 hA2 hs2 hp2 s2 B2 l3 c3
  go_region_held (fun W => W.cell? ⟨q, 4, none⟩ = some (.int .i64 o.kind) ∧ W.cell? ⟨q, 5, none⟩ = some (.int .i64 o.bl0) ∧ W.cell? ⟨q, 6, none⟩ = some (.int .i64 o.bl1))
    (first | exact ⟨by assumption, by assumption, by assumption⟩ | go_keep)
    (first
      | (go_at_call 40; refine (c5 w4 _ _ s4).mono ?_; rintro e w5 ⟨g5, d5, rfl, hg5, s5, l5⟩; have n4 := (l5.cell (p := ⟨q, 4, none⟩) (cell_in m4)).trans m4; have n5 := (l5.cell (p := ⟨q, 5, none⟩) (cell_in m5)).trans m5; have n6 := (l5.cell (p := ⟨q, 6, none⟩) (cell_in m6)).trans m6)
      | (go_at_call 39; refine (c4 w3.drew).mono ?_; rintro e w4 ⟨g4, d4, rfl, hg4, s4, l4⟩; have m4 := (l4.cell (p := ⟨q, 4, none⟩) hq).trans k4; have m5 := (l4.cell (p := ⟨q, 5, none⟩) hq).trans k5; have m6 := (l4.cell (p := ⟨q, 6, none⟩) hq).trans k6))
  have z1 : Below w3.heap.size w3 w4 := (Below.refl _ _).drew.trans l4
  have z2 := below2' z1 l5
  have hA5 := hA3.below z2
  have hs5 := hs3.below z2
  have t5 := t3.below z2
  have u5 := s3.below z2
  have B5 := B3.trans (z2.mono hB3s)
  clear k4 k5 k6 m4 m5 m6 n4 n5 n6 s4 hg4 z1 z2 l4 l5 hA3 hs3 t3 s3 B3 hB3s hq c4 c5
  have e0 := hA5.c0
  have e1 := hA5.c1
  have e2 := hA5.c2
  have e3 := hA5.c3
  have e4 := hA5.c4
  have e5 := hA5.c5
  have e6 := hA5.c6
  have e7 := hA5.c7
  have e8 := hA5.c8
  have e9 := hA5.c9
  have e10 := hA5.c10
  have e11 := hA5.c11
  have e12 := hA5.c12
  have e13 := hA5.c13
  go_wp2_with (first
    | (go_at_call 43; refine (c6 _).mono ?_; rintro e w6 ⟨g6, d6, rfl, hg6, s6, l6⟩; have hs6 := hs5.below l6; have t6 := t5.below l6; have u6 := u5.below l6; have v6 := s5.below l6; have B6 := B5.trans (l6.mono (hq0 ▸ B5.size)); have AL := fun o => (Below.refl w6.heap.size w6).alloc (Nat.le_refl _) o)
    | (go_at_call 42; refine (concat5 a len cap L g2 x2 d2 g3 x3 d3 g5 x5 d5 g6 x6 d6 M2 M3 M5 M6 w6.heap.size _ T m (by go_simp) (by go_simp) (by go_simp) (by go_simp) (by go_simp) (hs6.below (AL _)) HAL.out (t6.below (AL _)) (u6.below (AL _)) (v6.below (AL _)) (s6.below (AL _)) (by omega) (by omega) (by omega) (by omega) (by omega) HTT.out HM.out hmp).mono ?_; rintro e w7 ⟨g7, d7, rfl, hg7, s7, l7, x7, y7⟩))
  go_ret
  have B6' : Below w.heap.size w w6 := by rw [hq0]; exact B6
  have B7 := B6'.trans ((AL (.cells #[.slice a len cap, .slice (some ⟨g2, 0, none⟩) x2 d2, .slice (some ⟨g3, 0, none⟩) x3 d3, .slice (some ⟨g5, 0, none⟩) x5 d5, .slice (some ⟨g6, 0, none⟩) x6 d6] 32)).mono B6'.size)
  exact ⟨g7, d7, rfl, Nat.le_trans B7.size hg7, s7, B7.trans (l7.mono B7.size), x7, y7⟩
end Go.Proofs.Ythipadnghdodlaa
