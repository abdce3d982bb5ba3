/- Put and the reference's Put: a dot's bytes, in new memory. -/
import Derived.Test.YthipadnghdodlaaBRefT
import Derived.Test.YthipadnghdodlaaVSame
import Derived.Deep.RegionHeld
import Derived.Deep.RegionHeldLaw
import Derived.Deep.AppendLies
import Derived.Deep.CutBlock
namespace Go.Proofs.Ythipadnghdodlaa
open Go.RowKit

theorem below2' {w w1 w2 : World} (h : RowKit.Below w.heap.size w w1) (k : RowKit.Below w1.heap.size w1 w2) : RowKit.Below w.heap.size w w2 := h.trans (k.mono h.size)

/-- A dot's bytes. -/
def encd (d : Dt) : List Int := enc (zig d.1) ++ enc (zig d.2)

/-- int's bounds. -/
theorem dw_bounds {d : Dt} (h : Dw d) : (-9223372036854775808 ≤ d.1 ∧ d.1 ≤ 9223372036854775807) ∧ (-9223372036854775808 ≤ d.2 ∧ d.2 ≤ 9223372036854775807) := ⟨bounds_i64 h.1, bounds_i64 h.2⟩

theorem boxc {w w3 : World} {x y : Int} {B : Nat} (hB : w.heap.size < B) (h : RowKit.Below B (w.alloc (.cells #[.int .i64 x, .int .i64 y] 23)) w3) :
    w3.cell? ⟨w.heap.size, 0, none⟩ = some (.int .i64 x) ∧ w3.cell? ⟨w.heap.size, 1, none⟩ = some (.int .i64 y) :=
  ⟨(h.cell (p := ⟨w.heap.size, 0, none⟩) hB).trans (by go_simp), (h.cell (p := ⟨w.heap.size, 1, none⟩) hB).trans (by go_simp)⟩

/-- The reference's Int, with what it owns. -/
theorem rint_own (n : Int) (w : World) (h0 : -9223372036854775808 ≤ n) (h1 : n ≤ 9223372036854775807) : Calls Try.prog 45 #[.int .i64 n] w fun e w' =>
    ∃ g cap, e = .returned (.slice (some ⟨g, 0, none⟩) (sz (zig n)) cap) ∧ w.heap.size ≤ g ∧ w'.ownsRow w.heap.size 5 1 (.slice (some ⟨g, 0, none⟩) (sz (zig n)) cap) (sz (zig n)) ((enc (zig n)).map (Value.int .u8)) ∧ Src w' (some ⟨g, 0, none⟩) (sz (zig n)) (enc (zig n)) ∧ RowKit.Below w.heap.size w w' := by
  have hr := zig_range n h0 h1
  have hu := ruintref_any (zig n) w hr.1 hr.2
  by_cases hn : 0 ≤ n
  · have e : zig n = 2 * n := by unfold zig; rw [if_pos hn]
    rw [e] at hu ⊢
    clear hr e
    go_enter Try.func45, Try.ntmps45
    go_wp2_with (go_at_call 71; refine hu.mono ?_; rintro r w1 ⟨g, cap, rfl, hg, hown, hb⟩)
    go_ret
    exact ⟨g, cap, rfl, hg, hown, owns_src hown, hb⟩
  · have e : zig n = 2 * -(n + 1) + 1 := by unfold zig; rw [if_neg hn]; omega
    rw [e] at hu ⊢
    clear hr e
    go_enter Try.func45, Try.ntmps45
    go_wp2_with (go_at_call 71; refine hu.mono ?_; rintro r w1 ⟨g, cap, rfl, hg, hown, hb⟩)
    go_ret
    exact ⟨g, cap, rfl, hg, hown, owns_src hown, hb⟩

theorem own_below5 {w w' : World} {b n g c : Nat} {xs : List Value} (h : w.ownsRow b 5 1 (.slice (some ⟨g, 0, none⟩) n c) n xs) (hb : RowKit.Below w.heap.size w w') : w'.ownsRow b 5 1 (.slice (some ⟨g, 0, none⟩) n c) n xs := by
  have hlt := (h.lt g rfl).2
  obtain ⟨h1, h2⟩ := h
  refine ⟨h1, ?_⟩
  rcases h2 with ⟨h2, _⟩ | ⟨g', cap', cur, hv, hg, hbk, r⟩
  · cases h2
  · cases hv
    exact .inr ⟨g, c, cur, rfl, hg, by rw [hb.block g hlt]; exact hbk, r⟩

set_option maxRecDepth 100000 in
set_option maxHeartbeats 4000000 in
theorem put_any (a : Option Addr) (len cap : Nat) (L : List Int) (d : Dt) (w : World) (hs : Src w a len L) (hm : len ≤ 1000000) (hd : Dw d) :
    Calls Try.prog 40 #[.slice a len cap, dv d] w fun e w' => ∃ g, e = .returned (.slice (some ⟨g, 0, none⟩) (len + sz (zig d.1) + sz (zig d.2)) (len + sz (zig d.1) + sz (zig d.2))) ∧ w.heap.size ≤ g ∧ Row w' g (L ++ encd d) ∧ RowKit.Below w.heap.size w w' := by
  obtain ⟨d1, d2⟩ := d
  obtain ⟨⟨x0, x1⟩, y0, y1⟩ := dw_bounds hd
  simp only at x0 x1 y0 y1
  have hz1 := sz_le (zig d1)
  have hll : (L ++ enc (zig d1)).length = len + sz (zig d1) := by rw [List.length_append, hs.1, enc_length]
  have HLL := hid hll
  have hb : RowKit.Below w.heap.size w (w.alloc (.cells #[.int .i64 d1, .int .i64 d2] 23)) := (Below.refl _ w).alloc (Nat.le_refl _) _
  have hsW := hs.below hb
  obtain ⟨k0, k1⟩ := boxc (w := w) (x := d1) (y := d2) (B := w.heap.size + 1) (by omega) (Below.refl _ _)
  have hq : w.heap.size < (w.alloc (.cells #[.int .i64 d1, .int .i64 d2] 23)).heap.size := by simp
  go_enter Try.func40, Try.ntmps40
  go_wp2_with fail
  clear hs hll
  generalize (w.alloc (.cells #[.int .i64 d1, .int .i64 d2] 23)) = W0 at hb hsW k0 k1 hq ⊢
  obtain ⟨W, hWe⟩ : ∃ W, W = W0.drew := ⟨_, rfl⟩
  have bW : RowKit.Below W0.heap.size W0 W := by rw [hWe]; exact (Below.refl _ _).drew
  have c1 := int_any a len cap d1 L W0.drew (hsW.below ((Below.refl _ _).drew)) (by omega) x0 x1
  clear hWe bW W
  go_region_held (fun W => W.cell? ⟨w.heap.size, 0, none⟩ = some (.int .i64 d1) ∧ W.cell? ⟨w.heap.size, 1, none⟩ = some (.int .i64 d2))
    (first | exact ⟨by assumption, by assumption⟩ | go_keep)
    (first
      | (go_at_call 39; have hq2 := l1; refine (int_any (some ⟨W0.drew.heap.size, 0, none⟩) (len + sz (zig d1)) (len + sz (zig d1)) d2 (L ++ enc (zig d1)) w1 (r1.src _ HLL.out) (by omega) y0 y1).mono ?_; rintro e w2 ⟨rfl, r2, l2⟩; have n0 := (l2.cell (p := ⟨w.heap.size, 0, none⟩) (cell_in m0)).trans m0; have n1 := (l2.cell (p := ⟨w.heap.size, 1, none⟩) (cell_in m1)).trans m1)
      | (go_at_call 39; refine c1.mono ?_; rintro e w1 ⟨rfl, r1, l1⟩; have m0 := (l1.cell (p := ⟨w.heap.size, 0, none⟩) hq).trans k0; have m1 := (l1.cell (p := ⟨w.heap.size, 1, none⟩) hq).trans k1))
  all_goals
    go_wp2_with fail
    go_ret
    have bb1 : RowKit.Below w.heap.size w w1 := (hb.drew).trans (l1.mono (by have := hb.size; simpa using this))
    refine ⟨w1.heap.size, rfl, bb1.size, ?_, bb1.trans (l2.mono bb1.size)⟩
    show Row w2 w1.heap.size (L ++ (enc (zig d1) ++ enc (zig d2)))
    rw [← List.append_assoc]
    exact r2

theorem ones_u8 (L : List Int) : ∀ u ∈ L.map (Value.int .u8), u.oneCell' = true := by
  intro u hu
  obtain ⟨x, _, rfl⟩ := List.mem_map.1 hu
  rfl

theorem src_news {w : World} {g n : Nat} {L : List Int} (h : Src w (some ⟨g, 0, none⟩) n L) (hn : 0 < n) : ∀ j u, (L.map (Value.int .u8))[j]? = some u → w.cell? ((⟨g, 0, none⟩ : Addr).add j) = some u := by
  obtain ⟨ad, ha, hc⟩ := h.2 hn
  cases ha
  intro j u hj
  rw [List.getElem?_map, Option.map_eq_some_iff] at hj
  obtain ⟨x, hx, rfl⟩ := hj
  exact hc j x hx

set_option maxRecDepth 100000 in
set_option maxHeartbeats 4000000 in
theorem rput_any (d : Dt) (w : World) (hd : Dw d) : Calls Try.prog 44 #[dv d] w (Makes w (encd d)) := by
  obtain ⟨d1, d2⟩ := d
  obtain ⟨⟨x0, x1⟩, y0, y1⟩ := dw_bounds hd
  simp only at x0 x1 y0 y1
  obtain ⟨i0, hi, hi0, hi1, hi2⟩ := info_parts Try.info5
  have hz1 := sz_le (zig d1)
  have hz2 := sz_le (zig d2)
  have hp1 := sz_pos (zig d1)
  have hp2 := sz_pos (zig d2)
  have zr1 := zig_range d1 x0 x1
  have zr2 := zig_range d2 y0 y1
  have hb : RowKit.Below w.heap.size w (w.alloc (.cells #[.int .i64 d1, .int .i64 d2] 23)) := (Below.refl _ w).alloc (Nat.le_refl _) _
  obtain ⟨k0, k1⟩ := boxc (w := w) (x := d1) (y := d2) (B := w.heap.size + 1) (by omega) (Below.refl _ _)
  have hq : w.heap.size < (w.alloc (.cells #[.int .i64 d1, .int .i64 d2] 23)).heap.size := by simp
  go_enter Try.func44, Try.ntmps44
  go_wp2_with fail
  generalize (w.alloc (.cells #[.int .i64 d1, .int .i64 d2] 23)) = W0 at hb k0 k1 hq ⊢
  have c1 := rint_own d1 W0.drew x0 x1
  clear zr1 zr2
  go_region_held_law (fun W => W.cell? ⟨w.heap.size, 0, none⟩ = some (.int .i64 d1) ∧ W.cell? ⟨w.heap.size, 1, none⟩ = some (.int .i64 d2))
    (first | exact ⟨by assumption, by assumption⟩ | go_keep)
    (first
      | (refine step_append_lies _ rfl _ _ 32 rfl W0.heap.size 5 i0 (.int .u8 0) 1 1 Try.underlying32 hi hi0 hi1 hi2 rfl (by decide) (.slice (some ⟨g1, 0, none⟩) (sz (zig d1)) c1') (sz (zig d1)) _ rfl o1' ⟨g2, 0, none⟩ (sz (zig d2)) c2' ((enc (zig d2)).map (Value.int .u8)) rfl (by rw [List.length_map, enc_length]; omega) (src_news s2 hp2) (ones_u8 _) hp2 (by unfold maxLen; omega) (by omega) (Nat.le_trans l1.size l2.size) w2.heap.size rfl ?_; intro g3 c3 w3 o3 hg3 hat3 hlt3; have p0 := (hg3.cell_far ⟨w.heap.size, 0, none⟩ (cell_in n0) (hne1 _)).trans n0; have p1 := (hg3.cell_far ⟨w.heap.size, 1, none⟩ (cell_in n1) (hne1 _)).trans n1)
      | (go_at_call 45; have hq2 := l1; refine (rint_own d2 w1 y0 y1).mono ?_; rintro e w2 ⟨g2, c2', rfl, hg2, o2, s2, l2⟩; have n0 := (l2.cell (p := ⟨w.heap.size, 0, none⟩) (cell_in m0)).trans m0; have n1 := (l2.cell (p := ⟨w.heap.size, 1, none⟩) (cell_in m1)).trans m1; have o1' := own_below5 o1 l2)
      | (go_at_call 45; refine c1.mono ?_; rintro e w1 ⟨g1, c1', rfl, hg1, o1, s1, l1⟩; have hne1 : ∀ c, some w.heap.size ≠ (Value.slice (some ⟨g1, 0, none⟩) (sz (zig d1)) c).ownBlock := (fun c e => by have e2 : w.heap.size = g1 := (by simpa [Value.ownBlock] using e); have h1 : W0.heap.size ≤ g1 := hg1; omega); have m0 := (l1.cell (p := ⟨w.heap.size, 0, none⟩) hq).trans k0; have m1 := (l1.cell (p := ⟨w.heap.size, 1, none⟩) hq).trans k1))
  have b2' : RowKit.Below w.heap.size w w2 := below2' (below2' hb.drew l1) l2
  have hbg : w.heap.size ≤ g1 := Nat.le_trans hb.size hg1
  have b3 : RowKit.Below w.heap.size w w3 := b2'.grown hg3 b2'.size (fun j hj => by
    have : g1 = j := by simpa [Value.ownBlock] using hj
    omega)
  have hl : (encd (d1, d2)).length = sz (zig d1) + sz (zig d2) := by unfold encd; rw [List.length_append, enc_length, enc_length]
  have hg3b : w.heap.size ≤ g3 := by
    rcases hat3 with h | h
    · have : g1 = g3 := by simpa [Value.ownBlock] using h
      omega
    · rw [h]; exact b2'.size
  have hs3 : Src w3 (some ⟨g3, 0, none⟩) (sz (zig d1) + sz (zig d2)) (encd (d1, d2)) := owns_src (by
    unfold encd
    rw [List.map_append]
    exact o3)
  clear hat3 hg3 o3 o1' s2 s1 o1 o2 p0 p1 n0 n1 m0 m1 k0 k1
  change Exit.then _ _ Exit.normal { tmps := #[dv (d1, d2), .pointer (some ⟨w.heap.size, 0, none⟩), .slice (some ⟨g3, 0, none⟩) (sz (zig d1) + sz (zig d2)) c3, .pointer (some ⟨w.heap.size, 0, none⟩), .int .i64 d1, .slice (some ⟨g1, 0, none⟩) (sz (zig d1)) c1', .pointer (some ⟨w.heap.size, 1, none⟩), .int .i64 d2, .slice (some ⟨g2, 0, none⟩) (sz (zig d2)) c2', .slice (some ⟨g3, 0, none⟩) (sz (zig d1) + sz (zig d2)) c3], defers := [] } w3
  go_wp2_with fail
  go_ret
  exact ⟨g3, c3, by rw [hl]; rfl, hg3b, by rw [hl]; exact hs3, b3⟩

end Go.Proofs.Ythipadnghdodlaa
