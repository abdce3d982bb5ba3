/- Same of the reference: what it tells. -/
import Derived.Test.YtlncokkpdkddlaaGreatOLess
namespace Go.Proofs.YtlncokkpdkddlaaGreat
open Go.RowKit
open Go.Sort (grow)

set_option maxRecDepth 100000 in
set_option maxHeartbeats 8000000 in
theorem rsame7_any (o p : OpIn) (a a' : Option Addr) (n c n' c' : Nat) (V U : List Dt) (w : World) (hs : PS w a n c V) (hs' : PS w a' n' c' U) (hn : n ≤ 9223372036854775807) (hn' : n' ≤ 9223372036854775807) : Tells 27 #[ov o (.slice a n c), ov p (.slice a' n' c')] w (.bool (so o p V U)) := by
  obtain ⟨hA, hB, hF⟩ := two_ops w o p (.slice a n c) (.slice a' n' c')
  have hS := rsame_any (hs.far hF) hn (hs'.far hF) hn'
  have hb : Hid (so o p V U = ((o.id0 == p.id0) && (o.id1 == p.id1) && (o.time == p.time) && decide (V = U) && (o.kind == p.kind) && (o.bl0 == p.bl0) && (o.bl1 == p.bl1) && (o.at0 == p.at0) && (o.at1 == p.at1) && (o.side == p.side) && (o.char == p.char) && (o.pa0 == p.pa0) && (o.pa1 == p.pa1) && (o.key.toList == p.key.toList))) := hid rfl
  generalize decide (V = U) = r at hS hb
  clear hs hs' hn hn'
  have E3 := hA.c3
  have G3 := hB.c3
  go_enter Tryz.func27, Tryz.ntmps27
  go_wp2_with (first
    | (go_at_call 51; refine hS.mono ?_; rintro e w1 ⟨rfl, hF1⟩; have hA1 := hA.far hF1; have hB1 := hB.far hF1; have F1 := hF.trans hF1; clear hA hB hS hF hF1 E3 G3; have e0 := hA1.c0; have e1 := hA1.c1; have e2 := hA1.c2; have e3 := hA1.c3; have e4 := hA1.c4; have e5 := hA1.c5; have e6 := hA1.c6; have e7 := hA1.c7; have e8 := hA1.c8; have e9 := hA1.c9; have e10 := hA1.c10; have e11 := hA1.c11; have e12 := hA1.c12; have e13 := hA1.c13; have g0 := hB1.c0; have g1 := hB1.c1; have g2 := hB1.c2; have g3 := hB1.c3; have g4 := hB1.c4; have g5 := hB1.c5; have g6 := hB1.c6; have g7 := hB1.c7; have g8 := hB1.c8; have g9 := hB1.c9; have g10 := hB1.c10; have g11 := hB1.c11; have g12 := hB1.c12; have g13 := hB1.c13))
  all_goals go_ret
  all_goals (refine ⟨?_, F1⟩; have hb := hb.out; rw [hb]; simp_all)
end Go.Proofs.YtlncokkpdkddlaaGreat
