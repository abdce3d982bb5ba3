/- CausalReady: the walk. -/
import Derived.Test.YtoapblojoblhiaaCArg
namespace Go.Proofs.Ytoapblojoblhiaa
open Go.RowKit
open Go.Sort (grow)

set_option maxRecDepth 100000 in
set_option maxHeartbeats 4000000 in
theorem ready_walk (a : Option Addr) (n c : Nat) (L : List Dt) (o : OpIn) (xa : Option Addr) (xn xc : Nat) (D : List Dt) (w : World) (hs : PS w a n c L) (hx : PS w xa xn xc D) (hk : o.key.size ≤ maxLen) (hAw : AwakeSays) :
    Calls Try.prog 3 #[.slice a n c, ov o (.slice xa xn xc)] w fun e w' => e = .returned (.bool true) ∧ RowKit.Below w.heap.size w w' := by
  have hF := (Far.refl w).alloc (.cells (o.cells (.slice xa xn xc)) 27)
  have hA := (MapKept.heap_alloc w (.cells (o.cells (.slice xa xn xc)) 27)).1
  have hmx : xn ≤ maxLen := Nat.le_trans hx.cap hx.max
  unfold maxLen at hmx
  have hU := hAw (w.alloc (.cells (o.cells (.slice xa xn xc)) 27))
  go_enter Try.func3, Try.ntmps3
  go_upto_region 5 with (first
    | (go_at_call 6; refine (made_any (hs.below B1)).mono ?_; rintro e w2 ⟨a2, c2, rfl, hp2, hB2⟩)
    | (go_at_call 5; refine hU.mono ?_; rintro e w1 ⟨rfl, hB1⟩; have B1 : RowKit.Below w.heap.size w w1 := below2 hF.below hB1))
  have B2 := below2 B1 hB2
  have hq : w2.heap[w.heap.size]? = some (.cells (o.cells (.slice xa xn xc)) 27) := by
    have h0 : w.heap.size < (w.alloc (.cells (o.cells (.slice xa xn xc)) 27)).heap.size := by simp
    have h1 := (hB1.block w.heap.size h0).trans hA
    exact (hB2.block w.heap.size (Nat.lt_of_lt_of_le h0 hB1.size)).trans h1
  have hql : w.heap.size < w2.heap.size := (Array.getElem?_eq_some_iff.1 hq).1
  have hO : ∀ p : Wb w2, OpAt p.u w.heap.size o (.slice xa xn xc) := fun p => opAt_of_block ((p.h.block _ hql).trans hq)
  have hl2 := made_length L
  have hvm := made_vm L
  have kR : xn ≤ 200 → ∀ p : Wb w2, Calls Try.prog 7 #[.slice a2 (made L).length c2, ov o (.slice xa xn xc)] p.u fun e w'' => e = .returned (.int .i64 (rdyE (made L) o D)) ∧ ∃ p' : Wb w2, w'' = p'.u := fun h p =>
    far_q (ready_any a2 _ c2 (made L) o xa xn xc D p.u (hp2.below p.h) hvm (by omega) ((hx.below B2).below p.h) (by omega) hk)
  have kS : xn ≤ 200 → ∀ p : Wb w2, Calls Try.prog 8 #[.slice a2 (made L).length c2, ov o (.slice xa xn xc)] p.u fun e w'' => e = .returned (.int .i64 (rdyE (made L) o D)) ∧ ∃ p' : Wb w2, w'' = p'.u := fun h p =>
    far_q (rready_any a2 _ c2 (made L) o xa xn xc D p.u (hp2.below p.h) (by omega) ((hx.below B2).below p.h) (by omega) hk)
  have HB2 := hid B2
  clear hF hA hU hs hx hp2 hB1 hB2 B1 B2 hq hql hvm
  generalize rdyE (made L) o D = r at kR kS
  generalize (made L).length = m2 at *
  haveI : Nonempty (Wb w2) := ⟨⟨w2, Below.refl _ _⟩⟩
  by_cases hn : xn ≤ 200
  · have hb : decide ((200 : Int) < (xn : Int)) = false := by simp; omega
    have kR1 := kR hn
    have kS1 := kS hn
    clear kR kS
    have a0 := fun p => (hO p).c0
    have a1 := fun p => (hO p).c1
    have a2 := fun p => (hO p).c2
    have a3 := fun p => (hO p).c3
    have a4 := fun p => (hO p).c4
    have a5 := fun p => (hO p).c5
    have a6 := fun p => (hO p).c6
    have a7 := fun p => (hO p).c7
    have a8 := fun p => (hO p).c8
    have a9 := fun p => (hO p).c9
    have a10 := fun p => (hO p).c10
    have a11 := fun p => (hO p).c11
    have a12 := fun p => (hO p).c12
    have a13 := fun p => (hO p).c13
    have br : (r == r) = true := by simp
    clear hO
    go_wp2_with fail
    refine wp_region_below mixed (by kernel_rfl) ?_
    repeat (go_big_quiet_step ((first | (go_at_call 7; exact kR1 _) | (go_at_call 8; exact kS1 _))))
    refine wpQuiet_nil ?_
    intro _ hw'
    obtain ⟨p, hw''⟩ := hw'
    subst hw''
    go_wp2
    go_ret
    exact ⟨rfl, below2 HB2.out p.h⟩
  · have hb : decide ((200 : Int) < (xn : Int)) = true := by simp; omega
    have a3 := fun p => (hO p).c3
    clear kR kS hO
    go_wp2_with fail
    refine wp_region_below mixed (by kernel_rfl) ?_
    repeat (go_big_quiet_step (fail))
    refine wpQuiet_nil ?_
    intro _ hw'
    obtain ⟨p, hw''⟩ := hw'
    subst hw''
    go_wp2
    go_ret
    exact ⟨rfl, below2 HB2.out p.h⟩
end Go.Proofs.Ytoapblojoblhiaa
