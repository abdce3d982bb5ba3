/- Two calls of which either may come first. -/
import Derived.Test.YtbpepmajpojacaaVBase
import Derived.Deep.RegionHeld
namespace Go.Proofs.Ytbpepmajpojacaa
open Go.RowKit

theorem wpAnyH_two {P : Program} {ops : Array Oper} {Q : Exit → Act → World → Prop} {md : Region.Mode} {S : World → Prop} {i j : Nat} {oi oj : Oper} {fuel : Nat} {listed : Array Bool} {a : Act} {w : World} (hoi : ops[i]? = some oi) (hoj : ops[j]? = some oj)
    (hr : Region.ready md ops listed = [i, j]) (hri : Region.ready md ops (listed.setIfInBounds i true) = [j]) (hrj : Region.ready md ops (listed.setIfInBounds j true) = [i]) (hij : j ≠ i)
    (hpc : ∀ u v, (a.put oi.dst v).put oj.dst u = (a.put oj.dst u).put oi.dst v)
    (Fi Fj : Value → World → Prop) (mi : ∀ v w w', Fi v w → Below w.heap.size w w' → Fi v w') (mj : ∀ v w w', Fj v w → Below w.heap.size w w' → Fj v w') (mS : ∀ w w', S w → Below w.heap.size w w' → S w') (hS : S w)
    (hi : ∀ w', Below w.heap.size w w' → S w' → ∀ K : Act → World → Prop, Shut (∀ b v w'', b = (a.put oi.dst v) → Fi v w'' → Below w'.heap.size w' w'' → K b w'') → if Region.wanted oi (yielded ops a.tmps) = true then Oper.wp P oi a w' K Q else K (a.put oi.dst undef) w')
    (hj : ∀ w', Below w.heap.size w w' → S w' → ∀ K : Act → World → Prop, Shut (∀ b v w'', b = (a.put oj.dst v) → Fj v w'' → Below w'.heap.size w' w'' → K b w'') → if Region.wanted oj (yielded ops a.tmps) = true then Oper.wp P oj a w' K Q else K (a.put oj.dst undef) w')
    (hi' : ∀ u w', Below w.heap.size w w' → S w' → ∀ K : Act → World → Prop, Shut (∀ b v w'', b = ((a.put oj.dst u).put oi.dst v) → Fi v w'' → Below w'.heap.size w' w'' → K b w'') → if Region.wanted oi (yielded ops (a.put oj.dst u).tmps) = true then Oper.wp P oi (a.put oj.dst u) w' K Q else K ((a.put oj.dst u).put oi.dst undef) w')
    (hj' : ∀ u w', Below w.heap.size w w' → S w' → ∀ K : Act → World → Prop, Shut (∀ b v w'', b = ((a.put oi.dst u).put oj.dst v) → Fj v w'' → Below w'.heap.size w' w'' → K b w'') → if Region.wanted oj (yielded ops (a.put oi.dst u).tmps) = true then Oper.wp P oj (a.put oi.dst u) w' K Q else K ((a.put oi.dst u).put oj.dst undef) w')
    (h : ∀ u v w', Fi u w' → Fj v w' → Below w.heap.size w w' → S w' → wpAnyH P md ops Q S fuel ((listed.setIfInBounds i true).setIfInBounds j true) ((a.put oi.dst u).put oj.dst v) w') : wpAnyH P md ops Q S (fuel + 1 + 1) listed a w := by
  refine wpAnyH_ready hr (by simp) ?_
  refine AllReadyH.cons hoi (fun K hK => ?_) (AllReadyH.cons hoj (fun K hK => ?_) AllReadyH.nil)
  · refine hi w (Below.refl _ _) hS K (fun b u w1 hb h1 b1 => hb ▸ hK.out _ _ (mS _ _ hS b1) (fun hS1 => ?_))
    refine wpAnyH_ready hri (by simp) ?_
    refine AllReadyH.cons hoj (fun K hK => ?_) AllReadyH.nil
    refine hj' u w1 b1 hS1 K (fun b v w2 hb h2 b2 => hb ▸ hK.out _ _ (mS _ _ hS1 b2) (fun hS2 => ?_))
    exact h u v w2 (mi _ _ _ h1 b2) h2 (b1.trans (b2.mono b1.size)) hS2
  · refine hj w (Below.refl _ _) hS K (fun b v w1 hb h1 b1 => hb ▸ hK.out _ _ (mS _ _ hS b1) (fun hS1 => ?_))
    refine wpAnyH_ready hrj (by simp) ?_
    refine AllReadyH.cons hoi (fun K hK => ?_) AllReadyH.nil
    refine hi' v w1 b1 hS1 K (fun b u w2 hb h2 b2 => hb ▸ hK.out _ _ (mS _ _ hS1 b2) (fun hS2 => ?_))
    rw [Array.setIfInBounds_comm _ _ hij, ← hpc]
    exact h u v w2 h2 (mj _ _ _ h1 b2) (b1.trans (b2.mono b1.size)) hS2
end Go.Proofs.Ytbpepmajpojacaa
