/- The program's Split: all bodies, and where they end. -/
import Derived.Test.YtajopapcknnfoaaFSplit
import Derived.Maps.AppendAt
namespace Go.Proofs.Ytajopapcknnfoaa
open Go.RowKit Go.Shelf
attribute [local go_sem] Oper.semAt_some

theorem Try.info22 : (Try.prog.info? 22).map (fun i => (i.zero, i.size, i.bytes)) = some (some (.slice none 0 0), 1, 24) := by kernel_rfl

/-- What is owned stays owned where a block turns that is no cells. -/
theorem owns_kept {X Y : World} {row : Option Nat} {n e size k : Nat} {v : Value} {xs : List Value} (h : X.ownsRow n e size v k xs) (hg : X.grownBy Y row) (hr : ∀ r, row = some r → ∃ o : Obj, X.heap[r]? = some o ∧ o.isCells = false) : Y.ownsRow n e size v k xs := by
  refine h.kept hg ?_
  rcases h.2 with ⟨rfl, _⟩ | ⟨g, cap, cur, rfl, _, hgb, _⟩
  · exact .inl rfl
  · refine .inr fun e' => ?_
    obtain ⟨o, ho, hc⟩ := hr g (by simpa [Value.ownBlock] using e'.symm)
    rw [hgb] at ho; cases ho; cases hc
theorem boxed_kept {X Y : World} {row : Option Nat} {B t : Nat} {v : Value} (h : Boxed X B t v) (hg : X.grownBy Y row) (hr : ∀ r, row = some r → ∃ o : Obj, X.heap[r]? = some o ∧ o.isCells = false) : Boxed Y B t v := by
  refine h.kept hg (fun e' => ?_)
  obtain ⟨o, ho, hc⟩ := hr B e'.symm
  rw [show X.heap[B]? = _ from h] at ho; cases ho; cases hc
/-- What a row of one type owns stays, where a row of another type grows. -/
theorem owns_other {X Y : World} {n n' e e' size size' k k' : Nat} {v v' : Value} {xs xs' : List Value} (h : X.ownsRow n e size v k xs) (h' : X.ownsRow n' e' size' v' k' xs') (hne : e ≠ e') (hg : X.grownBy Y v'.ownBlock) : Y.ownsRow n e size v k xs := by
  refine h.kept hg ?_
  rcases h.2 with ⟨rfl, _⟩ | ⟨g, cap, cur, rfl, _, hgb, _⟩
  · exact .inl rfl
  · refine .inr fun eq => ?_
    rcases h'.2 with ⟨rfl, _⟩ | ⟨g', cap', cur', rfl, _, hgb', _⟩
    · simp [Value.ownBlock] at eq
    · have : g = g' := by simpa [Value.ownBlock] using eq
      subst this
      rw [hgb] at hgb'
      simp at hgb'
      exact hne hgb'.2

theorem grown_below {X Y : World} (hb : Below X.heap.size X Y) (row : Option Nat) : X.grownBy Y row := ⟨hb.os, hb.tape, hb.output, hb.size, fun k hk _ => hb.block k hk⟩
theorem owns_below {X Y : World} {n e size k : Nat} {v : Value} {xs : List Value} (h : X.ownsRow n e size v k xs) (hb : Below X.heap.size X Y) : Y.ownsRow n e size v k xs := owns_kept h (grown_below hb none) (fun _ h => by cases h)
theorem boxed_below {X Y : World} {B t : Nat} {v : Value} (h : Boxed X B t v) (hb : Below X.heap.size X Y) : Boxed Y B t v := boxed_kept h (grown_below hb none) (fun _ h => by cases h)

theorem owns_base {w : World} {B B' n : Nat} {v : Value} {xs : List Value} (h : w.ownsRow B 5 1 v n xs) (hB : B' ≤ B) : w.ownsRow B' 5 1 v n xs := by
  refine ⟨h.1, ?_⟩
  rcases h.2 with h | ⟨g, cap, cur, h1, h2, h3⟩
  · exact .inl h
  · exact .inr ⟨g, cap, cur, h1, Nat.le_trans hB h2, h3⟩
theorem tot_le {w : World} (xs : List (PA w)) : tot xs ≤ xs.length * 4194312 := by
  induction xs with
  | nil => simp [tot]
  | cons x xs ih =>
    have := x.2.2.2.2
    simp [tot] at ih ⊢; omega

/-- Slices that each own the bytes of a piece. -/
def Els {w : World} (W : World) (pre : List (PA w)) (Vs : List Value) : Prop := ∀ (i : Nat) (x : PA w) (u : Value), pre[i]? = some x → Vs[i]? = some u → W.ownsRow w.heap.size 5 1 u x.1.len (x.1.L.map (Value.int .u8))
/-- Between two rounds. -/
def Inv (w : World) (pre : List (PA w)) (W : World) : Prop :=
  (∃ v Vs, Boxed W w.heap.size 34 v ∧ W.ownsRow w.heap.size 22 1 v pre.length Vs ∧ Els W pre Vs) ∧ Boxed W (w.heap.size + 1) 3 (.int .i64 (tot pre)) ∧ Below w.heap.size w W
theorem inv_own (w : World) (B : Nat) (hB : w.heap.size ≤ B) : OwnFrom B (Inv w) := by
  rintro pre X Y row ⟨⟨v, Vs, h1, h2, h3⟩, h4, h5⟩ hg hr
  have hr' := fun r e => (hr r e).2
  exact ⟨⟨v, Vs, boxed_kept h1 hg hr', owns_kept h2 hg hr', fun i x u hx hu => owns_kept (h3 i x u hx hu) hg hr'⟩, boxed_kept h4 hg hr', ownFrom_below (β := Unit) (Nat.le_refl _) hB () X Y row h5 hg hr⟩

/-- Behind a round. -/
theorem inv_step {w W w3 : World} {pre : List (PA w)} {x : PA w} {v : Value} {Vs : List Value} (h1 : Boxed w3 w.heap.size 34 v) (h2 : w3.ownsRow w.heap.size 22 1 v (pre.length + 1) Vs) (h3 : Els w3 (pre ++ [x]) Vs) (h4 : Boxed w3 (w.heap.size + 1) 3 (.int .i64 (tot pre))) (h5 : KeepsOthers W w3) (h6 : Below w.heap.size W w3) (h7 : Below w.heap.size w W) (hl : pre.length < 1048576) :
    ∀ B : Nat, KeepsFrom B W (w3.setCell ⟨w.heap.size + 1, 0, none⟩ (.int .i64 (IntKind.i64.wrap (tot pre + (x.1.len + 8))))).drew ∧ Below w.heap.size W (w3.setCell ⟨w.heap.size + 1, 0, none⟩ (.int .i64 (IntKind.i64.wrap (tot pre + (x.1.len + 8))))).drew ∧ Inv w (pre ++ [x]) (w3.setCell ⟨w.heap.size + 1, 0, none⟩ (.int .i64 (IntKind.i64.wrap (tot pre + (x.1.len + 8))))).drew := by
  intro B
  have ht := tot_le pre
  have hx := x.2.2.2.2
  have e : IntKind.i64.wrap ((tot pre : Int) + (x.1.len + 8)) = ((tot (pre ++ [x]) : Nat) : Int) := by
    rw [tot_snoc]
    simp [IntKind.wrap, IntKind.bits, IntKind.signed]
    omega
  rw [e]
  have hg := grownBy_setCell' w3 (w.heap.size + 1) (.int .i64 ((tot (pre ++ [x]) : Nat) : Int))
  refine ⟨((h5.trans (KeepsOthers.setCell _ _ _)).trans (KeepsOthers.drew _)).from B, (h6.setCell (p := ⟨w.heap.size + 1, 0, none⟩) (Nat.le_succ _) _).drew, ⟨v, Vs, ?_, ?_, ?_⟩, ?_, ((h7.trans h6).setCell (p := ⟨w.heap.size + 1, 0, none⟩) (Nat.le_succ _) _).drew⟩
  · have h1' := h1.kept hg (by simp)
    exact h1'
  · have h2' := h2.kept hg (.inr (h4.not_row (by decide) h2).symm)
    rw [List.length_append]
    exact h2'
  · intro i y u hy hu
    have h3' := h3 i y u hy hu
    have h3'' := h3'.kept hg (.inr (h4.not_row (by decide) h3').symm)
    exact h3''
  · exact h4.set _

/-- An append whose run is known, in a region that draws its order. -/
theorem append_step {F : Fence} {n : Nat} {P : Program} {ops : Array Oper} {o : Oper} {a : Act} {w : World} {K : Act → World → Prop} {Q : Exit → Act → World → Prop} (s x : Operand) (t : TypeId) (v u v' : Value) (w' : World)
    (hgd : o.guard = none) (hop : o.op = Op.call { callee := Callee.builtin Builtin.append, args := #[s, x], argTypes := #[t, t] }) (hs : a.eval s = v) (hx : a.eval x = u)
    (hrun : (Builtin.append_ #[t, t] o.type #[v, u]).run P w = .ok v' w') (hK : K (a.put o.dst v') w') :
    if Region.wanted o (yielded ops a.tmps) = true then Oper.wpIn F n P o a w K Q else (∀ f, o.about P w a.eval = some f → F.fn f) ∧ K (a.put o.dst undef) w := by
  simp only [Region.wanted, hgd, if_true]
  unfold Oper.wpIn
  refine ⟨?_, ?_⟩
  · simp [Oper.about, hop, resolve, Target.leads, Sem.run_pure]
  · rw [Oper.semAt_plain F _ _ (by rw [hop]; intro c hc'; cases hc')]
    simp [execOp, hop, resolve, invoke, builtin, hs, hx, hrun, Result.andThen]
    exact hK

set_option maxRecDepth 100000 in
set_option maxHeartbeats 2000000 in
theorem split_in (a : Option Addr) (len cap : Nat) (L : List Int) (w : World) (hs : Src w a len L) (hb : Bts L) (hlc : len ≤ cap) (hm : len ≤ 1048576) :
    Calls Try.prog 16 #[.slice a len cap] w fun e w' => ∃ v xs, e = .returned (.tuple #[v, .int .i64 (spl L).2]) ∧ xs.map (fun x => x.1.L) = (spl L).1 ∧ (∃ Vs, w'.ownsRow w.heap.size 22 1 v xs.length Vs ∧ Els (w := w) w' xs Vs) ∧ Below w.heap.size w w' := by
  obtain ⟨xs, hwk, hxl, hxt⟩ := wk_any w len a len cap L hs hb hlc (Nat.le_refl _)
  have hle := spl_le len L (by rw [hs.1]; exact Nat.le_refl _) hb
  have htl := tot_len xs
  rw [hs.1] at hle
  obtain ⟨i0, hi, hz0, hz1, hz2⟩ := info_parts Try.info22
  refine (callsIn_wide (n := 3)).1 ?_
  refine callsIn_of_wp_marks Try.func16 rfl trivial ?_ rfl
  simp only [Try.ntmps16, List.size_toArray, List.length_cons, List.length_nil, Nat.reduceAdd, Nat.reduceSub, Array.replicate_succ, Array.replicate_zero, List.push_toArray, List.append_toArray, List.nil_append, List.cons_append]
  gi_wp2_with (refine ⟨trivial, ?_⟩; gi_at_call 25; refine (walk_in _ _ _ _ _).mono ?_; rintro e w' ⟨rfl, rfl⟩)
  have bO := Boxed.new w 34 (.slice none 0 0)
  have bA := Boxed.new (w.alloc (.cells #[.slice none 0 0] 34)) 3 (.int .i64 0)
  have bN := Boxed.new ((w.alloc (.cells #[.slice none 0 0] 34)).alloc (.cells #[.int .i64 0] 3)) 22 (.slice a len cap)
  rw [World.size_alloc] at bA
  rw [World.size_alloc, World.size_alloc] at bN
  have hB0 : Below w.heap.size w (((w.alloc (.cells #[.slice none 0 0] 34)).alloc (.cells #[.int .i64 0] 3)).alloc (.cells #[.slice a len cap] 22)) := (((Below.refl _ w).alloc (Nat.le_refl _) _).alloc (by simp) _).alloc (by simp; omega) _
  obtain ⟨W0, hW0⟩ : ∃ W0, (((w.alloc (.cells #[.slice none 0 0] 34)).alloc (.cells #[.int .i64 0] 3)).alloc (.cells #[.slice a len cap] 22)) = W0 := ⟨_, rfl⟩
  have hsz : W0.heap.size = w.heap.size + 3 := by rw [← hW0]; simp
  have bO' : Boxed W0 w.heap.size 34 (.slice none 0 0) := by rw [← hW0]; exact (bO.alloc _).alloc _
  have bA' : Boxed W0 (w.heap.size + 1) 3 (.int .i64 0) := by rw [← hW0]; exact bA.alloc _
  rw [hW0] at hB0 bN ⊢
  clear hW0 bO bA
  refine wpIn_rangeFunc_ownG (α := PA w) rfl (by omega) (gf := 27) (lb := #[.pointer (some ⟨w.heap.size + 1 + 1, 0, none⟩)]) rfl trivial (enters_of Try.func27 (by kernel_rfl) rfl)
    (walk_stops 2 (by omega) (w.heap.size + 1 + 1) w a len cap L xs (by omega) hs hb hlc hwk W0 hB0 (by omega) bN.cell) belowK_t (belowK_b (by omega)) (Below.refl _ _) (fun _ => rfl)
    (Inv w) (fun _ _ _ => False) (inv_own w _ (by omega)) (fun _ _ _ _ _ hs _ _ => hs)
    ⟨⟨_, [], bO', World.ownsRow_nil _ _ _ _, fun i x u hx _ => by simp at hx⟩, bA', hB0⟩
    (fun x => { tmps := #[.slice a len cap, undef, .slice none 0 0, .int .i64 0, .pointer (some ⟨w.heap.size, 0, none⟩), .pointer (some ⟨w.heap.size + 1, 0, none⟩), .slice x.1.a x.1.len x.1.cap, .slice a len cap, .func (.func 27) #[] #[.pointer (some ⟨w.heap.size + 1 + 1, 0, none⟩)], .slice x.1.a x.1.len x.1.cap, undef, undef, undef, undef, undef, undef, undef, undef, undef, undef, undef], defers := [] }) ?assign ?body ?done ?stop
  case assign =>
    intro l x W K hK
    gi_wp2
    exact hK
  case body =>
    rintro l pre x W ⟨⟨v, Vs, hv, hrow, hels⟩, hat, hB⟩ hlt
    have hmx : Try.prog.follows .mixedOrders = true := by kernel_rfl
    have hc := hv.cell
    have hvd : Boxed W.drew w.heap.size 34 v := hv
    have hrowd := hrow.drew
    have hsB := hB.size
    have hC := clone_any x.1.a x.1.len x.1.cap x.1.L W.drew (x.2.1.below hB.drew) x.2.2.2.1 (by have := x.2.2.2.2; omega)
    have hpl : pre.length < 1048576 := by omega
    have hC' : Calls Try.prog 23 #[.slice x.1.a x.1.len x.1.cap] W.drew fun e w1 => ∃ ua uc g' cap' w2, e = .returned (.slice ua x.1.len uc) ∧ w1.cell? ⟨w.heap.size, 0, none⟩ = some v ∧ (w1.alloc (.cells #[.slice ua x.1.len uc] 22)).cell? ⟨w.heap.size, 0, none⟩ = some v ∧
        (Builtin.append_ #[34, 34] 34 #[v, .slice (some ⟨w1.heap.size, 0, none⟩) 1 1]).run Try.prog (w1.alloc (.cells #[.slice ua x.1.len uc] 22)) = .ok (.slice (some ⟨g', 0, none⟩) (pre.length + 1) cap') w2 ∧
        w2.cell? ⟨w.heap.size, 0, none⟩ = some v ∧ w2.frozen? ⟨w.heap.size, 0, none⟩ = false ∧
        Hid (∃ w3, w3 = w2.setCell ⟨w.heap.size, 0, none⟩ (.slice (some ⟨g', 0, none⟩) (pre.length + 1) cap') ∧ Boxed w3 w.heap.size 34 (.slice (some ⟨g', 0, none⟩) (pre.length + 1) cap') ∧ w3.ownsRow w.heap.size 22 1 (.slice (some ⟨g', 0, none⟩) (pre.length + 1) cap') (pre.length + 1) (Vs ++ [.slice ua x.1.len uc]) ∧ Els w3 (pre ++ [x]) (Vs ++ [.slice ua x.1.len uc]) ∧ Boxed w3 (w.heap.size + 1) 3 (.int .i64 (tot pre)) ∧ KeepsOthers W w3 ∧ Below w.heap.size W w3) := by
      refine hC.mono ?_
      rintro e w1 ⟨u, rfl, hu, hb1⟩
      have hv1 : Boxed w1 w.heap.size 34 v := boxed_below hvd hb1
      have ho1 := owns_below hrowd hb1
      obtain ⟨ua, uc, rfl, _⟩ := owns_any hu
      have hs1 : w.heap.size ≤ w1.heap.size := Nat.le_trans hsB hb1.size
      obtain ⟨v', w2, hrun, hown', hgrow, _⟩ := run_append_own (P := Try.prog) (w1.alloc (.cells #[.slice ua x.1.len uc] 22)) w.heap.size 34 34 22 i0 (.slice none 0 0) 1 24 Try.underlying34 hi hz0 hz1 hz2 rfl (by decide) v pre.length Vs (ho1.alloc _) ⟨w1.heap.size, 0, none⟩ 1 1 [.slice ua x.1.len uc] rfl (cell_one_new _ _ _) (by simp [Value.oneCell']) (by unfold maxLen; omega) (by omega) (by simp; omega)
      obtain ⟨g', cap', rfl⟩ := ownsRow_succ hown'
      obtain ⟨hv2, hv3, hr2, hk2, hb2⟩ := hv1.appended (by decide) ho1 hs1 (Nat.le_refl _) hown' hgrow
      refine ⟨ua, uc, g', cap', w2, rfl, hv1.cell, (hv1.alloc _).cell, hrun, hv2.cell, hv2.frozen, _, rfl, hv3, hr2, ?_, ?_, ?_, ?_⟩
      · have step : ∀ u L n, w1.ownsRow w.heap.size 5 1 u n L → (w2.setCell ⟨w.heap.size, 0, none⟩ (.slice (some ⟨g', 0, none⟩) (pre.length + 1) cap')).ownsRow w.heap.size 5 1 u n L := by
          intro u L n h
          have h' := owns_other (h.alloc (.cells #[.slice ua x.1.len uc] 22)) (ho1.alloc (.cells #[.slice ua x.1.len uc] 22)) (by decide) hgrow
          exact h'.kept (grownBy_setCell' w2 _ _) (.inr (hv2.not_row (by decide) h').symm)
        have hVl : Vs.length = pre.length := by have := hrow.1; omega
        intro i y u' hy hu'
        by_cases hi1 : i < pre.length
        · rw [List.getElem?_append_left hi1] at hy
          rw [List.getElem?_append_left (by omega)] at hu'
          exact step _ _ _ (owns_below (X := W.drew) (hels i y u' hy hu').drew hb1)
        · have hi2 : i = pre.length := by
            rcases Nat.lt_or_ge i (pre ++ [x]).length with h | h
            · rw [List.length_append, List.length_singleton] at h; omega
            · rw [List.getElem?_eq_none h] at hy; simp at hy
          subst hi2
          rw [List.getElem?_append_right (Nat.le_refl _), Nat.sub_self] at hy
          rw [List.getElem?_append_right (by omega), hVl, Nat.sub_self] at hu'
          simp at hy hu'
          subst hy hu'
          exact step _ _ _ (owns_base hu hsB)
      · have h1 : Boxed w1 (w.heap.size + 1) 3 (.int .i64 (tot pre)) := boxed_below (X := W.drew) hat hb1
        have h2 := (h1.alloc (.cells #[.slice ua x.1.len uc] 22)).kept hgrow ((h1.alloc (.cells #[.slice ua x.1.len uc] 22)).not_row (by decide) (ho1.alloc (.cells #[.slice ua x.1.len uc] 22)))
        exact h2.kept (grownBy_setCell' w2 _ _) (by simp)
      · exact ((KeepsOthers.drew W).trans (KeepsOthers.of_grownBy (grown_below hb1 none) (fun _ _ h => by cases h))).trans hk2
      · exact ((Below.refl w.heap.size W).drew.trans (hb1.mono hsB)).trans hb2
    clear hC
    gi_wp2
    refine wpIn_region_any hmx ?_
    change wpAnyIn _ _ _ _ _ _ _ _ _ (World.drew _)
    refine wpAnyIn_ready (rs := [0, 1]) (by kernel_rfl) (by simp) ?_
    refine AllReadyIn.cons rfl (fun K hK => ?_) ?_
    · go_simp
      refine hK _ _ ?_
      clear hK K
      refine wpAnyIn_ready (rs := [1]) (by kernel_rfl) (by simp) ?_
      refine AllReadyIn.cons rfl (fun K hK => ?_) AllReadyIn.nil
      go_simp
      refine hK _ _ ?_
      clear hK K
      refine wpAnyIn_ready (rs := [2]) (by kernel_rfl) (by simp) ?_
      refine AllReadyIn.cons rfl (fun K hK => ?_) AllReadyIn.nil
      go_simp
      refine ⟨trivial, ?_⟩
      refine (CallsIn.inRound l (callsIn_wide.2 hC')).mono ?_
      rintro e w1 ⟨ua, uc, g', cap', w2, rfl, hc1, hcx, hrun, hc2, hf2, hfin⟩
      refine hK _ _ ?_
      clear hK K
      refine wpAnyIn_ready (rs := [3]) (by kernel_rfl) (by simp) ?_
      refine AllReadyIn.cons rfl (fun K hK => ?_) AllReadyIn.nil
      go_simp
      refine hK _ _ ?_
      clear hK K
      refine wpAnyIn_ready (rs := [4]) (by kernel_rfl) (by simp) ?_
      refine AllReadyIn.cons rfl (fun K hK => ?_) AllReadyIn.nil
      refine append_step _ _ 34 v _ _ w2 rfl rfl rfl rfl hrun ?_
      refine hK _ _ ?_
      clear hK K
      refine wpAnyIn_ready (rs := [5]) (by kernel_rfl) (by simp) ?_
      refine AllReadyIn.cons rfl (fun K hK => ?_) AllReadyIn.nil
      go_simp
      refine hK _ _ ?_
      clear hK K
      refine wpAnyIn_done (by kernel_rfl) ?_ _
      obtain ⟨w3, e3, hv3, hr3, hel3, hat3, hk3, hb3⟩ := hfin.out
      rw [← e3]
      clear e3 hfin hrun hc2 hf2 hcx hc1 hC'
      have ha3 := hat3.cell
      have hf3 := hat3.frozen
      have hfin := hid (inv_step hv3 hr3 hel3 hat3 hk3 hb3 hB hpl)
      clear hv3 hr3 hel3 hat3 hk3 hb3
      gi_wp2
      gi_region_with_o (refine ⟨trivial, ?_⟩; gi_at_call 19; refine (CallsIn.inRound l (callsIn_wide.2 (size_any x.1.a x.1.len x.1.cap _ (by omega)))).mono ?_; rintro e w' ⟨rfl, rfl⟩)
      all_goals gi_wp2
      all_goals exact hfin.out _
    · refine AllReadyIn.cons rfl (fun K hK => ?_) AllReadyIn.nil
      go_simp
      refine hK _ _ ?_
      clear hK K
      refine wpAnyIn_ready (rs := [0, 2]) (by kernel_rfl) (by simp) ?_
      refine AllReadyIn.cons rfl (fun K hK => ?_) ?_
      · go_simp
        refine hK _ _ ?_
        clear hK K
        refine wpAnyIn_ready (rs := [2]) (by kernel_rfl) (by simp) ?_
        refine AllReadyIn.cons rfl (fun K hK => ?_) AllReadyIn.nil
        go_simp
        refine ⟨trivial, ?_⟩
        refine (CallsIn.inRound l (callsIn_wide.2 hC')).mono ?_
        rintro e w1 ⟨ua, uc, g', cap', w2, rfl, hc1, hcx, hrun, hc2, hf2, hfin⟩
        refine hK _ _ ?_
        clear hK K
        refine wpAnyIn_ready (rs := [3]) (by kernel_rfl) (by simp) ?_
        refine AllReadyIn.cons rfl (fun K hK => ?_) AllReadyIn.nil
        go_simp
        refine hK _ _ ?_
        clear hK K
        refine wpAnyIn_ready (rs := [4]) (by kernel_rfl) (by simp) ?_
        refine AllReadyIn.cons rfl (fun K hK => ?_) AllReadyIn.nil
        refine append_step _ _ 34 v _ _ w2 rfl rfl rfl rfl hrun ?_
        refine hK _ _ ?_
        clear hK K
        refine wpAnyIn_ready (rs := [5]) (by kernel_rfl) (by simp) ?_
        refine AllReadyIn.cons rfl (fun K hK => ?_) AllReadyIn.nil
        go_simp
        refine hK _ _ ?_
        clear hK K
        refine wpAnyIn_done (by kernel_rfl) ?_ _
        obtain ⟨w3, e3, hv3, hr3, hel3, hat3, hk3, hb3⟩ := hfin.out
        rw [← e3]
        clear e3 hfin hrun hc2 hf2 hcx hc1 hC'
        have ha3 := hat3.cell
        have hf3 := hat3.frozen
        have hfin := hid (inv_step hv3 hr3 hel3 hat3 hk3 hb3 hB hpl)
        clear hv3 hr3 hel3 hat3 hk3 hb3
        gi_wp2
        gi_region_with_o (refine ⟨trivial, ?_⟩; gi_at_call 19; refine (CallsIn.inRound l (callsIn_wide.2 (size_any x.1.a x.1.len x.1.cap _ (by omega)))).mono ?_; rintro e w' ⟨rfl, rfl⟩)
        all_goals gi_wp2
        all_goals exact hfin.out _
      · refine AllReadyIn.cons rfl (fun K hK => ?_) AllReadyIn.nil
        go_simp
        refine ⟨trivial, ?_⟩
        refine (CallsIn.inRound l (callsIn_wide.2 hC')).mono ?_
        rintro e w1 ⟨ua, uc, g', cap', w2, rfl, hc1, hcx, hrun, hc2, hf2, hfin⟩
        refine hK _ _ ?_
        clear hK K
        refine wpAnyIn_ready (rs := [0, 3]) (by kernel_rfl) (by simp) ?_
        refine AllReadyIn.cons rfl (fun K hK => ?_) ?_
        · go_simp
          refine hK _ _ ?_
          clear hK K
          refine wpAnyIn_ready (rs := [3]) (by kernel_rfl) (by simp) ?_
          refine AllReadyIn.cons rfl (fun K hK => ?_) AllReadyIn.nil
          go_simp
          refine hK _ _ ?_
          clear hK K
          refine wpAnyIn_ready (rs := [4]) (by kernel_rfl) (by simp) ?_
          refine AllReadyIn.cons rfl (fun K hK => ?_) AllReadyIn.nil
          refine append_step _ _ 34 v _ _ w2 rfl rfl rfl rfl hrun ?_
          refine hK _ _ ?_
          clear hK K
          refine wpAnyIn_ready (rs := [5]) (by kernel_rfl) (by simp) ?_
          refine AllReadyIn.cons rfl (fun K hK => ?_) AllReadyIn.nil
          go_simp
          refine hK _ _ ?_
          clear hK K
          refine wpAnyIn_done (by kernel_rfl) ?_ _
          obtain ⟨w3, e3, hv3, hr3, hel3, hat3, hk3, hb3⟩ := hfin.out
          rw [← e3]
          clear e3 hfin hrun hc2 hf2 hcx hc1 hC'
          have ha3 := hat3.cell
          have hf3 := hat3.frozen
          have hfin := hid (inv_step hv3 hr3 hel3 hat3 hk3 hb3 hB hpl)
          clear hv3 hr3 hel3 hat3 hk3 hb3
          gi_wp2
          gi_region_with_o (refine ⟨trivial, ?_⟩; gi_at_call 19; refine (CallsIn.inRound l (callsIn_wide.2 (size_any x.1.a x.1.len x.1.cap _ (by omega)))).mono ?_; rintro e w' ⟨rfl, rfl⟩)
          all_goals gi_wp2
          all_goals exact hfin.out _
        · refine AllReadyIn.cons rfl (fun K hK => ?_) AllReadyIn.nil
          go_simp
          refine hK _ _ ?_
          clear hK K
          refine wpAnyIn_ready (rs := [0]) (by kernel_rfl) (by simp) ?_
          refine AllReadyIn.cons rfl (fun K hK => ?_) AllReadyIn.nil
          go_simp
          refine hK _ _ ?_
          clear hK K
          refine wpAnyIn_ready (rs := [4]) (by kernel_rfl) (by simp) ?_
          refine AllReadyIn.cons rfl (fun K hK => ?_) AllReadyIn.nil
          refine append_step _ _ 34 v _ _ w2 rfl rfl rfl rfl hrun ?_
          refine hK _ _ ?_
          clear hK K
          refine wpAnyIn_ready (rs := [5]) (by kernel_rfl) (by simp) ?_
          refine AllReadyIn.cons rfl (fun K hK => ?_) AllReadyIn.nil
          go_simp
          refine hK _ _ ?_
          clear hK K
          refine wpAnyIn_done (by kernel_rfl) ?_ _
          obtain ⟨w3, e3, hv3, hr3, hel3, hat3, hk3, hb3⟩ := hfin.out
          rw [← e3]
          clear e3 hfin hrun hc2 hf2 hcx hc1 hC'
          have ha3 := hat3.cell
          have hf3 := hat3.frozen
          have hfin := hid (inv_step hv3 hr3 hel3 hat3 hk3 hb3 hB hpl)
          clear hv3 hr3 hel3 hat3 hk3 hb3
          gi_wp2
          gi_region_with_o (refine ⟨trivial, ?_⟩; gi_at_call 19; refine (CallsIn.inRound l (callsIn_wide.2 (size_any x.1.a x.1.len x.1.cap _ (by omega)))).mono ?_; rintro e w' ⟨rfl, rfl⟩)
          all_goals gi_wp2
          all_goals exact hfin.out _
  case done =>
    rintro D ys W hD rfl ⟨⟨v, Vs, hv, hrow, hels⟩, hat, hB⟩ hK
    have hc := hv.cell
    have hc2 := hat.cell
    have hmx : Try.prog.follows .mixedOrders = true := by kernel_rfl
    have hK' : W.drew.heap[D]? = some (.deferred (some [])) := hK
    have hfin : Hid (((W.drew.putObj D (.deferred none)).ownsRow w.heap.size 22 1 v ys.length Vs) ∧ Els (W.drew.putObj D (.deferred none)) ys Vs ∧ Below w.heap.size w (W.drew.putObj D (.deferred none))) :=
      ⟨ownsRow_putObj hrow.drew _ hK' rfl, fun i x u hx hu => ownsRow_putObj (hels i x u hx hu).drew _ hK' rfl, hB.drew.trans (belowK_b (w := w) (Nat.le_refl _) W.drew D _ _ (by omega) hK' rfl rfl)⟩
    rw [hxt] at hc2
    clear hv hrow hels hat hB hK
    gi_wp2
    gi_region
    gi_wp2
    refine ⟨by simp, .inl ⟨_, _, rfl, run_takeDeferred hK', ?_⟩⟩
    exact ⟨_, results_tmp2 rfl _ _ _, v, ys, rfl, hxl, ⟨Vs, hfin.out.1, hfin.out.2.1⟩, hfin.out.2.2⟩
  case stop =>
    rintro D c pre W _ _ h _
    exact h.elim

/-- A slice of slices of bytes: what it leads to. -/
def BSrc (w : World) (a : Option Addr) (n : Nat) (R : List (List Int)) : Prop :=
  R.length = n ∧ (0 < n → ∃ g off, a = some ⟨g, off, none⟩ ∧ ∀ i, i < n → ∃ ai ci, w.cell? ⟨g, off + i, none⟩ = some (.slice ai (R[i]?.getD []).length ci) ∧ Src w ai (R[i]?.getD []).length (R[i]?.getD []) ∧ (R[i]?.getD []).length ≤ ci ∧ (ai = none → (R[i]?.getD []).length = 0 ∧ ci = 0))
theorem BSrc.below {w w' : World} {a : Option Addr} {n : Nat} {R : List (List Int)} (h : BSrc w a n R) (hb : Below w.heap.size w w') : BSrc w' a n R := by
  refine ⟨h.1, fun hp => ?_⟩
  obtain ⟨g, off, ha, hc⟩ := h.2 hp
  refine ⟨g, off, ha, fun i hi => ?_⟩
  obtain ⟨ai, ci, h1, h2, h3⟩ := hc i hi
  exact ⟨ai, ci, by rw [hb.cell (cell_block h1)]; exact h1, h2.below hb, h3⟩

theorem split_any (a : Option Addr) (len cap : Nat) (L : List Int) (w : World) (hs : Src w a len L) (hb : Bts L) (hlc : len ≤ cap) (hm : len ≤ 1048576) :
    Calls Try.prog 16 #[.slice a len cap] w fun e w' => ∃ a' c', e = .returned (.tuple #[.slice a' (spl L).1.length c', .int .i64 (spl L).2]) ∧ BSrc w' a' (spl L).1.length (spl L).1 ∧ Below w.heap.size w w' := by
  refine (split_in a len cap L w hs hb hlc hm).mono ?_
  rintro e w' ⟨v, xs, rfl, hx, ⟨Vs, ho, hel⟩, hbel⟩
  have hln : xs.length = (spl L).1.length := by rw [← hx, List.length_map]
  rw [hln] at ho
  have hVl : Vs.length = (spl L).1.length := by have := ho.1; omega
  have els : ∀ i, i < (spl L).1.length → ∃ ai ci, Vs[i]? = some (.slice ai ((spl L).1[i]?.getD []).length ci) ∧ Src w' ai ((spl L).1[i]?.getD []).length ((spl L).1[i]?.getD []) ∧ ((spl L).1[i]?.getD []).length ≤ ci ∧ (ai = none → ((spl L).1[i]?.getD []).length = 0 ∧ ci = 0) := by
    intro i hi
    have h1 : xs[i]? = some (xs[i]'(by omega)) := List.getElem?_eq_getElem _
    have h2 : Vs[i]? = some (Vs[i]'(by omega)) := List.getElem?_eq_getElem _
    have h3 := hel i _ _ h1 h2
    have h4 : (spl L).1[i]?.getD [] = (xs[i]'(by omega)).1.L := by rw [← hx, List.getElem?_map, h1]; rfl
    have h5 : (xs[i]'(by omega)).1.len = (xs[i]'(by omega)).1.L.length := (xs[i]'(by omega)).2.1.1.symm
    rw [h5] at h3
    obtain ⟨ai, ci, e1, e2, _, e4, e5⟩ := owns_any h3
    rw [h4, h2, e1]
    exact ⟨ai, ci, rfl, e5, e2, e4⟩
  rcases ho.2 with ⟨rfl, h0⟩ | ⟨g, cap', cur, rfl, hB, hg, hn, hc, hcs, ht⟩
  · refine ⟨none, 0, by rw [h0], ⟨rfl, fun hp => absurd hp (by omega)⟩, hbel⟩
  · refine ⟨_, cap', rfl, ⟨rfl, fun _ => ⟨g, 0, rfl, fun i hi => ?_⟩⟩, hbel⟩
    obtain ⟨ai, ci, h1, h2⟩ := els i hi
    refine ⟨ai, ci, ?_, h2⟩
    have := ho.cellAt i (by omega)
    rw [h1] at this
    rw [Nat.zero_add]
    exact this
end Go.Proofs.Ytajopapcknnfoaa
