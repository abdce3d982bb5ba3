/- A log is opened. -/
import Derived.Test.YtegikicpffoglaaFSplit
import Derived.Maps.AppendAt
import Derived.Test.YtegikicpffoglaaFSum
import Derived.Lib.SlBytesConst
namespace Go.Proofs.Ytegikicpffoglaa
section
open Go.RowKit Go.Shelf
attribute [local go_sem] Oper.semAt_some

theorem Try.info22 : (Try.prog.info? 22).map (fun i => (i.zero, i.size, i.bytes)) = some (some (.slice none 0 0), 1, 24) := by kernel_rfl

/-- What is owned stays owned where a block turns that is no cells. -/
theorem owns_kept {X Y : World} {row : Option Nat} {n e size k : Nat} {v : Value} {xs : List Value} (h : X.ownsRow n e size v k xs) (hg : X.grownBy Y row) (hr : ∀ r, row = some r → ∃ o : Obj, X.heap[r]? = some o ∧ o.isCells = false) : Y.ownsRow n e size v k xs := by
  refine h.kept hg ?_
  rcases h.2 with ⟨rfl, _⟩ | ⟨g, cap, cur, rfl, _, hgb, _⟩
  · exact .inl rfl
  · refine .inr fun e' => ?_
    obtain ⟨o, ho, hc⟩ := hr g (by simpa [Value.ownBlock] using e'.symm)
    rw [hgb] at ho; cases ho; cases hc
theorem boxed_kept {X Y : World} {row : Option Nat} {B t : Nat} {v : Value} (h : Boxed X B t v) (hg : X.grownBy Y row) (hr : ∀ r, row = some r → ∃ o : Obj, X.heap[r]? = some o ∧ o.isCells = false) : Boxed Y B t v := by
  refine h.kept hg (fun e' => ?_)
  obtain ⟨o, ho, hc⟩ := hr B e'.symm
  rw [show X.heap[B]? = _ from h] at ho; cases ho; cases hc
/-- What a row of one type owns stays, where a row of another type grows. -/
theorem owns_other {X Y : World} {n n' e e' size size' k k' : Nat} {v v' : Value} {xs xs' : List Value} (h : X.ownsRow n e size v k xs) (h' : X.ownsRow n' e' size' v' k' xs') (hne : e ≠ e') (hg : X.grownBy Y v'.ownBlock) : Y.ownsRow n e size v k xs := by
  refine h.kept hg ?_
  rcases h.2 with ⟨rfl, _⟩ | ⟨g, cap, cur, rfl, _, hgb, _⟩
  · exact .inl rfl
  · refine .inr fun eq => ?_
    rcases h'.2 with ⟨rfl, _⟩ | ⟨g', cap', cur', rfl, _, hgb', _⟩
    · simp [Value.ownBlock] at eq
    · have : g = g' := by simpa [Value.ownBlock] using eq
      subst this
      rw [hgb] at hgb'
      simp at hgb'
      exact hne hgb'.2

theorem grown_below {X Y : World} (hb : Below X.heap.size X Y) (row : Option Nat) : X.grownBy Y row := ⟨hb.os, hb.tape, hb.output, hb.size, fun k hk _ => hb.block k hk⟩
theorem owns_below {X Y : World} {n e size k : Nat} {v : Value} {xs : List Value} (h : X.ownsRow n e size v k xs) (hb : Below X.heap.size X Y) : Y.ownsRow n e size v k xs := owns_kept h (grown_below hb none) (fun _ h => by cases h)
theorem boxed_below {X Y : World} {B t : Nat} {v : Value} (h : Boxed X B t v) (hb : Below X.heap.size X Y) : Boxed Y B t v := boxed_kept h (grown_below hb none) (fun _ h => by cases h)

theorem owns_base {w : World} {B B' n : Nat} {v : Value} {xs : List Value} (h : w.ownsRow B 5 1 v n xs) (hB : B' ≤ B) : w.ownsRow B' 5 1 v n xs := by
  refine ⟨h.1, ?_⟩
  rcases h.2 with h | ⟨g, cap, cur, h1, h2, h3⟩
  · exact .inl h
  · exact .inr ⟨g, cap, cur, h1, Nat.le_trans hB h2, h3⟩
theorem tot_le {w : World} (xs : List (PA w)) : tot xs ≤ xs.length * 4194312 := by
  induction xs with
  | nil => simp [tot]
  | cons x xs ih =>
    have := x.2.2.2.2
    simp [tot] at ih ⊢; omega

/-- Slices that each own the bytes of a piece. -/
def Els {w : World} (W : World) (pre : List (PA w)) (Vs : List Value) : Prop := ∀ (i : Nat) (x : PA w) (u : Value), pre[i]? = some x → Vs[i]? = some u → W.ownsRow w.heap.size 5 1 u x.1.len (x.1.L.map (Value.int .u8))
/-- Between two rounds. -/
def Inv (w : World) (pre : List (PA w)) (W : World) : Prop :=
  (∃ v Vs, Boxed W w.heap.size 29 v ∧ W.ownsRow w.heap.size 22 1 v pre.length Vs ∧ Els W pre Vs) ∧ Boxed W (w.heap.size + 1) 3 (.int .i64 (tot pre)) ∧ Below w.heap.size w W
theorem inv_own (w : World) (B : Nat) (hB : w.heap.size ≤ B) : OwnFrom B (Inv w) := by
  rintro pre X Y row ⟨⟨v, Vs, h1, h2, h3⟩, h4, h5⟩ hg hr
  have hr' := fun r e => (hr r e).2
  exact ⟨⟨v, Vs, boxed_kept h1 hg hr', owns_kept h2 hg hr', fun i x u hx hu => owns_kept (h3 i x u hx hu) hg hr'⟩, boxed_kept h4 hg hr', ownFrom_below (β := Unit) (Nat.le_refl _) hB () X Y row h5 hg hr⟩

/-- Behind a round. -/
theorem inv_step {w W w3 : World} {pre : List (PA w)} {x : PA w} {v : Value} {Vs : List Value} (h1 : Boxed w3 w.heap.size 29 v) (h2 : w3.ownsRow w.heap.size 22 1 v (pre.length + 1) Vs) (h3 : Els w3 (pre ++ [x]) Vs) (h4 : Boxed w3 (w.heap.size + 1) 3 (.int .i64 (tot pre))) (h5 : KeepsOthers W w3) (h6 : Below w.heap.size W w3) (h7 : Below w.heap.size w W) (hl : pre.length < 1048576) :
    ∀ B : Nat, KeepsFrom B W (w3.setCell ⟨w.heap.size + 1, 0, none⟩ (.int .i64 (IntKind.i64.wrap (tot pre + (x.1.len + 8))))).drew ∧ Below w.heap.size W (w3.setCell ⟨w.heap.size + 1, 0, none⟩ (.int .i64 (IntKind.i64.wrap (tot pre + (x.1.len + 8))))).drew ∧ Inv w (pre ++ [x]) (w3.setCell ⟨w.heap.size + 1, 0, none⟩ (.int .i64 (IntKind.i64.wrap (tot pre + (x.1.len + 8))))).drew := by
  intro B
  have ht := tot_le pre
  have hx := x.2.2.2.2
  have e : IntKind.i64.wrap ((tot pre : Int) + (x.1.len + 8)) = ((tot (pre ++ [x]) : Nat) : Int) := by
    rw [tot_snoc]
    simp [IntKind.wrap, IntKind.bits, IntKind.signed]
    omega
  rw [e]
  have hg := grownBy_setCell' w3 (w.heap.size + 1) (.int .i64 ((tot (pre ++ [x]) : Nat) : Int))
  refine ⟨((h5.trans (KeepsOthers.setCell _ _ _)).trans (KeepsOthers.drew _)).from B, (h6.setCell (p := ⟨w.heap.size + 1, 0, none⟩) (Nat.le_succ _) _).drew, ⟨v, Vs, ?_, ?_, ?_⟩, ?_, ((h7.trans h6).setCell (p := ⟨w.heap.size + 1, 0, none⟩) (Nat.le_succ _) _).drew⟩
  · have h1' := h1.kept hg (by simp)
    exact h1'
  · have h2' := h2.kept hg (.inr (h4.not_row (by decide) h2).symm)
    rw [List.length_append]
    exact h2'
  · intro i y u hy hu
    have h3' := h3 i y u hy hu
    have h3'' := h3'.kept hg (.inr (h4.not_row (by decide) h3').symm)
    exact h3''
  · exact h4.set _

/-- An append whose run is known, in a region that draws its order. -/
theorem append_step {F : Fence} {n : Nat} {P : Program} {ops : Array Oper} {o : Oper} {a : Act} {w : World} {K : Act → World → Prop} {Q : Exit → Act → World → Prop} (s x : Operand) (t : TypeId) (v u v' : Value) (w' : World)
    (hgd : o.guard = none) (hop : o.op = Op.call { callee := Callee.builtin Builtin.append, args := #[s, x], argTypes := #[t, t] }) (hs : a.eval s = v) (hx : a.eval x = u)
    (hrun : (Builtin.append_ #[t, t] o.type #[v, u]).run P w = .ok v' w') (hK : K (a.put o.dst v') w') :
    if Region.wanted o (yielded ops a.tmps) = true then Oper.wpIn F n P o a w K Q else (∀ f, o.about P w a.eval = some f → F.fn f) ∧ K (a.put o.dst undef) w := by
  simp only [Region.wanted, hgd, if_true]
  unfold Oper.wpIn
  refine ⟨?_, ?_⟩
  · simp [Oper.about, hop, resolve, Target.leads, Sem.run_pure]
  · rw [Oper.semAt_plain F _ _ (by rw [hop]; intro c hc'; cases hc')]
    simp [execOp, hop, resolve, invoke, builtin, hs, hx, hrun, Result.andThen]
    exact hK

set_option maxRecDepth 100000 in
set_option maxHeartbeats 2000000 in
theorem split_in (a : Option Addr) (len cap : Nat) (L : List Int) (w : World) (hs : Src w a len L) (hb : Bts L) (hlc : len ≤ cap) (hm : len ≤ 1048576) :
    Calls Try.prog 29 #[.slice a len cap] w fun e w' => ∃ v xs, e = .returned (.tuple #[v, .int .i64 (spl L).2]) ∧ xs.map (fun x => x.1.L) = (spl L).1 ∧ (∃ Vs, w'.ownsRow w.heap.size 22 1 v xs.length Vs ∧ Els (w := w) w' xs Vs) ∧ Below w.heap.size w w' := by
  obtain ⟨xs, hwk, hxl, hxt⟩ := wk_any w len a len cap L hs hb hlc (Nat.le_refl _)
  have hle := spl_le len L (by rw [hs.1]; exact Nat.le_refl _) hb
  have htl := tot_len xs
  rw [hs.1] at hle
  obtain ⟨i0, hi, hz0, hz1, hz2⟩ := info_parts Try.info22
  refine (callsIn_wide (n := 3)).1 ?_
  refine callsIn_of_wp_marks Try.func29 rfl trivial ?_ rfl
  simp only [Try.ntmps29, List.size_toArray, List.length_cons, List.length_nil, Nat.reduceAdd, Nat.reduceSub, Array.replicate_succ, Array.replicate_zero, List.push_toArray, List.append_toArray, List.nil_append, List.cons_append]
  gi_wp2_with (refine ⟨trivial, ?_⟩; gi_at_call 40; refine (walk_in _ _ _ _ _).mono ?_; rintro e w' ⟨rfl, rfl⟩)
  have bO := Boxed.new w 29 (.slice none 0 0)
  have bA := Boxed.new (w.alloc (.cells #[.slice none 0 0] 29)) 3 (.int .i64 0)
  have bN := Boxed.new ((w.alloc (.cells #[.slice none 0 0] 29)).alloc (.cells #[.int .i64 0] 3)) 22 (.slice a len cap)
  rw [World.size_alloc] at bA
  rw [World.size_alloc, World.size_alloc] at bN
  have hB0 : Below w.heap.size w (((w.alloc (.cells #[.slice none 0 0] 29)).alloc (.cells #[.int .i64 0] 3)).alloc (.cells #[.slice a len cap] 22)) := (((Below.refl _ w).alloc (Nat.le_refl _) _).alloc (by simp) _).alloc (by simp; omega) _
  obtain ⟨W0, hW0⟩ : ∃ W0, (((w.alloc (.cells #[.slice none 0 0] 29)).alloc (.cells #[.int .i64 0] 3)).alloc (.cells #[.slice a len cap] 22)) = W0 := ⟨_, rfl⟩
  have hsz : W0.heap.size = w.heap.size + 3 := by rw [← hW0]; simp
  have bO' : Boxed W0 w.heap.size 29 (.slice none 0 0) := by rw [← hW0]; exact (bO.alloc _).alloc _
  have bA' : Boxed W0 (w.heap.size + 1) 3 (.int .i64 0) := by rw [← hW0]; exact bA.alloc _
  rw [hW0] at hB0 bN ⊢
  clear hW0 bO bA
  refine wpIn_rangeFunc_ownG (α := PA w) rfl (by omega) (gf := 51) (lb := #[.pointer (some ⟨w.heap.size + 1 + 1, 0, none⟩)]) rfl trivial (enters_of Try.func51 (by kernel_rfl) rfl)
    (walk_stops 2 (by omega) (w.heap.size + 1 + 1) w a len cap L xs (by omega) hs hb hlc hwk W0 hB0 (by omega) bN.cell) belowK_t (belowK_b (by omega)) (Below.refl _ _) (fun _ => rfl)
    (Inv w) (fun _ _ _ => False) (inv_own w _ (by omega)) (fun _ _ _ _ _ hs _ _ => hs)
    ⟨⟨_, [], bO', World.ownsRow_nil _ _ _ _, fun i x u hx _ => by simp at hx⟩, bA', hB0⟩
    (fun x => { tmps := #[.slice a len cap, undef, .slice none 0 0, .int .i64 0, .pointer (some ⟨w.heap.size, 0, none⟩), .pointer (some ⟨w.heap.size + 1, 0, none⟩), .slice x.1.a x.1.len x.1.cap, .slice a len cap, .func (.func 51) #[] #[.pointer (some ⟨w.heap.size + 1 + 1, 0, none⟩)], .slice x.1.a x.1.len x.1.cap, undef, undef, undef, undef, undef, undef, undef, undef, undef, undef, undef], defers := [] }) ?assign ?body ?done ?stop
  case assign =>
    intro l x W K hK
    gi_wp2
    exact hK
  case body =>
    rintro l pre x W ⟨⟨v, Vs, hv, hrow, hels⟩, hat, hB⟩ hlt
    have hmx : Try.prog.follows .mixedOrders = true := by kernel_rfl
    have hc := hv.cell
    have hvd : Boxed W.drew w.heap.size 29 v := hv
    have hrowd := hrow.drew
    have hsB := hB.size
    have hC := fclone_any x.1.a x.1.len x.1.cap x.1.L W.drew (x.2.1.below hB.drew) x.2.2.2.1 (by have := x.2.2.2.2; omega)
    have hpl : pre.length < 1048576 := by omega
    have hC' : Calls Try.prog 41 #[.slice x.1.a x.1.len x.1.cap] W.drew fun e w1 => ∃ ua uc g' cap' w2, e = .returned (.slice ua x.1.len uc) ∧ w1.cell? ⟨w.heap.size, 0, none⟩ = some v ∧ (w1.alloc (.cells #[.slice ua x.1.len uc] 22)).cell? ⟨w.heap.size, 0, none⟩ = some v ∧
        (Builtin.append_ #[29, 29] 29 #[v, .slice (some ⟨w1.heap.size, 0, none⟩) 1 1]).run Try.prog (w1.alloc (.cells #[.slice ua x.1.len uc] 22)) = .ok (.slice (some ⟨g', 0, none⟩) (pre.length + 1) cap') w2 ∧
        w2.cell? ⟨w.heap.size, 0, none⟩ = some v ∧ w2.frozen? ⟨w.heap.size, 0, none⟩ = false ∧
        Hid (∃ w3, w3 = w2.setCell ⟨w.heap.size, 0, none⟩ (.slice (some ⟨g', 0, none⟩) (pre.length + 1) cap') ∧ Boxed w3 w.heap.size 29 (.slice (some ⟨g', 0, none⟩) (pre.length + 1) cap') ∧ w3.ownsRow w.heap.size 22 1 (.slice (some ⟨g', 0, none⟩) (pre.length + 1) cap') (pre.length + 1) (Vs ++ [.slice ua x.1.len uc]) ∧ Els w3 (pre ++ [x]) (Vs ++ [.slice ua x.1.len uc]) ∧ Boxed w3 (w.heap.size + 1) 3 (.int .i64 (tot pre)) ∧ KeepsOthers W w3 ∧ Below w.heap.size W w3) := by
      refine hC.mono ?_
      rintro e w1 ⟨u, rfl, hu, hb1⟩
      have hv1 : Boxed w1 w.heap.size 29 v := boxed_below hvd hb1
      have ho1 := owns_below hrowd hb1
      obtain ⟨ua, uc, rfl, _⟩ := owns_any hu
      have hs1 : w.heap.size ≤ w1.heap.size := Nat.le_trans hsB hb1.size
      obtain ⟨v', w2, hrun, hown', hgrow, _⟩ := run_append_own (P := Try.prog) (w1.alloc (.cells #[.slice ua x.1.len uc] 22)) w.heap.size 29 29 22 i0 (.slice none 0 0) 1 24 Try.underlying29 hi hz0 hz1 hz2 rfl (by decide) v pre.length Vs (ho1.alloc _) ⟨w1.heap.size, 0, none⟩ 1 1 [.slice ua x.1.len uc] rfl (cell_one_new _ _ _) (by simp [Value.oneCell']) (by unfold maxLen; omega) (by omega) (by simp; omega)
      obtain ⟨g', cap', rfl⟩ := ownsRow_succ hown'
      obtain ⟨hv2, hv3, hr2, hk2, hb2⟩ := hv1.appended (by decide) ho1 hs1 (Nat.le_refl _) hown' hgrow
      refine ⟨ua, uc, g', cap', w2, rfl, hv1.cell, (hv1.alloc _).cell, hrun, hv2.cell, hv2.frozen, _, rfl, hv3, hr2, ?_, ?_, ?_, ?_⟩
      · have step : ∀ u L n, w1.ownsRow w.heap.size 5 1 u n L → (w2.setCell ⟨w.heap.size, 0, none⟩ (.slice (some ⟨g', 0, none⟩) (pre.length + 1) cap')).ownsRow w.heap.size 5 1 u n L := by
          intro u L n h
          have h' := owns_other (h.alloc (.cells #[.slice ua x.1.len uc] 22)) (ho1.alloc (.cells #[.slice ua x.1.len uc] 22)) (by decide) hgrow
          exact h'.kept (grownBy_setCell' w2 _ _) (.inr (hv2.not_row (by decide) h').symm)
        have hVl : Vs.length = pre.length := by have := hrow.1; omega
        intro i y u' hy hu'
        by_cases hi1 : i < pre.length
        · rw [List.getElem?_append_left hi1] at hy
          rw [List.getElem?_append_left (by omega)] at hu'
          exact step _ _ _ (owns_below (X := W.drew) (hels i y u' hy hu').drew hb1)
        · have hi2 : i = pre.length := by
            rcases Nat.lt_or_ge i (pre ++ [x]).length with h | h
            · rw [List.length_append, List.length_singleton] at h; omega
            · rw [List.getElem?_eq_none h] at hy; simp at hy
          subst hi2
          rw [List.getElem?_append_right (Nat.le_refl _), Nat.sub_self] at hy
          rw [List.getElem?_append_right (by omega), hVl, Nat.sub_self] at hu'
          simp at hy hu'
          subst hy hu'
          exact step _ _ _ (owns_base hu hsB)
      · have h1 : Boxed w1 (w.heap.size + 1) 3 (.int .i64 (tot pre)) := boxed_below (X := W.drew) hat hb1
        have h2 := (h1.alloc (.cells #[.slice ua x.1.len uc] 22)).kept hgrow ((h1.alloc (.cells #[.slice ua x.1.len uc] 22)).not_row (by decide) (ho1.alloc (.cells #[.slice ua x.1.len uc] 22)))
        exact h2.kept (grownBy_setCell' w2 _ _) (by simp)
      · exact ((KeepsOthers.drew W).trans (KeepsOthers.of_grownBy (grown_below hb1 none) (fun _ _ h => by cases h))).trans hk2
      · exact ((Below.refl w.heap.size W).drew.trans (hb1.mono hsB)).trans hb2
    clear hC
    gi_wp2
    refine wpIn_region_any hmx ?_
    change wpAnyIn _ _ _ _ _ _ _ _ _ (World.drew _)
    refine wpAnyIn_ready (rs := [0, 1]) (by kernel_rfl) (by simp) ?_
    refine AllReadyIn.cons rfl (fun K hK => ?_) ?_
    · go_simp
      refine hK _ _ ?_
      clear hK K
      refine wpAnyIn_ready (rs := [1]) (by kernel_rfl) (by simp) ?_
      refine AllReadyIn.cons rfl (fun K hK => ?_) AllReadyIn.nil
      go_simp
      refine hK _ _ ?_
      clear hK K
      refine wpAnyIn_ready (rs := [2]) (by kernel_rfl) (by simp) ?_
      refine AllReadyIn.cons rfl (fun K hK => ?_) AllReadyIn.nil
      go_simp
      refine ⟨trivial, ?_⟩
      refine (CallsIn.inRound l (callsIn_wide.2 hC')).mono ?_
      rintro e w1 ⟨ua, uc, g', cap', w2, rfl, hc1, hcx, hrun, hc2, hf2, hfin⟩
      refine hK _ _ ?_
      clear hK K
      refine wpAnyIn_ready (rs := [3]) (by kernel_rfl) (by simp) ?_
      refine AllReadyIn.cons rfl (fun K hK => ?_) AllReadyIn.nil
      go_simp
      refine hK _ _ ?_
      clear hK K
      refine wpAnyIn_ready (rs := [4]) (by kernel_rfl) (by simp) ?_
      refine AllReadyIn.cons rfl (fun K hK => ?_) AllReadyIn.nil
      refine append_step _ _ 29 v _ _ w2 rfl rfl rfl rfl hrun ?_
      refine hK _ _ ?_
      clear hK K
      refine wpAnyIn_ready (rs := [5]) (by kernel_rfl) (by simp) ?_
      refine AllReadyIn.cons rfl (fun K hK => ?_) AllReadyIn.nil
      go_simp
      refine hK _ _ ?_
      clear hK K
      refine wpAnyIn_done (by kernel_rfl) ?_ _
      obtain ⟨w3, e3, hv3, hr3, hel3, hat3, hk3, hb3⟩ := hfin.out
      rw [← e3]
      clear e3 hfin hrun hc2 hf2 hcx hc1 hC'
      have ha3 := hat3.cell
      have hf3 := hat3.frozen
      have hfin := hid (inv_step hv3 hr3 hel3 hat3 hk3 hb3 hB hpl)
      clear hv3 hr3 hel3 hat3 hk3 hb3
      gi_wp2
      gi_region_with_o (refine ⟨trivial, ?_⟩; gi_at_call 42; refine (CallsIn.inRound l (callsIn_wide.2 (size_any x.1.a x.1.len x.1.cap _ (by omega)))).mono ?_; rintro e w' ⟨rfl, rfl⟩)
      all_goals gi_wp2
      all_goals exact hfin.out _
    · refine AllReadyIn.cons rfl (fun K hK => ?_) AllReadyIn.nil
      go_simp
      refine hK _ _ ?_
      clear hK K
      refine wpAnyIn_ready (rs := [0, 2]) (by kernel_rfl) (by simp) ?_
      refine AllReadyIn.cons rfl (fun K hK => ?_) ?_
      · go_simp
        refine hK _ _ ?_
        clear hK K
        refine wpAnyIn_ready (rs := [2]) (by kernel_rfl) (by simp) ?_
        refine AllReadyIn.cons rfl (fun K hK => ?_) AllReadyIn.nil
        go_simp
        refine ⟨trivial, ?_⟩
        refine (CallsIn.inRound l (callsIn_wide.2 hC')).mono ?_
        rintro e w1 ⟨ua, uc, g', cap', w2, rfl, hc1, hcx, hrun, hc2, hf2, hfin⟩
        refine hK _ _ ?_
        clear hK K
        refine wpAnyIn_ready (rs := [3]) (by kernel_rfl) (by simp) ?_
        refine AllReadyIn.cons rfl (fun K hK => ?_) AllReadyIn.nil
        go_simp
        refine hK _ _ ?_
        clear hK K
        refine wpAnyIn_ready (rs := [4]) (by kernel_rfl) (by simp) ?_
        refine AllReadyIn.cons rfl (fun K hK => ?_) AllReadyIn.nil
        refine append_step _ _ 29 v _ _ w2 rfl rfl rfl rfl hrun ?_
        refine hK _ _ ?_
        clear hK K
        refine wpAnyIn_ready (rs := [5]) (by kernel_rfl) (by simp) ?_
        refine AllReadyIn.cons rfl (fun K hK => ?_) AllReadyIn.nil
        go_simp
        refine hK _ _ ?_
        clear hK K
        refine wpAnyIn_done (by kernel_rfl) ?_ _
        obtain ⟨w3, e3, hv3, hr3, hel3, hat3, hk3, hb3⟩ := hfin.out
        rw [← e3]
        clear e3 hfin hrun hc2 hf2 hcx hc1 hC'
        have ha3 := hat3.cell
        have hf3 := hat3.frozen
        have hfin := hid (inv_step hv3 hr3 hel3 hat3 hk3 hb3 hB hpl)
        clear hv3 hr3 hel3 hat3 hk3 hb3
        gi_wp2
        gi_region_with_o (refine ⟨trivial, ?_⟩; gi_at_call 42; refine (CallsIn.inRound l (callsIn_wide.2 (size_any x.1.a x.1.len x.1.cap _ (by omega)))).mono ?_; rintro e w' ⟨rfl, rfl⟩)
        all_goals gi_wp2
        all_goals exact hfin.out _
      · refine AllReadyIn.cons rfl (fun K hK => ?_) AllReadyIn.nil
        go_simp
        refine ⟨trivial, ?_⟩
        refine (CallsIn.inRound l (callsIn_wide.2 hC')).mono ?_
        rintro e w1 ⟨ua, uc, g', cap', w2, rfl, hc1, hcx, hrun, hc2, hf2, hfin⟩
        refine hK _ _ ?_
        clear hK K
        refine wpAnyIn_ready (rs := [0, 3]) (by kernel_rfl) (by simp) ?_
        refine AllReadyIn.cons rfl (fun K hK => ?_) ?_
        · go_simp
          refine hK _ _ ?_
          clear hK K
          refine wpAnyIn_ready (rs := [3]) (by kernel_rfl) (by simp) ?_
          refine AllReadyIn.cons rfl (fun K hK => ?_) AllReadyIn.nil
          go_simp
          refine hK _ _ ?_
          clear hK K
          refine wpAnyIn_ready (rs := [4]) (by kernel_rfl) (by simp) ?_
          refine AllReadyIn.cons rfl (fun K hK => ?_) AllReadyIn.nil
          refine append_step _ _ 29 v _ _ w2 rfl rfl rfl rfl hrun ?_
          refine hK _ _ ?_
          clear hK K
          refine wpAnyIn_ready (rs := [5]) (by kernel_rfl) (by simp) ?_
          refine AllReadyIn.cons rfl (fun K hK => ?_) AllReadyIn.nil
          go_simp
          refine hK _ _ ?_
          clear hK K
          refine wpAnyIn_done (by kernel_rfl) ?_ _
          obtain ⟨w3, e3, hv3, hr3, hel3, hat3, hk3, hb3⟩ := hfin.out
          rw [← e3]
          clear e3 hfin hrun hc2 hf2 hcx hc1 hC'
          have ha3 := hat3.cell
          have hf3 := hat3.frozen
          have hfin := hid (inv_step hv3 hr3 hel3 hat3 hk3 hb3 hB hpl)
          clear hv3 hr3 hel3 hat3 hk3 hb3
          gi_wp2
          gi_region_with_o (refine ⟨trivial, ?_⟩; gi_at_call 42; refine (CallsIn.inRound l (callsIn_wide.2 (size_any x.1.a x.1.len x.1.cap _ (by omega)))).mono ?_; rintro e w' ⟨rfl, rfl⟩)
          all_goals gi_wp2
          all_goals exact hfin.out _
        · refine AllReadyIn.cons rfl (fun K hK => ?_) AllReadyIn.nil
          go_simp
          refine hK _ _ ?_
          clear hK K
          refine wpAnyIn_ready (rs := [0]) (by kernel_rfl) (by simp) ?_
          refine AllReadyIn.cons rfl (fun K hK => ?_) AllReadyIn.nil
          go_simp
          refine hK _ _ ?_
          clear hK K
          refine wpAnyIn_ready (rs := [4]) (by kernel_rfl) (by simp) ?_
          refine AllReadyIn.cons rfl (fun K hK => ?_) AllReadyIn.nil
          refine append_step _ _ 29 v _ _ w2 rfl rfl rfl rfl hrun ?_
          refine hK _ _ ?_
          clear hK K
          refine wpAnyIn_ready (rs := [5]) (by kernel_rfl) (by simp) ?_
          refine AllReadyIn.cons rfl (fun K hK => ?_) AllReadyIn.nil
          go_simp
          refine hK _ _ ?_
          clear hK K
          refine wpAnyIn_done (by kernel_rfl) ?_ _
          obtain ⟨w3, e3, hv3, hr3, hel3, hat3, hk3, hb3⟩ := hfin.out
          rw [← e3]
          clear e3 hfin hrun hc2 hf2 hcx hc1 hC'
          have ha3 := hat3.cell
          have hf3 := hat3.frozen
          have hfin := hid (inv_step hv3 hr3 hel3 hat3 hk3 hb3 hB hpl)
          clear hv3 hr3 hel3 hat3 hk3 hb3
          gi_wp2
          gi_region_with_o (refine ⟨trivial, ?_⟩; gi_at_call 42; refine (CallsIn.inRound l (callsIn_wide.2 (size_any x.1.a x.1.len x.1.cap _ (by omega)))).mono ?_; rintro e w' ⟨rfl, rfl⟩)
          all_goals gi_wp2
          all_goals exact hfin.out _
  case done =>
    rintro D ys W hD rfl ⟨⟨v, Vs, hv, hrow, hels⟩, hat, hB⟩ hK
    have hc := hv.cell
    have hc2 := hat.cell
    have hmx : Try.prog.follows .mixedOrders = true := by kernel_rfl
    have hK' : W.drew.heap[D]? = some (.deferred (some [])) := hK
    have hfin : Hid (((W.drew.putObj D (.deferred none)).ownsRow w.heap.size 22 1 v ys.length Vs) ∧ Els (W.drew.putObj D (.deferred none)) ys Vs ∧ Below w.heap.size w (W.drew.putObj D (.deferred none))) :=
      ⟨ownsRow_putObj hrow.drew _ hK' rfl, fun i x u hx hu => ownsRow_putObj (hels i x u hx hu).drew _ hK' rfl, hB.drew.trans (belowK_b (w := w) (Nat.le_refl _) W.drew D _ _ (by omega) hK' rfl rfl)⟩
    rw [hxt] at hc2
    clear hv hrow hels hat hB hK
    gi_wp2
    gi_region
    gi_wp2
    refine ⟨by simp, .inl ⟨_, _, rfl, run_takeDeferred hK', ?_⟩⟩
    exact ⟨_, results_tmp2 rfl _ _ _, v, ys, rfl, hxl, ⟨Vs, hfin.out.1, hfin.out.2.1⟩, hfin.out.2.2⟩
  case stop =>
    rintro D c pre W _ _ h _
    exact h.elim
end

section
set_option linter.unusedVariables false
set_option linter.unusedSimpArgs false
open Go.RowKit

theorem own_src_at {w : World} {B n c : Nat} {a : Option Addr} {L : List Int} (h : w.ownsRow B 5 1 (.slice a n c) L.length (L.map (Value.int .u8))) (hn : n = L.length) : Src w a L.length L ∧ L.length ≤ c ∧ (a = none → c = 0) ∧ c ≤ maxLen := by
  obtain ⟨a', c', e, hs, h0, hl, hm⟩ := own_src h
  subst hn
  simp only [Value.slice.injEq] at e
  obtain ⟨rfl, _, rfl⟩ := e
  exact ⟨hs, hl, h0, hm⟩
theorem bdrew {B : Nat} {w0 w : World} (h : Below B w0 w) : Below B w0 w.drew := ⟨h.os, h.tape, h.output, h.size, h.block⟩
theorem kp_below {w w' : World} (h : KP w w' (fun j => j < w.heap.size)) : Below w.heap.size w w' := ⟨h.sm.1, h.sm.2.1, h.sm.2.2, h.size, fun j hj => h.keep j hj hj⟩
theorem add_at (B j : Nat) : (⟨B, 0, none⟩ : Addr).add j = ⟨B, j, none⟩ := by
  unfold Addr.add
  split
  · rename_i h0
    rw [h0]
  · simp
theorem add_block (a : Addr) (j : Nat) : (a.add j).block = a.block := by
  unfold Addr.add
  split <;> rfl
/-- Bytes in blocks that are kept. -/
theorem src_kp2 {w w' : World} {P : Nat → Prop} {a : Option Addr} {L : List Int} (k : KP w w' P) (hP : 0 < L.length → ∀ ad, a = some ad → P ad.block) (h : Src w a L.length L) : Src w' a L.length L := by
  refine ⟨h.1, fun hp => ?_⟩
  obtain ⟨ad, e, hc⟩ := h.2 hp
  have hb := src_block h ad hp e
  have hk := k.keep ad.block hb (hP hp ad e)
  refine ⟨ad, e, fun j u hj => ?_⟩
  rw [← hc j u hj]
  simp only [World.cell?, add_block, hk]

/-- A row of bodies in blocks that satisfy Q. -/
def BRow (w : World) (Q : Nat → Prop) (a : Option Addr) (R : List (List Int)) : Prop :=
  0 < R.length → ∃ g, a = some ⟨g, 0, none⟩ ∧ Q g ∧ ∀ i r, R[i]? = some r → ∃ ai ci, w.cell? ⟨g, i, none⟩ = some (.slice ai r.length ci) ∧ Src w ai r.length r ∧ ∀ ad, 0 < r.length → ai = some ad → Q ad.block
theorem BRow.kp {w w' : World} {P Q : Nat → Prop} {a : Option Addr} {R : List (List Int)} (h : BRow w Q a R) (k : KP w w' P) (hq : ∀ j, Q j → P j) : BRow w' Q a R := by
  intro hp
  obtain ⟨g, e, hg, hr⟩ := h hp
  refine ⟨g, e, hg, fun i r hi => ?_⟩
  obtain ⟨ai, ci, h1, h2, h3⟩ := hr i r hi
  have hl := k.keep g (cell_block h1) (hq g hg)
  exact ⟨ai, ci, by rw [← h1]; simp only [World.cell?, hl], src_kp2 k (fun hp ad e => hq _ (h3 ad hp e)) h2, h3⟩
theorem BRow.below {w w' : World} {Q : Nat → Prop} {a : Option Addr} {R : List (List Int)} (h : BRow w Q a R) (hb : Below w.heap.size w w') : BRow w' Q a R := h.kp (KP.below hb) (fun _ h => h)
theorem BRow.mono {w : World} {Q Q' : Nat → Prop} {a : Option Addr} {R : List (List Int)} (h : BRow w Q a R) (hq : ∀ j, Q j → Q' j) : BRow w Q' a R := by
  intro hp
  obtain ⟨g, e, hg, hr⟩ := h hp
  refine ⟨g, e, hq g hg, fun i r hi => ?_⟩
  obtain ⟨ai, ci, h1, h2, h3⟩ := hr i r hi
  exact ⟨ai, ci, h1, h2, fun ad hp e => hq _ (h3 ad hp e)⟩

/-- Split: what is told is new memory. -/
theorem split_fresh (a : Option Addr) (len cap : Nat) (L : List Int) (w : World) (hs : Src w a len L) (hb : Bts L) (hlc : len ≤ cap) (hm : len ≤ 1048576) :
    Calls Try.prog 29 #[.slice a len cap] w fun e w' => ∃ a' c', e = .returned (.tuple #[.slice a' (spl L).1.length c', .int .i64 (spl L).2]) ∧ BRow w' (fun j => w.heap.size ≤ j ∧ j < w'.heap.size) a' (spl L).1 ∧ Below w.heap.size w w' := by
  refine (split_in a len cap L w hs hb hlc hm).mono ?_
  rintro e w' ⟨v, xs, rfl, hx, ⟨Vs, ho, hel⟩, hbel⟩
  have hln : xs.length = (spl L).1.length := by rw [← hx, List.length_map]
  rw [hln] at ho
  have hVl : Vs.length = (spl L).1.length := by have := ho.1; omega
  rcases ho.2 with ⟨rfl, h0⟩ | ⟨g, cap', cur, rfl, hB, hg, hn, hc, hcs, ht⟩
  · exact ⟨none, 0, by rw [h0], fun hp => absurd hp (by omega), hbel⟩
  · refine ⟨_, cap', rfl, fun _ => ⟨g, rfl, ⟨hB, (Array.getElem?_eq_some_iff.1 hg).1⟩, fun i r hi => ?_⟩, hbel⟩
    have hil := (List.getElem?_eq_some_iff.1 hi).1
    have h1 : xs[i]? = some (xs[i]'(by omega)) := List.getElem?_eq_getElem _
    have h2 : Vs[i]? = some (Vs[i]'(by omega)) := List.getElem?_eq_getElem _
    have h3 := hel i _ _ h1 h2
    have h4 : r = (xs[i]'(by omega)).1.L := by
      rw [← hx, List.getElem?_map, h1] at hi
      simpa using hi.symm
    have h5 : (xs[i]'(by omega)).1.len = (xs[i]'(by omega)).1.L.length := (xs[i]'(by omega)).2.1.1.symm
    rw [h5, ← h4] at h3
    have hcell := ho.cellAt i (by omega)
    obtain ⟨ai, ci, e1, e2, _, e4, e5⟩ := owns_any h3
    refine ⟨ai, ci, by rw [hcell, ← e1, h2], e5, fun ad hp e => ?_⟩
    rcases h3.2 with ⟨h6, h7⟩ | ⟨g', cap'', cur', h6, hB', hg', _⟩
    · omega
    · rw [e1] at h6
      injection h6 with h6
      subst h6
      obtain rfl := Option.some.inj e
      exact ⟨hB', (Array.getElem?_eq_some_iff.1 hg').1⟩

/-- What a log reads of a file. -/
def wreadD (D : Dk) (n : Nm) : List Int × Nat := if mayB n = false then ([], 61) else if D.off = true then ([], 71) else (((lk D.F n).map Fl.b).getD [], 0)
theorem wread_bts {D : Dk} (h : Good D) (n : Nm) : Bts (wreadD D n).1 := by
  unfold wreadD
  split
  · intro x hx; simp at hx
  · split
    · intro x hx; simp at hx
    · cases e : lk D.F n with
      | none => intro x hx; simp at hx
      | some f => exact (h.nice n f e).2.1
theorem eApp_none {n : Nm} (hm : mayB n = true) : (operD (eApp 0 n []) ⟨0, false, none, []⟩).2 = 0 := by
  simp [operD, eApp, hm, lk]
theorem eApp_bad {n : Nm} (room : Nat) (F : List (Nm × Fl)) (L : List Int) (hm : mayB n = false) : operD (eApp room n L) ⟨room, false, none, F⟩ = (⟨room, false, none, F⟩, 61) := by
  simp [operD, eApp, hm]

set_option maxRecDepth 100000 in
set_option maxHeartbeats 4000000 in
theorem wread_any (d : Nat) (n : Nm) (D : Dk) (P : Nat → Prop) (w : World) (h : DK w d D P) (hn : n.length ≤ maxLen) : Calls Try.prog 28 #[.pointer (some ⟨d, 0, none⟩), encStr n] w fun e w' => ∃ a c, e = .returned (.tuple #[.slice a (wreadD D n).1.length c, .int .i64 ((wreadD D n).2 : Int)]) ∧ Src w' a (wreadD D n).1.length (wreadD D n).1 ∧ (wreadD D n).1.length ≤ c ∧ Below w.heap.size w w' := by
  have HK := hid h
  clear h
  obtain ⟨room, off, due, F⟩ := D
  cases hm : mayB n with
  | false =>
    have hw : wreadD ⟨room, off, due, F⟩ n = ([], 61) := by unfold wreadD; rw [if_pos hm]
    have he := hid (eApp_bad (n := n) 0 [] [] hm)
    rw [hw]
    clear hw hm
    go_enter Try.func28, Try.ntmps28
    go_wp2_with (first
      | (go_at_call 10; have hq := K1.out; refine (append_any _ n [] none 0 _ _ _ hq.1 hn (src_nil _) (fun hp => absurd hp (by simp)) (fun _ => rfl) ⟨Nat.le_refl _, by simp⟩ (fun x hx => by simp at hx)).mono ?_; rintro e w2 ⟨x, rfl, hx, q1, q2⟩; have hx2 : x = 61 := hx.trans (congrArg Prod.snd he.out); subst hx2; have K2 := hid (kp_below (hq.2.trans q2)); clear hq q1 q2 hx)
      | (go_at_call 9; refine (new_any 0 (by omega) _).mono ?_; rintro e w1 ⟨d1, rfl, hb1, q1⟩; have K1 : Hid (DK w1 d1 ⟨0, false, none, []⟩ (fun j => j < w.heap.size) ∧ KP w w1 (fun j => j < w.heap.size)) := hid (And.intro q1 (KP.below hb1)); clear hb1 q1))
    go_ret2
    exact ⟨none, 0, rfl, src_nil _, Nat.le_refl _, K2.out⟩
  | true =>
    have he := hid (eApp_none hm)
    obtain ⟨y, hy⟩ : ∃ y, readD ⟨room, off, due, F⟩ n = y := ⟨_, rfl⟩
    have HY := hid hy
    have hw : wreadD ⟨room, off, due, F⟩ n = if off = true then ([], 71) else (((lk F n).map Fl.b).getD [], 0) := by
      unfold wreadD
      rw [if_neg (by simp [hm])]
    have hy2 : (y = ([], 71) ∧ wreadD ⟨room, off, due, F⟩ n = ([], 71)) ∨ (y = ([], 70) ∧ wreadD ⟨room, off, due, F⟩ n = ([], 0)) ∨ (∃ b, y = (b, 0) ∧ wreadD ⟨room, off, due, F⟩ n = (b, 0)) := by
      rw [hw, ← hy]
      unfold readD
      cases off with
      | true => exact Or.inl ⟨rfl, rfl⟩
      | false =>
        cases e : lk F n with
        | none => exact Or.inr (Or.inl ⟨by simp [e], by simp⟩)
        | some f => exact Or.inr (Or.inr ⟨f.b, by simp [e], by simp⟩)
    clear hw hm hy
    rcases hy2 with ⟨rfl, hw⟩ | ⟨rfl, hw⟩ | ⟨b, rfl, hw⟩
    all_goals
      rw [hw]
      clear hw
      go_enter Try.func28, Try.ntmps28
      go_wp2_with (first
        | (go_at_call 13; have hq := HK.out.below K2.out; refine (read_any _ n _ _ _ hq hn).mono ?_; rintro e w3 ⟨ra, rc, x, rfl, hx, hr, hb⟩; rw [HY.out] at hx hr ⊢; subst hx; have HB3 := hid (K2.out.trans (hb.mono K2.out.size)); have HO := hid hr; clear hq hr hb)
        | (go_at_call 10; have hq := K1.out; refine (append_any _ n [] none 0 _ _ _ hq.1 hn (src_nil _) (fun hp => absurd hp (by simp)) (fun _ => rfl) ⟨Nat.le_refl _, by simp⟩ (fun x hx => by simp at hx)).mono ?_; rintro e w2 ⟨x, rfl, hx, q1, q2⟩; have hx2 : x = 0 := hx.trans he.out; subst hx2; have K2 := hid (kp_below (hq.2.trans q2)); clear hq q1 q2 hx)
        | (go_at_call 9; refine (new_any 0 (by omega) _).mono ?_; rintro e w1 ⟨d1, rfl, hb1, q1⟩; have K1 : Hid (DK w1 d1 ⟨0, false, none, []⟩ (fun j => j < w.heap.size) ∧ KP w w1 (fun j => j < w.heap.size)) := hid (And.intro q1 (KP.below hb1)); clear hb1 q1))
      go_ret2
      first
        | exact ⟨none, 0, rfl, src_nil _, Nat.le_refl _, HB3.out⟩
        | exact ⟨ra, rc, rfl, (own_src_at HO.out rfl).1, (own_src_at HO.out rfl).2.1, HB3.out⟩
end

section
set_option linter.unusedVariables false
set_option linter.unusedSimpArgs false
open Go.RowKit

/-- A log: its first error, its disk, its file, how many records there are, how many it made sure. -/
structure Lg where
  first : Nat
  d : Nat
  n : Nm
  count : Nat
  sure : Nat
def Lg.cells (L : Lg) : Array Value := #[.int .i64 (L.first : Int), .pointer (some ⟨L.d, 0, none⟩), encStr L.n, .int .i64 (L.count : Int), .int .i64 (L.sure : Int)]
/-- It lies in block l. -/
def Lw (w : World) (l : Nat) (L : Lg) : Prop := w.heap[l]? = some (.cells L.cells 68 (0, 0))
theorem Lw.kp {w w' : World} {P : Nat → Prop} {l : Nat} {L : Lg} (h : Lw w l L) (k : KP w w' P) (hP : P l) : Lw w' l L := (k.keep l (Array.getElem?_eq_some_iff.1 h).1 hP).trans h
theorem Lw.below {w w' : World} {l : Nat} {L : Lg} (h : Lw w l L) (hb : Below w.heap.size w w') : Lw w' l L := (hb.block l (Array.getElem?_eq_some_iff.1 h).1).trans h
theorem Lw.lt {w : World} {l : Nat} {L : Lg} (h : Lw w l L) : l < w.heap.size := (Array.getElem?_eq_some_iff.1 h).1

/-- The bodies. -/
def bodD (D : Dk) (n : Nm) : List (List Int) := (spl (wreadD D n).1).1

def OpenOk (d : Nat) (n : Nm) (D' : Dk) (R : List (List Int)) (P : Nat → Prop) (w : World) (e : Ending) (w' : World) : Prop :=
  ∃ (l : Nat) (a : Option Addr) (c : Nat) (P' : Nat → Prop), e = .returned (.tuple #[.pointer (some ⟨l, 0, none⟩), .slice a R.length c, .int .i64 0]) ∧ DK w' d D' P' ∧ KP w w' P ∧ (∀ j, P j → P' j) ∧ P' l ∧ w.heap.size ≤ l ∧ Lw w' l ⟨0, d, n, R.length, 0⟩ ∧ BRow w' (fun j => P' j ∧ w.heap.size ≤ j) a R

set_option maxRecDepth 100000 in
set_option maxHeartbeats 4000000 in
/-- All of the file is whole frames. -/
theorem wopen_whole_b (d : Nat) (n : Nm) (D : Dk) (P : Nat → Prop) (w : World) (h : DK w d D P) (hn : n.length ≤ 1000) (hx : (wreadD D n).2 = 0) (hf : (wreadD D n).1.length ≤ 1048576) (hs : (spl (wreadD D n).1).2 = (wreadD D n).1.length) : Calls Try.prog 11 #[.pointer (some ⟨d, 0, none⟩), encStr n] w fun e w' => OpenOk d n D (bodD D n) P w e w' ∧ Below w.heap.size w w' := by
  have HK := hid h
  have HB := hid (wread_bts h.good n)
  unfold bodD
  obtain ⟨b, hb⟩ : ∃ b, b = (wreadD D n).1 := ⟨_, rfl⟩
  obtain ⟨x, hxx⟩ : ∃ x, x = (wreadD D n).2 := ⟨_, rfl⟩
  rw [← hb] at hf hs HB ⊢
  rw [← hxx] at hx
  subst hx
  obtain ⟨z, hz⟩ : ∃ z, z = (spl b).2 := ⟨_, rfl⟩
  have HZ := hid hz
  rw [← hz] at hs
  have hlt : decide ((z : Int) < (b.length : Int)) = false := decide_eq_false (by omega)
  have hlt2 : ¬ z < b.length := by omega
  have HX := hid hxx
  have HBB := hid hb
  have HF := hid hf
  have hn2 := hid hn
  clear h hb hxx hz hf hs hn
  go_enter Try.func11, Try.ntmps11
  go_wp2_with (first
    | (go_at_call 31; refine (sclone_any n _ (by have := hn2.out; omega)).mono ?_; rintro e w3 ⟨rfl, hb3⟩; have HB3 := hid hb3; clear hb3)
    | (go_at_call 29; refine (split_fresh _ _ _ _ _ HS1.out.1 HB.out HS1.out.2 HF.out).mono ?_; rintro e w2 ⟨a2, c2, rfl, hr2, hb2⟩; rw [← HZ.out]; have HR2 := hid hr2; have HB2 := hid hb2; clear hr2 hb2)
    | (go_at_call 28; refine (wread_any _ n _ _ _ HK.out (nl (by have := hn2.out; omega))).mono ?_; rintro e w1 ⟨a1, c1, rfl, hs1, hl1, hb1⟩; rw [← HBB.out] at hs1 hl1; rw [← HX.out, ← HBB.out]; have HS1 := hid (And.intro hs1 hl1); have HB1 := hid hb1; clear hs1 hl1 hb1))
  go_ret3
  have b2 := HB1.out.trans (HB2.out.mono HB1.out.size)
  have b3 := b2.trans (HB3.out.mono b2.size)
  have b4 := b3.trans ((new_below w3 (.cells (Lg.cells ⟨0, d, n, (spl b).1.length, 0⟩) 68)).mono b3.size)
  refine ⟨⟨w3.heap.size, a2, c2, fun j => P j ∨ (w.heap.size ≤ j ∧ j < w3.heap.size + 1), rfl, ?_, KP.below b4, fun j hj => Or.inl hj, Or.inr ⟨b3.size, by omega⟩, b3.size, heap_new w3 _, ?_⟩, b4⟩
  · exact (HK.out.more b4).less (fun j hj => by
      rcases hj with hj | hj
      · exact Or.inl hj
      · exact Or.inr ⟨hj.1, by simp; omega⟩)
  · have b24 := HB3.out.trans ((new_below w3 (.cells (Lg.cells ⟨0, d, n, (spl b).1.length, 0⟩) 68)).mono HB3.out.size)
    refine (HR2.out.below b24).mono (fun j hj => ?_)
    have h1 := HB1.out.size
    have h3 := HB3.out.size
    exact ⟨Or.inr ⟨by omega, by omega⟩, by omega⟩
theorem wopen_whole (d : Nat) (n : Nm) (D : Dk) (P : Nat → Prop) (w : World) (h : DK w d D P) (hn : n.length ≤ 1000) (hx : (wreadD D n).2 = 0) (hf : (wreadD D n).1.length ≤ 1048576) (hs : (spl (wreadD D n).1).2 = (wreadD D n).1.length) : Calls Try.prog 11 #[.pointer (some ⟨d, 0, none⟩), encStr n] w (OpenOk d n D (bodD D n) P w) := (wopen_whole_b d n D P w h hn hx hf hs).mono fun _ _ h => h.1

set_option maxRecDepth 100000 in
set_option maxHeartbeats 4000000 in
/-- What lies behind them is cut off. -/
theorem wopen_cut (d : Nat) (n : Nm) (D : Dk) (P : Nat → Prop) (w : World) (h : DK w d D P) (hn : n.length ≤ 1000) (hx : (wreadD D n).2 = 0) (hf : (wreadD D n).1.length ≤ 1048576) (hs : (spl (wreadD D n).1).2 < (wreadD D n).1.length) (hr : (operD (eSho n ((spl (wreadD D n).1).2 : Nat)) D).2 = 0) : Calls Try.prog 11 #[.pointer (some ⟨d, 0, none⟩), encStr n] w (OpenOk d n (operD (eSho n ((spl (wreadD D n).1).2 : Nat)) D).1 (bodD D n) P w) := by
  have HK := hid h
  have HB := hid (wread_bts h.good n)
  unfold bodD
  obtain ⟨b, hb⟩ : ∃ b, b = (wreadD D n).1 := ⟨_, rfl⟩
  obtain ⟨x, hxx⟩ : ∃ x, x = (wreadD D n).2 := ⟨_, rfl⟩
  rw [← hb] at hf hs hr HB ⊢
  rw [← hxx] at hx
  subst hx
  obtain ⟨z, hz⟩ : ∃ z, z = (spl b).2 := ⟨_, rfl⟩
  have HZ := hid hz
  rw [← hz] at hs hr ⊢
  obtain ⟨r, hrr⟩ : ∃ r, r = operD (eSho n (z : Nat)) D := ⟨_, rfl⟩
  rw [← hrr] at hr ⊢
  have HR := hid hrr
  have HR0 := hid hr
  have hlt : decide ((z : Int) < (b.length : Int)) = true := decide_eq_true (by omega)
  have hlt2 : z < b.length := hs
  have HX := hid hxx
  have HBB := hid hb
  have HF := hid hf
  have hn2 := hid hn
  clear h hb hxx hz hf hs hn hrr hr
  go_enter Try.func11, Try.ntmps11
  go_wp2_with (first
    | (go_at_call 31; refine (sclone_any n _ (by have := hn2.out; omega)).mono ?_; rintro e w4 ⟨rfl, hb4⟩; have HB4 := hid hb4; clear hb4)
    | (go_at_call 30; have hq := (HK.out.below HB1.out).more HB2.out; refine (shorten_op _ n (z : Nat) _ _ _ hq (nl (by have := hn2.out; omega)) (by have := HF.out; omega)).mono ?_; rintro e w3 ⟨x3, rfl, hx3, q1, q2⟩; rw [← HR.out] at hx3 q1; rw [HR0.out] at hx3; subst hx3; have K3 := hid (And.intro q1 q2); clear hq q1 q2)
    | (go_at_call 29; refine (split_fresh _ _ _ _ _ HS1.out.1 HB.out HS1.out.2 HF.out).mono ?_; rintro e w2 ⟨a2, c2, rfl, hr2, hb2⟩; rw [← HZ.out]; have HR2 := hid hr2; have HB2 := hid hb2; clear hr2 hb2)
    | (go_at_call 28; refine (wread_any _ n _ _ _ HK.out (nl (by have := hn2.out; omega))).mono ?_; rintro e w1 ⟨a1, c1, rfl, hs1, hl1, hb1⟩; rw [← HBB.out] at hs1 hl1; rw [← HX.out, ← HBB.out]; have HS1 := hid (And.intro hs1 hl1); have HB1 := hid hb1; clear hs1 hl1 hb1))
  go_ret3
  have hz1 := HB1.out.size
  have hz2 := HB2.out.size
  have hz3 := K3.out.2.size
  have hz4 := HB4.out.size
  have b5 := HB4.out.trans ((new_below w4 (.cells (Lg.cells ⟨0, d, n, (spl b).1.length, 0⟩) 68)).mono hz4)
  refine ⟨w4.heap.size, a2, c2, fun j => (P j ∨ (w1.heap.size ≤ j ∧ j < w2.heap.size)) ∨ (w3.heap.size ≤ j ∧ j < w4.heap.size + 1), rfl, ?_, ?_, fun j hj => Or.inl (Or.inl hj), Or.inr ⟨hz4, by omega⟩, by omega, heap_new w4 _, ?_⟩
  · exact (K3.out.1.more b5).less (fun j hj => by
      rcases hj with hj | hj
      · exact Or.inl hj
      · exact Or.inr ⟨hj.1, by simp; omega⟩)
  · exact (((KP.below HB1.out).trans (KP.below HB2.out)).trans (K3.out.2.less (fun j hj => Or.inl hj))).trans (KP.below b5)
  · refine ((HR2.out.kp K3.out.2 (fun j hj => Or.inr hj)).below b5).mono (fun j hj => ⟨Or.inl (Or.inr hj), by omega⟩)
end
end Go.Proofs.Ytegikicpffoglaa
