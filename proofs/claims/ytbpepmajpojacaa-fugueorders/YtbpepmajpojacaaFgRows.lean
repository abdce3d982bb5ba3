/- Chars, Dots, All: what is told of the characters, one by one. -/
import Derived.Test.YtbpepmajpojacaaFgLen
import Derived.Maps.AppendAt
set_option linter.unusedVariables false
namespace Go.Proofs.Ytbpepmajpojacaa
open Go.RowKit Go.Shelf

attribute [local go_sem] Oper.semAt_some

theorem Try.infoI : (Try.prog.info? 3).map (fun i => (i.zero, i.size, i.bytes)) = some (some (.int .i64 0), 1, 8) := by kernel_rfl
theorem Try.infoD : (Try.prog.info? 24).map (fun i => (i.zero, i.size, i.bytes)) = some (some (.agg #[.int .i64 0, .int .i64 0]), 2, 16) := by kernel_rfl

/-- What is owned stays owned where a block turns that is no cells. -/
theorem owns_own {X Y : World} {row : Option Nat} {n e size k B₀ : Nat} {v : Value} {xs : List Value} (h : X.ownsRow n e size v k xs) (hg : X.grownBy Y row) (hr : ∀ r, row = some r → B₀ ≤ r ∧ ∃ o : Obj, X.heap[r]? = some o ∧ o.isCells = false) : Y.ownsRow n e size v k xs := by
  refine h.kept hg ?_
  rcases h.2 with ⟨rfl, _⟩ | ⟨g, cap, cur, rfl, _, hgb, _⟩
  · exact .inl rfl
  · refine .inr fun e' => ?_
    obtain ⟨_, o, ho, hc⟩ := hr g (by simpa [Value.ownBlock] using e'.symm)
    rw [hgb] at ho; cases ho; cases hc

/-- An append whose run is known, in a region that draws its order. -/
theorem append_step {F : Fence} {n : Nat} {P : Program} {ops : Array Oper} {o : Oper} {a : Act} {w : World} {K : Act → World → Prop} {Q : Exit → Act → World → Prop} (s x : Operand) (t : TypeId) (v u v' : Value) (w' : World)
    (hgd : o.guard = none) (hop : o.op = Op.call { callee := Callee.builtin Builtin.append, args := #[s, x], argTypes := #[t, t] }) (hs : a.eval s = v) (hx : a.eval x = u)
    (hrun : (Builtin.append_ #[t, t] o.type #[v, u]).run P w = .ok v' w') (hK : K (a.put o.dst v') w') :
    if Region.wanted o (yielded ops a.tmps) = true then Oper.wpIn F n P o a w K Q else (∀ f, o.about P w a.eval = some f → F.fn f) ∧ K (a.put o.dst undef) w := by
  simp only [Region.wanted, hgd, if_true]
  unfold Oper.wpIn
  refine ⟨?_, ?_⟩
  · simp [Oper.about, hop, resolve, Target.leads, Sem.run_pure]
  · rw [Oper.semAt_plain F _ _ (by rw [hop]; intro c hc'; cases hc')]
    simp [execOp, hop, resolve, invoke, builtin, hs, hx, hrun, Result.andThen]
    exact hK

/-- One more to a row whose slice lies in a box. -/
theorem row_step {W : World} {n₀ B : Nat} {t e : TypeId} {i0 : TypeInfo} {z : Value} {size bytes k : Nat} {v : Value} {xs : List Value} (ht : Try.prog.underlying t = some (.slice e)) (hi : Try.prog.info? e = some i0) (hz : i0.zero = some z) (hsize : i0.size = size) (hby : i0.bytes = bytes) (hzs : z.cells.size = size) (hsz : 0 < size)
    (hb16 : bytes ≤ 16) (hv : Boxed W B t v) (hte : t ≠ e) (hrow : W.ownsRow n₀ e size v k xs) (hn₀ : n₀ ≤ W.heap.size) (hB : n₀ ≤ B) (hk : k < 1000000) (news : List Value) (hnl : news.length = size) (h1 : ∀ u ∈ news, u.oneCell' = true)
    (hn1 : t ≠ 106) (hn2 : t ≠ 107) (hn3 : e ≠ 106) (hn4 : e ≠ 107) :
    ∃ g' cap' w2, (Builtin.append_ #[t, t] t #[v, .slice (some ⟨W.heap.size, 0, none⟩) 1 1]).run Try.prog (W.alloc (.cells news.toArray e)) = .ok (.slice (some ⟨g', 0, none⟩) (k + 1) cap') w2 ∧ w2.cell? ⟨B, 0, none⟩ = some v ∧ w2.frozen? ⟨B, 0, none⟩ = false ∧
      Hid (∃ w3, w3 = w2.setCell ⟨B, 0, none⟩ (.slice (some ⟨g', 0, none⟩) (k + 1) cap') ∧ Boxed w3 B t (.slice (some ⟨g', 0, none⟩) (k + 1) cap') ∧ w3.ownsRow n₀ e size (.slice (some ⟨g', 0, none⟩) (k + 1) cap') (k + 1) (xs ++ news) ∧ KeepsOthers W w3 ∧ Below n₀ W w3 ∧ KT n₀ W w3) := by
  have hcell : ∀ j u, news[j]? = some u → (W.alloc (.cells news.toArray e)).cell? ((⟨W.heap.size, 0, none⟩ : Addr).add j) = some u := fun j u hu => by
    have ea : ((⟨W.heap.size, 0, none⟩ : Addr).add j) = ⟨W.heap.size, j, none⟩ := by unfold Addr.add; split <;> simp_all
    rw [ea]
    simp only [World.cell?]
    rw [show (W.alloc (.cells news.toArray e)).heap[W.heap.size]? = some (.cells news.toArray e (0, 0)) from World.alloc_heap_new W _]
    simpa using hu
  have hbb : (k + 1) * bytes ≤ 140737488355328 := by
    have : (k + 1) * bytes ≤ 1000000 * 16 := Nat.mul_le_mul (by omega) hb16
    omega
  obtain ⟨v', w2, hrun, hown', hgrow, _⟩ := run_append_own (P := Try.prog) (W.alloc (.cells news.toArray e)) n₀ t t e i0 z size bytes ht hi hz hsize hby hzs hsz v k xs (hrow.alloc _) ⟨W.heap.size, 0, none⟩ 1 1 news (by omega) hcell h1 (by unfold maxLen; omega) hbb (by simp; omega)
  obtain ⟨g', cap', rfl⟩ := ownsRow_succ hown'
  obtain ⟨hv2, hv3, hr2, hk2, hb2⟩ := hv.appended hte hrow hn₀ hB hown' hgrow
  refine ⟨g', cap', w2, hrun, hv2.cell, hv2.frozen, _, rfl, hv3, hr2, hk2, hb2, hb2.size, fun j hj => hb2.block j hj, fun j cs ty fz hty hj => ?_⟩
  have hjl := (Array.getElem?_eq_some_iff.1 hj).1
  have a1 : (W.alloc (.cells news.toArray e)).heap[j]? = some (.cells cs ty fz) := (Below.heap_alloc _ _ _ hjl).trans hj
  have a2 : w2.heap[j]? = some (.cells cs ty fz) := by
    refine (hgrow.block j (by simp; omega) (fun ej => ?_)).trans a1
    rcases hrow.2 with ⟨rfl, _⟩ | ⟨g, cap, cur, rfl, _, hgb, _⟩
    · simp [Value.ownBlock] at ej
    · simp only [Value.ownBlock, Option.some.injEq] at ej
      subst ej
      rw [hj] at hgb
      cases hgb
      rcases hty with h | h
      · exact hn3 h
      · exact hn4 h
  refine (heap_setCell_other w2 ⟨B, 0, none⟩ j _ (fun ej => ?_)).trans a2
  simp at ej
  subst ej
  rw [show W.heap[j]? = _ from hv] at hj
  cases hj
  rcases hty with h | h
  · exact hn1 h
  · exact hn2 h

set_option maxRecDepth 100000 in
set_option maxHeartbeats 4000000 in
theorem chars_of {w : World} {v : Value} {L : List Cr} {G : Dt → Option Nat} {N : Nat} (hs : SeqL 47 v L G N w) (hr : RdC w L G) (hN : N ≤ 1000000) : Calls Try.prog 27 #[v] w fun e w' => ∃ v', e = .returned v' ∧ w'.ownsRow w.heap.size 3 1 v' L.length (L.map (fun c => Value.int .i64 c.ch)) ∧ Below w.heap.size w w' := by
  have hmx : Try.prog.follows .mixedOrders = true := by kernel_rfl
  obtain ⟨i0, hi, hz0, hz1, hz2⟩ := info_parts Try.infoI
  refine (callsIn_wide (n := 3)).1 ?_
  refine callsIn_of_wp_marks Try.func27 rfl trivial ?_ rfl
  simp only [Try.ntmps27, List.size_toArray, List.length_cons, List.length_nil, Nat.reduceAdd, Nat.reduceSub, Array.replicate_succ, Array.replicate_zero, List.push_toArray, List.append_toArray, List.nil_append, List.cons_append]
  gi_wp2
  obtain ⟨W0, hW0⟩ : ∃ W0, W0 = w.alloc (.cells #[.slice none 0 0] 45) := ⟨_, rfl⟩
  have hsz : W0.heap.size = w.heap.size + 1 := by rw [hW0]; simp
  have hbox : Boxed W0 w.heap.size 45 (.slice none 0 0) := by rw [hW0]; exact Boxed.new w 45 (.slice none 0 0)
  have hB0 : Below w.heap.size w W0 := by rw [hW0]; exact (Below.refl _ w).alloc (Nat.le_refl _) _
  rw [← hW0]
  clear hW0
  refine range_method (α := El L) (gf := 47) (fs := #[v]) rfl (enters_of Try.func47 (by kernel_rfl) rfl) (hs _) (fun h k => h.trans k) (fun W l o o' hl ho hc _ => KT.put W l o o' (by omega) ho hc) hB0 (fun _ => rfl)
    (fun pre W => (∃ v1, Boxed W w.heap.size 45 v1 ∧ W.ownsRow w.heap.size 3 1 v1 pre.length (pre.map (fun x => Value.int .i64 x.1.ch))) ∧ Below w.heap.size w W)
    (fun _ _ _ => False) ?own (fun _ _ _ _ _ h _ _ => h) ⟨⟨_, hbox, World.ownsRow_nil _ _ _ _⟩, hB0⟩
    (fun x => { tmps := #[v, undef, .slice none 0 0, .pointer (some ⟨w.heap.size, 0, none⟩), pvF ((G x.1.id).getD 0), v, .func (.func 47) #[v] #[], pvF ((G x.1.id).getD 0), undef, undef, undef, undef, undef, undef, undef, undef], defers := [] }) ?assign ?body ?done (fun _ _ _ _ _ _ h _ => h.elim)
  case own =>
    rintro s A B row ⟨⟨v1, h1, h3⟩, h2⟩ hg hrow
    exact ⟨⟨v1, boxed_own h1 hg hrow, owns_own h3 hg hrow⟩, below_own h2 (by omega) hg hrow⟩
  case assign =>
    intro l x W K hK
    unfold encC
    gi_wp2
    first | exact hK | simpa using hK
  case body =>
    rintro l' pre x W1 ⟨⟨v1, h1, h3⟩, h2⟩ hlen
    obtain ⟨g, lv, rv, hG, hg, hblk⟩ := hr x.1 x.2
    have hgW : W1.heap[g]? = _ := (h2.block g hg).trans hblk
    have hgd : pvF ((G x.1.id).getD 0) = .pointer (some ⟨g, 0, none⟩) := by rw [hG]; rfl
    rw [hgd]
    obtain ⟨Wd, hWd⟩ : ∃ Wd, Wd = W1.drew := ⟨_, rfl⟩
    have d2 : W1.cell? ⟨g, 2, none⟩ = some (.int .i64 x.1.ch) := by simp [World.cell?, hgW, Cr.cells]
    have c2 : Wd.cell? ⟨g, 2, none⟩ = some (.int .i64 x.1.ch) := by rw [hWd]; exact d2
    have hgl : g < Wd.heap.size := by rw [hWd]; exact (Array.getElem?_eq_some_iff.1 hgW).1
    have h1d : Boxed Wd w.heap.size 45 v1 := by rw [hWd]; exact h1
    have h3d : Wd.ownsRow w.heap.size 3 1 v1 pre.length (pre.map (fun x => Value.int .i64 x.1.ch)) := by rw [hWd]; exact h3.drew
    have hsd : w.heap.size ≤ Wd.heap.size := by rw [hWd]; exact h2.size
    have cb := h1d.cell
    have hbl : w.heap.size < Wd.heap.size := (Array.getElem?_eq_some_iff.1 (show Wd.heap[w.heap.size]? = _ from h1d)).1
    obtain ⟨g', cap', w2, hrun, hc2, hf2, hfin⟩ := row_step (n₀ := w.heap.size) Try.underlying45 hi hz0 hz1 hz2 rfl (by decide) (by decide) h1d (by decide) h3d hsd (Nat.le_refl _) (by omega) [.int .i64 x.1.ch] rfl (by simp [Value.oneCell']) (by decide) (by decide) (by decide) (by decide)
    have cb2 : (Wd.alloc (.cells #[.int .i64 x.1.ch] 3)).cell? ⟨w.heap.size, 0, none⟩ = some v1 := (h1d.alloc _).cell
    have hout : ∀ (w3 : World) (g3 c3 : Nat), Boxed w3 w.heap.size 45 (.slice (some ⟨g3, 0, none⟩) (pre.length + 1) c3) → w3.ownsRow w.heap.size 3 1 (.slice (some ⟨g3, 0, none⟩) (pre.length + 1) c3) (pre.length + 1) (pre.map (fun x => Value.int .i64 x.1.ch) ++ [.int .i64 x.1.ch]) → KeepsOthers Wd w3 → Below w.heap.size Wd w3 → KT w.heap.size Wd w3 →
        KeepsFrom W0.heap.size W1 w3 ∧ KT w.heap.size W1 w3 ∧ (∃ v1, Boxed w3 w.heap.size 45 v1 ∧ w3.ownsRow w.heap.size 3 1 v1 (pre ++ [x]).length ((pre ++ [x]).map (fun x => Value.int .i64 x.1.ch))) ∧ Below w.heap.size w w3 := fun w3 g3 c3 k1 k2 k3 k4 k5 => by
      rw [hWd] at k3 k4 k5
      refine ⟨((KeepsOthers.drew W1).trans k3).from _, ⟨k5.size, k5.low, k5.fn⟩, ⟨_, k1, ?_⟩, h2.trans ((Below.refl _ W1).drew.trans k4)⟩
      rw [List.length_append]
      have := k2
      simpa  using this
    clear h1d h3d
    gi_wp2
    refine wpIn_region_any hmx ?_
    change wpAnyIn _ _ _ _ _ _ _ _ _ (World.drew _)
    rw [← hWd]
    clear hWd
    refine wpAnyIn_ready (rs := [0, 1]) (by kernel_rfl) (by simp) ?_
    refine (AllReadyIn.cons rfl (fun K hK => ?_) (AllReadyIn.cons rfl (fun K hK => ?_) AllReadyIn.nil))
    · go_simp
      refine hK _ _ ?_
      clear hK K
      refine wpAnyIn_ready (rs := [1]) (by kernel_rfl) (by simp) ?_
      refine (AllReadyIn.cons rfl (fun K hK => ?_) AllReadyIn.nil)
      go_simp
      refine hK _ _ ?_
      clear hK K
      refine wpAnyIn_ready (rs := [2]) (by kernel_rfl) (by simp) ?_
      refine (AllReadyIn.cons rfl (fun K hK => ?_) AllReadyIn.nil)
      go_simp
      refine hK _ _ ?_
      clear hK K
      refine wpAnyIn_ready (rs := [3]) (by kernel_rfl) (by simp) ?_
      refine (AllReadyIn.cons rfl (fun K hK => ?_) AllReadyIn.nil)
      go_simp
      refine hK _ _ ?_
      clear hK K
      refine wpAnyIn_ready (rs := [4]) (by kernel_rfl) (by simp) ?_
      refine (AllReadyIn.cons rfl (fun K hK => ?_) AllReadyIn.nil)
      go_simp
      refine hK _ _ ?_
      clear hK K
      refine wpAnyIn_ready (rs := [5]) (by kernel_rfl) (by simp) ?_
      refine (AllReadyIn.cons rfl (fun K hK => ?_) AllReadyIn.nil)
      go_simp
      refine hK _ _ ?_
      clear hK K
      refine wpAnyIn_ready (rs := [6]) (by kernel_rfl) (by simp) ?_
      refine (AllReadyIn.cons rfl (fun K hK => ?_) AllReadyIn.nil)
      refine append_step _ _ 45 v1 _ _ w2 rfl rfl rfl rfl hrun ?_
      refine hK _ _ ?_
      clear hK K
      refine wpAnyIn_ready (rs := [7]) (by kernel_rfl) (by simp) ?_
      refine (AllReadyIn.cons rfl (fun K hK => ?_) AllReadyIn.nil)
      go_simp
      refine hK _ _ ?_
      clear hK K
      refine wpAnyIn_done (by kernel_rfl) ?_ _
      obtain ⟨w3, e3, hv3, hr3, hk3, hb3, hkt3⟩ := hfin.out
      rw [← e3]
      clear e3 hfin hrun hc2 hf2
      have hend := hid (hout w3 _ _ hv3 hr3 hk3 hb3 hkt3)
      clear hv3 hr3 hk3 hb3 hkt3
      gi_wp2
      exact hend.out
    · go_simp
      refine hK _ _ ?_
      clear hK K
      refine wpAnyIn_ready (rs := [0, 2]) (by kernel_rfl) (by simp) ?_
      refine (AllReadyIn.cons rfl (fun K hK => ?_) (AllReadyIn.cons rfl (fun K hK => ?_) AllReadyIn.nil))
      · go_simp
        refine hK _ _ ?_
        clear hK K
        refine wpAnyIn_ready (rs := [2]) (by kernel_rfl) (by simp) ?_
        refine (AllReadyIn.cons rfl (fun K hK => ?_) AllReadyIn.nil)
        go_simp
        refine hK _ _ ?_
        clear hK K
        refine wpAnyIn_ready (rs := [3]) (by kernel_rfl) (by simp) ?_
        refine (AllReadyIn.cons rfl (fun K hK => ?_) AllReadyIn.nil)
        go_simp
        refine hK _ _ ?_
        clear hK K
        refine wpAnyIn_ready (rs := [4]) (by kernel_rfl) (by simp) ?_
        refine (AllReadyIn.cons rfl (fun K hK => ?_) AllReadyIn.nil)
        go_simp
        refine hK _ _ ?_
        clear hK K
        refine wpAnyIn_ready (rs := [5]) (by kernel_rfl) (by simp) ?_
        refine (AllReadyIn.cons rfl (fun K hK => ?_) AllReadyIn.nil)
        go_simp
        refine hK _ _ ?_
        clear hK K
        refine wpAnyIn_ready (rs := [6]) (by kernel_rfl) (by simp) ?_
        refine (AllReadyIn.cons rfl (fun K hK => ?_) AllReadyIn.nil)
        refine append_step _ _ 45 v1 _ _ w2 rfl rfl rfl rfl hrun ?_
        refine hK _ _ ?_
        clear hK K
        refine wpAnyIn_ready (rs := [7]) (by kernel_rfl) (by simp) ?_
        refine (AllReadyIn.cons rfl (fun K hK => ?_) AllReadyIn.nil)
        go_simp
        refine hK _ _ ?_
        clear hK K
        refine wpAnyIn_done (by kernel_rfl) ?_ _
        obtain ⟨w3, e3, hv3, hr3, hk3, hb3, hkt3⟩ := hfin.out
        rw [← e3]
        clear e3 hfin hrun hc2 hf2
        have hend := hid (hout w3 _ _ hv3 hr3 hk3 hb3 hkt3)
        clear hv3 hr3 hk3 hb3 hkt3
        gi_wp2
        exact hend.out
      · go_simp
        refine hK _ _ ?_
        clear hK K
        refine wpAnyIn_ready (rs := [0, 3]) (by kernel_rfl) (by simp) ?_
        refine (AllReadyIn.cons rfl (fun K hK => ?_) (AllReadyIn.cons rfl (fun K hK => ?_) AllReadyIn.nil))
        · go_simp
          refine hK _ _ ?_
          clear hK K
          refine wpAnyIn_ready (rs := [3]) (by kernel_rfl) (by simp) ?_
          refine (AllReadyIn.cons rfl (fun K hK => ?_) AllReadyIn.nil)
          go_simp
          refine hK _ _ ?_
          clear hK K
          refine wpAnyIn_ready (rs := [4]) (by kernel_rfl) (by simp) ?_
          refine (AllReadyIn.cons rfl (fun K hK => ?_) AllReadyIn.nil)
          go_simp
          refine hK _ _ ?_
          clear hK K
          refine wpAnyIn_ready (rs := [5]) (by kernel_rfl) (by simp) ?_
          refine (AllReadyIn.cons rfl (fun K hK => ?_) AllReadyIn.nil)
          go_simp
          refine hK _ _ ?_
          clear hK K
          refine wpAnyIn_ready (rs := [6]) (by kernel_rfl) (by simp) ?_
          refine (AllReadyIn.cons rfl (fun K hK => ?_) AllReadyIn.nil)
          refine append_step _ _ 45 v1 _ _ w2 rfl rfl rfl rfl hrun ?_
          refine hK _ _ ?_
          clear hK K
          refine wpAnyIn_ready (rs := [7]) (by kernel_rfl) (by simp) ?_
          refine (AllReadyIn.cons rfl (fun K hK => ?_) AllReadyIn.nil)
          go_simp
          refine hK _ _ ?_
          clear hK K
          refine wpAnyIn_done (by kernel_rfl) ?_ _
          obtain ⟨w3, e3, hv3, hr3, hk3, hb3, hkt3⟩ := hfin.out
          rw [← e3]
          clear e3 hfin hrun hc2 hf2
          have hend := hid (hout w3 _ _ hv3 hr3 hk3 hb3 hkt3)
          clear hv3 hr3 hk3 hb3 hkt3
          gi_wp2
          exact hend.out
        · go_simp
          refine hK _ _ ?_
          clear hK K
          refine wpAnyIn_ready (rs := [0, 4]) (by kernel_rfl) (by simp) ?_
          refine (AllReadyIn.cons rfl (fun K hK => ?_) (AllReadyIn.cons rfl (fun K hK => ?_) AllReadyIn.nil))
          · go_simp
            refine hK _ _ ?_
            clear hK K
            refine wpAnyIn_ready (rs := [4]) (by kernel_rfl) (by simp) ?_
            refine (AllReadyIn.cons rfl (fun K hK => ?_) AllReadyIn.nil)
            go_simp
            refine hK _ _ ?_
            clear hK K
            refine wpAnyIn_ready (rs := [5]) (by kernel_rfl) (by simp) ?_
            refine (AllReadyIn.cons rfl (fun K hK => ?_) AllReadyIn.nil)
            go_simp
            refine hK _ _ ?_
            clear hK K
            refine wpAnyIn_ready (rs := [6]) (by kernel_rfl) (by simp) ?_
            refine (AllReadyIn.cons rfl (fun K hK => ?_) AllReadyIn.nil)
            refine append_step _ _ 45 v1 _ _ w2 rfl rfl rfl rfl hrun ?_
            refine hK _ _ ?_
            clear hK K
            refine wpAnyIn_ready (rs := [7]) (by kernel_rfl) (by simp) ?_
            refine (AllReadyIn.cons rfl (fun K hK => ?_) AllReadyIn.nil)
            go_simp
            refine hK _ _ ?_
            clear hK K
            refine wpAnyIn_done (by kernel_rfl) ?_ _
            obtain ⟨w3, e3, hv3, hr3, hk3, hb3, hkt3⟩ := hfin.out
            rw [← e3]
            clear e3 hfin hrun hc2 hf2
            have hend := hid (hout w3 _ _ hv3 hr3 hk3 hb3 hkt3)
            clear hv3 hr3 hk3 hb3 hkt3
            gi_wp2
            exact hend.out
          · go_simp
            refine hK _ _ ?_
            clear hK K
            refine wpAnyIn_ready (rs := [0, 5]) (by kernel_rfl) (by simp) ?_
            refine (AllReadyIn.cons rfl (fun K hK => ?_) (AllReadyIn.cons rfl (fun K hK => ?_) AllReadyIn.nil))
            · go_simp
              refine hK _ _ ?_
              clear hK K
              refine wpAnyIn_ready (rs := [5]) (by kernel_rfl) (by simp) ?_
              refine (AllReadyIn.cons rfl (fun K hK => ?_) AllReadyIn.nil)
              go_simp
              refine hK _ _ ?_
              clear hK K
              refine wpAnyIn_ready (rs := [6]) (by kernel_rfl) (by simp) ?_
              refine (AllReadyIn.cons rfl (fun K hK => ?_) AllReadyIn.nil)
              refine append_step _ _ 45 v1 _ _ w2 rfl rfl rfl rfl hrun ?_
              refine hK _ _ ?_
              clear hK K
              refine wpAnyIn_ready (rs := [7]) (by kernel_rfl) (by simp) ?_
              refine (AllReadyIn.cons rfl (fun K hK => ?_) AllReadyIn.nil)
              go_simp
              refine hK _ _ ?_
              clear hK K
              refine wpAnyIn_done (by kernel_rfl) ?_ _
              obtain ⟨w3, e3, hv3, hr3, hk3, hb3, hkt3⟩ := hfin.out
              rw [← e3]
              clear e3 hfin hrun hc2 hf2
              have hend := hid (hout w3 _ _ hv3 hr3 hk3 hb3 hkt3)
              clear hv3 hr3 hk3 hb3 hkt3
              gi_wp2
              exact hend.out
            · go_simp
              refine hK _ _ ?_
              clear hK K
              refine wpAnyIn_ready (rs := [0]) (by kernel_rfl) (by simp) ?_
              refine (AllReadyIn.cons rfl (fun K hK => ?_) AllReadyIn.nil)
              go_simp
              refine hK _ _ ?_
              clear hK K
              refine wpAnyIn_ready (rs := [6]) (by kernel_rfl) (by simp) ?_
              refine (AllReadyIn.cons rfl (fun K hK => ?_) AllReadyIn.nil)
              refine append_step _ _ 45 v1 _ _ w2 rfl rfl rfl rfl hrun ?_
              refine hK _ _ ?_
              clear hK K
              refine wpAnyIn_ready (rs := [7]) (by kernel_rfl) (by simp) ?_
              refine (AllReadyIn.cons rfl (fun K hK => ?_) AllReadyIn.nil)
              go_simp
              refine hK _ _ ?_
              clear hK K
              refine wpAnyIn_done (by kernel_rfl) ?_ _
              obtain ⟨w3, e3, hv3, hr3, hk3, hb3, hkt3⟩ := hfin.out
              rw [← e3]
              clear e3 hfin hrun hc2 hf2
              have hend := hid (hout w3 _ _ hv3 hr3 hk3 hb3 hkt3)
              clear hv3 hr3 hk3 hb3 hkt3
              gi_wp2
              exact hend.out
  case done =>
    rintro D ys W1 hD hS ⟨⟨v1, h1, h3⟩, h2⟩ hK
    have c0 := h1.cell
    have hl : ys.length = L.length := by have := congrArg List.length hS; simpa using this
    have hx : ys.map (fun x => Value.int .i64 x.1.ch) = L.map (fun c => Value.int .i64 c.ch) := by
      have e : ys.map (fun x => Value.int .i64 x.1.ch) = (ys.map (·.1)).map (fun c => Value.int .i64 c.ch) := (by rw [List.map_map]; rfl)
      rw [e, hS]
    rw [hx, hl] at h3
    have hfin := hid (And.intro (ownsRow_putObj h3 (.deferred none) hK rfl) (below_put h2 (by omega) hK rfl (.deferred none)))
    clear hl h1 h2 h3
    gi_wp2
    refine ⟨by simp, .inl ⟨_, _, rfl, run_takeDeferred hK, ?_⟩⟩
    exact ⟨_, results_tmp rfl _ _ _, v1, rfl, hfin.out.1, hfin.out.2⟩

set_option maxRecDepth 100000 in
set_option maxHeartbeats 4000000 in
theorem dots_of {w : World} {v : Value} {L : List Cr} {G : Dt → Option Nat} {N : Nat} (hs : SeqL 47 v L G N w) (hr : RdC w L G) (hN : N ≤ 1000000) : Calls Try.prog 24 #[v] w fun e w' => ∃ v', e = .returned v' ∧ w'.ownsRow w.heap.size 24 2 v' L.length (flat (L.map (·.id))) ∧ Below w.heap.size w w' := by
  have hmx : Try.prog.follows .mixedOrders = true := by kernel_rfl
  obtain ⟨i0, hi, hz0, hz1, hz2⟩ := info_parts Try.infoD
  refine (callsIn_wide (n := 3)).1 ?_
  refine callsIn_of_wp_marks Try.func24 rfl trivial ?_ rfl
  simp only [Try.ntmps24, List.size_toArray, List.length_cons, List.length_nil, Nat.reduceAdd, Nat.reduceSub, Array.replicate_succ, Array.replicate_zero, List.push_toArray, List.append_toArray, List.nil_append, List.cons_append]
  gi_wp2
  obtain ⟨W0, hW0⟩ : ∃ W0, W0 = w.alloc (.cells #[.slice none 0 0] 49) := ⟨_, rfl⟩
  have hsz : W0.heap.size = w.heap.size + 1 := by rw [hW0]; simp
  have hbox : Boxed W0 w.heap.size 49 (.slice none 0 0) := by rw [hW0]; exact Boxed.new w 49 (.slice none 0 0)
  have hB0 : Below w.heap.size w W0 := by rw [hW0]; exact (Below.refl _ w).alloc (Nat.le_refl _) _
  rw [← hW0]
  clear hW0
  refine range_method (α := El L) (gf := 47) (fs := #[v]) rfl (enters_of Try.func47 (by kernel_rfl) rfl) (hs _) (fun h k => h.trans k) (fun W l o o' hl ho hc _ => KT.put W l o o' (by omega) ho hc) hB0 (fun _ => rfl)
    (fun pre W => (∃ v1, Boxed W w.heap.size 49 v1 ∧ W.ownsRow w.heap.size 24 2 v1 pre.length (flat (pre.map (·.1.id)))) ∧ Below w.heap.size w W)
    (fun _ _ _ => False) ?own (fun _ _ _ _ _ h _ _ => h) ⟨⟨_, hbox, World.ownsRow_nil _ _ _ _⟩, hB0⟩
    (fun x => { tmps := #[v, undef, .slice none 0 0, .pointer (some ⟨w.heap.size, 0, none⟩), pvF ((G x.1.id).getD 0), v, .func (.func 47) #[v] #[], pvF ((G x.1.id).getD 0), undef, undef, undef, undef, undef, undef, undef, undef], defers := [] }) ?assign ?body ?done (fun _ _ _ _ _ _ h _ => h.elim)
  case own =>
    rintro s A B row ⟨⟨v1, h1, h3⟩, h2⟩ hg hrow
    exact ⟨⟨v1, boxed_own h1 hg hrow, owns_own h3 hg hrow⟩, below_own h2 (by omega) hg hrow⟩
  case assign =>
    intro l x W K hK
    unfold encC
    gi_wp2
    first | exact hK | simpa using hK
  case body =>
    rintro l' pre x W1 ⟨⟨v1, h1, h3⟩, h2⟩ hlen
    obtain ⟨g, lv, rv, hG, hg, hblk⟩ := hr x.1 x.2
    have hgW : W1.heap[g]? = _ := (h2.block g hg).trans hblk
    have hgd : pvF ((G x.1.id).getD 0) = .pointer (some ⟨g, 0, none⟩) := by rw [hG]; rfl
    rw [hgd]
    obtain ⟨Wd, hWd⟩ : ∃ Wd, Wd = W1.drew := ⟨_, rfl⟩
    have d0 : W1.cell? ⟨g, 0, none⟩ = some (.int .i64 x.1.id.1) := by simp [World.cell?, hgW, Cr.cells]
    have c0 : Wd.cell? ⟨g, 0, none⟩ = some (.int .i64 x.1.id.1) := by rw [hWd]; exact d0
    have d1 : W1.cell? ⟨g, 1, none⟩ = some (.int .i64 x.1.id.2) := by simp [World.cell?, hgW, Cr.cells]
    have c1 : Wd.cell? ⟨g, 1, none⟩ = some (.int .i64 x.1.id.2) := by rw [hWd]; exact d1
    have hgl : g < Wd.heap.size := by rw [hWd]; exact (Array.getElem?_eq_some_iff.1 hgW).1
    have h1d : Boxed Wd w.heap.size 49 v1 := by rw [hWd]; exact h1
    have h3d : Wd.ownsRow w.heap.size 24 2 v1 pre.length (flat (pre.map (·.1.id))) := by rw [hWd]; exact h3.drew
    have hsd : w.heap.size ≤ Wd.heap.size := by rw [hWd]; exact h2.size
    have cb := h1d.cell
    have hbl : w.heap.size < Wd.heap.size := (Array.getElem?_eq_some_iff.1 (show Wd.heap[w.heap.size]? = _ from h1d)).1
    obtain ⟨g', cap', w2, hrun, hc2, hf2, hfin⟩ := row_step (n₀ := w.heap.size) Try.underlying49 hi hz0 hz1 hz2 rfl (by decide) (by decide) h1d (by decide) h3d hsd (Nat.le_refl _) (by omega) [.int .i64 x.1.id.1, .int .i64 x.1.id.2] rfl (by simp [Value.oneCell']) (by decide) (by decide) (by decide) (by decide)
    have cb2 : (Wd.alloc (.cells #[.int .i64 x.1.id.1, .int .i64 x.1.id.2] 24)).cell? ⟨w.heap.size, 0, none⟩ = some v1 := (h1d.alloc _).cell
    have hout : ∀ (w3 : World) (g3 c3 : Nat), Boxed w3 w.heap.size 49 (.slice (some ⟨g3, 0, none⟩) (pre.length + 1) c3) → w3.ownsRow w.heap.size 24 2 (.slice (some ⟨g3, 0, none⟩) (pre.length + 1) c3) (pre.length + 1) (flat (pre.map (·.1.id)) ++ [.int .i64 x.1.id.1, .int .i64 x.1.id.2]) → KeepsOthers Wd w3 → Below w.heap.size Wd w3 → KT w.heap.size Wd w3 →
        KeepsFrom W0.heap.size W1 w3 ∧ KT w.heap.size W1 w3 ∧ (∃ v1, Boxed w3 w.heap.size 49 v1 ∧ w3.ownsRow w.heap.size 24 2 v1 (pre ++ [x]).length (flat ((pre ++ [x]).map (·.1.id)))) ∧ Below w.heap.size w w3 := fun w3 g3 c3 k1 k2 k3 k4 k5 => by
      rw [hWd] at k3 k4 k5
      refine ⟨((KeepsOthers.drew W1).trans k3).from _, ⟨k5.size, k5.low, k5.fn⟩, ⟨_, k1, ?_⟩, h2.trans ((Below.refl _ W1).drew.trans k4)⟩
      rw [List.length_append]
      have := k2
      simpa [flat_append, flat] using this
    clear h1d h3d
    gi_wp2
    refine wpIn_region_any hmx ?_
    change wpAnyIn _ _ _ _ _ _ _ _ _ (World.drew _)
    rw [← hWd]
    clear hWd
    refine wpAnyIn_ready (rs := [0, 1]) (by kernel_rfl) (by simp) ?_
    refine (AllReadyIn.cons rfl (fun K hK => ?_) (AllReadyIn.cons rfl (fun K hK => ?_) AllReadyIn.nil))
    · go_simp
      refine hK _ _ ?_
      clear hK K
      refine wpAnyIn_ready (rs := [1]) (by kernel_rfl) (by simp) ?_
      refine (AllReadyIn.cons rfl (fun K hK => ?_) AllReadyIn.nil)
      go_simp
      refine hK _ _ ?_
      clear hK K
      refine wpAnyIn_ready (rs := [2]) (by kernel_rfl) (by simp) ?_
      refine (AllReadyIn.cons rfl (fun K hK => ?_) AllReadyIn.nil)
      go_simp
      refine hK _ _ ?_
      clear hK K
      refine wpAnyIn_ready (rs := [3]) (by kernel_rfl) (by simp) ?_
      refine (AllReadyIn.cons rfl (fun K hK => ?_) AllReadyIn.nil)
      go_simp
      refine hK _ _ ?_
      clear hK K
      refine wpAnyIn_ready (rs := [4]) (by kernel_rfl) (by simp) ?_
      refine (AllReadyIn.cons rfl (fun K hK => ?_) AllReadyIn.nil)
      go_simp
      refine hK _ _ ?_
      clear hK K
      refine wpAnyIn_ready (rs := [5]) (by kernel_rfl) (by simp) ?_
      refine (AllReadyIn.cons rfl (fun K hK => ?_) AllReadyIn.nil)
      go_simp
      refine hK _ _ ?_
      clear hK K
      refine wpAnyIn_ready (rs := [6]) (by kernel_rfl) (by simp) ?_
      refine (AllReadyIn.cons rfl (fun K hK => ?_) AllReadyIn.nil)
      refine append_step _ _ 49 v1 _ _ w2 rfl rfl rfl rfl hrun ?_
      refine hK _ _ ?_
      clear hK K
      refine wpAnyIn_ready (rs := [7]) (by kernel_rfl) (by simp) ?_
      refine (AllReadyIn.cons rfl (fun K hK => ?_) AllReadyIn.nil)
      go_simp
      refine hK _ _ ?_
      clear hK K
      refine wpAnyIn_done (by kernel_rfl) ?_ _
      obtain ⟨w3, e3, hv3, hr3, hk3, hb3, hkt3⟩ := hfin.out
      rw [← e3]
      clear e3 hfin hrun hc2 hf2
      have hend := hid (hout w3 _ _ hv3 hr3 hk3 hb3 hkt3)
      clear hv3 hr3 hk3 hb3 hkt3
      gi_wp2
      exact hend.out
    · go_simp
      refine hK _ _ ?_
      clear hK K
      refine wpAnyIn_ready (rs := [0, 2]) (by kernel_rfl) (by simp) ?_
      refine (AllReadyIn.cons rfl (fun K hK => ?_) (AllReadyIn.cons rfl (fun K hK => ?_) AllReadyIn.nil))
      · go_simp
        refine hK _ _ ?_
        clear hK K
        refine wpAnyIn_ready (rs := [2]) (by kernel_rfl) (by simp) ?_
        refine (AllReadyIn.cons rfl (fun K hK => ?_) AllReadyIn.nil)
        go_simp
        refine hK _ _ ?_
        clear hK K
        refine wpAnyIn_ready (rs := [3]) (by kernel_rfl) (by simp) ?_
        refine (AllReadyIn.cons rfl (fun K hK => ?_) AllReadyIn.nil)
        go_simp
        refine hK _ _ ?_
        clear hK K
        refine wpAnyIn_ready (rs := [4]) (by kernel_rfl) (by simp) ?_
        refine (AllReadyIn.cons rfl (fun K hK => ?_) AllReadyIn.nil)
        go_simp
        refine hK _ _ ?_
        clear hK K
        refine wpAnyIn_ready (rs := [5]) (by kernel_rfl) (by simp) ?_
        refine (AllReadyIn.cons rfl (fun K hK => ?_) AllReadyIn.nil)
        go_simp
        refine hK _ _ ?_
        clear hK K
        refine wpAnyIn_ready (rs := [6]) (by kernel_rfl) (by simp) ?_
        refine (AllReadyIn.cons rfl (fun K hK => ?_) AllReadyIn.nil)
        refine append_step _ _ 49 v1 _ _ w2 rfl rfl rfl rfl hrun ?_
        refine hK _ _ ?_
        clear hK K
        refine wpAnyIn_ready (rs := [7]) (by kernel_rfl) (by simp) ?_
        refine (AllReadyIn.cons rfl (fun K hK => ?_) AllReadyIn.nil)
        go_simp
        refine hK _ _ ?_
        clear hK K
        refine wpAnyIn_done (by kernel_rfl) ?_ _
        obtain ⟨w3, e3, hv3, hr3, hk3, hb3, hkt3⟩ := hfin.out
        rw [← e3]
        clear e3 hfin hrun hc2 hf2
        have hend := hid (hout w3 _ _ hv3 hr3 hk3 hb3 hkt3)
        clear hv3 hr3 hk3 hb3 hkt3
        gi_wp2
        exact hend.out
      · go_simp
        refine hK _ _ ?_
        clear hK K
        refine wpAnyIn_ready (rs := [0, 3]) (by kernel_rfl) (by simp) ?_
        refine (AllReadyIn.cons rfl (fun K hK => ?_) (AllReadyIn.cons rfl (fun K hK => ?_) AllReadyIn.nil))
        · go_simp
          refine hK _ _ ?_
          clear hK K
          refine wpAnyIn_ready (rs := [3]) (by kernel_rfl) (by simp) ?_
          refine (AllReadyIn.cons rfl (fun K hK => ?_) AllReadyIn.nil)
          go_simp
          refine hK _ _ ?_
          clear hK K
          refine wpAnyIn_ready (rs := [4]) (by kernel_rfl) (by simp) ?_
          refine (AllReadyIn.cons rfl (fun K hK => ?_) AllReadyIn.nil)
          go_simp
          refine hK _ _ ?_
          clear hK K
          refine wpAnyIn_ready (rs := [5]) (by kernel_rfl) (by simp) ?_
          refine (AllReadyIn.cons rfl (fun K hK => ?_) AllReadyIn.nil)
          go_simp
          refine hK _ _ ?_
          clear hK K
          refine wpAnyIn_ready (rs := [6]) (by kernel_rfl) (by simp) ?_
          refine (AllReadyIn.cons rfl (fun K hK => ?_) AllReadyIn.nil)
          refine append_step _ _ 49 v1 _ _ w2 rfl rfl rfl rfl hrun ?_
          refine hK _ _ ?_
          clear hK K
          refine wpAnyIn_ready (rs := [7]) (by kernel_rfl) (by simp) ?_
          refine (AllReadyIn.cons rfl (fun K hK => ?_) AllReadyIn.nil)
          go_simp
          refine hK _ _ ?_
          clear hK K
          refine wpAnyIn_done (by kernel_rfl) ?_ _
          obtain ⟨w3, e3, hv3, hr3, hk3, hb3, hkt3⟩ := hfin.out
          rw [← e3]
          clear e3 hfin hrun hc2 hf2
          have hend := hid (hout w3 _ _ hv3 hr3 hk3 hb3 hkt3)
          clear hv3 hr3 hk3 hb3 hkt3
          gi_wp2
          exact hend.out
        · go_simp
          refine hK _ _ ?_
          clear hK K
          refine wpAnyIn_ready (rs := [0, 4]) (by kernel_rfl) (by simp) ?_
          refine (AllReadyIn.cons rfl (fun K hK => ?_) (AllReadyIn.cons rfl (fun K hK => ?_) AllReadyIn.nil))
          · go_simp
            refine hK _ _ ?_
            clear hK K
            refine wpAnyIn_ready (rs := [4]) (by kernel_rfl) (by simp) ?_
            refine (AllReadyIn.cons rfl (fun K hK => ?_) AllReadyIn.nil)
            go_simp
            refine hK _ _ ?_
            clear hK K
            refine wpAnyIn_ready (rs := [5]) (by kernel_rfl) (by simp) ?_
            refine (AllReadyIn.cons rfl (fun K hK => ?_) AllReadyIn.nil)
            go_simp
            refine hK _ _ ?_
            clear hK K
            refine wpAnyIn_ready (rs := [6]) (by kernel_rfl) (by simp) ?_
            refine (AllReadyIn.cons rfl (fun K hK => ?_) AllReadyIn.nil)
            refine append_step _ _ 49 v1 _ _ w2 rfl rfl rfl rfl hrun ?_
            refine hK _ _ ?_
            clear hK K
            refine wpAnyIn_ready (rs := [7]) (by kernel_rfl) (by simp) ?_
            refine (AllReadyIn.cons rfl (fun K hK => ?_) AllReadyIn.nil)
            go_simp
            refine hK _ _ ?_
            clear hK K
            refine wpAnyIn_done (by kernel_rfl) ?_ _
            obtain ⟨w3, e3, hv3, hr3, hk3, hb3, hkt3⟩ := hfin.out
            rw [← e3]
            clear e3 hfin hrun hc2 hf2
            have hend := hid (hout w3 _ _ hv3 hr3 hk3 hb3 hkt3)
            clear hv3 hr3 hk3 hb3 hkt3
            gi_wp2
            exact hend.out
          · go_simp
            refine hK _ _ ?_
            clear hK K
            refine wpAnyIn_ready (rs := [0, 5]) (by kernel_rfl) (by simp) ?_
            refine (AllReadyIn.cons rfl (fun K hK => ?_) (AllReadyIn.cons rfl (fun K hK => ?_) AllReadyIn.nil))
            · go_simp
              refine hK _ _ ?_
              clear hK K
              refine wpAnyIn_ready (rs := [5]) (by kernel_rfl) (by simp) ?_
              refine (AllReadyIn.cons rfl (fun K hK => ?_) AllReadyIn.nil)
              go_simp
              refine hK _ _ ?_
              clear hK K
              refine wpAnyIn_ready (rs := [6]) (by kernel_rfl) (by simp) ?_
              refine (AllReadyIn.cons rfl (fun K hK => ?_) AllReadyIn.nil)
              refine append_step _ _ 49 v1 _ _ w2 rfl rfl rfl rfl hrun ?_
              refine hK _ _ ?_
              clear hK K
              refine wpAnyIn_ready (rs := [7]) (by kernel_rfl) (by simp) ?_
              refine (AllReadyIn.cons rfl (fun K hK => ?_) AllReadyIn.nil)
              go_simp
              refine hK _ _ ?_
              clear hK K
              refine wpAnyIn_done (by kernel_rfl) ?_ _
              obtain ⟨w3, e3, hv3, hr3, hk3, hb3, hkt3⟩ := hfin.out
              rw [← e3]
              clear e3 hfin hrun hc2 hf2
              have hend := hid (hout w3 _ _ hv3 hr3 hk3 hb3 hkt3)
              clear hv3 hr3 hk3 hb3 hkt3
              gi_wp2
              exact hend.out
            · go_simp
              refine hK _ _ ?_
              clear hK K
              refine wpAnyIn_ready (rs := [0]) (by kernel_rfl) (by simp) ?_
              refine (AllReadyIn.cons rfl (fun K hK => ?_) AllReadyIn.nil)
              go_simp
              refine hK _ _ ?_
              clear hK K
              refine wpAnyIn_ready (rs := [6]) (by kernel_rfl) (by simp) ?_
              refine (AllReadyIn.cons rfl (fun K hK => ?_) AllReadyIn.nil)
              refine append_step _ _ 49 v1 _ _ w2 rfl rfl rfl rfl hrun ?_
              refine hK _ _ ?_
              clear hK K
              refine wpAnyIn_ready (rs := [7]) (by kernel_rfl) (by simp) ?_
              refine (AllReadyIn.cons rfl (fun K hK => ?_) AllReadyIn.nil)
              go_simp
              refine hK _ _ ?_
              clear hK K
              refine wpAnyIn_done (by kernel_rfl) ?_ _
              obtain ⟨w3, e3, hv3, hr3, hk3, hb3, hkt3⟩ := hfin.out
              rw [← e3]
              clear e3 hfin hrun hc2 hf2
              have hend := hid (hout w3 _ _ hv3 hr3 hk3 hb3 hkt3)
              clear hv3 hr3 hk3 hb3 hkt3
              gi_wp2
              exact hend.out
  case done =>
    rintro D ys W1 hD hS ⟨⟨v1, h1, h3⟩, h2⟩ hK
    have c0 := h1.cell
    have hl : ys.length = L.length := by have := congrArg List.length hS; simpa using this
    have hx : flat (ys.map (·.1.id)) = flat (L.map (·.id)) := by
      have e : ys.map (fun x => x.1.id) = (ys.map (·.1)).map (·.id) := (by rw [List.map_map]; rfl)
      rw [e, hS]
    rw [hx, hl] at h3
    have hfin := hid (And.intro (ownsRow_putObj h3 (.deferred none) hK rfl) (below_put h2 (by omega) hK rfl (.deferred none)))
    clear hl h1 h2 h3
    gi_wp2
    refine ⟨by simp, .inl ⟨_, _, rfl, run_takeDeferred hK, ?_⟩⟩
    exact ⟨_, results_tmp rfl _ _ _, v1, rfl, hfin.out.1, hfin.out.2⟩

set_option maxRecDepth 100000 in
set_option maxHeartbeats 4000000 in
theorem all_of {w : World} {v : Value} {L : List Cr} {G : Dt → Option Nat} {N : Nat} (hs : SeqL 39 v L G N w) (hr : RdC w L G) (hN : N ≤ 1000000) : Calls Try.prog 22 #[v] w fun e w' => ∃ v', e = .returned v' ∧ w'.ownsRow w.heap.size 24 2 v' L.length (flat (L.map (·.id))) ∧ Below w.heap.size w w' := by
  have hmx : Try.prog.follows .mixedOrders = true := by kernel_rfl
  obtain ⟨i0, hi, hz0, hz1, hz2⟩ := info_parts Try.infoD
  refine (callsIn_wide (n := 3)).1 ?_
  refine callsIn_of_wp_marks Try.func22 rfl trivial ?_ rfl
  simp only [Try.ntmps22, List.size_toArray, List.length_cons, List.length_nil, Nat.reduceAdd, Nat.reduceSub, Array.replicate_succ, Array.replicate_zero, List.push_toArray, List.append_toArray, List.nil_append, List.cons_append]
  gi_wp2
  obtain ⟨W0, hW0⟩ : ∃ W0, W0 = w.alloc (.cells #[.slice none 0 0] 49) := ⟨_, rfl⟩
  have hsz : W0.heap.size = w.heap.size + 1 := by rw [hW0]; simp
  have hbox : Boxed W0 w.heap.size 49 (.slice none 0 0) := by rw [hW0]; exact Boxed.new w 49 (.slice none 0 0)
  have hB0 : Below w.heap.size w W0 := by rw [hW0]; exact (Below.refl _ w).alloc (Nat.le_refl _) _
  rw [← hW0]
  clear hW0
  refine range_method (α := El L) (gf := 39) (fs := #[v]) rfl (enters_of Try.func39 (by kernel_rfl) rfl) (hs _) (fun h k => h.trans k) (fun W l o o' hl ho hc _ => KT.put W l o o' (by omega) ho hc) hB0 (fun _ => rfl)
    (fun pre W => (∃ v1, Boxed W w.heap.size 49 v1 ∧ W.ownsRow w.heap.size 24 2 v1 pre.length (flat (pre.map (·.1.id)))) ∧ Below w.heap.size w W)
    (fun _ _ _ => False) ?own (fun _ _ _ _ _ h _ _ => h) ⟨⟨_, hbox, World.ownsRow_nil _ _ _ _⟩, hB0⟩
    (fun x => { tmps := #[v, undef, .slice none 0 0, .pointer (some ⟨w.heap.size, 0, none⟩), pvF ((G x.1.id).getD 0), v, .func (.func 39) #[v] #[], pvF ((G x.1.id).getD 0), undef, undef, undef, undef, undef, undef, undef, undef], defers := [] }) ?assign ?body ?done (fun _ _ _ _ _ _ h _ => h.elim)
  case own =>
    rintro s A B row ⟨⟨v1, h1, h3⟩, h2⟩ hg hrow
    exact ⟨⟨v1, boxed_own h1 hg hrow, owns_own h3 hg hrow⟩, below_own h2 (by omega) hg hrow⟩
  case assign =>
    intro l x W K hK
    unfold encC
    gi_wp2
    first | exact hK | simpa using hK
  case body =>
    rintro l' pre x W1 ⟨⟨v1, h1, h3⟩, h2⟩ hlen
    obtain ⟨g, lv, rv, hG, hg, hblk⟩ := hr x.1 x.2
    have hgW : W1.heap[g]? = _ := (h2.block g hg).trans hblk
    have hgd : pvF ((G x.1.id).getD 0) = .pointer (some ⟨g, 0, none⟩) := by rw [hG]; rfl
    rw [hgd]
    obtain ⟨Wd, hWd⟩ : ∃ Wd, Wd = W1.drew := ⟨_, rfl⟩
    have d0 : W1.cell? ⟨g, 0, none⟩ = some (.int .i64 x.1.id.1) := by simp [World.cell?, hgW, Cr.cells]
    have c0 : Wd.cell? ⟨g, 0, none⟩ = some (.int .i64 x.1.id.1) := by rw [hWd]; exact d0
    have d1 : W1.cell? ⟨g, 1, none⟩ = some (.int .i64 x.1.id.2) := by simp [World.cell?, hgW, Cr.cells]
    have c1 : Wd.cell? ⟨g, 1, none⟩ = some (.int .i64 x.1.id.2) := by rw [hWd]; exact d1
    have hgl : g < Wd.heap.size := by rw [hWd]; exact (Array.getElem?_eq_some_iff.1 hgW).1
    have h1d : Boxed Wd w.heap.size 49 v1 := by rw [hWd]; exact h1
    have h3d : Wd.ownsRow w.heap.size 24 2 v1 pre.length (flat (pre.map (·.1.id))) := by rw [hWd]; exact h3.drew
    have hsd : w.heap.size ≤ Wd.heap.size := by rw [hWd]; exact h2.size
    have cb := h1d.cell
    have hbl : w.heap.size < Wd.heap.size := (Array.getElem?_eq_some_iff.1 (show Wd.heap[w.heap.size]? = _ from h1d)).1
    obtain ⟨g', cap', w2, hrun, hc2, hf2, hfin⟩ := row_step (n₀ := w.heap.size) Try.underlying49 hi hz0 hz1 hz2 rfl (by decide) (by decide) h1d (by decide) h3d hsd (Nat.le_refl _) (by omega) [.int .i64 x.1.id.1, .int .i64 x.1.id.2] rfl (by simp [Value.oneCell']) (by decide) (by decide) (by decide) (by decide)
    have cb2 : (Wd.alloc (.cells #[.int .i64 x.1.id.1, .int .i64 x.1.id.2] 24)).cell? ⟨w.heap.size, 0, none⟩ = some v1 := (h1d.alloc _).cell
    have hout : ∀ (w3 : World) (g3 c3 : Nat), Boxed w3 w.heap.size 49 (.slice (some ⟨g3, 0, none⟩) (pre.length + 1) c3) → w3.ownsRow w.heap.size 24 2 (.slice (some ⟨g3, 0, none⟩) (pre.length + 1) c3) (pre.length + 1) (flat (pre.map (·.1.id)) ++ [.int .i64 x.1.id.1, .int .i64 x.1.id.2]) → KeepsOthers Wd w3 → Below w.heap.size Wd w3 → KT w.heap.size Wd w3 →
        KeepsFrom W0.heap.size W1 w3 ∧ KT w.heap.size W1 w3 ∧ (∃ v1, Boxed w3 w.heap.size 49 v1 ∧ w3.ownsRow w.heap.size 24 2 v1 (pre ++ [x]).length (flat ((pre ++ [x]).map (·.1.id)))) ∧ Below w.heap.size w w3 := fun w3 g3 c3 k1 k2 k3 k4 k5 => by
      rw [hWd] at k3 k4 k5
      refine ⟨((KeepsOthers.drew W1).trans k3).from _, ⟨k5.size, k5.low, k5.fn⟩, ⟨_, k1, ?_⟩, h2.trans ((Below.refl _ W1).drew.trans k4)⟩
      rw [List.length_append]
      have := k2
      simpa [flat_append, flat] using this
    clear h1d h3d
    gi_wp2
    refine wpIn_region_any hmx ?_
    change wpAnyIn _ _ _ _ _ _ _ _ _ (World.drew _)
    rw [← hWd]
    clear hWd
    refine wpAnyIn_ready (rs := [0, 1]) (by kernel_rfl) (by simp) ?_
    refine (AllReadyIn.cons rfl (fun K hK => ?_) (AllReadyIn.cons rfl (fun K hK => ?_) AllReadyIn.nil))
    · go_simp
      refine hK _ _ ?_
      clear hK K
      refine wpAnyIn_ready (rs := [1]) (by kernel_rfl) (by simp) ?_
      refine (AllReadyIn.cons rfl (fun K hK => ?_) AllReadyIn.nil)
      go_simp
      refine hK _ _ ?_
      clear hK K
      refine wpAnyIn_ready (rs := [2]) (by kernel_rfl) (by simp) ?_
      refine (AllReadyIn.cons rfl (fun K hK => ?_) AllReadyIn.nil)
      go_simp
      refine hK _ _ ?_
      clear hK K
      refine wpAnyIn_ready (rs := [3]) (by kernel_rfl) (by simp) ?_
      refine (AllReadyIn.cons rfl (fun K hK => ?_) AllReadyIn.nil)
      go_simp
      refine hK _ _ ?_
      clear hK K
      refine wpAnyIn_ready (rs := [4]) (by kernel_rfl) (by simp) ?_
      refine (AllReadyIn.cons rfl (fun K hK => ?_) AllReadyIn.nil)
      go_simp
      refine hK _ _ ?_
      clear hK K
      refine wpAnyIn_ready (rs := [5]) (by kernel_rfl) (by simp) ?_
      refine (AllReadyIn.cons rfl (fun K hK => ?_) AllReadyIn.nil)
      go_simp
      refine hK _ _ ?_
      clear hK K
      refine wpAnyIn_ready (rs := [6]) (by kernel_rfl) (by simp) ?_
      refine (AllReadyIn.cons rfl (fun K hK => ?_) AllReadyIn.nil)
      refine append_step _ _ 49 v1 _ _ w2 rfl rfl rfl rfl hrun ?_
      refine hK _ _ ?_
      clear hK K
      refine wpAnyIn_ready (rs := [7]) (by kernel_rfl) (by simp) ?_
      refine (AllReadyIn.cons rfl (fun K hK => ?_) AllReadyIn.nil)
      go_simp
      refine hK _ _ ?_
      clear hK K
      refine wpAnyIn_done (by kernel_rfl) ?_ _
      obtain ⟨w3, e3, hv3, hr3, hk3, hb3, hkt3⟩ := hfin.out
      rw [← e3]
      clear e3 hfin hrun hc2 hf2
      have hend := hid (hout w3 _ _ hv3 hr3 hk3 hb3 hkt3)
      clear hv3 hr3 hk3 hb3 hkt3
      gi_wp2
      exact hend.out
    · go_simp
      refine hK _ _ ?_
      clear hK K
      refine wpAnyIn_ready (rs := [0, 2]) (by kernel_rfl) (by simp) ?_
      refine (AllReadyIn.cons rfl (fun K hK => ?_) (AllReadyIn.cons rfl (fun K hK => ?_) AllReadyIn.nil))
      · go_simp
        refine hK _ _ ?_
        clear hK K
        refine wpAnyIn_ready (rs := [2]) (by kernel_rfl) (by simp) ?_
        refine (AllReadyIn.cons rfl (fun K hK => ?_) AllReadyIn.nil)
        go_simp
        refine hK _ _ ?_
        clear hK K
        refine wpAnyIn_ready (rs := [3]) (by kernel_rfl) (by simp) ?_
        refine (AllReadyIn.cons rfl (fun K hK => ?_) AllReadyIn.nil)
        go_simp
        refine hK _ _ ?_
        clear hK K
        refine wpAnyIn_ready (rs := [4]) (by kernel_rfl) (by simp) ?_
        refine (AllReadyIn.cons rfl (fun K hK => ?_) AllReadyIn.nil)
        go_simp
        refine hK _ _ ?_
        clear hK K
        refine wpAnyIn_ready (rs := [5]) (by kernel_rfl) (by simp) ?_
        refine (AllReadyIn.cons rfl (fun K hK => ?_) AllReadyIn.nil)
        go_simp
        refine hK _ _ ?_
        clear hK K
        refine wpAnyIn_ready (rs := [6]) (by kernel_rfl) (by simp) ?_
        refine (AllReadyIn.cons rfl (fun K hK => ?_) AllReadyIn.nil)
        refine append_step _ _ 49 v1 _ _ w2 rfl rfl rfl rfl hrun ?_
        refine hK _ _ ?_
        clear hK K
        refine wpAnyIn_ready (rs := [7]) (by kernel_rfl) (by simp) ?_
        refine (AllReadyIn.cons rfl (fun K hK => ?_) AllReadyIn.nil)
        go_simp
        refine hK _ _ ?_
        clear hK K
        refine wpAnyIn_done (by kernel_rfl) ?_ _
        obtain ⟨w3, e3, hv3, hr3, hk3, hb3, hkt3⟩ := hfin.out
        rw [← e3]
        clear e3 hfin hrun hc2 hf2
        have hend := hid (hout w3 _ _ hv3 hr3 hk3 hb3 hkt3)
        clear hv3 hr3 hk3 hb3 hkt3
        gi_wp2
        exact hend.out
      · go_simp
        refine hK _ _ ?_
        clear hK K
        refine wpAnyIn_ready (rs := [0, 3]) (by kernel_rfl) (by simp) ?_
        refine (AllReadyIn.cons rfl (fun K hK => ?_) (AllReadyIn.cons rfl (fun K hK => ?_) AllReadyIn.nil))
        · go_simp
          refine hK _ _ ?_
          clear hK K
          refine wpAnyIn_ready (rs := [3]) (by kernel_rfl) (by simp) ?_
          refine (AllReadyIn.cons rfl (fun K hK => ?_) AllReadyIn.nil)
          go_simp
          refine hK _ _ ?_
          clear hK K
          refine wpAnyIn_ready (rs := [4]) (by kernel_rfl) (by simp) ?_
          refine (AllReadyIn.cons rfl (fun K hK => ?_) AllReadyIn.nil)
          go_simp
          refine hK _ _ ?_
          clear hK K
          refine wpAnyIn_ready (rs := [5]) (by kernel_rfl) (by simp) ?_
          refine (AllReadyIn.cons rfl (fun K hK => ?_) AllReadyIn.nil)
          go_simp
          refine hK _ _ ?_
          clear hK K
          refine wpAnyIn_ready (rs := [6]) (by kernel_rfl) (by simp) ?_
          refine (AllReadyIn.cons rfl (fun K hK => ?_) AllReadyIn.nil)
          refine append_step _ _ 49 v1 _ _ w2 rfl rfl rfl rfl hrun ?_
          refine hK _ _ ?_
          clear hK K
          refine wpAnyIn_ready (rs := [7]) (by kernel_rfl) (by simp) ?_
          refine (AllReadyIn.cons rfl (fun K hK => ?_) AllReadyIn.nil)
          go_simp
          refine hK _ _ ?_
          clear hK K
          refine wpAnyIn_done (by kernel_rfl) ?_ _
          obtain ⟨w3, e3, hv3, hr3, hk3, hb3, hkt3⟩ := hfin.out
          rw [← e3]
          clear e3 hfin hrun hc2 hf2
          have hend := hid (hout w3 _ _ hv3 hr3 hk3 hb3 hkt3)
          clear hv3 hr3 hk3 hb3 hkt3
          gi_wp2
          exact hend.out
        · go_simp
          refine hK _ _ ?_
          clear hK K
          refine wpAnyIn_ready (rs := [0, 4]) (by kernel_rfl) (by simp) ?_
          refine (AllReadyIn.cons rfl (fun K hK => ?_) (AllReadyIn.cons rfl (fun K hK => ?_) AllReadyIn.nil))
          · go_simp
            refine hK _ _ ?_
            clear hK K
            refine wpAnyIn_ready (rs := [4]) (by kernel_rfl) (by simp) ?_
            refine (AllReadyIn.cons rfl (fun K hK => ?_) AllReadyIn.nil)
            go_simp
            refine hK _ _ ?_
            clear hK K
            refine wpAnyIn_ready (rs := [5]) (by kernel_rfl) (by simp) ?_
            refine (AllReadyIn.cons rfl (fun K hK => ?_) AllReadyIn.nil)
            go_simp
            refine hK _ _ ?_
            clear hK K
            refine wpAnyIn_ready (rs := [6]) (by kernel_rfl) (by simp) ?_
            refine (AllReadyIn.cons rfl (fun K hK => ?_) AllReadyIn.nil)
            refine append_step _ _ 49 v1 _ _ w2 rfl rfl rfl rfl hrun ?_
            refine hK _ _ ?_
            clear hK K
            refine wpAnyIn_ready (rs := [7]) (by kernel_rfl) (by simp) ?_
            refine (AllReadyIn.cons rfl (fun K hK => ?_) AllReadyIn.nil)
            go_simp
            refine hK _ _ ?_
            clear hK K
            refine wpAnyIn_done (by kernel_rfl) ?_ _
            obtain ⟨w3, e3, hv3, hr3, hk3, hb3, hkt3⟩ := hfin.out
            rw [← e3]
            clear e3 hfin hrun hc2 hf2
            have hend := hid (hout w3 _ _ hv3 hr3 hk3 hb3 hkt3)
            clear hv3 hr3 hk3 hb3 hkt3
            gi_wp2
            exact hend.out
          · go_simp
            refine hK _ _ ?_
            clear hK K
            refine wpAnyIn_ready (rs := [0, 5]) (by kernel_rfl) (by simp) ?_
            refine (AllReadyIn.cons rfl (fun K hK => ?_) (AllReadyIn.cons rfl (fun K hK => ?_) AllReadyIn.nil))
            · go_simp
              refine hK _ _ ?_
              clear hK K
              refine wpAnyIn_ready (rs := [5]) (by kernel_rfl) (by simp) ?_
              refine (AllReadyIn.cons rfl (fun K hK => ?_) AllReadyIn.nil)
              go_simp
              refine hK _ _ ?_
              clear hK K
              refine wpAnyIn_ready (rs := [6]) (by kernel_rfl) (by simp) ?_
              refine (AllReadyIn.cons rfl (fun K hK => ?_) AllReadyIn.nil)
              refine append_step _ _ 49 v1 _ _ w2 rfl rfl rfl rfl hrun ?_
              refine hK _ _ ?_
              clear hK K
              refine wpAnyIn_ready (rs := [7]) (by kernel_rfl) (by simp) ?_
              refine (AllReadyIn.cons rfl (fun K hK => ?_) AllReadyIn.nil)
              go_simp
              refine hK _ _ ?_
              clear hK K
              refine wpAnyIn_done (by kernel_rfl) ?_ _
              obtain ⟨w3, e3, hv3, hr3, hk3, hb3, hkt3⟩ := hfin.out
              rw [← e3]
              clear e3 hfin hrun hc2 hf2
              have hend := hid (hout w3 _ _ hv3 hr3 hk3 hb3 hkt3)
              clear hv3 hr3 hk3 hb3 hkt3
              gi_wp2
              exact hend.out
            · go_simp
              refine hK _ _ ?_
              clear hK K
              refine wpAnyIn_ready (rs := [0]) (by kernel_rfl) (by simp) ?_
              refine (AllReadyIn.cons rfl (fun K hK => ?_) AllReadyIn.nil)
              go_simp
              refine hK _ _ ?_
              clear hK K
              refine wpAnyIn_ready (rs := [6]) (by kernel_rfl) (by simp) ?_
              refine (AllReadyIn.cons rfl (fun K hK => ?_) AllReadyIn.nil)
              refine append_step _ _ 49 v1 _ _ w2 rfl rfl rfl rfl hrun ?_
              refine hK _ _ ?_
              clear hK K
              refine wpAnyIn_ready (rs := [7]) (by kernel_rfl) (by simp) ?_
              refine (AllReadyIn.cons rfl (fun K hK => ?_) AllReadyIn.nil)
              go_simp
              refine hK _ _ ?_
              clear hK K
              refine wpAnyIn_done (by kernel_rfl) ?_ _
              obtain ⟨w3, e3, hv3, hr3, hk3, hb3, hkt3⟩ := hfin.out
              rw [← e3]
              clear e3 hfin hrun hc2 hf2
              have hend := hid (hout w3 _ _ hv3 hr3 hk3 hb3 hkt3)
              clear hv3 hr3 hk3 hb3 hkt3
              gi_wp2
              exact hend.out
  case done =>
    rintro D ys W1 hD hS ⟨⟨v1, h1, h3⟩, h2⟩ hK
    have c0 := h1.cell
    have hl : ys.length = L.length := by have := congrArg List.length hS; simpa using this
    have hx : flat (ys.map (·.1.id)) = flat (L.map (·.id)) := by
      have e : ys.map (fun x => x.1.id) = (ys.map (·.1)).map (·.id) := (by rw [List.map_map]; rfl)
      rw [e, hS]
    rw [hx, hl] at h3
    have hfin := hid (And.intro (ownsRow_putObj h3 (.deferred none) hK rfl) (below_put h2 (by omega) hK rfl (.deferred none)))
    clear hl h1 h2 h3
    gi_wp2
    refine ⟨by simp, .inl ⟨_, _, rfl, run_takeDeferred hK, ?_⟩⟩
    exact ⟨_, results_tmp rfl _ _ _, v1, rfl, hfin.out.1, hfin.out.2⟩
end Go.Proofs.Ytbpepmajpojacaa
