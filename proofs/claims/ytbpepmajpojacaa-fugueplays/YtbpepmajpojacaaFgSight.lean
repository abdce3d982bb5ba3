/- sight, as what is ranged over: the characters that are seen, in order. -/
import Derived.Test.YtbpepmajpojacaaFgSeq
set_option linter.unusedVariables false
namespace Go.Proofs.Ytbpepmajpojacaa
open Go.RowKit Go.Shelf

attribute [local go_sem] Oper.semAt_some

/-- Characters that can be read. -/
def RdC (w : World) (L : List Cr) (G : Dt → Option Nat) : Prop := ∀ c ∈ L, ∃ g l r, G c.id = some g ∧ g < w.heap.size ∧ w.heap[g]? = some (.cells (c.cells l r) 69 (0, 0))

theorem TX.rdc {w : World} {t : Nat} {T : List Cr} {G M : Dt → Option Nat} {n : Nat} {R : Dt → Bool → Value} (h : TX w t T G M n R) : RdC w (allC T) G := fun c hc => by
  obtain ⟨g, h1, _, h3⟩ := h.ch c (allC_mem hc)
  exact ⟨g, _, _, h1, (Array.getElem?_eq_some_iff.1 h3).1, h3⟩

/-- Those that are seen. -/
def filt {L : List Cr} (pre : List (El L)) : List (El (L.filter (·.seen))) := pre.filterMap (fun x => if h : x.1.seen = true then some ⟨x.1, List.mem_filter.2 ⟨x.2, h⟩⟩ else none)

theorem filt_map {L : List Cr} : ∀ pre : List (El L), (filt pre).map (·.1) = (pre.map (·.1)).filter (·.seen)
  | [] => rfl
  | x :: r => by
    have ih := filt_map r
    unfold filt at ih ⊢
    by_cases h : x.1.seen = true
    · rw [List.filterMap_cons_some (by rw [dif_pos h]), List.map_cons, List.map_cons, List.filter_cons_of_pos h, ih]
    · rw [List.filterMap_cons_none (by rw [dif_neg h]), List.map_cons, List.filter_cons_of_neg h, ih]

theorem filt_yes {L : List Cr} (pre : List (El L)) (x : El L) (h : x.1.seen = true) : filt (pre ++ [x]) = filt pre ++ [⟨x.1, List.mem_filter.2 ⟨x.2, h⟩⟩] := by
  unfold filt
  rw [List.filterMap_append, List.filterMap_cons_some (by rw [dif_pos h]), List.filterMap_nil]
theorem filt_no {L : List Cr} (pre : List (El L)) (x : El L) (h : x.1.seen = false) : filt (pre ++ [x]) = filt pre := by
  unfold filt
  rw [List.filterMap_append, List.filterMap_cons_none (by rw [dif_neg (by simp [h])]), List.filterMap_nil, List.append_nil]
theorem filt_len {L : List Cr} (pre : List (El L)) : (filt pre).length ≤ pre.length := List.length_filterMap_le _ _

theorem roundIn_wide {l' n m : Nat} {P : Program} {l : Nat} {f : FuncId} {tmps : Array Value} {assign body : Code} {W : World} {R : Ending → World → Prop} (h : RoundIn Fence.wide n P l f tmps assign body W R) : RoundIn (Fence.wide.inRound l') m P l f tmps assign body W R :=
  ⟨h.1, fun c cs _ => h.2 c cs (room_wide _)⟩

set_option maxRecDepth 100000 in
set_option maxHeartbeats 4000000 in
theorem sight_seq {w : World} {v : Value} {L : List Cr} {G : Dt → Option Nat} {N : Nat} (hs : SeqL 39 v L G N w) (hr : RdC w L G) : SeqL 47 v (L.filter (·.seen)) G N w := by
  intro n l J Jx W hB hJ hJx hY h0
  have hWs := hB.size
  refine callsIn_of_wp_marks Try.func47 rfl trivial ?_ rfl
  simp only [Try.ntmps47, List.size_toArray, List.length_cons, List.length_nil, Nat.reduceAdd, Nat.reduceSub, Array.replicate_succ, Array.replicate_zero, List.push_toArray, List.append_toArray, List.nil_append, List.cons_append]
  gi_wp2
  obtain ⟨W0, hW0⟩ : ∃ W0, W0 = W.alloc (.cells #[.func (.yield l) #[] #[]] 106) := ⟨_, rfl⟩
  have hsz : W0.heap.size = W.heap.size + 1 := by rw [hW0]; simp
  have hbox : W0.heap[W.heap.size]? = some (.cells #[.func (.yield l) #[] #[]] 106 (0, 0)) := by rw [hW0]; exact World.alloc_heap_new _ _
  have hB0 : Below w.heap.size w W0 := by rw [hW0]; exact hB.alloc hWs _
  have hJ0 : J [] W0 := by rw [hW0]; exact hJ.alloc _ h0
  rw [← hW0]
  clear hW0
  refine range_method (α := El L) (gf := 39) (fs := #[v]) rfl (enters_of Try.func39 (by kernel_rfl) rfl) (hs _) (fun h k => h.trans k) (fun W l o o' hl ho hc _ => KT.put W l o o' (by omega) ho hc) hB0 (fun _ => rfl)
    (fun pre W1 => J (filt pre) W1 ∧ W1.heap[W.heap.size]? = some (.cells #[.func (.yield l) #[] #[]] 106 (0, 0)) ∧ ∀ k, k < w.heap.size → W1.heap[k]? = w.heap[k]?)
    (fun c pre W1 => c = .ret ∧ Jx (filt pre) W1) ?own ?ownx ⟨hJ0, hbox, fun k hk => hB0.block k hk⟩
    (fun x => { tmps := #[v, .func (.yield l) #[] #[], undef, .pointer (some ⟨W.heap.size, 0, none⟩), pv ((G x.1.id).getD 0), v, .func (.func 39) #[v] #[], pv ((G x.1.id).getD 0), undef, undef, undef, undef, undef, undef, undef, undef, undef, undef], defers := [] }) ?assign ?body ?done ?stop
  case own =>
    rintro s A B row ⟨h1, h2, h3⟩ hg hrow
    have hlt : w.heap.size ≤ A.heap.size := by
      have := (Array.getElem?_eq_some_iff.1 h2).1
      omega
    exact ⟨hJ _ A B row h1 hg (fun r e => ⟨by have := (hrow r e).1; omega, (hrow r e).2⟩), (hg.block _ (Array.getElem?_eq_some_iff.1 h2).1 (fun e => by have := (hrow _ e.symm).1; omega)).trans h2, fun k hk => (hg.block k (by omega) (fun e => by have := (hrow _ e.symm).1; omega)).trans (h3 k hk)⟩
  case ownx =>
    rintro c s A B row ⟨h1, h2⟩ hg hrow
    exact ⟨h1, hJx _ A B row h2 hg (fun r e => ⟨by have := (hrow r e).1; omega, (hrow r e).2⟩)⟩
  case assign =>
    intro l x W K hK
    unfold encC
    gi_wp2
    exact hK
  case body =>
    rintro l' pre x W1 ⟨h1, h2, h3⟩ hlen
    obtain ⟨g, lv, rv, hG, hg, hblk⟩ := hr x.1 x.2
    have hgW := (h3 g hg).trans hblk
    have c3 : W1.cell? ⟨g, 3, none⟩ = some (.bool x.1.seen) := by simp [World.cell?, hgW, Cr.cells]
    have cy : W1.cell? ⟨W.heap.size, 0, none⟩ = some (.func (.yield l) #[] #[]) := by simp [World.cell?, h2]
    have hgd : pv ((G x.1.id).getD 0) = .pointer (some ⟨g, 0, none⟩) := by rw [hG]; rfl
    rw [hgd]
    have hdep : ∀ {m : Nat}, (Fence.wide.inRound l').depth.isSome = true → 1 ≤ m := fun h => by simp [Fence.wide] at h
    by_cases hsn : x.1.seen = true
    · rw [hsn] at c3
      have hlen' : (filt pre).length < N := by have := filt_len pre; omega
      obtain ⟨fn, tmps, assign, body, y1, y2⟩ := hY (filt pre) ⟨x.1, List.mem_filter.2 ⟨x.2, hsn⟩⟩ W1 h1 hlen'
      have he : encC G (L.filter (·.seen)) ⟨x.1, List.mem_filter.2 ⟨x.2, hsn⟩⟩ = #[.pointer (some ⟨g, 0, none⟩)] := by simp [encC, hG, pv]
      rw [he] at y1
      have hfy := hid (filt_yes pre x hsn)
      gi_wp2
      refine ⟨hdep, ?_⟩
      refine (roundIn_wide (l' := l') (m := n - 1 - 1 - 1) y2).mono ?_
      rintro e W2 (⟨rfl, k1, k2, k3⟩ | ⟨rfl, k1, k3⟩)
      · gi_wp2
        refine ⟨⟨k3.size, fun k o hk ho hc => k3.same k o (by omega) ho hc⟩, k2, ?_⟩
        exact ⟨(by rw [hfy.out]; exact k1), k2.fn _ _ _ _ (Or.inl rfl) h2, fun k hk => (k2.low k hk).trans (h3 k hk)⟩
      · gi_wp2
        refine ⟨⟨k3.size, fun k o hk ho hc => k3.same k o (by omega) ho hc⟩, rfl, (by rw [hfy.out]; exact k1)⟩
    · have hsn' : x.1.seen = false := by simpa using hsn
      rw [hsn'] at c3
      have hfn := hid (filt_no pre x hsn')
      gi_wp2
      refine ⟨fun _ h => (by cases h), ?_⟩
      gi_wp2
      exact ⟨KeepsFrom.refl _ _, KT.refl _ _, (by rw [hfn.out]; exact h1), h2, h3⟩
  case done =>
    rintro D ys W1 hD hS ⟨h1, h2, h3⟩ hK
    gi_wp2
    refine ⟨by simp, .inl ⟨_, _, rfl, run_takeDeferred hK, ?_⟩⟩
    refine ⟨_, results_none rfl _ _ _, ⟨_, rfl⟩, Or.inl ⟨filt ys, ?_, ?_⟩⟩
    · rw [filt_map, hS]
    · exact hJ.putObj _ h1 (by omega) hK rfl
  case stop =>
    rintro D c pre W1 hD hS ⟨rfl, h1⟩ hK
    gi_wp2
    refine ⟨by simp, .inl ⟨_, _, rfl, run_takeDeferred hK, ?_⟩⟩
    refine ⟨_, results_none rfl _ _ _, ⟨_, rfl⟩, Or.inr ⟨filt pre, ?_, ?_⟩⟩
    · rw [filt_map]
      exact hS.filter _
    · exact hJx.putObj _ h1 (by omega) hK rfl
end Go.Proofs.Ytbpepmajpojacaa
