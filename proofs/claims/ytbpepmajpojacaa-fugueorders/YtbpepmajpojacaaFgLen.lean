/- Len: how many are seen; a text that is none. -/
import Derived.Test.YtbpepmajpojacaaFgNext
import Derived.Laws.EntriesVeiled
namespace Go.Proofs.Ytbpepmajpojacaa
section
set_option linter.unusedVariables false
open Go.RowKit Go.Shelf

attribute [local go_sem] Oper.semAt_some

/-- What lies below n₀ is as it was, and so is what is a function's box. -/
structure KT (n₀ : Nat) (W W' : World) : Prop where
  size : W.heap.size ≤ W'.heap.size
  low : ∀ k, k < n₀ → W'.heap[k]? = W.heap[k]?
  fn : ∀ (k : Nat) (cs : Array Value) (ty : TypeId) (fz : Nat × Nat), ty = 106 ∨ ty = 107 → W.heap[k]? = some (.cells cs ty fz) → W'.heap[k]? = some (.cells cs ty fz)

theorem KT.refl (n₀ : Nat) (W : World) : KT n₀ W W := ⟨Nat.le_refl _, fun _ _ => rfl, fun _ _ _ _ _ h => h⟩
theorem KT.trans {n₀ : Nat} {A B C : World} (h : KT n₀ A B) (k : KT n₀ B C) : KT n₀ A C := ⟨Nat.le_trans h.size k.size, fun i hi => (k.low i hi).trans (h.low i hi), fun i cs ty fz ht hi => k.fn i cs ty fz ht (h.fn i cs ty fz ht hi)⟩
theorem KT.put {n₀ : Nat} (W : World) (l : Nat) (o o' : Obj) (hl : n₀ ≤ l) (ho : W.heap[l]? = some o) (hc : o.isCells = false) : KT n₀ W (W.putObj l o') :=
  ⟨by simp [World.putObj], fun k hk => World.putObj_heap_other (by omega), fun k cs ty fz _ hk => (World.putObj_heap_other (fun e => by subst e; rw [hk] at ho; cases ho; cases hc)).trans hk⟩

/-- A character of some. -/
abbrev El (L : List Cr) : Type := { c : Cr // c ∈ L }
/-- Where it lies. -/
def encC (G : Dt → Option Nat) (L : List Cr) (x : El L) : Array Value := #[pvF ((G x.1.id).getD 0)]

/-- What a method that is ranged over tells: these characters, in order. -/
def SeqL (f : Nat) (v : Value) (L : List Cr) (G : Dt → Option Nat) (N : Nat) (w : World) : Prop :=
  ∀ n, SeqM n Try.prog f #[v] (encC G L) (KT w.heap.size) (fun xs => xs.map (·.1) = L) (fun pre => pre.map (·.1) <+: L) N w

theorem yieldAt_wide {n m : Nat} {P : Program} {l : Nat} {args : Array Value} {W : World} {R : Ending → World → Prop} (h : YieldAt Fence.wide n P l args W R) : YieldAt Fence.wide m P l args W R := by
  obtain ⟨fn, tmps, assign, body, h1, h2⟩ := h
  exact ⟨fn, tmps, assign, body, h1, h2.1, fun c cs _ => h2.2 c cs (room_wide _)⟩

theorem ids_prefix {T : List Cr} (hT : WT T) {l : List Cr} (hl : ∀ c ∈ l, c ∈ T) {q : List Dt} (he : l.map Cr.id = q) (hq : q <+: allT T) : l <+: allC T := by
  have h1 : q = (allT T).take q.length := List.prefix_iff_eq_take.1 hq
  have h2 : l = (allC T).take q.length := by
    refine chars_of_ids hT _ _ hl (fun c hc => allC_mem (List.mem_of_mem_take hc)) ?_
    rw [he, List.map_take, allC_ids hT]
    exact h1
  rw [h2]
  exact List.take_prefix _ _

theorem El.in_T {T : List Cr} (l : List (El (allC T))) : ∀ c ∈ l.map (·.1), c ∈ T := fun c hc => by
  obtain ⟨x, _, rfl⟩ := List.mem_map.1 hc
  exact allC_mem x.2

set_option maxRecDepth 100000 in
set_option maxHeartbeats 4000000 in
theorem walk_seq {w : World} {t : Nat} {T : List Cr} {G M : Dt → Option Nat} {m : Nat} {R : Dt → Bool → Value} (h : TX w t T G M m R) (hTl : T.length ≤ 1000000) : SeqL 39 (.pointer (some ⟨t, 0, none⟩)) (allC T) G T.length w := by
  intro n l J Jx W hB hJ hJx hY h0
  have hmx : Try.prog.follows .mixedOrders = true := by kernel_rfl
  obtain ⟨fm, htb, hfm⟩ := h.tb
  have htl := h.lt
  have hWs := hB.size
  have ht := (hB.block t h.lt).trans htb
  have hcm : CM w.heap.size W T G R := h.cm.keep (own := fun k => w.heap.size ≤ k) (fun _ h => h) ⟨hWs, fun k cs ty fz hk hn => (hB.block k (by omega)).trans hk⟩
  obtain ⟨ra, rc, gs, hR, hgs, hPB⟩ := hcm.row (0, 0) true (Or.inl rfl)
  have c6 : W.cell? ⟨t, 6, none⟩ = some (.slice ra (kids T (0, 0) true).length rc) := by simp [World.cell?, ht, txCells, hR]
  have htW : t < W.heap.size := by omega
  have hkf : kids T (0, 0) false = [] := List.eq_nil_iff_forall_not_mem.2 (fun x hx => by
    obtain ⟨y, hy, h1, h2, _⟩ := mem_kids.1 hx
    rw [h.wt.root y hy h1] at h2
    cases h2)
  have hall : (kids T (0, 0) true).flatMap (trF T T.length) = allT T := by
    unfold allT
    rw [trF, hkf]
    simp
  obtain ⟨V, hV⟩ : ∃ V, V = ((W.alloc (.cells #[.func (.yield l) #[] #[]] 106)).alloc (.cells #[.func (.func 58) #[] #[.pointer (some ⟨W.heap.size + 1, 0, none⟩), .pointer (some ⟨W.heap.size, 0, none⟩)]] 107)) := ⟨_, rfl⟩
  refine callsIn_of_wp Try.func39 rfl trivial ?_ rfl
  simp only [Try.ntmps39, List.size_toArray, List.length_cons, List.length_nil, Nat.reduceAdd, Nat.reduceSub, Array.replicate_succ, Array.replicate_zero, List.push_toArray, List.append_toArray, List.nil_append, List.cons_append]
  have hVs : V.heap.size = W.heap.size + 2 := by rw [hV]; simp
  have hVy : V.heap[W.heap.size]? = some (.cells #[.func (.yield l) #[] #[]] 106 (0, 0)) := by rw [hV]; exact (Below.heap_alloc _ _ _ (by simp)).trans (World.alloc_heap_new W _)
  have hVt : V.heap[W.heap.size + 1]? = some (.cells #[.func (.func 58) #[] #[.pointer (some ⟨W.heap.size + 1, 0, none⟩), .pointer (some ⟨W.heap.size, 0, none⟩)]] 107 (0, 0)) := by
    rw [hV]
    have := World.alloc_heap_new (W.alloc (.cells #[.func (.yield l) #[] #[]] 106)) (.cells #[.func (.func 58) #[] #[.pointer (some ⟨W.heap.size + 1, 0, none⟩), .pointer (some ⟨W.heap.size, 0, none⟩)]] 107)
    rwa [World.size_alloc] at this
  have hVB : Below W.heap.size W V := by rw [hV]; exact ((Below.refl _ W).alloc (Nat.le_refl _) _).alloc (by simp) _
  have hJV : J [] V := by rw [hV]; exact hJ.alloc _ (hJ.alloc _ h0)
  obtain ⟨V2, hV2⟩ : ∃ V2, V2 = V.drew := ⟨_, rfl⟩
  have hdr : ∀ s A, J s A → J s A.drew := fun s A hs => hJ s A A.drew none hs ⟨rfl, rfl, rfl, Nat.le_refl _, fun _ _ _ => rfl⟩ (fun r e => by cases e)
  have hJ2 : J [] V2 := by rw [hV2]; exact hdr _ _ hJV
  have h2y : V2.heap[W.heap.size]? = some (.cells #[.func (.yield l) #[] #[]] 106 (0, 0)) := by rw [hV2]; exact hVy
  have h2t : V2.heap[W.heap.size + 1]? = some (.cells #[.func (.func 58) #[] #[.pointer (some ⟨W.heap.size + 1, 0, none⟩), .pointer (some ⟨W.heap.size, 0, none⟩)]] 107 (0, 0)) := by rw [hV2]; exact hVt
  have h2B : Below W.heap.size W V2 := by rw [hV2]; exact hVB.drew
  have hown : ∀ k, (w.heap.size ≤ k ∧ k ≠ W.heap.size + 1 ∧ k ≠ W.heap.size) → w.heap.size ≤ k := fun k h => h.1
  have hcm2 : CM w.heap.size V2 T G R := hcm.keep (own := fun k => w.heap.size ≤ k) (fun _ h => h) ⟨h2B.size, fun k cs ty fz hk hn => (h2B.block k (by omega)).trans hk⟩
  have hPB2 : PB w.heap.size V2 ra (kids T (0, 0) true).length rc gs := hPB.keep (own := fun k => w.heap.size ≤ k) (fun _ h => h) ⟨h2B.size, fun k cs ty fz hk hn => (h2B.block k (by omega)).trans hk⟩
  have c62 : V2.cell? ⟨t, 6, none⟩ = some (.slice ra (kids T (0, 0) true).length rc) := by rw [h2B.cell (p := ⟨t, 6, none⟩) htW]; exact c6
  have ct2 : V2.cell? ⟨W.heap.size + 1, 0, none⟩ = some (.func (.func 58) #[] #[.pointer (some ⟨W.heap.size + 1, 0, none⟩), .pointer (some ⟨W.heap.size, 0, none⟩)]) := by simp [World.cell?, h2t]
  have cy2 : V2.cell? ⟨W.heap.size, 0, none⟩ = some (.func (.yield l) #[] #[]) := by simp [World.cell?, h2y]
  have hkl := kids_len T (0, 0) true
  have hcall : ∀ n', CallsIn Fence.wide n' Try.prog 58 #[.slice ra (kids T (0, 0) true).length rc, .pointer (some ⟨W.heap.size + 1, 0, none⟩), .pointer (some ⟨W.heap.size, 0, none⟩)] V2 fun e W' => ∃ v, e = .returned v ∧ ((∃ xs : List (El (allC T)), xs.map (·.1) = allC T ∧ J xs W') ∨ (∃ pre : List (El (allC T)), pre.map (·.1) <+: allC T ∧ Jx pre W')) := fun n' => by
    refine (through_in l w.heap.size T.length (W.heap.size + 1) W.heap.size (fun k => w.heap.size ≤ k ∧ k ≠ W.heap.size + 1 ∧ k ≠ W.heap.size) hown (fun h => h.2.1 rfl) (fun h => h.2.2 rfl) T h.wt hTl G R
      (fun pre V' => ∃ xs : List (El (allC T)), xs.map (fun x => x.1.id) = pre ∧ J xs V' ∧ V'.heap[W.heap.size + 1]? = some (.cells #[.func (.func 58) #[] #[.pointer (some ⟨W.heap.size + 1, 0, none⟩), .pointer (some ⟨W.heap.size, 0, none⟩)]] 107 (0, 0)) ∧ V'.heap[W.heap.size]? = some (.cells #[.func (.yield l) #[] #[]] 106 (0, 0)))
      (fun pre V' => ∃ xs : List (El (allC T)), xs.map (fun x => x.1.id) = pre ∧ Jx xs V') ?_ ?_ T.length n' (kids T (0, 0) true) ra rc gs [] V2 hPB2 hgs ?_ (by omega) hcm2 ct2 cy2 ⟨[], rfl, hJ2, h2t, h2y⟩ ?_).mono ?_
    · rintro pre A ⟨xs, h1, h2, h3, h4⟩
      exact ⟨xs, h1, hdr _ _ h2, h3, h4⟩
    · rintro m' pre c g A hc hg ⟨xs, h1, h2, h3, h4⟩ hlen
      have hx : xs.length < T.length := by rw [← h1, List.length_map] at hlen; exact hlen
      have hy := hY xs ⟨c, mem_allC h.wt hc⟩ A h2 hx
      have he : encC G (allC T) ⟨c, mem_allC h.wt hc⟩ = #[pvF g] := by simp [encC, hg]
      rw [he] at hy
      obtain ⟨fn, tmps, assign, body, y1, y2⟩ := yieldAt_wide (m := m') hy
      refine ⟨fn, tmps, assign, body, y1, y2.mono ?_⟩
      rintro e A' (⟨rfl, k1, k2, k3⟩ | ⟨rfl, k1, k3⟩)
      · refine Or.inl ⟨rfl, ⟨xs ++ [⟨c, mem_allC h.wt hc⟩], by simp [h1], k1, k2.fn _ _ _ _ (Or.inr rfl) h3, k2.fn _ _ _ _ (Or.inl rfl) h4⟩, k2.size, fun k cs ty fz hk hn => ?_⟩
        by_cases e1 : k = W.heap.size + 1
        · subst e1; rw [h3] at hk; rw [← hk]; exact k2.fn _ _ _ _ (Or.inr rfl) h3
        · by_cases e2 : k = W.heap.size
          · subst e2; rw [h4] at hk; rw [← hk]; exact k2.fn _ _ _ _ (Or.inl rfl) h4
          · exact (k2.low k (Nat.lt_of_not_le (fun h' => hn ⟨h', e1, e2⟩))).trans hk
      · exact Or.inr ⟨rfl, xs ++ [⟨c, mem_allC h.wt hc⟩], by simp [h1], k1⟩
    · intro k hk
      obtain ⟨y, hy, _, _, rfl⟩ := mem_kids.1 hk
      exact ⟨h.wt.dep_all hy, y, hy, rfl⟩
    · rw [hall, allT_len h.wt]
      simp
    · rintro e A (⟨rfl, ⟨xs, h1, h2, _⟩, _⟩ | ⟨rfl, q, hq, xs, h1, h2⟩)
      · refine ⟨_, rfl, Or.inl ⟨xs, chars_of_ids h.wt _ _ (El.in_T xs) (fun c hc => allC_mem hc) ?_, h2⟩⟩
        rw [allC_ids h.wt, ← hall, List.map_map]
        simpa using h1
      · refine ⟨_, rfl, Or.inr ⟨xs, ids_prefix h.wt (El.in_T xs) (q := q) ?_ (by rw [← hall]; exact hq), h2⟩⟩
        rw [List.map_map]
        simpa using h1
  gi_wp2
  rw [← hV]
  clear hV hVy hVt hVB hJV
  refine wpIn_region_any hmx ?_
  change wpAnyIn _ _ _ _ _ _ _ _ _ (World.drew _)
  rw [← hV2]
  clear hV2
  refine wpAnyIn_take (i := 1) (v := ?_) rfl rfl (by kernel_rfl) (by kernel_rfl) (by kernel_rfl) (fun _ _ _ h => h) ⟨Or.inl ⟨by kernel_rfl, ?_⟩, fun _ => rfl⟩ ?_
  rotate_left 1
  · intro w; go_simp; try (with_reducible rfl)
  refine wpAnyIn_take (i := 2) (v := ?_) rfl rfl (by kernel_rfl) (by kernel_rfl) (by kernel_rfl) (fun _ _ _ h => h) ⟨Or.inl ⟨by kernel_rfl, ?_⟩, fun _ => rfl⟩ ?_
  rotate_left 1
  · intro w; go_simp; try (with_reducible rfl)
  refine wpAnyIn_take (i := 3) (v := ?_) rfl rfl (by kernel_rfl) (by kernel_rfl) (by kernel_rfl) (fun _ _ _ h => h) ⟨Or.inl ⟨by kernel_rfl, ?_⟩, fun _ => rfl⟩ ?_
  rotate_left 1
  · intro w; go_simp; try (with_reducible rfl)
  refine wpAnyIn_take (i := 4) (v := ?_) rfl rfl (by kernel_rfl) (by kernel_rfl) (by kernel_rfl) (fun _ _ _ h => h) ⟨Or.inl ⟨by kernel_rfl, ?_⟩, fun _ => rfl⟩ ?_
  rotate_left 1
  · intro w; go_simp; try (with_reducible rfl)
  refine wpAnyIn_take (i := 5) (v := ?_) rfl rfl (by kernel_rfl) (by kernel_rfl) (by kernel_rfl) (fun _ _ _ h => h) ⟨Or.inl ⟨by kernel_rfl, ?_⟩, fun _ => rfl⟩ ?_
  rotate_left 1
  · intro w; go_simp; try (with_reducible rfl)
  refine wpAnyIn_ready (rs := [0, 6]) (by kernel_rfl) (by simp) ?_
  refine (AllReadyIn.cons rfl (fun K hK => ?_) (AllReadyIn.cons rfl (fun K hK => ?_) AllReadyIn.nil))
  · go_simp
    refine hK _ _ ?_
    clear hK K
    refine wpAnyIn_ready (rs := [6]) (by kernel_rfl) (by simp) ?_
    refine (AllReadyIn.cons rfl (fun K hK => ?_) AllReadyIn.nil)
    go_simp
    refine hK _ _ ?_
    clear hK K
    refine wpAnyIn_ready (rs := [7]) (by kernel_rfl) (by simp) ?_
    refine (AllReadyIn.cons rfl (fun K hK => ?_) AllReadyIn.nil)
    go_simp
    refine ⟨trivial, by simp [Fence.wide], ?_⟩
    refine (hcall _).mono ?_
    rintro e w4 ⟨v4, rfl, hfin⟩
    refine hK _ _ ?_
    clear hK K
    refine wpAnyIn_done (by kernel_rfl) ?_ _
    gi_wp2
    refine bodyPost_end (results_none rfl _ _ _) rfl ⟨⟨_, rfl⟩, hfin⟩
  · go_simp
    refine hK _ _ ?_
    clear hK K
    refine wpAnyIn_ready (rs := [0]) (by kernel_rfl) (by simp) ?_
    refine (AllReadyIn.cons rfl (fun K hK => ?_) AllReadyIn.nil)
    go_simp
    refine hK _ _ ?_
    clear hK K
    refine wpAnyIn_ready (rs := [7]) (by kernel_rfl) (by simp) ?_
    refine (AllReadyIn.cons rfl (fun K hK => ?_) AllReadyIn.nil)
    go_simp
    refine ⟨trivial, by simp [Fence.wide], ?_⟩
    refine (hcall _).mono ?_
    rintro e w4 ⟨v4, rfl, hfin⟩
    refine hK _ _ ?_
    clear hK K
    refine wpAnyIn_done (by kernel_rfl) ?_ _
    gi_wp2
    refine bodyPost_end (results_none rfl _ _ _) rfl ⟨⟨_, rfl⟩, hfin⟩
end

section
set_option linter.unusedVariables false
open Go.RowKit Go.Shelf

attribute [local go_sem] Oper.semAt_some

/-- Characters that can be read. -/
def RdC (w : World) (L : List Cr) (G : Dt → Option Nat) : Prop := ∀ c ∈ L, ∃ g l r, G c.id = some g ∧ g < w.heap.size ∧ w.heap[g]? = some (.cells (c.cells l r) 69 (0, 0))

theorem TX.rdc {w : World} {t : Nat} {T : List Cr} {G M : Dt → Option Nat} {n : Nat} {R : Dt → Bool → Value} (h : TX w t T G M n R) : RdC w (allC T) G := fun c hc => by
  obtain ⟨g, h1, _, h3⟩ := h.ch c (allC_mem hc)
  exact ⟨g, _, _, h1, (Array.getElem?_eq_some_iff.1 h3).1, h3⟩

/-- Those that are seen. -/
def filt {L : List Cr} (pre : List (El L)) : List (El (L.filter (·.seen))) := pre.filterMap (fun x => if h : x.1.seen = true then some ⟨x.1, List.mem_filter.2 ⟨x.2, h⟩⟩ else none)

theorem filt_map {L : List Cr} : ∀ pre : List (El L), (filt pre).map (·.1) = (pre.map (·.1)).filter (·.seen)
  | [] => rfl
  | x :: r => by
    have ih := filt_map r
    unfold filt at ih ⊢
    by_cases h : x.1.seen = true
    · rw [List.filterMap_cons_some (by rw [dif_pos h]), List.map_cons, List.map_cons, List.filter_cons_of_pos h, ih]
    · rw [List.filterMap_cons_none (by rw [dif_neg h]), List.map_cons, List.filter_cons_of_neg h, ih]

theorem filt_yes {L : List Cr} (pre : List (El L)) (x : El L) (h : x.1.seen = true) : filt (pre ++ [x]) = filt pre ++ [⟨x.1, List.mem_filter.2 ⟨x.2, h⟩⟩] := by
  unfold filt
  rw [List.filterMap_append, List.filterMap_cons_some (by rw [dif_pos h]), List.filterMap_nil]
theorem filt_no {L : List Cr} (pre : List (El L)) (x : El L) (h : x.1.seen = false) : filt (pre ++ [x]) = filt pre := by
  unfold filt
  rw [List.filterMap_append, List.filterMap_cons_none (by rw [dif_neg (by simp [h])]), List.filterMap_nil, List.append_nil]
theorem filt_len {L : List Cr} (pre : List (El L)) : (filt pre).length ≤ pre.length := List.length_filterMap_le _ _

theorem roundIn_wide {l' n m : Nat} {P : Program} {l : Nat} {f : FuncId} {tmps : Array Value} {assign body : Code} {W : World} {R : Ending → World → Prop} (h : RoundIn Fence.wide n P l f tmps assign body W R) : RoundIn (Fence.wide.inRound l') m P l f tmps assign body W R :=
  ⟨h.1, fun c cs _ => h.2 c cs (room_wide _)⟩

set_option maxRecDepth 100000 in
set_option maxHeartbeats 4000000 in
theorem sight_seq {w : World} {v : Value} {L : List Cr} {G : Dt → Option Nat} {N : Nat} (hs : SeqL 39 v L G N w) (hr : RdC w L G) : SeqL 47 v (L.filter (·.seen)) G N w := by
  intro n l J Jx W hB hJ hJx hY h0
  have hWs := hB.size
  refine callsIn_of_wp_marks Try.func47 rfl trivial ?_ rfl
  simp only [Try.ntmps47, List.size_toArray, List.length_cons, List.length_nil, Nat.reduceAdd, Nat.reduceSub, Array.replicate_succ, Array.replicate_zero, List.push_toArray, List.append_toArray, List.nil_append, List.cons_append]
  gi_wp2
  obtain ⟨W0, hW0⟩ : ∃ W0, W0 = W.alloc (.cells #[.func (.yield l) #[] #[]] 106) := ⟨_, rfl⟩
  have hsz : W0.heap.size = W.heap.size + 1 := by rw [hW0]; simp
  have hbox : W0.heap[W.heap.size]? = some (.cells #[.func (.yield l) #[] #[]] 106 (0, 0)) := by rw [hW0]; exact World.alloc_heap_new _ _
  have hB0 : Below w.heap.size w W0 := by rw [hW0]; exact hB.alloc hWs _
  have hJ0 : J [] W0 := by rw [hW0]; exact hJ.alloc _ h0
  rw [← hW0]
  clear hW0
  refine range_method (α := El L) (gf := 39) (fs := #[v]) rfl (enters_of Try.func39 (by kernel_rfl) rfl) (hs _) (fun h k => h.trans k) (fun W l o o' hl ho hc _ => KT.put W l o o' (by omega) ho hc) hB0 (fun _ => rfl)
    (fun pre W1 => J (filt pre) W1 ∧ W1.heap[W.heap.size]? = some (.cells #[.func (.yield l) #[] #[]] 106 (0, 0)) ∧ ∀ k, k < w.heap.size → W1.heap[k]? = w.heap[k]?)
    (fun c pre W1 => c = .ret ∧ Jx (filt pre) W1) ?own ?ownx ⟨hJ0, hbox, fun k hk => hB0.block k hk⟩
    (fun x => { tmps := #[v, .func (.yield l) #[] #[], undef, .pointer (some ⟨W.heap.size, 0, none⟩), pvF ((G x.1.id).getD 0), v, .func (.func 39) #[v] #[], pvF ((G x.1.id).getD 0), undef, undef, undef, undef, undef, undef, undef, undef, undef, undef], defers := [] }) ?assign ?body ?done ?stop
  case own =>
    rintro s A B row ⟨h1, h2, h3⟩ hg hrow
    have hlt : w.heap.size ≤ A.heap.size := by
      have := (Array.getElem?_eq_some_iff.1 h2).1
      omega
    exact ⟨hJ _ A B row h1 hg (fun r e => ⟨by have := (hrow r e).1; omega, (hrow r e).2⟩), (hg.block _ (Array.getElem?_eq_some_iff.1 h2).1 (fun e => by have := (hrow _ e.symm).1; omega)).trans h2, fun k hk => (hg.block k (by omega) (fun e => by have := (hrow _ e.symm).1; omega)).trans (h3 k hk)⟩
  case ownx =>
    rintro c s A B row ⟨h1, h2⟩ hg hrow
    exact ⟨h1, hJx _ A B row h2 hg (fun r e => ⟨by have := (hrow r e).1; omega, (hrow r e).2⟩)⟩
  case assign =>
    intro l x W K hK
    unfold encC
    gi_wp2
    exact hK
  case body =>
    rintro l' pre x W1 ⟨h1, h2, h3⟩ hlen
    obtain ⟨g, lv, rv, hG, hg, hblk⟩ := hr x.1 x.2
    have hgW := (h3 g hg).trans hblk
    have c3 : W1.cell? ⟨g, 3, none⟩ = some (.bool x.1.seen) := by simp [World.cell?, hgW, Cr.cells]
    have cy : W1.cell? ⟨W.heap.size, 0, none⟩ = some (.func (.yield l) #[] #[]) := by simp [World.cell?, h2]
    have hgd : pvF ((G x.1.id).getD 0) = .pointer (some ⟨g, 0, none⟩) := by rw [hG]; rfl
    rw [hgd]
    have hdep : ∀ {m : Nat}, (Fence.wide.inRound l').depth.isSome = true → 1 ≤ m := fun h => by simp [Fence.wide] at h
    by_cases hsn : x.1.seen = true
    · rw [hsn] at c3
      have hlen' : (filt pre).length < N := by have := filt_len pre; omega
      obtain ⟨fn, tmps, assign, body, y1, y2⟩ := hY (filt pre) ⟨x.1, List.mem_filter.2 ⟨x.2, hsn⟩⟩ W1 h1 hlen'
      have he : encC G (L.filter (·.seen)) ⟨x.1, List.mem_filter.2 ⟨x.2, hsn⟩⟩ = #[.pointer (some ⟨g, 0, none⟩)] := by simp [encC, hG, pvF]
      rw [he] at y1
      have hfy := hid (filt_yes pre x hsn)
      gi_wp2
      refine ⟨hdep, ?_⟩
      refine (roundIn_wide (l' := l') (m := n - 1 - 1 - 1) y2).mono ?_
      rintro e W2 (⟨rfl, k1, k2, k3⟩ | ⟨rfl, k1, k3⟩)
      · gi_wp2
        refine ⟨⟨k3.size, fun k o hk ho hc => k3.same k o (by omega) ho hc⟩, k2, ?_⟩
        exact ⟨(by rw [hfy.out]; exact k1), k2.fn _ _ _ _ (Or.inl rfl) h2, fun k hk => (k2.low k hk).trans (h3 k hk)⟩
      · gi_wp2
        refine ⟨⟨k3.size, fun k o hk ho hc => k3.same k o (by omega) ho hc⟩, rfl, (by rw [hfy.out]; exact k1)⟩
    · have hsn' : x.1.seen = false := by simpa using hsn
      rw [hsn'] at c3
      have hfn := hid (filt_no pre x hsn')
      gi_wp2
      refine ⟨fun _ h => (by cases h), ?_⟩
      gi_wp2
      exact ⟨KeepsFrom.refl _ _, KT.refl _ _, (by rw [hfn.out]; exact h1), h2, h3⟩
  case done =>
    rintro D ys W1 hD hS ⟨h1, h2, h3⟩ hK
    gi_wp2
    refine ⟨by simp, .inl ⟨_, _, rfl, run_takeDeferred hK, ?_⟩⟩
    refine ⟨_, results_none rfl _ _ _, ⟨_, rfl⟩, Or.inl ⟨filt ys, ?_, ?_⟩⟩
    · rw [filt_map, hS]
    · exact hJ.putObj _ h1 (by omega) hK rfl
  case stop =>
    rintro D c pre W1 hD hS ⟨rfl, h1⟩ hK
    gi_wp2
    refine ⟨by simp, .inl ⟨_, _, rfl, run_takeDeferred hK, ?_⟩⟩
    refine ⟨_, results_none rfl _ _ _, ⟨_, rfl⟩, Or.inr ⟨filt pre, ?_, ?_⟩⟩
    · rw [filt_map]
      exact hS.filter _
    · exact hJx.putObj _ h1 (by omega) hK rfl
end

section
set_option linter.unusedVariables false
open Go.RowKit Go.Shelf

attribute [local go_sem] Oper.semAt_some

theorem KT.set {n₀ B t : Nat} {W : World} {v : Value} (hb : Boxed W B t v) (h1 : t ≠ 106) (h2 : t ≠ 107) (hB : n₀ ≤ B) (u : Value) : KT n₀ W (W.setCell ⟨B, 0, none⟩ u) :=
  ⟨by simp, fun k hk => heap_setCell_other W ⟨B, 0, none⟩ k u (fun e => by simp at e; omega), fun k cs ty fz ht hk => (heap_setCell_other W ⟨B, 0, none⟩ k u (fun e => by
    simp at e
    subst e
    rw [show W.heap[k]? = _ from hb] at hk
    cases hk
    rcases ht with ht | ht
    · exact h1 ht
    · exact h2 ht)).trans hk⟩

theorem KeepsFrom.set {B₀ B t : Nat} {W : World} {v : Value} (hb : Boxed W B t v) (u : Value) : KeepsFrom B₀ W (W.setCell ⟨B, 0, none⟩ u) :=
  ⟨by simp, fun k o _ hk hc => (heap_setCell_other W ⟨B, 0, none⟩ k u (fun e => by
    simp at e
    subst e
    rw [show W.heap[k]? = _ from hb] at hk
    cases hk
    cases hc)).trans hk⟩

theorem boxed_own {X Y : World} {row : Option Nat} {B B₀ t : Nat} {v : Value} (h : Boxed X B t v) (hg : X.grownBy Y row) (hr : ∀ r, row = some r → B₀ ≤ r ∧ ∃ o : Obj, X.heap[r]? = some o ∧ o.isCells = false) : Boxed Y B t v := by
  refine h.kept hg (fun e' => ?_)
  obtain ⟨_, o, ho, hc⟩ := hr B e'.symm
  rw [show X.heap[B]? = _ from h] at ho
  cases ho
  cases hc

theorem below_own {w X Y : World} {row : Option Nat} {B₀ : Nat} (h : Below w.heap.size w X) (hB : w.heap.size ≤ B₀) (hg : X.grownBy Y row) (hr : ∀ r, row = some r → B₀ ≤ r ∧ ∃ o : Obj, X.heap[r]? = some o ∧ o.isCells = false) : Below w.heap.size w Y :=
  ownFrom_below (β := Unit) (Nat.le_refl _) hB () X Y row h hg hr

theorem below_put {w X : World} {D : Nat} {o : Obj} (h : Below w.heap.size w X) (hD : w.heap.size ≤ D) (hk : X.heap[D]? = some o) (ho : o.isCells = false) (o' : Obj) : Below w.heap.size w (X.putObj D o') :=
  below_own h (Nat.le_refl _) (grownBy_putObj' X D o') (fun r e => by cases e; exact ⟨hD, o, hk, ho⟩)

/-- A text that is none has no characters. -/
theorem walk_none (w : World) (G : Dt → Option Nat) : SeqL 39 (.pointer none) [] G 0 w := by
  intro n l J Jx W hB hJ hJx hY h0
  have hJ0 : J [] (W.alloc (.cells #[.func (.yield l) #[] #[]] 106)) := hJ.alloc _ h0
  refine callsIn_of_wp Try.func39 rfl trivial ?_ rfl
  simp only [Try.ntmps39, List.size_toArray, List.length_cons, List.length_nil, Nat.reduceAdd, Nat.reduceSub, Array.replicate_succ, Array.replicate_zero, List.push_toArray, List.append_toArray, List.nil_append, List.cons_append]
  gi_wp2
  refine bodyPost_ret (results_none rfl _ _ _) rfl ⟨⟨_, rfl⟩, Or.inl ⟨[], rfl, hJ0⟩⟩

theorem rdc_none (w : World) (G : Dt → Option Nat) : RdC w [] G := fun c hc => by simp at hc

theorem sight_none (w : World) (G : Dt → Option Nat) : SeqL 47 (.pointer none) [] G 0 w := sight_seq (walk_none w G) (rdc_none w G)

theorem TX.sight {w : World} {t : Nat} {T : List Cr} {G M : Dt → Option Nat} {n : Nat} {R : Dt → Bool → Value} (h : TX w t T G M n R) (hTl : T.length ≤ 1000000) : SeqL 47 (.pointer (some ⟨t, 0, none⟩)) ((allC T).filter (·.seen)) G T.length w := sight_seq (walk_seq h hTl) h.rdc

set_option maxRecDepth 100000 in
set_option maxHeartbeats 4000000 in
theorem len_of {w : World} {v : Value} {L : List Cr} {G : Dt → Option Nat} {N : Nat} (hs : SeqL 47 v L G N w) (hN : N ≤ 1000000) : Calls Try.prog 28 #[v] w fun e w' => e = .returned (.int .i64 L.length) ∧ Below w.heap.size w w' := by
  refine (callsIn_wide (n := 3)).1 ?_
  refine callsIn_of_wp_marks Try.func28 rfl trivial ?_ rfl
  simp only [Try.ntmps28, List.size_toArray, List.length_cons, List.length_nil, Nat.reduceAdd, Nat.reduceSub, Array.replicate_succ, Array.replicate_zero, List.push_toArray, List.append_toArray, List.nil_append, List.cons_append]
  gi_wp2
  obtain ⟨W0, hW0⟩ : ∃ W0, W0 = w.alloc (.cells #[.int .i64 0] 3) := ⟨_, rfl⟩
  have hsz : W0.heap.size = w.heap.size + 1 := by rw [hW0]; simp
  have hbox : Boxed W0 w.heap.size 3 (.int .i64 0) := by rw [hW0]; exact Boxed.new w 3 (.int .i64 0)
  have hB0 : Below w.heap.size w W0 := by rw [hW0]; exact (Below.refl _ w).alloc (Nat.le_refl _) _
  rw [← hW0]
  clear hW0
  refine range_method (α := El L) (gf := 47) (fs := #[v]) rfl (enters_of Try.func47 (by kernel_rfl) rfl) (hs _) (fun h k => h.trans k) (fun W l o o' hl ho hc _ => KT.put W l o o' (by omega) ho hc) hB0 (fun _ => rfl)
    (fun pre W => Boxed W w.heap.size 3 (.int .i64 (pre.length : Int)) ∧ Below w.heap.size w W)
    (fun _ _ _ => False) ?own (fun _ _ _ _ _ h _ _ => h) ⟨hbox, hB0⟩
    (fun x => { tmps := #[v, undef, .int .i64 0, .pointer (some ⟨w.heap.size, 0, none⟩), v, .func (.func 47) #[v] #[], pvF ((G x.1.id).getD 0), undef, undef, undef], defers := [] }) ?assign ?body ?done (fun _ _ _ _ _ _ h _ => h.elim)
  case own =>
    rintro s A B row ⟨h1, h2⟩ hg hrow
    exact ⟨boxed_own h1 hg hrow, below_own h2 (by omega) hg hrow⟩
  case assign =>
    intro l x W K hK
    unfold encC
    gi_wp2
    first | exact hK | simpa using hK
  case body =>
    rintro l' pre x W1 ⟨h1, h2⟩ hlen
    have c0 := h1.cell
    have f0 := h1.frozen
    have hfin := hid (And.intro (KeepsFrom.set (B₀ := W0.heap.size) h1 (.int .i64 ((pre.length : Int) + 1))) (And.intro (KT.set (n₀ := w.heap.size) h1 (by decide) (by decide) (Nat.le_refl _) (.int .i64 ((pre.length : Int) + 1))) (And.intro (h1.set (.int .i64 ((pre.length : Int) + 1))) (h2.setCell (p := ⟨w.heap.size, 0, none⟩) (Nat.le_refl _) (.int .i64 ((pre.length : Int) + 1))))))
    gi_wp2
    refine ⟨hfin.out.1, hfin.out.2.1, ?_, hfin.out.2.2.2⟩
    have := hfin.out.2.2.1
    simpa using this
  case done =>
    rintro D ys W1 hD hS ⟨h1, h2⟩ hK
    have c0 := h1.cell
    have hfin := hid (below_put h2 (by omega) hK rfl (.deferred none))
    have hl : ys.length = L.length := by have := congrArg List.length hS; simpa using this
    rw [hl] at c0
    clear hl h1 h2
    gi_wp2
    refine ⟨by simp, .inl ⟨_, _, rfl, run_takeDeferred hK, ?_⟩⟩
    exact ⟨_, results_tmp rfl _ _ _, rfl, hfin.out⟩
end
end Go.Proofs.Ytbpepmajpojacaa
