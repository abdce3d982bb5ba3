/- walk, as what is ranged over: all characters come, in order. -/
import Derived.Test.YtbpepmajpojacaaFgRange
import Derived.Test.YtbpepmajpojacaaFgRPlaceM
import Derived.Laws.EntriesVeiled
set_option linter.unusedVariables false
namespace Go.Proofs.Ytbpepmajpojacaa
open Go.RowKit Go.Shelf

attribute [local go_sem] Oper.semAt_some

/-- What lies below n₀ is as it was, and so is what is a function's box. -/
structure KT (n₀ : Nat) (W W' : World) : Prop where
  size : W.heap.size ≤ W'.heap.size
  low : ∀ k, k < n₀ → W'.heap[k]? = W.heap[k]?
  fn : ∀ (k : Nat) (cs : Array Value) (ty : TypeId) (fz : Nat × Nat), ty = 106 ∨ ty = 107 → W.heap[k]? = some (.cells cs ty fz) → W'.heap[k]? = some (.cells cs ty fz)

theorem KT.refl (n₀ : Nat) (W : World) : KT n₀ W W := ⟨Nat.le_refl _, fun _ _ => rfl, fun _ _ _ _ _ h => h⟩
theorem KT.trans {n₀ : Nat} {A B C : World} (h : KT n₀ A B) (k : KT n₀ B C) : KT n₀ A C := ⟨Nat.le_trans h.size k.size, fun i hi => (k.low i hi).trans (h.low i hi), fun i cs ty fz ht hi => k.fn i cs ty fz ht (h.fn i cs ty fz ht hi)⟩
theorem KT.put {n₀ : Nat} (W : World) (l : Nat) (o o' : Obj) (hl : n₀ ≤ l) (ho : W.heap[l]? = some o) (hc : o.isCells = false) : KT n₀ W (W.putObj l o') :=
  ⟨by simp [World.putObj], fun k hk => World.putObj_heap_other (by omega), fun k cs ty fz _ hk => (World.putObj_heap_other (fun e => by subst e; rw [hk] at ho; cases ho; cases hc)).trans hk⟩

/-- A character of some. -/
abbrev El (L : List Cr) : Type := { c : Cr // c ∈ L }
/-- Where it lies. -/
def encC (G : Dt → Option Nat) (L : List Cr) (x : El L) : Array Value := #[pv ((G x.1.id).getD 0)]

/-- What a method that is ranged over tells: these characters, in order. -/
def SeqL (f : Nat) (v : Value) (L : List Cr) (G : Dt → Option Nat) (N : Nat) (w : World) : Prop :=
  ∀ n, SeqM n Try.prog f #[v] (encC G L) (KT w.heap.size) (fun xs => xs.map (·.1) = L) (fun pre => pre.map (·.1) <+: L) N w

theorem yieldAt_wide {n m : Nat} {P : Program} {l : Nat} {args : Array Value} {W : World} {R : Ending → World → Prop} (h : YieldAt Fence.wide n P l args W R) : YieldAt Fence.wide m P l args W R := by
  obtain ⟨fn, tmps, assign, body, h1, h2⟩ := h
  exact ⟨fn, tmps, assign, body, h1, h2.1, fun c cs _ => h2.2 c cs (room_wide _)⟩

theorem ids_prefix {T : List Cr} (hT : WT T) {l : List Cr} (hl : ∀ c ∈ l, c ∈ T) {q : List Dt} (he : l.map Cr.id = q) (hq : q <+: allT T) : l <+: allC T := by
  have h1 : q = (allT T).take q.length := List.prefix_iff_eq_take.1 hq
  have h2 : l = (allC T).take q.length := by
    refine chars_of_ids hT _ _ hl (fun c hc => allC_mem (List.mem_of_mem_take hc)) ?_
    rw [he, List.map_take, allC_ids hT]
    exact h1
  rw [h2]
  exact List.take_prefix _ _

theorem El.in_T {T : List Cr} (l : List (El (allC T))) : ∀ c ∈ l.map (·.1), c ∈ T := fun c hc => by
  obtain ⟨x, _, rfl⟩ := List.mem_map.1 hc
  exact allC_mem x.2

set_option maxRecDepth 100000 in
set_option maxHeartbeats 4000000 in
theorem walk_seq {w : World} {t : Nat} {T : List Cr} {G M : Dt → Option Nat} {m : Nat} {R : Dt → Bool → Value} (h : TX w t T G M m R) (hTl : T.length ≤ 1000000) : SeqL 39 (.pointer (some ⟨t, 0, none⟩)) (allC T) G T.length w := by
  intro n l J Jx W hB hJ hJx hY h0
  have hmx : Try.prog.follows .mixedOrders = true := by kernel_rfl
  obtain ⟨fm, htb, hfm⟩ := h.tb
  have htl := h.lt
  have hWs := hB.size
  have ht := (hB.block t h.lt).trans htb
  have hcm : CM w.heap.size W T G R := h.cm.keep (own := fun k => w.heap.size ≤ k) (fun _ h => h) ⟨hWs, fun k cs ty fz hk hn => (hB.block k (by omega)).trans hk⟩
  obtain ⟨ra, rc, gs, hR, hgs, hPB⟩ := hcm.row (0, 0) true (Or.inl rfl)
  have c6 : W.cell? ⟨t, 6, none⟩ = some (.slice ra (kids T (0, 0) true).length rc) := by simp [World.cell?, ht, txCells, hR]
  have htW : t < W.heap.size := by omega
  have hkf : kids T (0, 0) false = [] := List.eq_nil_iff_forall_not_mem.2 (fun x hx => by
    obtain ⟨y, hy, h1, h2, _⟩ := mem_kids.1 hx
    rw [h.wt.root y hy h1] at h2
    cases h2)
  have hall : (kids T (0, 0) true).flatMap (trF T T.length) = allT T := by
    unfold allT
    rw [trF, hkf]
    simp
  obtain ⟨V, hV⟩ : ∃ V, V = ((W.alloc (.cells #[.func (.yield l) #[] #[]] 106)).alloc (.cells #[.func (.func 58) #[] #[.pointer (some ⟨W.heap.size + 1, 0, none⟩), .pointer (some ⟨W.heap.size, 0, none⟩)]] 107)) := ⟨_, rfl⟩
  refine callsIn_of_wp Try.func39 rfl trivial ?_ rfl
  simp only [Try.ntmps39, List.size_toArray, List.length_cons, List.length_nil, Nat.reduceAdd, Nat.reduceSub, Array.replicate_succ, Array.replicate_zero, List.push_toArray, List.append_toArray, List.nil_append, List.cons_append]
  have hVs : V.heap.size = W.heap.size + 2 := by rw [hV]; simp
  have hVy : V.heap[W.heap.size]? = some (.cells #[.func (.yield l) #[] #[]] 106 (0, 0)) := by rw [hV]; exact (Below.heap_alloc _ _ _ (by simp)).trans (World.alloc_heap_new W _)
  have hVt : V.heap[W.heap.size + 1]? = some (.cells #[.func (.func 58) #[] #[.pointer (some ⟨W.heap.size + 1, 0, none⟩), .pointer (some ⟨W.heap.size, 0, none⟩)]] 107 (0, 0)) := by
    rw [hV]
    have := World.alloc_heap_new (W.alloc (.cells #[.func (.yield l) #[] #[]] 106)) (.cells #[.func (.func 58) #[] #[.pointer (some ⟨W.heap.size + 1, 0, none⟩), .pointer (some ⟨W.heap.size, 0, none⟩)]] 107)
    rwa [World.size_alloc] at this
  have hVB : Below W.heap.size W V := by rw [hV]; exact ((Below.refl _ W).alloc (Nat.le_refl _) _).alloc (by simp) _
  have hJV : J [] V := by rw [hV]; exact hJ.alloc _ (hJ.alloc _ h0)
  obtain ⟨V2, hV2⟩ : ∃ V2, V2 = V.drew := ⟨_, rfl⟩
  have hdr : ∀ s A, J s A → J s A.drew := fun s A hs => hJ s A A.drew none hs ⟨rfl, rfl, rfl, Nat.le_refl _, fun _ _ _ => rfl⟩ (fun r e => by cases e)
  have hJ2 : J [] V2 := by rw [hV2]; exact hdr _ _ hJV
  have h2y : V2.heap[W.heap.size]? = some (.cells #[.func (.yield l) #[] #[]] 106 (0, 0)) := by rw [hV2]; exact hVy
  have h2t : V2.heap[W.heap.size + 1]? = some (.cells #[.func (.func 58) #[] #[.pointer (some ⟨W.heap.size + 1, 0, none⟩), .pointer (some ⟨W.heap.size, 0, none⟩)]] 107 (0, 0)) := by rw [hV2]; exact hVt
  have h2B : Below W.heap.size W V2 := by rw [hV2]; exact hVB.drew
  have hown : ∀ k, (w.heap.size ≤ k ∧ k ≠ W.heap.size + 1 ∧ k ≠ W.heap.size) → w.heap.size ≤ k := fun k h => h.1
  have hcm2 : CM w.heap.size V2 T G R := hcm.keep (own := fun k => w.heap.size ≤ k) (fun _ h => h) ⟨h2B.size, fun k cs ty fz hk hn => (h2B.block k (by omega)).trans hk⟩
  have hPB2 : PB w.heap.size V2 ra (kids T (0, 0) true).length rc gs := hPB.keep (own := fun k => w.heap.size ≤ k) (fun _ h => h) ⟨h2B.size, fun k cs ty fz hk hn => (h2B.block k (by omega)).trans hk⟩
  have c62 : V2.cell? ⟨t, 6, none⟩ = some (.slice ra (kids T (0, 0) true).length rc) := by rw [h2B.cell (p := ⟨t, 6, none⟩) htW]; exact c6
  have ct2 : V2.cell? ⟨W.heap.size + 1, 0, none⟩ = some (.func (.func 58) #[] #[.pointer (some ⟨W.heap.size + 1, 0, none⟩), .pointer (some ⟨W.heap.size, 0, none⟩)]) := by simp [World.cell?, h2t]
  have cy2 : V2.cell? ⟨W.heap.size, 0, none⟩ = some (.func (.yield l) #[] #[]) := by simp [World.cell?, h2y]
  have hkl := kids_len T (0, 0) true
  have hcall : ∀ n', CallsIn Fence.wide n' Try.prog 58 #[.slice ra (kids T (0, 0) true).length rc, .pointer (some ⟨W.heap.size + 1, 0, none⟩), .pointer (some ⟨W.heap.size, 0, none⟩)] V2 fun e W' => ∃ v, e = .returned v ∧ ((∃ xs : List (El (allC T)), xs.map (·.1) = allC T ∧ J xs W') ∨ (∃ pre : List (El (allC T)), pre.map (·.1) <+: allC T ∧ Jx pre W')) := fun n' => by
    refine (through_in l w.heap.size T.length (W.heap.size + 1) W.heap.size (fun k => w.heap.size ≤ k ∧ k ≠ W.heap.size + 1 ∧ k ≠ W.heap.size) hown (fun h => h.2.1 rfl) (fun h => h.2.2 rfl) T h.wt hTl G R
      (fun pre V' => ∃ xs : List (El (allC T)), xs.map (fun x => x.1.id) = pre ∧ J xs V' ∧ V'.heap[W.heap.size + 1]? = some (.cells #[.func (.func 58) #[] #[.pointer (some ⟨W.heap.size + 1, 0, none⟩), .pointer (some ⟨W.heap.size, 0, none⟩)]] 107 (0, 0)) ∧ V'.heap[W.heap.size]? = some (.cells #[.func (.yield l) #[] #[]] 106 (0, 0)))
      (fun pre V' => ∃ xs : List (El (allC T)), xs.map (fun x => x.1.id) = pre ∧ Jx xs V') ?_ ?_ T.length n' (kids T (0, 0) true) ra rc gs [] V2 hPB2 hgs ?_ (by omega) hcm2 ct2 cy2 ⟨[], rfl, hJ2, h2t, h2y⟩ ?_).mono ?_
    · rintro pre A ⟨xs, h1, h2, h3, h4⟩
      exact ⟨xs, h1, hdr _ _ h2, h3, h4⟩
    · rintro m' pre c g A hc hg ⟨xs, h1, h2, h3, h4⟩ hlen
      have hx : xs.length < T.length := by rw [← h1, List.length_map] at hlen; exact hlen
      have hy := hY xs ⟨c, mem_allC h.wt hc⟩ A h2 hx
      have he : encC G (allC T) ⟨c, mem_allC h.wt hc⟩ = #[pv g] := by simp [encC, hg]
      rw [he] at hy
      obtain ⟨fn, tmps, assign, body, y1, y2⟩ := yieldAt_wide (m := m') hy
      refine ⟨fn, tmps, assign, body, y1, y2.mono ?_⟩
      rintro e A' (⟨rfl, k1, k2, k3⟩ | ⟨rfl, k1, k3⟩)
      · refine Or.inl ⟨rfl, ⟨xs ++ [⟨c, mem_allC h.wt hc⟩], by simp [h1], k1, k2.fn _ _ _ _ (Or.inr rfl) h3, k2.fn _ _ _ _ (Or.inl rfl) h4⟩, k2.size, fun k cs ty fz hk hn => ?_⟩
        by_cases e1 : k = W.heap.size + 1
        · subst e1; rw [h3] at hk; rw [← hk]; exact k2.fn _ _ _ _ (Or.inr rfl) h3
        · by_cases e2 : k = W.heap.size
          · subst e2; rw [h4] at hk; rw [← hk]; exact k2.fn _ _ _ _ (Or.inl rfl) h4
          · exact (k2.low k (Nat.lt_of_not_le (fun h' => hn ⟨h', e1, e2⟩))).trans hk
      · exact Or.inr ⟨rfl, xs ++ [⟨c, mem_allC h.wt hc⟩], by simp [h1], k1⟩
    · intro k hk
      obtain ⟨y, hy, _, _, rfl⟩ := mem_kids.1 hk
      exact ⟨h.wt.dep_all hy, y, hy, rfl⟩
    · rw [hall, allT_len h.wt]
      simp
    · rintro e A (⟨rfl, ⟨xs, h1, h2, _⟩, _⟩ | ⟨rfl, q, hq, xs, h1, h2⟩)
      · refine ⟨_, rfl, Or.inl ⟨xs, chars_of_ids h.wt _ _ (El.in_T xs) (fun c hc => allC_mem hc) ?_, h2⟩⟩
        rw [allC_ids h.wt, ← hall, List.map_map]
        simpa using h1
      · refine ⟨_, rfl, Or.inr ⟨xs, ids_prefix h.wt (El.in_T xs) (q := q) ?_ (by rw [← hall]; exact hq), h2⟩⟩
        rw [List.map_map]
        simpa using h1
  gi_wp2
  rw [← hV]
  clear hV hVy hVt hVB hJV
  refine wpIn_region_any hmx ?_
  change wpAnyIn _ _ _ _ _ _ _ _ _ (World.drew _)
  rw [← hV2]
  clear hV2
  refine wpAnyIn_take (i := 1) (v := ?_) rfl rfl (by kernel_rfl) (by kernel_rfl) (by kernel_rfl) (fun _ _ _ h => h) ⟨Or.inl ⟨by kernel_rfl, ?_⟩, fun _ => rfl⟩ ?_
  rotate_left 1
  · intro w; go_simp; try (with_reducible rfl)
  refine wpAnyIn_take (i := 2) (v := ?_) rfl rfl (by kernel_rfl) (by kernel_rfl) (by kernel_rfl) (fun _ _ _ h => h) ⟨Or.inl ⟨by kernel_rfl, ?_⟩, fun _ => rfl⟩ ?_
  rotate_left 1
  · intro w; go_simp; try (with_reducible rfl)
  refine wpAnyIn_take (i := 3) (v := ?_) rfl rfl (by kernel_rfl) (by kernel_rfl) (by kernel_rfl) (fun _ _ _ h => h) ⟨Or.inl ⟨by kernel_rfl, ?_⟩, fun _ => rfl⟩ ?_
  rotate_left 1
  · intro w; go_simp; try (with_reducible rfl)
  refine wpAnyIn_take (i := 4) (v := ?_) rfl rfl (by kernel_rfl) (by kernel_rfl) (by kernel_rfl) (fun _ _ _ h => h) ⟨Or.inl ⟨by kernel_rfl, ?_⟩, fun _ => rfl⟩ ?_
  rotate_left 1
  · intro w; go_simp; try (with_reducible rfl)
  refine wpAnyIn_take (i := 5) (v := ?_) rfl rfl (by kernel_rfl) (by kernel_rfl) (by kernel_rfl) (fun _ _ _ h => h) ⟨Or.inl ⟨by kernel_rfl, ?_⟩, fun _ => rfl⟩ ?_
  rotate_left 1
  · intro w; go_simp; try (with_reducible rfl)
  refine wpAnyIn_ready (rs := [0, 6]) (by kernel_rfl) (by simp) ?_
  refine (AllReadyIn.cons rfl (fun K hK => ?_) (AllReadyIn.cons rfl (fun K hK => ?_) AllReadyIn.nil))
  · go_simp
    refine hK _ _ ?_
    clear hK K
    refine wpAnyIn_ready (rs := [6]) (by kernel_rfl) (by simp) ?_
    refine (AllReadyIn.cons rfl (fun K hK => ?_) AllReadyIn.nil)
    go_simp
    refine hK _ _ ?_
    clear hK K
    refine wpAnyIn_ready (rs := [7]) (by kernel_rfl) (by simp) ?_
    refine (AllReadyIn.cons rfl (fun K hK => ?_) AllReadyIn.nil)
    go_simp
    refine ⟨trivial, by simp [Fence.wide], ?_⟩
    refine (hcall _).mono ?_
    rintro e w4 ⟨v4, rfl, hfin⟩
    refine hK _ _ ?_
    clear hK K
    refine wpAnyIn_done (by kernel_rfl) ?_ _
    gi_wp2
    refine bodyPost_end (results_none rfl _ _ _) rfl ⟨⟨_, rfl⟩, hfin⟩
  · go_simp
    refine hK _ _ ?_
    clear hK K
    refine wpAnyIn_ready (rs := [0]) (by kernel_rfl) (by simp) ?_
    refine (AllReadyIn.cons rfl (fun K hK => ?_) AllReadyIn.nil)
    go_simp
    refine hK _ _ ?_
    clear hK K
    refine wpAnyIn_ready (rs := [7]) (by kernel_rfl) (by simp) ?_
    refine (AllReadyIn.cons rfl (fun K hK => ?_) AllReadyIn.nil)
    go_simp
    refine ⟨trivial, by simp [Fence.wide], ?_⟩
    refine (hcall _).mono ?_
    rintro e w4 ⟨v4, rfl, hfin⟩
    refine hK _ _ ?_
    clear hK K
    refine wpAnyIn_done (by kernel_rfl) ?_ _
    gi_wp2
    refine bodyPost_end (results_none rfl _ _ _) rfl ⟨⟨_, rfl⟩, hfin⟩
end Go.Proofs.Ytbpepmajpojacaa
