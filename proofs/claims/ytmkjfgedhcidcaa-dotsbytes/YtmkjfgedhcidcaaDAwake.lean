/- The first look of every statement of this layer answers true. -/
import Derived.Test.YtmkjfgedhcidcaaDUnion
import Derived.Shelf.SlSortCmp.QuietGrown
import Derived.BigQuiet
import Derived.WalkKit
import Derived.WalkSpells
import Derived.WalkLawsBesides
namespace Go.Proofs.Ytmkjfgedhcidcaa
open Go.RowKit Go.Maps
open Go.Sort (grow cell?_grow heap_grow_old)

abbrev Law : List Dt := [(2, 1), (1, 9), (2, 1)]

theorem rise_law : rise Law = [(1, 9), (2, 1)] := by decide
theorem law_dws : Dws Law := by
  intro d hd
  simp only [Law, List.mem_cons, List.not_mem_nil, or_false] at hd
  rcases hd with rfl | rfl | rfl <;> exact ⟨by decide, by decide⟩

theorem ps_law (w : World) (q : Nat) (hq : q = w.heap.size) : PS (w.alloc (.cells #[.int .i64 2, .int .i64 1, .int .i64 1, .int .i64 9, .int .i64 2, .int .i64 1] 23)) (some ⟨q, 0, none⟩) 3 3 Law := by
  subst hq
  refine ⟨rfl, Nat.le_refl _, by decide, fun h => (by cases h), fun ad ha j u hj => ?_⟩
  cases ha
  match j, hj with
  | 0, hj => simp [flat] at hj; subst hj; simp [Addr.add]
  | 1, hj => simp [flat] at hj; subst hj; simp [Addr.add]
  | 2, hj => simp [flat] at hj; subst hj; simp [Addr.add]
  | 3, hj => simp [flat] at hj; subst hj; simp [Addr.add]
  | 4, hj => simp [flat] at hj; subst hj; simp [Addr.add]
  | 5, hj => simp [flat] at hj; subst hj; simp [Addr.add]

theorem less_q (a b : Dt) (w : World) : Calls Try.prog 9 #[dv a, dv b] w fun e w' => e = .returned (.bool (dl a b)) ∧ ∃ q os', w' = grow (w.drewN q) os' :=
  (less_any a b w).mono fun _ _ ⟨he, os, hw⟩ => ⟨he, 0, os, hw⟩
theorem may_q (a : Dt) (w : World) : Calls Try.prog 10 #[dv a] w fun e w' => e = .returned (.bool (mayd a)) ∧ ∃ q os', w' = grow (w.drewN q) os' :=
  (may_any a w).mono fun _ _ ⟨he, os, hw⟩ => ⟨he, 0, os, hw⟩

theorem grow_block {w : World} {b : Nat} (h : b < w.heap.size) (n : Nat) (os : Array Obj) : (grow (w.drewN n) os).heap[b]? = w.heap[b]? := by
  rw [heap_grow_old _ _ (by exact h)]
  rfl

theorem places_law (w : World) : Calls Try.prog 20 #[.slice (some ⟨w.heap.size, 0, none⟩) 3 3] (w.alloc (.cells #[.int .i64 2, .int .i64 1, .int .i64 1, .int .i64 9, .int .i64 2, .int .i64 1] 23)) fun e w' =>
    ∃ q, e = .returned (.map (some q)) ∧ DM w' q 3 (pl Law) ∧ RowKit.Below w.heap.size w w' :=
  (places_any _ 3 3 Law _ (ps_law w _ rfl) law_dws (by omega)).mono fun _ _ ⟨he, hd, hb⟩ => ⟨_, he, hd, below2 ((Below.refl _ w).alloc (Nat.le_refl _) _) hb⟩

theorem rising_law (w : World) (A B : Obj) : Calls Try.prog 14 #[.slice (some ⟨w.heap.size + 2, 0, none⟩) 3 3] (((w.alloc A).alloc B).alloc (.cells #[.int .i64 2, .int .i64 1, .int .i64 1, .int .i64 9, .int .i64 2, .int .i64 1] 23)) fun e w' =>
    ∃ g c, e = .returned (.slice (some ⟨g, 0, none⟩) 2 c) ∧ PS w' (some ⟨g, 0, none⟩) 2 c [(1, 9), (2, 1)] ∧ RowKit.Below (w.heap.size + 2) ((w.alloc A).alloc B) w' := by
  have hr := rising_any sortSays (some ⟨w.heap.size + 2, 0, none⟩) 3 3 Law _ (ps_law ((w.alloc A).alloc B) (w.heap.size + 2) (by simp)) law_dws (by omega)
  rw [rise_law] at hr
  refine hr.mono ?_
  rintro e w1 ⟨g, c, rfl, ho, b1⟩
  refine ⟨g, c, rfl, ho.ps rfl, ?_⟩
  have b0 : RowKit.Below (w.heap.size + 2) ((w.alloc A).alloc B) _ := (Below.refl (w.heap.size + 2) ((w.alloc A).alloc B)).alloc (by simp) (.cells #[.int .i64 2, .int .i64 1, .int .i64 1, .int .i64 9, .int .i64 2, .int .i64 1] 23)
  exact b0.trans (b1.mono (by simp))

theorem box_a (w w1 : World) (B : Obj) (h : RowKit.Below (w.heap.size + 2) ((w.alloc (.cells #[.int .i64 2, .int .i64 1] 23)).alloc B) w1) :
    w1.cell? ⟨w.heap.size, 0, none⟩ = some (.int .i64 2) ∧ w1.cell? ⟨w.heap.size, 1, none⟩ = some (.int .i64 1) :=
  ⟨(h.cell (p := ⟨w.heap.size, 0, none⟩) (show w.heap.size < w.heap.size + 2 by omega)).trans (by simp), (h.cell (p := ⟨w.heap.size, 1, none⟩) (show w.heap.size < w.heap.size + 2 by omega)).trans (by simp)⟩

theorem box_b (w w1 : World) (A : Obj) (h : RowKit.Below (w.heap.size + 2) ((w.alloc A).alloc (.cells #[.int .i64 1, .int .i64 9] 23)) w1) :
    w1.cell? ⟨w.heap.size + 1, 0, none⟩ = some (.int .i64 1) ∧ w1.cell? ⟨w.heap.size + 1, 1, none⟩ = some (.int .i64 9) :=
  ⟨(h.cell (p := ⟨w.heap.size + 1, 0, none⟩) (show w.heap.size + 1 < w.heap.size + 2 by omega)).trans (by simp), (h.cell (p := ⟨w.heap.size + 1, 1, none⟩) (show w.heap.size + 1 < w.heap.size + 2 by omega)).trans (by simp)⟩

theorem below_two {w w1 : World} {A B : Obj} (h : RowKit.Below (w.heap.size + 2) ((w.alloc A).alloc B) w1) : RowKit.Below w.heap.size w w1 :=
  (((Below.refl w.heap.size w).alloc (Nat.le_refl _) A).alloc (by simp) B).trans (h.mono (by omega))

/-- Draws and new blocks: what was there stays. -/
theorem below_class (w : World) (n : Nat) (os : Array Obj) : RowKit.Below w.heap.size w (grow (w.drewN n) os) :=
  ⟨rfl, rfl, rfl, by simp [grow], fun i hi => grow_block hi n os⟩

theorem DM.grown {w : World} {b n : Nat} {g : Dt → Option Int} (h : DM w b n g) (m : Nat) (os : Array Obj) : DM (grow (w.drewN m) os) b n g := by
  have hlt := h.lt
  obtain ⟨D, ⟨es, clock, h1, h2⟩, hT⟩ := h
  exact ⟨D, ⟨es, clock, by rw [grow_block hlt]; exact h1, h2⟩, hT⟩

theorem DM.len_run {w : World} {b n : Nat} {f : Dt → Option Int} (h : DM w b n f) {S : List Dt} (hS : S.Nodup) (hw : Dws S) (hm : ∀ d, Dw d → ((f d).isSome = true ↔ d ∈ S)) (ty : TypeId) :
    (Builtin.len_ #[33] ty #[.map (some b)]).run Try.prog w = .ok (.int .i64 (S.length : Nat)) w := by
  obtain ⟨D, hown, hT⟩ := h
  rw [hown.len Try.underlying33 ty, hT.size hown hS hw hm]

theorem DM.look_run {w : World} {b n : Nat} {f : Dt → Option Int} (h : DM w b n f) {d : Dt} (hd : Dw d) {c : Int} (hc : f d = some c) :
    (Instr.lookup 33 (.map (some b)) (dv d) false).run Try.prog w = .ok (.int .i64 c) w := by
  obtain ⟨D, hown, hT⟩ := h
  obtain ⟨c', hrun, hat, _⟩ := hown.lookup_int law Try.underlying33 Try.underlying3 (zero3 w) (keyOf_dot hd)
  rw [hrun]
  have := (hT d hd).2 c hc (.lit (.int .i64 0))
  rw [hat] at this
  simp at this
  rw [this]

set_option maxRecDepth 100000 in
set_option maxHeartbeats 2000000 in
theorem awake_any (w : World) : Calls Try.prog 8 #[] w fun e w' => e = .returned (.bool true) ∧ RowKit.Below w.heap.size w w' := by
  have mixed : Try.prog.follows .mixedOrders = true := by kernel_rfl
  go_enter Try.func8, Try.ntmps8
  go_wp2_with (first
    | (go_at_call 14; refine (rising_law w _ _).mono ?_; rintro e w1 ⟨g, c, rfl, hp, b1⟩; obtain ⟨ha0, ha1⟩ := box_a w w1 _ b1; obtain ⟨hb0, hb1⟩ := box_b w w1 _ b1)
    | (go_at_call 20; refine (places_law w1).mono ?_; rintro e w2 ⟨q, rfl, hdm, b2⟩))
  have hbel := below2 (below_two b1) b2
  have hp2 := hp.below b2
  have hbb := b1.size
  simp only [World.size_alloc] at hbb
  rw [← b2.cell (p := ⟨w.heap.size, 0, none⟩) (show w.heap.size < w1.heap.size by omega)] at ha0
  rw [← b2.cell (p := ⟨w.heap.size, 1, none⟩) (show w.heap.size < w1.heap.size by omega)] at ha1
  rw [← b2.cell (p := ⟨w.heap.size + 1, 0, none⟩) (show w.heap.size + 1 < w1.heap.size by omega)] at hb0
  rw [← b2.cell (p := ⟨w.heap.size + 1, 1, none⟩) (show w.heap.size + 1 < w1.heap.size by omega)] at hb1
  have hz := b2.size
  have A0 := cell_grown (a := ⟨w.heap.size, 0, none⟩) (show w.heap.size < w2.heap.size by omega) ha0
  have A1 := cell_grown (a := ⟨w.heap.size, 1, none⟩) (show w.heap.size < w2.heap.size by omega) ha1
  have B0 := cell_grown (a := ⟨w.heap.size + 1, 0, none⟩) (show w.heap.size + 1 < w2.heap.size by omega) hb0
  have B1 := cell_grown (a := ⟨w.heap.size + 1, 1, none⟩) (show w.heap.size + 1 < w2.heap.size by omega) hb1
  obtain ⟨g', o', hge, hgl, hcell⟩ := hp2.at (by omega)
  cases hge
  obtain ⟨c0, c1⟩ := hcell 0 (by decide)
  obtain ⟨c2, c3⟩ := hcell 1 (by decide)
  simp at c0 c1 c2 c3
  have C0 := cell_grown (a := ⟨g, 0, none⟩) hgl c0
  have C1 := cell_grown (a := ⟨g, 1, none⟩) hgl c1
  have C2 := cell_grown (a := ⟨g, 2, none⟩) hgl c2
  have C3 := cell_grown (a := ⟨g, 3, none⟩) hgl c3
  have hLn : ∀ n os ty, (Builtin.len_ #[33] ty #[.map (some q)]).run Try.prog (grow (w2.drewN n) os) = .ok (.int .i64 2) (grow (w2.drewN n) os) := fun n os ty =>
    (hdm.grown n os).len_run (S := [(1, 9), (2, 1)]) (by decide) (by rw [← rise_law]; exact law_dws.rise) (fun d _ => by rw [pl_some, ← rise_law, mem_rise]) ty
  have hLk : ∀ n os, (Instr.lookup 33 (.map (some q)) (.agg #[.int .i64 1, .int .i64 9]) false).run Try.prog (grow (w2.drewN n) os) = .ok (.int .i64 1) (grow (w2.drewN n) os) := fun n os =>
    (hdm.grown n os).look_run (d := (1, 9)) ⟨by decide, by decide⟩ (by decide)
  have hLs := fun n os => Calls.grown_of (w := w2) (n := n) (os := os) (less_q (1, 9) (2, 1) _)
  have hMa := fun n os => Calls.grown_of (w := w2) (n := n) (os := os) (may_q (2, 1) _)
  have hMz := fun n os => Calls.grown_of (w := w2) (n := n) (os := os) (may_q (0, 0) _)
  have eL : dl (1, 9) (2, 1) = true := by decide
  have eM : mayd (2, 1) = true := by decide
  have eZ : mayd (0, 0) = false := by decide
  rw [eL] at hLs
  rw [eM] at hMa
  rw [eZ] at hMz
  have hcc := hp2.cap
  have hH := hid hbel
  clear hp hp2 b1 b2 hbel hdm ha0 ha1 hb0 hb1 c0 c1 c2 c3 hcell eL eM eZ hz hbb
  go_quiet_grown (first
    | (go_at_call 9; exact hLs _ _)
    | (go_at_call 10; first | (go_at_call_of 10 (2 : Int); exact hMa _ _) | exact hMz _ _))
  go_wp2
  go_ret
  exact ⟨rfl, hH.out.trans ((below_class w2 nq osq).mono hH.out.size)⟩

end Go.Proofs.Ytmkjfgedhcidcaa
