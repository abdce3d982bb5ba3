/- Place: where a character that is to stand at an index is put in. -/
import Derived.Test.YtbpepmajpojacaaFgFirst
set_option linter.unusedVariables false
namespace Go.Proofs.Ytbpepmajpojacaa
open Go.RowKit Go.Shelf

/-- Those that are seen, in order. -/
def seenC (T : List Cr) : List Cr := (allC T).filter (·.seen)

/-- What Place tells. -/
def plcI (T : List Cr) (i : Int) : Dt × Int × Int := match leftOf (seenC T) i with
  | none => ((0, 0), 0, 41)
  | some l => ((plc T l).1, if (plc T l).2 then 1 else 0, 0)

theorem seenC_mem {T : List Cr} {c : Cr} (h : c ∈ seenC T) : c ∈ T := allC_mem (List.mem_filter.1 h).1

theorem leftOf_node {T : List Cr} {i : Int} {l : Dt} (h : leftOf (seenC T) i = some l) : l = (0, 0) ∨ ∃ c ∈ T, c.id = l := by
  unfold leftOf at h
  split at h
  · cases h; exact Or.inl rfl
  · split at h
    · obtain ⟨c, hc, rfl⟩ := Option.map_eq_some_iff.1 h
      exact Or.inr ⟨c, seenC_mem (List.mem_of_getElem? hc), rfl⟩
    · cases h

/-- The root, or a character, as it is read. -/
structure NodeAt (w : World) (T : List Cr) (R : Dt → Bool → Value) (l : Dt) (b o : Nat) : Prop where
  c0 : w.cell? ⟨b, o, none⟩ = some (.int .i64 l.1)
  c1 : w.cell? ⟨b, o + 1, none⟩ = some (.int .i64 l.2)
  c5 : w.cell? ⟨b, o + 5, none⟩ = some (R l true)

theorem TX.node_at {w : World} {t : Nat} {T : List Cr} {G M : Dt → Option Nat} {n : Nat} {R : Dt → Bool → Value} (h : TX w t T G M n R) {l : Dt} (hl : l = (0, 0) ∨ ∃ c ∈ T, c.id = l) : ∃ b o, ahdV t G (some l) = .pointer (some ⟨b, o, none⟩) ∧ (o = 0 ∨ o = 1) ∧ NodeAt w T R l b o := by
  rcases hl with rfl | ⟨c, hc, rfl⟩
  · obtain ⟨fm, h1, _⟩ := h.tb
    exact ⟨t, 1, by simp [ahdV], Or.inr rfl, by simp [World.cell?, h1, txCells], by simp [World.cell?, h1, txCells], by simp [World.cell?, h1, txCells]⟩
  · obtain ⟨g, h1, _, h3⟩ := h.ch c hc
    refine ⟨g, 0, ?_, Or.inl rfl, by simp [World.cell?, h3, Cr.cells], by simp [World.cell?, h3, Cr.cells], by simp [World.cell?, h3, Cr.cells]⟩
    show (if c.id = (0, 0) then _ else _) = _
    rw [if_neg (h.wt.nz c hc), h1]
    rfl

theorem TX.ahead {w : World} {t : Nat} {T : List Cr} {G M : Dt → Option Nat} {n : Nat} {R : Dt → Bool → Value} (h : TX w t T G M n R) (hTl : T.length ≤ 1000000) (i : Int) (hi : -9223372036854775808 ≤ i ∧ i ≤ 9223372036854775807) : Calls Try.prog 51 #[.pointer (some ⟨t, 0, none⟩), .int .i64 i] w fun e w' => e = .returned (ahdV t G (leftOf (seenC T) i)) ∧ Below w.heap.size w w' :=
  ahead_of (h.sight hTl) (fun c hc => h.rdc c (List.mem_filter.1 hc).1) (fun c hc => h.wt.nz c (seenC_mem hc)) hTl i hi

theorem dot_put {w1 : World} {B : Nat} {a b : Value} {T : TypeId} (hb : w1.heap[B]? = some (.cells #[a, b] T (0, 0))) (x y : Value) : ((w1.setCell ⟨B, 0, none⟩ x).setCell ⟨B, 1, none⟩ y).cell? ⟨B, 0, none⟩ = some x ∧ ((w1.setCell ⟨B, 0, none⟩ x).setCell ⟨B, 1, none⟩ y).cell? ⟨B, 1, none⟩ = some y := by
  have h1 : (w1.setCell ⟨B, 0, none⟩ x).heap[B]? = some (.cells #[x, b] T (0, 0)) := by rw [fset_block hb]; simp
  have h2 : ((w1.setCell ⟨B, 0, none⟩ x).setCell ⟨B, 1, none⟩ y).heap[B]? = some (.cells #[x, y] T (0, 0)) := by rw [fset_block h1]; simp
  exact ⟨by simp [World.cell?, h2], by simp [World.cell?, h2]⟩

theorem below_dot {w w1 : World} (h : Below w.heap.size w w1) (x y : Value) : Below w.heap.size w ((w1.setCell ⟨w.heap.size, 0, none⟩ x).setCell ⟨w.heap.size, 1, none⟩ y) := (h.setCell (p := ⟨w.heap.size, 0, none⟩) (Nat.le_refl _) x).setCell (p := ⟨w.heap.size, 1, none⟩) (Nat.le_refl _) y

set_option maxRecDepth 100000 in
set_option maxHeartbeats 2000000 in
theorem place_any {w : World} {t : Nat} {T : List Cr} {G M : Dt → Option Nat} {n : Nat} {R : Dt → Bool → Value} (h : TX w t T G M n R) (hTl : T.length ≤ 1000000) (i : Int) (hi : -9223372036854775808 ≤ i ∧ i ≤ 9223372036854775807) :
    Calls Try.prog 25 #[.pointer (some ⟨t, 0, none⟩), .int .i64 i] w fun e w' => e = .returned (.tuple #[.agg #[.int .i64 (plcI T i).1.1, .int .i64 (plcI T i).1.2], .int .i64 (plcI T i).2.1, .int .i64 (plcI T i).2.2]) ∧ Below w.heap.size w w' := by
  obtain ⟨wA, hwA⟩ : ∃ wA, wA = w.alloc (.cells #[.int .i64 0, .int .i64 0] 24) := ⟨_, rfl⟩
  have hBA : Below w.heap.size w wA := by rw [hwA]; exact (Below.refl _ w).alloc (Nat.le_refl _) _
  have hblk : wA.heap[w.heap.size]? = some (.cells #[.int .i64 0, .int .i64 0] 24 (0, 0)) := by rw [hwA]; exact World.alloc_heap_new _ _
  have hszA : w.heap.size < wA.heap.size := (Array.getElem?_eq_some_iff.1 hblk).1
  have hcall := (h.below hBA).ahead hTl i hi
  cases hlo : leftOf (seenC T) i with
  | none =>
    have hp : plcI T i = ((0, 0), 0, 41) := by unfold plcI; rw [hlo]
    rw [hlo] at hcall
    have hcall' : Calls Try.prog 51 #[.pointer (some ⟨t, 0, none⟩), .int .i64 i] wA fun e w1 => e = .returned (.pointer none) ∧ w1.cell? ⟨w.heap.size, 0, none⟩ = some (.int .i64 0) ∧ w1.cell? ⟨w.heap.size, 1, none⟩ = some (.int .i64 0) ∧ w1.frozen? ⟨w.heap.size, 0, none⟩ = false ∧ w1.frozen? ⟨w.heap.size, 1, none⟩ = false ∧ w.heap.size < w1.heap.size ∧ Hid (Below w.heap.size w w1 ∧ w1.heap[w.heap.size]? = some (.cells #[.int .i64 0, .int .i64 0] 24 (0, 0))) := hcall.mono (fun e w1 ⟨he, hb⟩ => by
      have hb1 : w1.heap[w.heap.size]? = _ := (hb.block _ hszA).trans hblk
      exact ⟨he, by simp [World.cell?, hb1], by simp [World.cell?, hb1], by simp [World.frozen?, hb1], by simp [World.frozen?, hb1], (Array.getElem?_eq_some_iff.1 hb1).1, hid ⟨hBA.trans (hb.mono hBA.size), hb1⟩⟩)
    rw [hp]
    have hwAH := hid hwA
    clear hlo hp hcall
    go_enter Try.func25, Try.ntmps25
    go_wp2_with (go_at_call 51; (try rw [← hwAH.out]); refine hcall'.mono ?_; rintro e w1 ⟨rfl, k0, k1, k2, k3, k4, hbH⟩)
    obtain ⟨q0, q1⟩ := dot_put hbH.out.2 (.int .i64 0) (.int .i64 0)
    exact bodyPost_ret (v := .tuple #[.agg #[.int .i64 0, .int .i64 0], .int .i64 0, .int .i64 41]) (by simp [results, Try.results25, go_sem, q0, q1]) rfl ⟨rfl, below_dot hbH.out.1 _ _⟩
  | some l =>
    have hln := leftOf_node hlo
    have hnode : nodes T l := hln
    obtain ⟨b, o, hv, ho, hna⟩ := (h.below hBA).node_at hln
    rw [hlo, hv] at hcall
    have hp : plcI T i = ((plc T l).1, if (plc T l).2 then 1 else 0, 0) := by unfold plcI; rw [hlo]
    rw [hp]
    have hwAH := hid hwA
    have hbA : b < wA.heap.size := by have := cell_in hna.c0; exact this
    cases hk : kids T l true with
    | nil =>
      have hpl : plc T l = (l, true) := by unfold plc; rw [hk]
      obtain ⟨ra, rc, gs, hR, _, _⟩ := h.cm.row l true hnode
      rw [hk] at hR
      have hcall' : Calls Try.prog 51 #[.pointer (some ⟨t, 0, none⟩), .int .i64 i] wA fun e w1 => e = .returned (.pointer (some ⟨b, o, none⟩)) ∧ w1.cell? ⟨b, o, none⟩ = some (.int .i64 l.1) ∧ w1.cell? ⟨b, o + 1, none⟩ = some (.int .i64 l.2) ∧ w1.cell? ⟨b, o + 5, none⟩ = some (.slice ra 0 rc) ∧ w1.cell? ⟨w.heap.size, 0, none⟩ = some (.int .i64 0) ∧ w1.cell? ⟨w.heap.size, 1, none⟩ = some (.int .i64 0) ∧ w1.frozen? ⟨w.heap.size, 0, none⟩ = false ∧ w1.frozen? ⟨w.heap.size, 1, none⟩ = false ∧ w.heap.size < w1.heap.size ∧ Hid (Below w.heap.size w w1 ∧ w1.heap[w.heap.size]? = some (.cells #[.int .i64 0, .int .i64 0] 24 (0, 0))) := hcall.mono (fun e w1 ⟨he, hb⟩ => by
        have hb1 : w1.heap[w.heap.size]? = _ := (hb.block _ hszA).trans hblk
        exact ⟨he, by rw [hb.cell (p := ⟨b, o, none⟩) hbA]; exact hna.c0, by rw [hb.cell (p := ⟨b, o + 1, none⟩) hbA]; exact hna.c1, by rw [hb.cell (p := ⟨b, o + 5, none⟩) hbA, hna.c5, hR]; rfl, by simp [World.cell?, hb1], by simp [World.cell?, hb1], by simp [World.frozen?, hb1], by simp [World.frozen?, hb1], (Array.getElem?_eq_some_iff.1 hb1).1, hid ⟨hBA.trans (hb.mono hBA.size), hb1⟩⟩)
      rw [hpl]
      clear hlo hp hcall hk hpl hR hv hna hwA
      go_enter Try.func25, Try.ntmps25
      rcases ho with rfl | rfl
      all_goals
        go_wp2_with (go_at_call 51; (try rw [← hwAH.out]); refine hcall'.mono ?_; rintro e w1 ⟨rfl, k0, k1, k5, r0, r1, r2, r3, r4, hbH⟩)
        obtain ⟨q0, q1⟩ := dot_put hbH.out.2 (.int .i64 l.1) (.int .i64 l.2)
        exact bodyPost_ret (v := .tuple #[.agg #[.int .i64 l.1, .int .i64 l.2], .int .i64 1, .int .i64 0]) (by simp [results, Try.results25, go_sem, q0, q1]) rfl ⟨rfl, below_dot hbH.out.1 _ _⟩
    | cons k ks =>
      have hpl : plc T l = (frst T T.length k, false) := by unfold plc; rw [hk]
      obtain ⟨rb, ro, rc, g1, hR, hGk, hcl, hlc, hmx⟩ := (h.below hBA).first_kid (s := true) hnode hk
      have hkm : k ∈ kids T l true := by rw [hk]; simp
      obtain ⟨y, hy, _, _, hyk⟩ := mem_kids.1 hkm
      have hkl := kids_len T l true
      have hk0 : 0 < (kids T l true).length := by rw [hk]; simp
      obtain ⟨kl, hkl'⟩ : ∃ kl, kl = (kids T l true).length := ⟨_, rfl⟩
      rw [← hkl'] at hR hk0 hkl hlc
      obtain ⟨f, hf, hfe⟩ := frst_mem (T := T) (f := T.length) ⟨y, hy, hyk⟩
      have hcall' : Calls Try.prog 51 #[.pointer (some ⟨t, 0, none⟩), .int .i64 i] wA fun e w1 => e = .returned (.pointer (some ⟨b, o, none⟩)) ∧ w1.cell? ⟨b, o + 5, none⟩ = some (.slice (some ⟨rb, ro, none⟩) kl rc) ∧ w1.cell? ⟨rb, ro, none⟩ = some (.pointer (some ⟨g1, 0, none⟩)) ∧ w1.cell? ⟨w.heap.size, 0, none⟩ = some (.int .i64 0) ∧ w1.cell? ⟨w.heap.size, 1, none⟩ = some (.int .i64 0) ∧ w1.frozen? ⟨w.heap.size, 0, none⟩ = false ∧ w1.frozen? ⟨w.heap.size, 1, none⟩ = false ∧ w.heap.size < w1.heap.size ∧ (Calls Try.prog 52 #[.pointer (some ⟨g1, 0, none⟩)] w1 fun e w2 => ∃ g', e = .returned (.pointer (some ⟨g', 0, none⟩)) ∧ w2.cell? ⟨g', 0, none⟩ = some (.int .i64 (frst T T.length k).1) ∧ w2.cell? ⟨g', 1, none⟩ = some (.int .i64 (frst T T.length k).2) ∧ w1 = w2) ∧ Hid (Below w.heap.size w w1 ∧ w1.heap[w.heap.size]? = some (.cells #[.int .i64 0, .int .i64 0] 24 (0, 0))) := hcall.mono (fun e w1 ⟨he, hb⟩ => by
        have hb1 : w1.heap[w.heap.size]? = _ := (hb.block _ hszA).trans hblk
        have h1 := (h.below hBA).below hb
        refine ⟨he, by rw [hb.cell (p := ⟨b, o + 5, none⟩) hbA, hna.c5, hR], by rw [hb.cell (p := ⟨rb, ro, none⟩) (cell_in hcl)]; exact hcl, by simp [World.cell?, hb1], by simp [World.cell?, hb1], by simp [World.frozen?, hb1], by simp [World.frozen?, hb1], (Array.getElem?_eq_some_iff.1 hb1).1, ?_, hid ⟨hBA.trans (hb.mono hBA.size), hb1⟩⟩
        refine (ffirst_any h1 hTl ⟨y, hy, hyk⟩ hGk).mono ?_
        rintro e2 w2 ⟨g', hG', rfl, rfl⟩
        rw [← hfe] at hG'
        have hid' := h1.id_at hf hG'
        rw [hfe] at hid'
        exact ⟨g', rfl, hid'.c0, hid'.c1, rfl⟩)
      rw [hpl]
      obtain ⟨F, hF⟩ : ∃ F, F = frst T T.length k := ⟨_, rfl⟩
      rw [← hF] at hcall' ⊢
      unfold maxLen at hmx
      clear hlo hp hcall hk hpl hR hv hna hwA hkl' hF hfe hkm
      go_enter Try.func25, Try.ntmps25
      rcases ho with rfl | rfl
      all_goals
        go_wp2_with (first
          | (go_at_call 51; (try rw [← hwAH.out]); refine hcall'.mono ?_; rintro e w1 ⟨rfl, k5, k6, r0, r1, r2, r3, r4, hfst, hbH⟩)
          | (go_at_call 52; refine hfst.mono ?_; rintro e w2 ⟨g', rfl, j0, j1, rfl⟩))
        obtain ⟨q0, q1⟩ := dot_put hbH.out.2 (.int .i64 F.1) (.int .i64 F.2)
        exact bodyPost_ret (v := .tuple #[.agg #[.int .i64 F.1, .int .i64 F.2], .int .i64 0, .int .i64 0]) (by simp [results, Try.results25, go_sem, q0, q1]) rfl ⟨rfl, below_dot hbH.out.1 _ _⟩
end Go.Proofs.Ytbpepmajpojacaa
