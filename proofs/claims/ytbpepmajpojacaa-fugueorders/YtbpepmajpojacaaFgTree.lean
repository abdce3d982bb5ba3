/- Texts, in numbers: all characters in order. No function of the program. -/
import Derived.Test.YtbpepmajpojacaaFgPutC
import Derived.Test.YtbpepmajpojacaaFgMath
namespace Go.Proofs.Ytbpepmajpojacaa
section
set_option linter.unusedVariables false
open Go.RowKit Go.Maps
open Go.Sort (grow)

/-- One is taken out of sight. -/
def hide (T : List Cr) (d : Dt) : List Cr := T.map (fun c => if c.id = d then { c with seen := false } else c)

theorem hide_mem {T : List Cr} {d : Dt} {c : Cr} (h : c ∈ hide T d) : ∃ x ∈ T, x.id = c.id ∧ x.at_ = c.at_ ∧ x.sd = c.sd ∧ x.ch = c.ch ∧ c.seen = (if x.id = d then false else x.seen) := by
  obtain ⟨x, hx, rfl⟩ := List.mem_map.1 h
  refine ⟨x, hx, ?_⟩
  by_cases e : x.id = d
  · simp [e]
  · simp [e]

theorem hide_ids (T : List Cr) (d : Dt) : (hide T d).map Cr.id = T.map Cr.id := by
  unfold hide
  rw [List.map_map]
  refine List.map_congr_left (fun c _ => ?_)
  by_cases e : c.id = d <;> simp [e]

theorem hide_kids (T : List Cr) (d k : Dt) (s : Bool) : kids (hide T d) k s = kids T k s := by
  refine up_ext (kids_up _ _ _) (kids_up _ _ _) (fun x => ?_)
  rw [mem_kids, mem_kids]
  constructor
  · rintro ⟨c, hc, h1, h2, h3⟩
    obtain ⟨y, hy, e1, e2, e3, _⟩ := hide_mem hc
    exact ⟨y, hy, by rw [e2, h1], by rw [e3, h2], by rw [e1, h3]⟩
  · rintro ⟨c, hc, h1, h2, h3⟩
    refine ⟨_, List.mem_map.2 ⟨c, hc, rfl⟩, ?_⟩
    by_cases e : c.id = d <;> simp [e, h1, h2] <;> simp [← h3, e]

theorem hide_nodes (T : List Cr) (d k : Dt) : nodes (hide T d) k ↔ nodes T k := by
  unfold nodes
  constructor
  · rintro (h | ⟨c, hc, e⟩)
    · exact Or.inl h
    · obtain ⟨y, hy, e1, _⟩ := hide_mem hc
      exact Or.inr ⟨y, hy, by rw [e1, e]⟩
  · rintro (h | ⟨c, hc, e⟩)
    · exact Or.inl h
    · refine Or.inr ⟨_, List.mem_map.2 ⟨c, hc, rfl⟩, ?_⟩
      by_cases e' : c.id = d
      · rw [if_pos e']
        exact e
      · rw [if_neg e']
        exact e

theorem hide_take (T : List Cr) (d : Dt) (i : Nat) : (hide T d).take i = hide (T.take i) d := by
  unfold hide
  rw [List.map_take]

theorem WT.hide {T : List Cr} (h : WT T) (d : Dt) : WT (hide T d) := by
  refine ⟨by rw [hide_ids]; exact h.ids, fun c hc => ?_, fun c hc => ?_, fun i c hc => ?_, fun c hc h0 => ?_⟩
  · obtain ⟨y, hy, e1, _⟩ := hide_mem hc
    rw [← e1]; exact h.nz y hy
  · obtain ⟨y, hy, e1, _⟩ := hide_mem hc
    rw [← e1]; exact h.dw y hy
  · rw [hide_take, hide_nodes]
    unfold Proofs.Ytbpepmajpojacaa.hide at hc
    rw [List.getElem?_map] at hc
    obtain ⟨x, hx, rfl⟩ := Option.map_eq_some_iff.1 hc
    have := h.under i x hx
    by_cases e : x.id = d <;> simp [e, this]
  · obtain ⟨y, hy, _, e2, e3, _⟩ := hide_mem hc
    rw [← e3]; exact h.root y hy (by rw [e2, h0])

/-- A text with one taken out of sight. -/
theorem TX.hide {w : World} {t : Nat} {T : List Cr} {G M : Dt → Option Nat} {n : Nat} {R : Dt → Bool → Value} (h : TX w t T G M n R) {d : Dt} {g : Nat} (hd : Dw d) (hg : G d = some g) : TX (w.setCell ⟨g, 3, none⟩ (.bool false)) t (hide T d) G M n R ∧ FrW t w (w.setCell ⟨g, 3, none⟩ (.bool false)) := by
  obtain ⟨c0, hc0, e0⟩ := (h.gd d hd).1 (by rw [hg]; rfl)
  obtain ⟨g0, k1, k2, k3⟩ := h.ch c0 hc0
  rw [e0, hg] at k1
  cases k1
  have hrow : ∀ {v : Value} {k : Nat} {xs : List Value}, w.ownsRow t 72 1 v k xs → (w.setCell ⟨g, 3, none⟩ (.bool false)).ownsRow t 72 1 v k xs := fun {v k xs} hv => by
    refine World.ownsRow.kept hv (fgrown_set _ _ _ _) ?_
    cases hb : v.ownBlock with
    | none => exact Or.inl rfl
    | some b =>
      right
      intro e
      cases e
      obtain ⟨cur, hc⟩ := own_block hv hb
      rw [k3] at hc
      simp at hc
  refine ⟨⟨h.wt.hide d, ?_, fun e he => ?_, fun c hc => ?_, fun k s hk => ?_, fun k s k' s' hk hk' => ?_⟩, ?_⟩
  · obtain ⟨fm, h1, h2⟩ := h.tb
    refine ⟨fm, (fset_other (by omega) _).trans h1, ?_⟩
    rcases h2 with ⟨e, _⟩ | ⟨mb, e, hm, hp⟩
    · rw [e] at hc0
      simp at hc0
    · refine Or.inr ⟨mb, e, hm, hp.same (fset_other (fun e' => ?_) _)⟩
      obtain ⟨D, ⟨es, clock, h5, _⟩, _⟩ := hp
      rw [e', k3] at h5
      cases h5
  · rw [h.gd e he]
    constructor
    · rintro ⟨c, hc, e1⟩
      have : e ∈ (Proofs.Ytbpepmajpojacaa.hide T d).map Cr.id := by rw [hide_ids]; exact List.mem_map.2 ⟨c, hc, e1⟩
      obtain ⟨x, hx, e2⟩ := List.mem_map.1 this
      exact ⟨x, hx, e2⟩
    · rintro ⟨c, hc, e1⟩
      obtain ⟨y, hy, e2, _⟩ := hide_mem hc
      exact ⟨y, hy, by rw [e2, e1]⟩
  · obtain ⟨x, hx, e1, _, _, e4, e5⟩ := hide_mem hc
    obtain ⟨gx, x1, x2, x3⟩ := h.ch x hx
    rw [← e1]
    refine ⟨gx, x1, x2, ?_⟩
    by_cases hxd : x.id = d
    · have : gx = g := by rw [hxd, hg] at x1; simpa using x1.symm
      subst this
      rw [fset_block x3]
      have : c.seen = false := by rw [e5, if_pos hxd]
      simp [Cr.cells, ← e1, e4, this]
    · have hne : gx ≠ g := fun e => by
        rw [e] at x1
        exact hxd (by rw [← e0]; exact h.inj hx hc0 x1 (by rw [e0]; exact hg))
      rw [fset_other hne, x3]
      have : c.seen = x.seen := by rw [e5, if_neg hxd]
      simp [Cr.cells, ← e1, e4, this]
  · rw [hide_kids]
    obtain ⟨gs, q1, q2⟩ := h.rows k s ((hide_nodes T d k).1 hk)
    exact ⟨gs, q1, hrow q2⟩
  · exact h.apart k s k' s' ((hide_nodes T d k).1 hk) ((hide_nodes T d k').1 hk')
  · refine FrW.of_grown (fgrown_set _ _ _ _) (fun k hk => ?_)
    cases hk
    refine ⟨Nat.le_of_lt k2, fun cs ty hc => ?_⟩
    rw [k3] at hc
    simp at hc
    exact Or.inl hc.2.symm

set_option maxRecDepth 100000 in
set_option maxHeartbeats 4000000 in
theorem del_no (t : Nat) (T : List Cr) (G : Dt → Option Nat) (n : Nat) (R : Dt → Bool → Value) (d : Dt) (w : World) (h : TX w t T G G n R) (hd : Dw d) (hg : G d = none) :
    Calls Try.prog 10 #[.pointer (some ⟨t, 0, none⟩), dv d] w fun e w' => e = .returned (.int .i64 41) ∧ RowKit.Below w.heap.size w w' := by
  have mixed := mixed
  obtain ⟨fm, hc, ⟨om, rfl⟩, hlk⟩ := h.found
  have htl := h.lt
  have hX := hid h
  have hA : RowKit.Below w.heap.size w (w.alloc (.cells #[.int .i64 d.1, .int .i64 d.2] 24)) := ((Far.refl w).alloc _).below
  obtain ⟨W, hW⟩ : ∃ W, W = w.alloc (.cells #[.int .i64 d.1, .int .i64 d.2] 24) := ⟨_, rfl⟩
  have k0 : W.cell? ⟨w.heap.size, 0, none⟩ = some (.int .i64 d.1) := by rw [hW]; go_simp
  have k1 : W.cell? ⟨w.heap.size, 1, none⟩ = some (.int .i64 d.2) := by rw [hW]; go_simp
  rw [← hW] at hA
  have hwl : w.heap.size < W.heap.size := by rw [hW]; simp
  haveI : Nonempty (Wb W) := ⟨⟨W, Below.refl _ _⟩⟩
  have y0 := fun p : Wb W => (p.h.cell (p := ⟨w.heap.size, 0, none⟩) hwl).trans k0
  have y1 := fun p : Wb W => (p.h.cell (p := ⟨w.heap.size, 1, none⟩) hwl).trans k1
  have yt := fun p : Wb W => ((below2 hA p.h).cell (p := ⟨t, 0, none⟩) htl).trans hc
  have yl := fun p : Wb W => hlk p.u (below2 hA p.h) d hd
  rw [hg] at yl
  have yl' : ∀ p : Wb W, (Instr.lookup 65 (.map om) (.agg #[.int .i64 d.1, .int .i64 d.2]) false).run Try.prog p.u = .ok (.pointer none) p.u := yl
  clear hlk h yl
  go_enter Try.func10, Try.ntmps10
  go_upto_region 3 with fail
  rw [← hW]
  clear hW
  refine wp_region_below mixed (by kernel_rfl) ?_
  repeat (go_big_quiet_step (fail))
  refine wpQuiet_nil ?_
  intro _ hw'
  obtain ⟨p, hw''⟩ := hw'
  subst hw''
  have hB := below2 hA p.h
  go_wp2
  go_ret
  exact ⟨rfl, hB⟩

set_option maxRecDepth 100000 in
set_option maxHeartbeats 4000000 in
theorem del_any (t : Nat) (T : List Cr) (G : Dt → Option Nat) (n : Nat) (R : Dt → Bool → Value) (d : Dt) (w : World) (h : TX w t T G G n R) (hd : Dw d) (g : Nat) (hg : G d = some g) :
    Calls Try.prog 10 #[.pointer (some ⟨t, 0, none⟩), dv d] w fun e w' => e = .returned (.int .i64 0) ∧ TX w' t (hide T d) G G n R ∧ FrW t w w' := by
  have mixed := mixed
  obtain ⟨fm, hc, ⟨om, rfl⟩, hlk⟩ := h.found
  have htl := h.lt
  have hX := hid h
  have hA : RowKit.Below w.heap.size w (w.alloc (.cells #[.int .i64 d.1, .int .i64 d.2] 24)) := ((Far.refl w).alloc _).below
  obtain ⟨W, hW⟩ : ∃ W, W = w.alloc (.cells #[.int .i64 d.1, .int .i64 d.2] 24) := ⟨_, rfl⟩
  have k0 : W.cell? ⟨w.heap.size, 0, none⟩ = some (.int .i64 d.1) := by rw [hW]; go_simp
  have k1 : W.cell? ⟨w.heap.size, 1, none⟩ = some (.int .i64 d.2) := by rw [hW]; go_simp
  rw [← hW] at hA
  have hwl : w.heap.size < W.heap.size := by rw [hW]; simp
  haveI : Nonempty (Wb W) := ⟨⟨W, Below.refl _ _⟩⟩
  have y0 := fun p : Wb W => (p.h.cell (p := ⟨w.heap.size, 0, none⟩) hwl).trans k0
  have y1 := fun p : Wb W => (p.h.cell (p := ⟨w.heap.size, 1, none⟩) hwl).trans k1
  have yt := fun p : Wb W => ((below2 hA p.h).cell (p := ⟨t, 0, none⟩) htl).trans hc
  have yl := fun p : Wb W => hlk p.u (below2 hA p.h) d hd
  rw [hg] at yl
  have yl' : ∀ p : Wb W, (Instr.lookup 65 (.map om) (.agg #[.int .i64 d.1, .int .i64 d.2]) false).run Try.prog p.u = .ok (.pointer (some ⟨g, 0, none⟩)) p.u := yl
  clear hlk h yl
  go_enter Try.func10, Try.ntmps10
  go_upto_region 3 with fail
  rw [← hW]
  clear hW
  refine wp_region_below mixed (by kernel_rfl) ?_
  repeat (go_big_quiet_step (fail))
  refine wpQuiet_nil ?_
  intro _ hw'
  obtain ⟨p, hw''⟩ := hw'
  subst hw''
  have hB := below2 hA p.h
  have hX2 := hX.out.below hB
  obtain ⟨r1, r2⟩ := hX2.hide hd hg
  obtain ⟨c0, hc0, e0⟩ := (hX2.gd d hd).1 (by rw [hg]; rfl)
  obtain ⟨g0, q1, q2, q3⟩ := hX2.ch c0 hc0
  rw [e0, hg] at q1
  obtain rfl : g = g0 := by simpa using q1
  have hcl : p.u.cell? ⟨g, 3, none⟩ = some (.bool c0.seen) := by simp [World.cell?, q3, Cr.cells]
  have hfz : p.u.frozen? ⟨g, 3, none⟩ = false := by simp [World.frozen?, q3]
  have HR1 := hid r1
  have HR2 := hid ((FrW.of_below hB : FrW t w p.u).trans r2)
  clear r1 r2 q1 q2 q3 hX2 e0 hg
  go_wp2
  go_ret
  exact ⟨rfl, HR1.out, HR2.out⟩

set_option maxRecDepth 100000 in
set_option maxHeartbeats 4000000 in
theorem seen_no (t : Nat) (T : List Cr) (G : Dt → Option Nat) (n : Nat) (R : Dt → Bool → Value) (d : Dt) (w : World) (h : TX w t T G G n R) (hd : Dw d) (hg : G d = none) :
    Calls Try.prog 17 #[.pointer (some ⟨t, 0, none⟩), dv d] w fun e w' => e = .returned (.bool false) ∧ RowKit.Below w.heap.size w w' := by
  have mixed := mixed
  obtain ⟨fm, hc, ⟨om, rfl⟩, hlk⟩ := h.found
  have htl := h.lt
  have hX := hid h
  have hA : RowKit.Below w.heap.size w (w.alloc (.cells #[.int .i64 d.1, .int .i64 d.2] 24)) := ((Far.refl w).alloc _).below
  obtain ⟨W, hW⟩ : ∃ W, W = w.alloc (.cells #[.int .i64 d.1, .int .i64 d.2] 24) := ⟨_, rfl⟩
  have k0 : W.cell? ⟨w.heap.size, 0, none⟩ = some (.int .i64 d.1) := by rw [hW]; go_simp
  have k1 : W.cell? ⟨w.heap.size, 1, none⟩ = some (.int .i64 d.2) := by rw [hW]; go_simp
  rw [← hW] at hA
  have hwl : w.heap.size < W.heap.size := by rw [hW]; simp
  haveI : Nonempty (Wb W) := ⟨⟨W, Below.refl _ _⟩⟩
  have y0 := fun p : Wb W => (p.h.cell (p := ⟨w.heap.size, 0, none⟩) hwl).trans k0
  have y1 := fun p : Wb W => (p.h.cell (p := ⟨w.heap.size, 1, none⟩) hwl).trans k1
  have yt := fun p : Wb W => ((below2 hA p.h).cell (p := ⟨t, 0, none⟩) htl).trans hc
  have yl := fun p : Wb W => hlk p.u (below2 hA p.h) d hd
  rw [hg] at yl
  have yl' : ∀ p : Wb W, (Instr.lookup 65 (.map om) (.agg #[.int .i64 d.1, .int .i64 d.2]) false).run Try.prog p.u = .ok (.pointer none) p.u := yl
  clear hlk h yl
  go_enter Try.func17, Try.ntmps17
  go_upto_region 3 with fail
  rw [← hW]
  clear hW
  refine wp_region_below mixed (by kernel_rfl) ?_
  repeat (go_big_quiet_step (fail))
  refine wpQuiet_nil ?_
  intro _ hw'
  obtain ⟨p, hw''⟩ := hw'
  subst hw''
  have hB := below2 hA p.h
  go_wp2
  go_ret
  exact ⟨rfl, hB⟩

set_option maxRecDepth 100000 in
set_option maxHeartbeats 4000000 in
theorem seen_any (t : Nat) (T : List Cr) (G : Dt → Option Nat) (n : Nat) (R : Dt → Bool → Value) (d : Dt) (w : World) (h : TX w t T G G n R) (hd : Dw d) (c0 : Cr) (hc0 : c0 ∈ T) (e0 : c0.id = d) :
    Calls Try.prog 17 #[.pointer (some ⟨t, 0, none⟩), dv d] w fun e w' => e = .returned (.bool c0.seen) ∧ RowKit.Below w.heap.size w w' := by
  obtain ⟨g, hg, _, q3⟩ := h.ch c0 hc0
  rw [e0] at hg
  have mixed := mixed
  obtain ⟨fm, hc, ⟨om, rfl⟩, hlk⟩ := h.found
  have htl := h.lt
  have hX := hid h
  have hA : RowKit.Below w.heap.size w (w.alloc (.cells #[.int .i64 d.1, .int .i64 d.2] 24)) := ((Far.refl w).alloc _).below
  obtain ⟨W, hW⟩ : ∃ W, W = w.alloc (.cells #[.int .i64 d.1, .int .i64 d.2] 24) := ⟨_, rfl⟩
  have k0 : W.cell? ⟨w.heap.size, 0, none⟩ = some (.int .i64 d.1) := by rw [hW]; go_simp
  have k1 : W.cell? ⟨w.heap.size, 1, none⟩ = some (.int .i64 d.2) := by rw [hW]; go_simp
  rw [← hW] at hA
  have hwl : w.heap.size < W.heap.size := by rw [hW]; simp
  haveI : Nonempty (Wb W) := ⟨⟨W, Below.refl _ _⟩⟩
  have y0 := fun p : Wb W => (p.h.cell (p := ⟨w.heap.size, 0, none⟩) hwl).trans k0
  have y1 := fun p : Wb W => (p.h.cell (p := ⟨w.heap.size, 1, none⟩) hwl).trans k1
  have yt := fun p : Wb W => ((below2 hA p.h).cell (p := ⟨t, 0, none⟩) htl).trans hc
  have yl := fun p : Wb W => hlk p.u (below2 hA p.h) d hd
  rw [hg] at yl
  have yl' : ∀ p : Wb W, (Instr.lookup 65 (.map om) (.agg #[.int .i64 d.1, .int .i64 d.2]) false).run Try.prog p.u = .ok (.pointer (some ⟨g, 0, none⟩)) p.u := yl
  clear hlk h yl
  go_enter Try.func17, Try.ntmps17
  go_upto_region 3 with fail
  rw [← hW]
  clear hW
  refine wp_region_below mixed (by kernel_rfl) ?_
  repeat (go_big_quiet_step (fail))
  refine wpQuiet_nil ?_
  intro _ hw'
  obtain ⟨p, hw''⟩ := hw'
  subst hw''
  have hB := below2 hA p.h
  have hcl : p.u.cell? ⟨g, 2 + 1, none⟩ = some (.bool c0.seen) := ((hB.cell (p := ⟨g, 3, none⟩) (Array.getElem?_eq_some_iff.1 q3).1).trans (by simp [World.cell?, q3, Cr.cells]))
  have hcl' : p.u.cell? ⟨g, 3, none⟩ = some (.bool c0.seen) := hcl
  obtain ⟨b0, hb0⟩ : ∃ b, c0.seen = b := ⟨_, rfl⟩
  rw [hb0] at hcl'
  have HB0 := hid hb0
  clear hcl hg e0 hb0
  cases b0
  · go_wp2
    go_ret
    exact ⟨by rw [HB0.out]; rfl, hB⟩
  · go_wp2
    go_ret
    exact ⟨by rw [HB0.out]; rfl, hB⟩

set_option maxRecDepth 100000 in
theorem new_any (w : World) : Calls Try.prog 9 #[] w fun e w' => e = .returned (.pointer (some ⟨w.heap.size, 0, none⟩)) ∧ TX w' w.heap.size [] (fun _ => none) (fun _ => none) 0 (fun _ _ => .slice none 0 0) ∧ RowKit.Below w.heap.size w w' := by
  have hb : RowKit.Below w.heap.size w (w.alloc (.cells (txCells (.map none) (.slice none 0 0) (.slice none 0 0)) 71)) := ((Far.refl w).alloc _).below
  have ht : (w.alloc (.cells (txCells (.map none) (.slice none 0 0) (.slice none 0 0)) 71)).heap[w.heap.size]? = some (.cells (txCells (.map none) (.slice none 0 0) (.slice none 0 0)) 71 (0, 0)) := (MapKept.heap_alloc w _).1
  have hTX : TX (w.alloc (.cells (txCells (.map none) (.slice none 0 0) (.slice none 0 0)) 71)) w.heap.size [] (fun _ => none) (fun _ => none) 0 (fun _ _ => .slice none 0 0) := by
    refine ⟨WT.nil, ⟨_, ht, Or.inl ⟨rfl, rfl⟩⟩, fun d _ => by simp, fun c hc => by simp at hc, fun d s _ => ⟨[], ?_, World.ownsRow_nil _ _ _ _⟩, fun _ _ _ _ _ _ _ => Or.inl rfl⟩
    rfl
  go_enter Try.func9, Try.ntmps9
  go_wp2
  go_ret
  exact ⟨rfl, hTX, hb⟩

set_option maxRecDepth 100000 in
theorem size_any (t : Nat) (T : List Cr) (G : Dt → Option Nat) (n : Nat) (R : Dt → Bool → Value) (w : World) (h : TX w t T G G n R) :
    Calls Try.prog 29 #[.pointer (some ⟨t, 0, none⟩)] w fun e w' => e = .returned (.int .i64 (T.length : Int)) ∧ w' = w := by
  obtain ⟨fm, h1, h2⟩ := h.tb
  have hc : w.cell? ⟨t, 0, none⟩ = some fm := by simp [World.cell?, h1, txCells]
  have htl := h.lt
  rcases h2 with ⟨hT, rfl⟩ | ⟨mb, rfl, _, hp⟩
  · have hl := Maps.len_nil (w := w) Try.underlying65 3
    have hz : Hid (T.length = 0) := hid (by rw [hT]; rfl)
    clear hT h h1
    go_enter Try.func29, Try.ntmps29
    go_wp2
    go_ret
    exact ⟨by rw [hz.out]; rfl, rfl⟩
  · obtain ⟨D, ho, hs⟩ := hp.size (S := T.map Cr.id) h.wt.ids (fun d hd => by obtain ⟨c, hc, rfl⟩ := List.mem_map.1 hd; exact h.wt.dw c hc) (fun d hd => by
      rw [h.gd d hd]
      constructor
      · rintro ⟨c, hc, e⟩; exact List.mem_map.2 ⟨c, hc, e⟩
      · intro hm; obtain ⟨c, hc, e⟩ := List.mem_map.1 hm; exact ⟨c, hc, e⟩)
    have hl := ho.len Try.underlying65 3
    rw [hs, List.length_map] at hl
    clear h h1 hp ho hs
    go_enter Try.func29, Try.ntmps29
    go_wp2
    go_ret
    exact ⟨rfl, rfl⟩

end

section

/-- A character's tree, in order, so deep. -/
def trF (T : List Cr) : Nat → Dt → List Dt
  | 0, _ => []
  | f + 1, d => (kids T d false).flatMap (trF T f) ++ (if d = (0, 0) then [] else [d]) ++ (kids T d true).flatMap (trF T f)

/-- Is a tree at most so deep? -/
def dep (T : List Cr) : Nat → Dt → Prop
  | 0, _ => False
  | f + 1, d => ∀ s, ∀ k ∈ kids T d s, dep T f k

theorem dep_mono {T : List Cr} : ∀ {f : Nat} {d : Dt}, dep T f d → dep T (f + 1) d
  | 0, _, h => h.elim
  | _ + 1, _, h => fun s k hk => dep_mono (h s k hk)

theorem dep_le {T : List Cr} {f f' : Nat} {d : Dt} (h : dep T f d) (hf : f ≤ f') : dep T f' d := by
  induction hf with
  | refl => exact h
  | step _ ih => exact dep_mono ih

theorem flatMap_congr9 {α β : Type} {l : List α} {f g : α → List β} (h : ∀ x ∈ l, f x = g x) : l.flatMap f = l.flatMap g := by
  induction l with
  | nil => rfl
  | cons a r ih =>
    rw [List.flatMap_cons, List.flatMap_cons, h a (by simp), ih (fun x hx => h x (List.mem_cons_of_mem _ hx))]

/-- Deeper than it is tells nothing more. -/
theorem trF_stable {T : List Cr} : ∀ {f : Nat} {d : Dt}, dep T f d → trF T (f + 1) d = trF T f d
  | 0, _, h => h.elim
  | f + 1, d, h => by
    show (kids T d false).flatMap (trF T (f + 1)) ++ (if d = (0, 0) then [] else [d]) ++ (kids T d true).flatMap (trF T (f + 1)) = (kids T d false).flatMap (trF T f) ++ (if d = (0, 0) then [] else [d]) ++ (kids T d true).flatMap (trF T f)
    rw [flatMap_congr9 (fun k hk => trF_stable (h false k hk)), flatMap_congr9 (fun k hk => trF_stable (h true k hk))]

theorem trF_le {T : List Cr} {f f' : Nat} {d : Dt} (h : dep T f d) (hf : f ≤ f') : trF T f' d = trF T f d := by
  induction hf with
  | refl => rfl
  | step hle ih => rw [trF_stable (dep_le h hle), ih]

/-- A character that came as number i has less than so many below it. -/
theorem WT.dep {T : List Cr} (h : WT T) : ∀ (f i : Nat) (c : Cr), T[i]? = some c → T.length ≤ f + i → dep T f c.id := by
  intro f
  induction f with
  | zero =>
    intro i c hc hl
    have := (List.getElem?_eq_some_iff.1 hc).1
    omega
  | succ f ih =>
    intro i c hc hl s k hk
    obtain ⟨x, hx, e1, _, rfl⟩ := mem_kids.1 hk
    obtain ⟨j, hj⟩ := List.mem_iff_getElem?.1 hx
    have hij : i < j := by
      rcases h.under j x hj with e | ⟨y, hy, e⟩
      · exact absurd (by rw [← e1, e]) (h.nz c (List.mem_of_getElem? hc))
      · have : y = c := ids_one h.ids (List.mem_of_mem_take hy) (List.mem_of_getElem? hc) (by rw [e, e1])
        subst this
        obtain ⟨m, hm⟩ := List.mem_iff_getElem?.1 hy
        have hmj : m < j := by
          have := (List.getElem?_eq_some_iff.1 hm).1
          rw [List.length_take] at this
          omega
        rw [List.getElem?_take, if_pos hmj] at hm
        have hil : i < (T.map Cr.id).length := by simpa using (List.getElem?_eq_some_iff.1 hc).1
        have := (List.getElem?_inj hil h.ids).1 (show (T.map Cr.id)[i]? = (T.map Cr.id)[m]? by rw [List.getElem?_map, List.getElem?_map, hc, hm])
        omega
    exact ih j x hj (by omega)

theorem WT.dep_all {T : List Cr} (h : WT T) {c : Cr} (hc : c ∈ T) : Proofs.Ytbpepmajpojacaa.dep T T.length c.id := by
  obtain ⟨i, hi⟩ := List.mem_iff_getElem?.1 hc
  exact h.dep _ i c hi (by omega)

theorem WT.dep_root {T : List Cr} (h : WT T) : Proofs.Ytbpepmajpojacaa.dep T (T.length + 1) (0, 0) := fun s k hk => by
  obtain ⟨x, hx, _, _, rfl⟩ := mem_kids.1 hk
  exact h.dep_all hx

/-- All characters, in order. -/
def allT (T : List Cr) : List Dt := trF T (T.length + 1) (0, 0)

/-- The order hangs on which there are alone. -/
theorem kids_perm {T T' : List Cr} (h : T.Perm T') (d : Dt) (s : Bool) : kids T d s = kids T' d s :=
  up_ext (kids_up _ _ _) (kids_up _ _ _) (fun x => by
    rw [mem_kids, mem_kids]
    constructor
    · rintro ⟨c, hc, r⟩
      exact ⟨c, h.mem_iff.1 hc, r⟩
    · rintro ⟨c, hc, r⟩
      exact ⟨c, h.mem_iff.2 hc, r⟩)

theorem trF_kids {T T' : List Cr} (h : ∀ d s, kids T d s = kids T' d s) : ∀ (f : Nat) (d : Dt), trF T f d = trF T' f d
  | 0, _ => rfl
  | f + 1, d => by
    show (kids T d false).flatMap (trF T f) ++ _ ++ (kids T d true).flatMap (trF T f) = (kids T' d false).flatMap (trF T' f) ++ _ ++ (kids T' d true).flatMap (trF T' f)
    rw [h d false, h d true, flatMap_congr9 (fun k _ => trF_kids h f k), flatMap_congr9 (fun k _ => trF_kids h f k)]

theorem allT_perm {T T' : List Cr} (h : T.Perm T') : allT T = allT T' := by
  unfold allT
  rw [h.length_eq]
  exact trF_kids (kids_perm h) _ _

/-- What a tree has: itself, and what its kids' trees have. -/
theorem mem_trF {T : List Cr} (hT : WT T) : ∀ {f : Nat} {d k : Dt}, k ∈ trF T f d → (k = d ∧ d ≠ (0, 0)) ∨ ∃ c ∈ T, c.id = k
  | 0, _, _, h => by simp [trF] at h
  | f + 1, d, k, h => by
    unfold trF at h
    rcases List.mem_append.1 h with h | h
    · rcases List.mem_append.1 h with h | h
      · obtain ⟨x, hx, hk⟩ := List.mem_flatMap.1 h
        obtain ⟨c, hc, _, _, rfl⟩ := mem_kids.1 hx
        rcases mem_trF hT hk with ⟨e, _⟩ | h'
        · exact Or.inr ⟨c, hc, e.symm⟩
        · exact Or.inr h'
      · split at h
        · simp at h
        · rename_i hd
          simp at h
          exact Or.inl ⟨h, hd⟩
    · obtain ⟨x, hx, hk⟩ := List.mem_flatMap.1 h
      obtain ⟨c, hc, _, _, rfl⟩ := mem_kids.1 hx
      rcases mem_trF hT hk with ⟨e, _⟩ | h'
      · exact Or.inr ⟨c, hc, e.symm⟩
      · exact Or.inr h'

/-- One more, that nothing lies under: the others stay in their order. -/
theorem trF_more {T : List Cr} (hT : WT T) {c : Cr} (hfr : ∀ x ∈ T, x.id ≠ c.id) (hnz : c.id ≠ (0, 0)) (hat : nodes T c.at_) : ∀ (f : Nat) (d : Dt), d ≠ c.id → (trF (T ++ [c]) f d).filter (fun k => decide (k ≠ c.id)) = trF T f d
  | 0, _, _ => rfl
  | f + 1, d, hd => by
    have hca : c.at_ ≠ c.id := fun e => by
      rcases hat with h0 | ⟨x, hx, e'⟩
      · exact hnz (by rw [← e, h0])
      · exact hfr x hx (by rw [e', e])
    have hself : ∀ f', (trF (T ++ [c]) f' c.id).filter (fun k => decide (k ≠ c.id)) = [] := fun f' => by
      cases f' with
      | zero => rfl
      | succ f' =>
        have hk : ∀ s, kids (T ++ [c]) c.id s = [] := fun s => by rw [kids_snoc, if_neg (fun e => hca e.1), hT.fresh hfr hnz]
        unfold trF
        rw [hk, hk, if_neg hnz]
        simp
    have hrow : ∀ s, ((kids (T ++ [c]) d s).flatMap (trF (T ++ [c]) f)).filter (fun k => decide (k ≠ c.id)) = (kids T d s).flatMap (trF T f) := fun s => by
      have hflat : ∀ l : List Dt, (∀ x ∈ l, x ≠ c.id) → (l.flatMap (trF (T ++ [c]) f)).filter (fun k => decide (k ≠ c.id)) = l.flatMap (trF T f) := fun l hl => by
        induction l with
        | nil => rfl
        | cons a r ih =>
          rw [List.flatMap_cons, List.flatMap_cons, List.filter_append, trF_more hT hfr hnz hat f a (hl a (by simp)), ih (fun x hx => hl x (List.mem_cons_of_mem _ hx))]
      have hk : ∀ x ∈ kids T d s, x ≠ c.id := fun x hx e => by
        obtain ⟨y, hy, _, _, e'⟩ := mem_kids.1 hx
        exact hfr y hy (by rw [e', e])
      rw [kids_snoc]
      split
      · have hins : ∀ l : List Dt, (∀ x ∈ l, x ≠ c.id) → ((ins l c.id).flatMap (trF (T ++ [c]) f)).filter (fun k => decide (k ≠ c.id)) = l.flatMap (trF T f) := fun l => by
          induction l with
          | nil =>
            intro _
            show ((([c.id] : List Dt)).flatMap _).filter _ = []
            rw [List.flatMap_cons, List.flatMap_nil, List.append_nil]
            exact hself f
          | cons a r ih =>
            intro hl
            unfold ins
            split
            · rw [List.flatMap_cons, List.flatMap_cons, List.filter_append, trF_more hT hfr hnz hat f a (hl a (by simp)), ih (fun x hx => hl x (List.mem_cons_of_mem _ hx))]
            · rw [if_neg (hl a (by simp)), List.flatMap_cons, List.filter_append, hself f, List.nil_append]
              exact hflat (a :: r) hl
        exact hins _ hk
      · exact hflat _ hk
    unfold trF
    rw [List.filter_append, List.filter_append, hrow, hrow]
    congr 2
    split
    · rfl
    · simp [hd]

end
end Go.Proofs.Ytbpepmajpojacaa
