/- FugueStays: its walk. -/
import Derived.Test.YtbpepmajpojacaaFgStayM
import Derived.Test.YtbpepmajpojacaaFgSame
import Derived.Test.YtbpepmajpojacaaFgAwake
import Derived.Deep.RegionHeld
set_option linter.unusedVariables false
set_option linter.unusedSimpArgs false
namespace Go.Proofs.Ytbpepmajpojacaa
open Go.RowKit

/-- A text, and an act in a box ahead of it. -/
structure SS (w0 : World) (b t : Nat) (o : Fo) (T : List Cr) (w : World) : Prop where
  tm : TM w t T
  bel : Below w0.heap.size w0 w
  low : w0.heap.size ≤ b
  lt : b < t
  box : w.heap[b]? = some (.cells o.cells 32 (0, 0))

theorem SS.fr {w0 : World} {b t : Nat} {o : Fo} {T T' : List Cr} {w w' : World} (h : SS w0 b t o T w) (htm : TM w' t T') (hf : FrW t w w') : SS w0 b t o T' w' :=
  ⟨htm, ⟨hf.os.trans h.bel.os, hf.tape.trans h.bel.tape, hf.output.trans h.bel.output, Nat.le_trans h.bel.size hf.size, fun k hk => (hf.block k (Nat.lt_of_lt_of_le hk h.bel.size) (Or.inl (by have := h.low; have := h.lt; omega))).trans (h.bel.block k hk)⟩, h.low, h.lt,
   (hf.block b (Array.getElem?_eq_some_iff.1 h.box).1 (Or.inl h.lt)).trans h.box⟩

theorem SS.below {w0 : World} {b t : Nat} {o : Fo} {T : List Cr} {w w' : World} (h : SS w0 b t o T w) (hb : Below w.heap.size w w') : SS w0 b t o T w' := h.fr (h.tm.below hb) (FrW.of_below hb)
theorem SS.drew {w0 : World} {b t : Nat} {o : Fo} {T : List Cr} {w : World} (h : SS w0 b t o T w) : SS w0 b t o T w.drew := h.below (Below.refl _ w).drew

/-- The act's cells. -/
structure FoAt (w : World) (b : Nat) (o : Nat) (x : Fo) : Prop where
  c0 : w.cell? ⟨b, o, none⟩ = some (.int .i64 x.kind)
  c1 : w.cell? ⟨b, o + 1, none⟩ = some (.int .i64 x.i0)
  c2 : w.cell? ⟨b, o + 2, none⟩ = some (.int .i64 x.i1)
  c3 : w.cell? ⟨b, o + 3, none⟩ = some (.int .i64 x.a0)
  c4 : w.cell? ⟨b, o + 4, none⟩ = some (.int .i64 x.a1)
  c5 : w.cell? ⟨b, o + 5, none⟩ = some (.int .i64 x.side)
  c6 : w.cell? ⟨b, o + 6, none⟩ = some (.int .i64 x.char)

theorem SS.at_ {w0 : World} {b t : Nat} {o : Fo} {T : List Cr} {w : World} (h : SS w0 b t o T w) : FoAt w b 0 o := by
  have hb := h.box
  exact ⟨by simp [World.cell?, hb, Fo.cells], by simp [World.cell?, hb, Fo.cells], by simp [World.cell?, hb, Fo.cells], by simp [World.cell?, hb, Fo.cells], by simp [World.cell?, hb, Fo.cells], by simp [World.cell?, hb, Fo.cells], by simp [World.cell?, hb, Fo.cells]⟩

theorem FoS.at {w : World} {a : Option Addr} {n c : Nat} {L : List Fo} (h : FoS w a n c L) {k : Nat} (hk : k < n) : ∃ g o, a = some ⟨g, o, none⟩ ∧ FoAt w g (o + k * 7) (L[k]'(by rw [h.len]; exact hk)) := by
  obtain ⟨g, o, e, hg, hx⟩ := h.at_ (by omega)
  have hk' : k < L.length := by rw [h.len]; exact hk
  exact ⟨g, o, e, hx k hk' 0 _ rfl, hx k hk' 1 _ rfl, hx k hk' 2 _ rfl, hx k hk' 3 _ rfl, hx k hk' 4 _ rfl, hx k hk' 5 _ rfl, hx k hk' 6 _ rfl⟩

theorem FoAt.below {w w' : World} {b o : Nat} {x : Fo} (h : FoAt w b o x) (hb : Below w.heap.size w w') : FoAt w' b o x :=
  ⟨(hb.cell (p := ⟨b, o, none⟩) (cell_in h.c0)).trans h.c0, (hb.cell (p := ⟨b, o + 1, none⟩) (cell_in h.c1)).trans h.c1, (hb.cell (p := ⟨b, o + 2, none⟩) (cell_in h.c2)).trans h.c2, (hb.cell (p := ⟨b, o + 3, none⟩) (cell_in h.c3)).trans h.c3, (hb.cell (p := ⟨b, o + 4, none⟩) (cell_in h.c4)).trans h.c4, (hb.cell (p := ⟨b, o + 5, none⟩) (cell_in h.c5)).trans h.c5, (hb.cell (p := ⟨b, o + 6, none⟩) (cell_in h.c6)).trans h.c6⟩

theorem SS.insert {w0 : World} {b t : Nat} {o : Fo} {T : List Cr} {w : World} (h : SS w0 b t o T w) (hn : T.length ≤ 100000) (x : Fo) (hx : x.Fits) :
    Calls Try.prog 12 #[.pointer (some ⟨t, 0, none⟩), .agg #[.int .i64 x.i0, .int .i64 x.i1], .agg #[.int .i64 x.a0, .int .i64 x.a1], .int .i64 x.side, .int .i64 x.char] w fun e w' => e = .returned (.int .i64 (insP T x.id x.at_ x.side x.char).1) ∧ SS w0 b t o (insP T x.id x.at_ x.side x.char).2 w' ∧ FrW t w w' :=
  (insert_tm h.tm hn x.id x.at_ x.side x.char hx.id hx.at_ (i64_wf hx.char)).mono (fun e w' ⟨h1, h2, h3⟩ => ⟨h1, h.fr h2 h3, h3⟩)

theorem SS.delete {w0 : World} {b t : Nat} {o : Fo} {T : List Cr} {w : World} (h : SS w0 b t o T w) (x : Fo) (hx : x.Fits) :
    Calls Try.prog 10 #[.pointer (some ⟨t, 0, none⟩), .agg #[.int .i64 x.a0, .int .i64 x.a1]] w fun e w' => e = .returned (.int .i64 (delP T x.at_).1) ∧ SS w0 b t o (delP T x.at_).2 w' ∧ FrW t w w' :=
  (delete_tm h.tm x.at_ hx.at_).mono (fun e w' ⟨h1, h2, h3⟩ => ⟨h1, h.fr h2 h3, h3⟩)

theorem own_base0 {w : World} {base n e size : Nat} {v : Value} {xs : List Value} (h : w.ownsRow base e size v n xs) : w.ownsRow 0 e size v n xs := by
  refine ⟨h.1, ?_⟩
  rcases h.2 with h0 | ⟨g, cap, cur, h1, h2, h3⟩
  · exact Or.inl h0
  · exact Or.inr ⟨g, cap, cur, h1, Nat.zero_le _, h3⟩

/-- A row of dots outlasts a text's turn. -/
theorem own_fr {t base n : Nat} {w w' : World} {v : Value} {xs : List Value} (h : w.ownsRow base 24 2 v n xs) (hf : FrW t w w') : w'.ownsRow base 24 2 v n xs := by
  refine ⟨h.1, ?_⟩
  rcases h.2 with h0 | ⟨g, cap, cur, h1, h2, h3, h4⟩
  · exact Or.inl h0
  · exact Or.inr ⟨g, cap, cur, h1, h2, (hf.block g (Array.getElem?_eq_some_iff.1 h3).1 (Or.inr ⟨_, _, h3, by decide, by decide, by decide⟩)).trans h3, h4⟩

/-- A row of dots of one's own. -/
structure DR (w : World) (a : Option Addr) (n c : Nat) (L : List Dt) : Prop where
  own : w.ownsRow 0 24 2 (.slice a n c) n (flat L)
  len : L.length = n

theorem DR.fr {t : Nat} {w w' : World} {a : Option Addr} {n c : Nat} {L : List Dt} (h : DR w a n c L) (hf : FrW t w w') : DR w' a n c L := ⟨own_fr h.own hf, h.len⟩
theorem DR.below {w w' : World} {a : Option Addr} {n c : Nat} {L : List Dt} (h : DR w a n c L) (hb : Below w.heap.size w w') : DR w' a n c L := h.fr (t := 0) (FrW.of_below hb)
theorem DR.ps {w : World} {a : Option Addr} {n c : Nat} {L : List Dt} (h : DR w a n c L) : PS w a n c L := by
  obtain ⟨a', c', e, hp⟩ := owned_ps h.own h.len
  cases e
  exact hp

theorem gives_dr {w w' : World} {L : List Dt} {e : Ending} (h : Gives w L e w') : ∃ a n c, e = .returned (.slice a n c) ∧ DR w' a n c L ∧ Below w.heap.size w w' := by
  obtain ⟨v, he, ho, hb⟩ := h
  obtain ⟨a, c, rfl, hp⟩ := owned_ps ho rfl
  exact ⟨a, _, c, he, ⟨own_base0 ho, rfl⟩, hb⟩

theorem same_dr {w : World} {a a' : Option Addr} {n c n' c' : Nat} {L : List Dt} (h : DR w a n c L) (h' : DR w a' n' c' L) (hL : L.length ≤ 1000000) : Calls Try.prog 21 #[.slice a n c, .slice a' n' c'] w fun e w' => e = .returned (.bool true) ∧ Below w.heap.size w w' :=
  (fsame_any h.ps (by have := h.len; omega) h'.ps (by have := h'.len; omega)).mono (fun e w' ⟨k1, k2⟩ => by
    simp only [decide_true] at k1
    exact ⟨k1, k2⟩)

set_option maxRecDepth 100000 in
set_option maxHeartbeats 4000000 in
theorem stays_walk (a : Option Addr) (n c : Nat) (L : List Fo) (o : Fo) (w : World) (hL : FoS w a n c L) (hLf : ∀ x ∈ L, x.Fits) (ho : o.Fits) :
    Calls Try.prog 5 #[.slice a n c, .agg o.cells] w fun e w' => e = .returned (.bool true) ∧ Below w.heap.size w w' := by
  obtain ⟨wA, hwA⟩ : ∃ wA, wA = w.alloc (.cells o.cells 32) := ⟨_, rfl⟩
  have hBA : Below w.heap.size w wA := by rw [hwA]; exact (Below.refl _ w).alloc (Nat.le_refl _) _
  have hblk : wA.heap[w.heap.size]? = some (.cells o.cells 32 (0, 0)) := by rw [hwA]; exact World.alloc_heap_new _ _
  have hbl := (Array.getElem?_eq_some_iff.1 hblk).1
  have haw : Calls Try.prog 8 #[] wA fun e w1 => e = .returned (.bool true) ∧ Below wA.heap.size wA w1 := awake_any wA
  have hnew : ∀ w1, Below wA.heap.size wA w1 → Calls Try.prog 9 #[] w1 fun e w2 => ∃ t, e = .returned (.pointer (some ⟨t, 0, none⟩)) ∧ Hid (SS w w.heap.size t o [] w2) := fun w1 h1 => (new_tm w1).mono (fun e w2 ⟨k1, k2, k3⟩ => by
    have h2 := h1.trans (k3.mono h1.size)
    exact ⟨w1.heap.size, k1, hid ⟨k2, hBA.trans (h2.mono hBA.size), Nat.le_refl _, Nat.lt_of_lt_of_le hbl h1.size, (h2.block _ hbl).trans hblk⟩⟩)
  have hwAH : Hid (wA = w.alloc (.cells #[.int .i64 o.kind, .int .i64 o.i0, .int .i64 o.i1, .int .i64 o.a0, .int .i64 o.a1, .int .i64 o.side, .int .i64 o.char] 32)) := hid hwA
  clear hwA
  show Calls Try.prog 5 #[.slice a n c, .agg #[.int .i64 o.kind, .int .i64 o.i0, .int .i64 o.i1, .int .i64 o.a0, .int .i64 o.a1, .int .i64 o.side, .int .i64 o.char]] w _
  have hlen := hL.len
  have hcap := hL.cap
  have hmx := hL.max
  unfold maxLen at hmx
  have HLlen := hid hlen
  clear hlen
  go_enter Try.func5, Try.ntmps5
  go_wp2_with (first
    | (go_at_call 8; (try rw [← hwAH.out]); refine haw.mono ?_; rintro e w1 ⟨rfl, h1⟩)
    | (go_at_call 9; refine (hnew _ h1).mono ?_; rintro e w2 ⟨t, rfl, h2⟩))
  go_loopw [7] (fun i wr => ∃ k : Nat, k ≤ n ∧ k ≤ 40 ∧ i = .int .i64 k ∧ Hid (∃ T, T.length ≤ k ∧ SS w w.heap.size t o T wr)) (fun i _ => n - (intOf i).toNat)
  case atStart => exact ⟨0, by omega, by omega, rfl, hid ⟨[], by simp, h2.out⟩⟩
  case round =>
    obtain ⟨k, hk, hk40, rfl, hS⟩ := hrel
    obtain ⟨T, hTl, hSS⟩ := hS.out
    clear hS
    by_cases hlt : k < n ∧ k < 40
    · obtain ⟨hk1, hk2⟩ := hlt
      have hb1 : decide ((k : Int) < (n : Int)) = true := by simp [hk1]
      have hb2 : decide ((k : Int) < 40) = true := by simp; omega
      obtain ⟨g, of, rfl, hat0⟩ := hL.at hk1
      obtain ⟨x, hx⟩ : ∃ x, x = L[k]'(by rw [hL.len]; exact hk1) := ⟨_, rfl⟩
      rw [← hx] at hat0
      have hxf : x.Fits := hLf x (by rw [hx]; exact List.getElem_mem _)
      clear hx
      have hat := hat0.below hSS.bel
      obtain ⟨c0, c1, c2, c3, c4, c5, c6⟩ := hat
      have hkk : I64 x.kind := i64_wf hxf.kind
      unfold I64 at hkk
      by_cases h3 : x.kind.tmod 3 = 0
      · have hb3 : (x.kind.tmod 3 == 0) = true := by simp [h3]
        have hd := hSS.delete x hxf
        clear h3
        go_wp2_with (go_at_call 10; refine hd.mono ?_; rintro e w3 ⟨rfl, hS3, hF3⟩)
        go_roundw
        case rel => exact ⟨k + 1, by omega, by omega, by go_num, hid ⟨_, by rw [delP_len]; omega, hS3⟩⟩
        case measure => simp [intOf]; omega
      · have hb3 : (x.kind.tmod 3 == 0) = false := by simpa using h3
        clear h3
        go_wp2_with fail
        have hin := hSS.drew.insert (by omega) x hxf
        have hSx : ∀ W, Below w.heap.size w W → W.cell? ⟨g, of + k * 7 + 1, none⟩ = some (.int .i64 x.i0) ∧ W.cell? ⟨g, of + k * 7 + 2, none⟩ = some (.int .i64 x.i1) ∧ W.cell? ⟨g, of + k * 7 + 3, none⟩ = some (.int .i64 x.a0) ∧ W.cell? ⟨g, of + k * 7 + 4, none⟩ = some (.int .i64 x.a1) ∧ W.cell? ⟨g, of + k * 7 + 5, none⟩ = some (.int .i64 x.side) ∧ W.cell? ⟨g, of + k * 7 + 6, none⟩ = some (.int .i64 x.char) := fun W hb => by
          obtain ⟨_, d1, d2, d3, d4, d5, d6⟩ := hat0.below hb
          exact ⟨d1, d2, d3, d4, d5, d6⟩
        have hS0 := hSx _ hSS.drew.bel
        clear c0 c1 c2 c3 c4 c5 c6
        have hmxo : Try.prog.follows .mixedOrders = true := by kernel_rfl
        refine wp_region_held_drew (S := fun w' => w'.cell? ⟨g, of + k * 7 + 1, none⟩ = some (.int .i64 x.i0) ∧ w'.cell? ⟨g, of + k * 7 + 2, none⟩ = some (.int .i64 x.i1) ∧ w'.cell? ⟨g, of + k * 7 + 3, none⟩ = some (.int .i64 x.a0) ∧ w'.cell? ⟨g, of + k * 7 + 4, none⟩ = some (.int .i64 x.a1) ∧ w'.cell? ⟨g, of + k * 7 + 5, none⟩ = some (.int .i64 x.side) ∧ w'.cell? ⟨g, of + k * 7 + 6, none⟩ = some (.int .i64 x.char)) hmxo hS0 ?_
        intro _
        refine wpAnyH_take (i := 0) (v := .pointer (some ⟨t, 0, none⟩)) rfl (by kernel_rfl) (by kernel_rfl) (by kernel_rfl) (fun _ _ _ h => h) (Or.inl ⟨by kernel_rfl, fun w hSw => ?_⟩) hS0 ?_
        · obtain ⟨d1, d2, d3, d4, d5, d6⟩ := hSw; go_simp
        simp only [Act.put, List.setIfInBounds_toArray, List.set_cons_zero, List.set_cons_succ]
        refine wpAnyH_take (i := 1) (v := .slice (some ⟨g, of, none⟩) n c) rfl (by kernel_rfl) (by kernel_rfl) (by kernel_rfl) (fun _ _ _ h => h) (Or.inl ⟨by kernel_rfl, fun w hSw => ?_⟩) hS0 ?_
        · obtain ⟨d1, d2, d3, d4, d5, d6⟩ := hSw; go_simp
        simp only [Act.put, List.setIfInBounds_toArray, List.set_cons_zero, List.set_cons_succ]
        refine wpAnyH_take (i := 2) (v := .int .i64 (k : Int)) rfl (by kernel_rfl) (by kernel_rfl) (by kernel_rfl) (fun _ _ _ h => h) (Or.inl ⟨by kernel_rfl, fun w hSw => ?_⟩) hS0 ?_
        · obtain ⟨d1, d2, d3, d4, d5, d6⟩ := hSw; go_simp
        simp only [Act.put, List.setIfInBounds_toArray, List.set_cons_zero, List.set_cons_succ]
        refine wpAnyH_take (i := 3) (v := .pointer (some ⟨g, of + k * 7, none⟩)) rfl (by kernel_rfl) (by kernel_rfl) (by kernel_rfl) (fun _ _ _ h => h) (Or.inl ⟨by kernel_rfl, fun w hSw => ?_⟩) hS0 ?_
        · obtain ⟨d1, d2, d3, d4, d5, d6⟩ := hSw; go_simp
        simp only [Act.put, List.setIfInBounds_toArray, List.set_cons_zero, List.set_cons_succ]
        refine wpAnyH_take (i := 4) (v := .pointer (some ⟨g, of + k * 7 + 1, none⟩)) rfl (by kernel_rfl) (by kernel_rfl) (by kernel_rfl) (fun _ _ _ h => h) (Or.inl ⟨by kernel_rfl, fun w hSw => ?_⟩) hS0 ?_
        · obtain ⟨d1, d2, d3, d4, d5, d6⟩ := hSw; go_simp
        simp only [Act.put, List.setIfInBounds_toArray, List.set_cons_zero, List.set_cons_succ]
        refine wpAnyH_take (i := 5) (v := .agg #[.int .i64 x.i0, .int .i64 x.i1]) rfl (by kernel_rfl) (by kernel_rfl) (by kernel_rfl) (fun _ _ _ h => h) (Or.inl ⟨by kernel_rfl, fun w hSw => ?_⟩) hS0 ?_
        · obtain ⟨d1, d2, d3, d4, d5, d6⟩ := hSw; go_simp
        simp only [Act.put, List.setIfInBounds_toArray, List.set_cons_zero, List.set_cons_succ]
        refine wpAnyH_take (i := 6) (v := .slice (some ⟨g, of, none⟩) n c) rfl (by kernel_rfl) (by kernel_rfl) (by kernel_rfl) (fun _ _ _ h => h) (Or.inl ⟨by kernel_rfl, fun w hSw => ?_⟩) hS0 ?_
        · obtain ⟨d1, d2, d3, d4, d5, d6⟩ := hSw; go_simp
        simp only [Act.put, List.setIfInBounds_toArray, List.set_cons_zero, List.set_cons_succ]
        refine wpAnyH_take (i := 7) (v := .int .i64 (k : Int)) rfl (by kernel_rfl) (by kernel_rfl) (by kernel_rfl) (fun _ _ _ h => h) (Or.inl ⟨by kernel_rfl, fun w hSw => ?_⟩) hS0 ?_
        · obtain ⟨d1, d2, d3, d4, d5, d6⟩ := hSw; go_simp
        simp only [Act.put, List.setIfInBounds_toArray, List.set_cons_zero, List.set_cons_succ]
        refine wpAnyH_take (i := 8) (v := .pointer (some ⟨g, of + k * 7, none⟩)) rfl (by kernel_rfl) (by kernel_rfl) (by kernel_rfl) (fun _ _ _ h => h) (Or.inl ⟨by kernel_rfl, fun w hSw => ?_⟩) hS0 ?_
        · obtain ⟨d1, d2, d3, d4, d5, d6⟩ := hSw; go_simp
        simp only [Act.put, List.setIfInBounds_toArray, List.set_cons_zero, List.set_cons_succ]
        refine wpAnyH_take (i := 9) (v := .pointer (some ⟨g, of + k * 7 + 3, none⟩)) rfl (by kernel_rfl) (by kernel_rfl) (by kernel_rfl) (fun _ _ _ h => h) (Or.inl ⟨by kernel_rfl, fun w hSw => ?_⟩) hS0 ?_
        · obtain ⟨d1, d2, d3, d4, d5, d6⟩ := hSw; go_simp
        simp only [Act.put, List.setIfInBounds_toArray, List.set_cons_zero, List.set_cons_succ]
        refine wpAnyH_take (i := 10) (v := .agg #[.int .i64 x.a0, .int .i64 x.a1]) rfl (by kernel_rfl) (by kernel_rfl) (by kernel_rfl) (fun _ _ _ h => h) (Or.inl ⟨by kernel_rfl, fun w hSw => ?_⟩) hS0 ?_
        · obtain ⟨d1, d2, d3, d4, d5, d6⟩ := hSw; go_simp
        simp only [Act.put, List.setIfInBounds_toArray, List.set_cons_zero, List.set_cons_succ]
        refine wpAnyH_take (i := 11) (v := .slice (some ⟨g, of, none⟩) n c) rfl (by kernel_rfl) (by kernel_rfl) (by kernel_rfl) (fun _ _ _ h => h) (Or.inl ⟨by kernel_rfl, fun w hSw => ?_⟩) hS0 ?_
        · obtain ⟨d1, d2, d3, d4, d5, d6⟩ := hSw; go_simp
        simp only [Act.put, List.setIfInBounds_toArray, List.set_cons_zero, List.set_cons_succ]
        refine wpAnyH_take (i := 12) (v := .int .i64 (k : Int)) rfl (by kernel_rfl) (by kernel_rfl) (by kernel_rfl) (fun _ _ _ h => h) (Or.inl ⟨by kernel_rfl, fun w hSw => ?_⟩) hS0 ?_
        · obtain ⟨d1, d2, d3, d4, d5, d6⟩ := hSw; go_simp
        simp only [Act.put, List.setIfInBounds_toArray, List.set_cons_zero, List.set_cons_succ]
        refine wpAnyH_take (i := 13) (v := .pointer (some ⟨g, of + k * 7, none⟩)) rfl (by kernel_rfl) (by kernel_rfl) (by kernel_rfl) (fun _ _ _ h => h) (Or.inl ⟨by kernel_rfl, fun w hSw => ?_⟩) hS0 ?_
        · obtain ⟨d1, d2, d3, d4, d5, d6⟩ := hSw; go_simp
        simp only [Act.put, List.setIfInBounds_toArray, List.set_cons_zero, List.set_cons_succ]
        refine wpAnyH_take (i := 14) (v := .pointer (some ⟨g, of + k * 7 + 5, none⟩)) rfl (by kernel_rfl) (by kernel_rfl) (by kernel_rfl) (fun _ _ _ h => h) (Or.inl ⟨by kernel_rfl, fun w hSw => ?_⟩) hS0 ?_
        · obtain ⟨d1, d2, d3, d4, d5, d6⟩ := hSw; go_simp
        simp only [Act.put, List.setIfInBounds_toArray, List.set_cons_zero, List.set_cons_succ]
        refine wpAnyH_take (i := 15) (v := .int .i64 x.side) rfl (by kernel_rfl) (by kernel_rfl) (by kernel_rfl) (fun _ _ _ h => h) (Or.inl ⟨by kernel_rfl, fun w hSw => ?_⟩) hS0 ?_
        · obtain ⟨d1, d2, d3, d4, d5, d6⟩ := hSw; go_simp
        simp only [Act.put, List.setIfInBounds_toArray, List.set_cons_zero, List.set_cons_succ]
        refine wpAnyH_take (i := 16) (v := .slice (some ⟨g, of, none⟩) n c) rfl (by kernel_rfl) (by kernel_rfl) (by kernel_rfl) (fun _ _ _ h => h) (Or.inl ⟨by kernel_rfl, fun w hSw => ?_⟩) hS0 ?_
        · obtain ⟨d1, d2, d3, d4, d5, d6⟩ := hSw; go_simp
        simp only [Act.put, List.setIfInBounds_toArray, List.set_cons_zero, List.set_cons_succ]
        refine wpAnyH_take (i := 17) (v := .int .i64 (k : Int)) rfl (by kernel_rfl) (by kernel_rfl) (by kernel_rfl) (fun _ _ _ h => h) (Or.inl ⟨by kernel_rfl, fun w hSw => ?_⟩) hS0 ?_
        · obtain ⟨d1, d2, d3, d4, d5, d6⟩ := hSw; go_simp
        simp only [Act.put, List.setIfInBounds_toArray, List.set_cons_zero, List.set_cons_succ]
        refine wpAnyH_take (i := 18) (v := .pointer (some ⟨g, of + k * 7, none⟩)) rfl (by kernel_rfl) (by kernel_rfl) (by kernel_rfl) (fun _ _ _ h => h) (Or.inl ⟨by kernel_rfl, fun w hSw => ?_⟩) hS0 ?_
        · obtain ⟨d1, d2, d3, d4, d5, d6⟩ := hSw; go_simp
        simp only [Act.put, List.setIfInBounds_toArray, List.set_cons_zero, List.set_cons_succ]
        refine wpAnyH_take (i := 19) (v := .pointer (some ⟨g, of + k * 7 + 6, none⟩)) rfl (by kernel_rfl) (by kernel_rfl) (by kernel_rfl) (fun _ _ _ h => h) (Or.inl ⟨by kernel_rfl, fun w hSw => ?_⟩) hS0 ?_
        · obtain ⟨d1, d2, d3, d4, d5, d6⟩ := hSw; go_simp
        simp only [Act.put, List.setIfInBounds_toArray, List.set_cons_zero, List.set_cons_succ]
        refine wpAnyH_take (i := 20) (v := .int .i64 x.char) rfl (by kernel_rfl) (by kernel_rfl) (by kernel_rfl) (fun _ _ _ h => h) (Or.inl ⟨by kernel_rfl, fun w hSw => ?_⟩) hS0 ?_
        · obtain ⟨d1, d2, d3, d4, d5, d6⟩ := hSw; go_simp
        simp only [Act.put, List.setIfInBounds_toArray, List.set_cons_zero, List.set_cons_succ]
        refine wpAnyH_ready (rs := [21]) (by kernel_rfl) (by simp) ?_
        refine AllReadyH.cons rfl (fun K hK => ?_) AllReadyH.nil
        go_simp
        refine hin.mono ?_
        rintro e w3 ⟨rfl, hS3, hF3⟩
        refine hK.out _ _ (hSx _ hS3.bel) (fun _ => ?_)
        clear hK K
        refine wpAnyH_done (by kernel_rfl) ?_ _
        go_wp2
        go_roundw
        case rel => exact ⟨k + 1, by omega, by omega, by go_num, hid ⟨_, by have := insP_len T x.id x.at_ x.side x.char; omega, hS3⟩⟩
        case measure => simp [intOf]; omega
    · have hTn : T.length ≤ 100000 := by omega
      have hTm : T.length ≤ 1000000 := by omega
      clear hTl
      by_cases hk1 : k < n
      · have hb1 : decide ((k : Int) < (n : Int)) = true := by simp [hk1]
        have hb2 : decide ((k : Int) < 40) = false := by simp; omega
        have hA1 := all_tm hSS.tm hTm
        have hD1 : ∀ w3, SS w w.heap.size t o T w3 → Calls Try.prog 24 #[.pointer (some ⟨t, 0, none⟩)] w3 (Gives w3 ((seenC T).map (·.id))) := fun w3 h3 => dots_tm h3.tm hTm
        go_upto_region 13 with (first
          | (go_at_call 22; refine hA1.mono ?_; intro e w3 h3; obtain ⟨a8, n8, c8, rfl, d3, b3⟩ := gives_dr h3; have s3 := hSS.below b3)
          | (go_at_call 24; refine (hD1 _ s3).mono ?_; intro e w4 h4; obtain ⟨a9, n9, c9, rfl, d4, b4⟩ := gives_dr h4; have s4 := s3.below b4; have d8 := d3.below b4))
        obtain ⟨c0, c1, c2, c3, c4, c5, c6⟩ := s4.at_
        have hkk : I64 o.kind := i64_wf ho.kind
        unfold I64 at hkk
        have hl8 : (allT T).length ≤ 1000000 := by rw [allT_len hSS.tm.wt]; exact hTm
        have hl9 : ((seenC T).map (·.id)).length ≤ 1000000 := by rw [List.length_map]; exact Nat.le_trans (List.length_filter_le _ _) (by rw [allC_len hSS.tm.wt]; exact hTm)
        by_cases h3 : o.kind.tmod 3 = 0
        · have hb3 : (o.kind.tmod 3 == 0) = true := by simp [h3]
          clear h3
          have hal := hid (allT_del T o.at_)
          by_cases he : (delP T o.at_).1 = 0
          · have hdl := s4.delete o ho
            rw [he] at hdl
            have hsn := seen_del he
            have hse : ∀ w7, SS w w.heap.size t o (delP T o.at_).2 w7 → Calls Try.prog 17 #[.pointer (some ⟨t, 0, none⟩), .agg #[.int .i64 o.a0, .int .i64 o.a1]] w7 fun e w8 => e = .returned (.bool false) ∧ Below w7.heap.size w7 w8 := fun w7 h7 => (seen_tm h7.tm o.at_ ho.at_).mono (fun e w8 ⟨k1, k2⟩ => by rw [hsn] at k1; exact ⟨k1, k2⟩)
            have hAl : ∀ w6, SS w w.heap.size t o (delP T o.at_).2 w6 → Calls Try.prog 22 #[.pointer (some ⟨t, 0, none⟩)] w6 (Gives w6 (allT T)) := fun w6 h6 => by have := all_tm h6.tm (by rw [delP_len]; exact hTm); rw [hal.out] at this; exact this
            clear he hsn
            go_upto_region 15 with (go_at_call 10; refine hdl.mono ?_; rintro e w5 ⟨rfl, s5, f5⟩)
            have e8 := d8.fr f5
            go_wp2_with (first
              | (go_at_call 22; refine (hAl _ s5).mono ?_; intro e w6 h6; obtain ⟨a6, n6, c6, rfl, d6, b6⟩ := gives_dr h6; have s6 := s5.below b6; have e8' := e8.below b6)
              | (go_at_call 21; refine (same_dr d6 e8' hl8).mono ?_; rintro e w7 ⟨rfl, b7⟩; have s7 := s6.below b7; obtain ⟨y0, y1, y2, y3, y4, y5, y6⟩ := s7.at_)
              | (go_at_call 17; refine (hse _ s7).mono ?_; rintro e w8 ⟨rfl, b8⟩; have s8 := s7.below b8))
            go_ret
            exact ⟨rfl, s8.bel⟩
          · have hdl := s4.delete o ho
            rw [del_same he] at hdl
            have hne : ((delP T o.at_).1 == 0) = false := by simpa using he
            have hne2 : ((delP T o.at_).1 != 0) = true := by simpa using he
            have hAl : ∀ w6, SS w w.heap.size t o T w6 → Calls Try.prog 22 #[.pointer (some ⟨t, 0, none⟩)] w6 (Gives w6 (allT T)) := fun w6 h6 => all_tm h6.tm hTm
            obtain ⟨er, her⟩ : ∃ er, er = (delP T o.at_).1 := ⟨_, rfl⟩
            rw [← her] at hdl hne hne2
            clear he her
            go_upto_region 15 with (go_at_call 10; refine hdl.mono ?_; rintro e w5 ⟨rfl, s5, f5⟩)
            have e8 := d8.fr f5
            have e9 := d4.fr f5
            go_wp2_with (first
              | (go_at_call 22; refine (hAl _ s5).mono ?_; intro e w6 h6; obtain ⟨a6, n6, c6, rfl, d6, b6⟩ := gives_dr h6; have s6 := s5.below b6; have e8' := e8.below b6; have e9' := e9.below b6)
              | (have hq := d8'; go_at_call 21; refine (same_dr d8' g9 hl9).mono ?_; rintro e w9 ⟨rfl, b9⟩; have s9 := s8.below b9)
              | (go_at_call 21; refine (same_dr d6 e8' hl8).mono ?_; rintro e w7 ⟨rfl, b7⟩; have s7 := s6.below b7; have f9 := e9'.below b7)
              | (go_at_call 24; refine (hD1 _ s7).mono ?_; intro e w8 h8; obtain ⟨a10, n10, c10, rfl, d8', b8⟩ := gives_dr h8; have s8 := s7.below b8; have g9 := f9.below b8))
            go_ret
            exact ⟨rfl, s9.bel⟩
        · have hb3 : (o.kind.tmod 3 == 0) = false := by simpa using h3
          clear h3
          have hin := s4.insert hTn o ho
          by_cases he : (insP T o.id o.at_ o.side o.char).1 = 0
          · have hput := insP_ok he
            rw [he] at hin
            have hst := hid (hput.stays hSS.tm.wt)
            have hln := hid (hput.len hSS.tm.wt ho.id)
            have hsn := hput.seen hSS.tm.wt ho.id
            obtain ⟨T', hT'⟩ : ∃ T', T' = (insP T o.id o.at_ o.side o.char).2 := ⟨_, rfl⟩
            rw [← hT'] at hin hst hln hsn
            have hTm' : T'.length ≤ 1000000 := by rw [hT']; have := insP_len T o.id o.at_ o.side o.char; omega
            have hse : ∀ w7, SS w w.heap.size t o T' w7 → Calls Try.prog 17 #[.pointer (some ⟨t, 0, none⟩), .agg #[.int .i64 o.i0, .int .i64 o.i1]] w7 fun e w8 => e = .returned (.bool true) ∧ Below w7.heap.size w7 w8 := fun w7 h7 => (seen_tm h7.tm o.id ho.id).mono (fun e w8 ⟨k1, k2⟩ => by rw [hsn] at k1; exact ⟨k1, k2⟩)
            have hAl : ∀ w6, SS w w.heap.size t o T' w6 → Calls Try.prog 22 #[.pointer (some ⟨t, 0, none⟩)] w6 (Gives w6 (allT T')) := fun w6 h6 => all_tm h6.tm hTm'
            clear he hsn hT' hput
            go_upto_region 17 with (go_at_call 12; refine hin.mono ?_; rintro e w5 ⟨rfl, s5, f5⟩)
            have e8 := d8.fr f5
            go_wp2_with (go_at_call 22; refine (hAl _ s5).mono ?_; intro e w6 h6; obtain ⟨a6, n6, c6', rfl, d6, b6⟩ := gives_dr h6; have s6 := s5.below b6; have e8' := e8.below b6)
            obtain ⟨Lx, hLx⟩ : ∃ Lx, Lx = allT T' := ⟨_, rfl⟩
            rw [← hLx] at hst hln d6
            clear hLx
            have hn6 : Hid (Lx.length = n6) := hid d6.len
            have hn8 : Hid ((allT T).length = n8) := hid d8.len
            have hn68 : n6 = n8 + 1 := by rw [← hn6.out, ← hn8.out]; exact hln.out
            have hn8b : n8 ≤ 1000000 := by rw [← hn8.out]; exact hl8
            have hc6 := d6.ps.cap
            have hm6 := d6.ps.max
            unfold maxLen at hm6
            have hnH : Hid (n6 = n8 + 1) := hid hn68
            have hn6b : n6 ≤ 1000001 := by omega
            clear hn68
            obtain ⟨i0, hi0⟩ : ∃ i0, i0 = o.i0 := ⟨_, rfl⟩
            obtain ⟨i1, hi1⟩ : ∃ i1, i1 = o.i1 := ⟨_, rfl⟩
            have hoid : Hid (o.id = (i0, i1)) := hid (by rw [hi0, hi1]; rfl)
            have hzi : ∀ W, SS w w.heap.size t o T' W → W.cell? ⟨w.heap.size, 1, none⟩ = some (.int .i64 i0) ∧ W.cell? ⟨w.heap.size, 2, none⟩ = some (.int .i64 i1) := fun W hW => by
              obtain ⟨_, z1, z2, _⟩ := hW.at_
              rw [hi0, hi1]
              exact ⟨z1, z2⟩
            have hse' : ∀ w7, SS w w.heap.size t o T' w7 → Calls Try.prog 17 #[.pointer (some ⟨t, 0, none⟩), .agg #[.int .i64 i0, .int .i64 i1]] w7 fun e w8 => e = .returned (.bool true) ∧ Below w7.heap.size w7 w8 := by rw [hi0, hi1]; exact hse
            clear hi0 hi1 hse
            go_loopw [12, 14] (fun v i wr => ∃ (k m : Nat), k ≤ n6 ∧ m ≤ k ∧ i = .int .i64 k ∧ Hid (wr.ownsRow w6.heap.size 24 2 v m (flat ((Lx.take k).filter (fun q => decide (q ≠ o.id)))) ∧ ((Lx.take k).filter (fun q => decide (q ≠ o.id))).length = m) ∧ Hid (Below w6.heap.size w6 wr)) (fun _ i _ => n6 - (intOf i).toNat)
            case atStart => exact ⟨0, 0, by omega, by omega, rfl, hid ⟨World.ownsRow_nil _ _ _ _, rfl⟩, hid (Below.refl _ _)⟩
            case round =>
              obtain ⟨k2, m, hk2, hmk, rfl, hOw, hBw⟩ := hrel
              have sr := s6.below hBw.out
              have dr := d6.below hBw.out
              by_cases hlt2 : k2 < n6
              · have hLl : k2 < Lx.length := by rw [hn6.out]; exact hlt2
                obtain ⟨g6, o6, rfl, hg6, hcell⟩ := dr.ps.at (by omega)
                obtain ⟨e0, e1⟩ := hcell k2 hLl
                obtain ⟨z1, z2⟩ := hzi _ sr
                have hts : Hid _ := hid (take_snoc (L := Lx) (k := k2) hLl)
                generalize (Lx[k2]'hLl) = d at e0 e1 hts
                obtain ⟨d1, d2⟩ := d
                clear hcell hLl
                have C0 : ∀ q, (wr.drewN q).cell? ⟨g6, o6 + k2 * 2, none⟩ = some (.int .i64 d1) := fun _ => e0
                have C1 : ∀ q, (wr.drewN q).cell? ⟨g6, o6 + k2 * 2 + 1, none⟩ = some (.int .i64 d2) := fun _ => e1
                have E0 : ∀ q, (wr.drewN q).cell? ⟨w.heap.size, 1, none⟩ = some (.int .i64 i0) := fun _ => z1
                have E1 : ∀ q, (wr.drewN q).cell? ⟨w.heap.size, 2, none⟩ = some (.int .i64 i1) := fun _ => z2
                have hk1' : (k2 : Int) < (n6 : Int) := by omega
                have hk0' : (0 : Int) ≤ (k2 : Int) := by omega
                have mixed := mixed
                have happ : ∀ (wq : World) (v : Value), wq.ownsRow w6.heap.size 24 2 v m (flat ((Lx.take k2).filter (fun q => decide (q ≠ o.id)))) → (d1, d2) ≠ o.id → ∀ (v' : Value) (wz : World), wz.ownsRow w6.heap.size 24 2 v' (m + 1) (flat ((Lx.take k2).filter (fun q => decide (q ≠ o.id))) ++ flat [(d1, d2)]) → wz.ownsRow w6.heap.size 24 2 v' (m + 1) (flat ((Lx.take (k2 + 1)).filter (fun q => decide (q ≠ o.id)))) ∧ ((Lx.take (k2 + 1)).filter (fun q => decide (q ≠ o.id))).length = m + 1 := fun wq v h1 hne v' wz h2 => by
                  rw [hts.out, List.filter_append, List.filter_cons_of_pos (by simpa using hne), List.filter_nil, flat_append]
                  exact ⟨h2, by rw [List.length_append, hOw.out.2]; rfl⟩
                have hkeep : (d1, d2) = o.id → wr.ownsRow w6.heap.size 24 2 u12 m (flat ((Lx.take (k2 + 1)).filter (fun q => decide (q ≠ o.id)))) ∧ ((Lx.take (k2 + 1)).filter (fun q => decide (q ≠ o.id))).length = m := fun he => by
                  rw [hts.out, List.filter_append, List.filter_cons_of_neg (by simpa using he), List.filter_nil, List.append_nil]
                  exact hOw.out
                have hOwD : ∀ q, (wr.drewN q).ownsRow w6.heap.size 24 2 u12 m (flat ((Lx.take k2).filter (fun q => decide (q ≠ o.id)))) := fun q => hOw.out.1
                have hBwD : ∀ q, Below w6.heap.size w6 (wr.drewN q) := fun q => hBw.out.trans (((Far.refl wr).drewN q).below.mono hBw.out.size)
                have hgrow : ∀ q (ob : Obj) w7, ((wr.drewN q).alloc ob).grownBy w7 u12.ownBlock → Below w6.heap.size w6 w7 := fun q ob w7 hg => ((hBwD q).alloc (hBwD q).size ob).grown hg (Nat.le_trans (hBwD q).size (by simp)) (fun j ej => (World.ownsRow.lt hOw.out.1 j ej).1)
                by_cases h1 : d1 = i0
                · subst h1
                  by_cases h2 : d2 = i1
                  · subst h2
                    have hend := hid (hkeep hoid.out.symm)
                    go_wp2_with fail
                    go_quiet (fail)
                    go_wp2
                    go_roundw
                    case rel => exact ⟨k2 + 1, m, by omega, by omega, by go_num, hid hend.out, hid (hBwD _)⟩
                    case measure => simp [intOf]; omega
                  · have hne : (d1, d2) ≠ o.id := fun e => h2 (by rw [hoid.out] at e; exact (Prod.mk.inj e).2)
                    go_wp2_with fail
                    go_quiet (fail)
                    go_wp2_with (at_builtin; refine wpList_append_dots rfl _ _ 49 Try.underlying49 rfl w6.heap.size u12 m _ rfl ((hOwD _).alloc _) (some ⟨(wr.drewN _).heap.size, 0, none⟩) 1 1 [(d1, d2)] rfl (ps_one _ (d1, d2)) (by omega) (by have := (hBw.out : Below _ _ _).size; simp; omega) ?_; intro v7 w7 ho7 hg7)
                    go_roundw
                    case rel => exact ⟨k2 + 1, m + 1, by omega, by omega, by go_num, hid (happ _ _ hOw.out.1 hne _ _ ho7), hid (hgrow _ _ _ hg7)⟩
                    case measure => simp [intOf]; omega
                · have hne : (d1, d2) ≠ o.id := fun e => h1 (by rw [hoid.out] at e; exact (Prod.mk.inj e).1)
                  go_wp2_with fail
                  go_quiet (fail)
                  go_wp2_with (at_builtin; refine wpList_append_dots rfl _ _ 49 Try.underlying49 rfl w6.heap.size u12 m _ rfl ((hOwD _).alloc _) (some ⟨(wr.drewN _).heap.size, 0, none⟩) 1 1 [(d1, d2)] rfl (ps_one _ (d1, d2)) (by omega) (by have := (hBw.out : Below _ _ _).size; simp; omega) ?_; intro v7 w7 ho7 hg7)
                  go_roundw
                  case rel => exact ⟨k2 + 1, m + 1, by omega, by omega, by go_num, hid (happ _ _ hOw.out.1 hne _ _ ho7), hid (hgrow _ _ _ hg7)⟩
                  case measure => simp [intOf]; omega
              · obtain rfl : k2 = n6 := by omega
                have hrow : wr.ownsRow w6.heap.size 24 2 u12 m (flat (allT T)) ∧ (allT T).length = m := by
                  have h := hOw.out
                  rw [List.take_of_length_le (by rw [hn6.out]; exact Nat.le_refl _), hst.out] at h
                  exact h
                obtain ⟨a12, c12, rfl, hp12⟩ := owned_ps hrow.1 hrow.2
                have dn : DR wr a12 m c12 (allT T) := ⟨own_base0 hrow.1, hrow.2⟩
                have er := e8'.below hBw.out
                have hs26 := same_dr dn er hl8
                have hbl : ((k2 : Int) == (n8 : Int) + 1) = true := by rw [hnH.out]; simp
                clear hrow hOw hp12 dr
                go_wp2_with (first
                  | (go_at_call 21; refine hs26.mono ?_; rintro e w8 ⟨rfl, b8⟩; have s8 := sr.below b8; obtain ⟨x1, x2⟩ := hzi _ s8)
                  | (go_at_call 17; refine (hse' _ s8).mono ?_; rintro e w9 ⟨rfl, b9⟩; have s9 := s8.below b9))
                go_ret
                exact ⟨rfl, s9.bel⟩
          · rw [insP_bad he] at hin
            have hne : ((insP T o.id o.at_ o.side o.char).1 == 0) = false := by simpa using he
            have hne2 : ((insP T o.id o.at_ o.side o.char).1 != 0) = true := by simpa using he
            have hAl : ∀ w6, SS w w.heap.size t o T w6 → Calls Try.prog 22 #[.pointer (some ⟨t, 0, none⟩)] w6 (Gives w6 (allT T)) := fun w6 h6 => all_tm h6.tm hTm
            obtain ⟨er, her⟩ : ∃ er, er = (insP T o.id o.at_ o.side o.char).1 := ⟨_, rfl⟩
            rw [← her] at hin hne hne2
            clear he her
            go_upto_region 17 with (go_at_call 12; refine hin.mono ?_; rintro e w5 ⟨rfl, s5, f5⟩)
            have e8 := d8.fr f5
            have e9 := d4.fr f5
            go_wp2_with (first
              | (go_at_call 22; refine (hAl _ s5).mono ?_; intro e w6 h6; obtain ⟨a6, n6, c6, rfl, d6, b6⟩ := gives_dr h6; have s6 := s5.below b6; have e8' := e8.below b6; have e9' := e9.below b6)
              | (have hq := d8'; go_at_call 21; refine (same_dr d8' g9 hl9).mono ?_; rintro e w9 ⟨rfl, b9⟩; have s9 := s8.below b9)
              | (go_at_call 21; refine (same_dr d6 e8' hl8).mono ?_; rintro e w7 ⟨rfl, b7⟩; have s7 := s6.below b7; have f9 := e9'.below b7)
              | (go_at_call 24; refine (hD1 _ s7).mono ?_; intro e w8 h8; obtain ⟨a10, n10, c10, rfl, d8', b8⟩ := gives_dr h8; have s8 := s7.below b8; have g9 := f9.below b8))
            go_ret
            exact ⟨rfl, s9.bel⟩
      · have hb1 : decide ((k : Int) < (n : Int)) = false := by simp; omega
        have hA1 := all_tm hSS.tm hTm
        have hD1 : ∀ w3, SS w w.heap.size t o T w3 → Calls Try.prog 24 #[.pointer (some ⟨t, 0, none⟩)] w3 (Gives w3 ((seenC T).map (·.id))) := fun w3 h3 => dots_tm h3.tm hTm
        go_upto_region 13 with (first
          | (go_at_call 22; refine hA1.mono ?_; intro e w3 h3; obtain ⟨a8, n8, c8, rfl, d3, b3⟩ := gives_dr h3; have s3 := hSS.below b3)
          | (go_at_call 24; refine (hD1 _ s3).mono ?_; intro e w4 h4; obtain ⟨a9, n9, c9, rfl, d4, b4⟩ := gives_dr h4; have s4 := s3.below b4; have d8 := d3.below b4))
        obtain ⟨c0, c1, c2, c3, c4, c5, c6⟩ := s4.at_
        have hkk : I64 o.kind := i64_wf ho.kind
        unfold I64 at hkk
        have hl8 : (allT T).length ≤ 1000000 := by rw [allT_len hSS.tm.wt]; exact hTm
        have hl9 : ((seenC T).map (·.id)).length ≤ 1000000 := by rw [List.length_map]; exact Nat.le_trans (List.length_filter_le _ _) (by rw [allC_len hSS.tm.wt]; exact hTm)
        by_cases h3 : o.kind.tmod 3 = 0
        · have hb3 : (o.kind.tmod 3 == 0) = true := by simp [h3]
          clear h3
          have hal := hid (allT_del T o.at_)
          by_cases he : (delP T o.at_).1 = 0
          · have hdl := s4.delete o ho
            rw [he] at hdl
            have hsn := seen_del he
            have hse : ∀ w7, SS w w.heap.size t o (delP T o.at_).2 w7 → Calls Try.prog 17 #[.pointer (some ⟨t, 0, none⟩), .agg #[.int .i64 o.a0, .int .i64 o.a1]] w7 fun e w8 => e = .returned (.bool false) ∧ Below w7.heap.size w7 w8 := fun w7 h7 => (seen_tm h7.tm o.at_ ho.at_).mono (fun e w8 ⟨k1, k2⟩ => by rw [hsn] at k1; exact ⟨k1, k2⟩)
            have hAl : ∀ w6, SS w w.heap.size t o (delP T o.at_).2 w6 → Calls Try.prog 22 #[.pointer (some ⟨t, 0, none⟩)] w6 (Gives w6 (allT T)) := fun w6 h6 => by have := all_tm h6.tm (by rw [delP_len]; exact hTm); rw [hal.out] at this; exact this
            clear he hsn
            go_upto_region 15 with (go_at_call 10; refine hdl.mono ?_; rintro e w5 ⟨rfl, s5, f5⟩)
            have e8 := d8.fr f5
            go_wp2_with (first
              | (go_at_call 22; refine (hAl _ s5).mono ?_; intro e w6 h6; obtain ⟨a6, n6, c6, rfl, d6, b6⟩ := gives_dr h6; have s6 := s5.below b6; have e8' := e8.below b6)
              | (go_at_call 21; refine (same_dr d6 e8' hl8).mono ?_; rintro e w7 ⟨rfl, b7⟩; have s7 := s6.below b7; obtain ⟨y0, y1, y2, y3, y4, y5, y6⟩ := s7.at_)
              | (go_at_call 17; refine (hse _ s7).mono ?_; rintro e w8 ⟨rfl, b8⟩; have s8 := s7.below b8))
            go_ret
            exact ⟨rfl, s8.bel⟩
          · have hdl := s4.delete o ho
            rw [del_same he] at hdl
            have hne : ((delP T o.at_).1 == 0) = false := by simpa using he
            have hne2 : ((delP T o.at_).1 != 0) = true := by simpa using he
            have hAl : ∀ w6, SS w w.heap.size t o T w6 → Calls Try.prog 22 #[.pointer (some ⟨t, 0, none⟩)] w6 (Gives w6 (allT T)) := fun w6 h6 => all_tm h6.tm hTm
            obtain ⟨er, her⟩ : ∃ er, er = (delP T o.at_).1 := ⟨_, rfl⟩
            rw [← her] at hdl hne hne2
            clear he her
            go_upto_region 15 with (go_at_call 10; refine hdl.mono ?_; rintro e w5 ⟨rfl, s5, f5⟩)
            have e8 := d8.fr f5
            have e9 := d4.fr f5
            go_wp2_with (first
              | (go_at_call 22; refine (hAl _ s5).mono ?_; intro e w6 h6; obtain ⟨a6, n6, c6, rfl, d6, b6⟩ := gives_dr h6; have s6 := s5.below b6; have e8' := e8.below b6; have e9' := e9.below b6)
              | (have hq := d8'; go_at_call 21; refine (same_dr d8' g9 hl9).mono ?_; rintro e w9 ⟨rfl, b9⟩; have s9 := s8.below b9)
              | (go_at_call 21; refine (same_dr d6 e8' hl8).mono ?_; rintro e w7 ⟨rfl, b7⟩; have s7 := s6.below b7; have f9 := e9'.below b7)
              | (go_at_call 24; refine (hD1 _ s7).mono ?_; intro e w8 h8; obtain ⟨a10, n10, c10, rfl, d8', b8⟩ := gives_dr h8; have s8 := s7.below b8; have g9 := f9.below b8))
            go_ret
            exact ⟨rfl, s9.bel⟩
        · have hb3 : (o.kind.tmod 3 == 0) = false := by simpa using h3
          clear h3
          have hin := s4.insert hTn o ho
          by_cases he : (insP T o.id o.at_ o.side o.char).1 = 0
          · have hput := insP_ok he
            rw [he] at hin
            have hst := hid (hput.stays hSS.tm.wt)
            have hln := hid (hput.len hSS.tm.wt ho.id)
            have hsn := hput.seen hSS.tm.wt ho.id
            obtain ⟨T', hT'⟩ : ∃ T', T' = (insP T o.id o.at_ o.side o.char).2 := ⟨_, rfl⟩
            rw [← hT'] at hin hst hln hsn
            have hTm' : T'.length ≤ 1000000 := by rw [hT']; have := insP_len T o.id o.at_ o.side o.char; omega
            have hse : ∀ w7, SS w w.heap.size t o T' w7 → Calls Try.prog 17 #[.pointer (some ⟨t, 0, none⟩), .agg #[.int .i64 o.i0, .int .i64 o.i1]] w7 fun e w8 => e = .returned (.bool true) ∧ Below w7.heap.size w7 w8 := fun w7 h7 => (seen_tm h7.tm o.id ho.id).mono (fun e w8 ⟨k1, k2⟩ => by rw [hsn] at k1; exact ⟨k1, k2⟩)
            have hAl : ∀ w6, SS w w.heap.size t o T' w6 → Calls Try.prog 22 #[.pointer (some ⟨t, 0, none⟩)] w6 (Gives w6 (allT T')) := fun w6 h6 => all_tm h6.tm hTm'
            clear he hsn hT' hput
            go_upto_region 17 with (go_at_call 12; refine hin.mono ?_; rintro e w5 ⟨rfl, s5, f5⟩)
            have e8 := d8.fr f5
            go_wp2_with (go_at_call 22; refine (hAl _ s5).mono ?_; intro e w6 h6; obtain ⟨a6, n6, c6', rfl, d6, b6⟩ := gives_dr h6; have s6 := s5.below b6; have e8' := e8.below b6)
            obtain ⟨Lx, hLx⟩ : ∃ Lx, Lx = allT T' := ⟨_, rfl⟩
            rw [← hLx] at hst hln d6
            clear hLx
            have hn6 : Hid (Lx.length = n6) := hid d6.len
            have hn8 : Hid ((allT T).length = n8) := hid d8.len
            have hn68 : n6 = n8 + 1 := by rw [← hn6.out, ← hn8.out]; exact hln.out
            have hn8b : n8 ≤ 1000000 := by rw [← hn8.out]; exact hl8
            have hc6 := d6.ps.cap
            have hm6 := d6.ps.max
            unfold maxLen at hm6
            have hnH : Hid (n6 = n8 + 1) := hid hn68
            have hn6b : n6 ≤ 1000001 := by omega
            clear hn68
            obtain ⟨i0, hi0⟩ : ∃ i0, i0 = o.i0 := ⟨_, rfl⟩
            obtain ⟨i1, hi1⟩ : ∃ i1, i1 = o.i1 := ⟨_, rfl⟩
            have hoid : Hid (o.id = (i0, i1)) := hid (by rw [hi0, hi1]; rfl)
            have hzi : ∀ W, SS w w.heap.size t o T' W → W.cell? ⟨w.heap.size, 1, none⟩ = some (.int .i64 i0) ∧ W.cell? ⟨w.heap.size, 2, none⟩ = some (.int .i64 i1) := fun W hW => by
              obtain ⟨_, z1, z2, _⟩ := hW.at_
              rw [hi0, hi1]
              exact ⟨z1, z2⟩
            have hse' : ∀ w7, SS w w.heap.size t o T' w7 → Calls Try.prog 17 #[.pointer (some ⟨t, 0, none⟩), .agg #[.int .i64 i0, .int .i64 i1]] w7 fun e w8 => e = .returned (.bool true) ∧ Below w7.heap.size w7 w8 := by rw [hi0, hi1]; exact hse
            clear hi0 hi1 hse
            go_loopw [12, 14] (fun v i wr => ∃ (k m : Nat), k ≤ n6 ∧ m ≤ k ∧ i = .int .i64 k ∧ Hid (wr.ownsRow w6.heap.size 24 2 v m (flat ((Lx.take k).filter (fun q => decide (q ≠ o.id)))) ∧ ((Lx.take k).filter (fun q => decide (q ≠ o.id))).length = m) ∧ Hid (Below w6.heap.size w6 wr)) (fun _ i _ => n6 - (intOf i).toNat)
            case atStart => exact ⟨0, 0, by omega, by omega, rfl, hid ⟨World.ownsRow_nil _ _ _ _, rfl⟩, hid (Below.refl _ _)⟩
            case round =>
              obtain ⟨k2, m, hk2, hmk, rfl, hOw, hBw⟩ := hrel
              have sr := s6.below hBw.out
              have dr := d6.below hBw.out
              by_cases hlt2 : k2 < n6
              · have hLl : k2 < Lx.length := by rw [hn6.out]; exact hlt2
                obtain ⟨g6, o6, rfl, hg6, hcell⟩ := dr.ps.at (by omega)
                obtain ⟨e0, e1⟩ := hcell k2 hLl
                obtain ⟨z1, z2⟩ := hzi _ sr
                have hts : Hid _ := hid (take_snoc (L := Lx) (k := k2) hLl)
                generalize (Lx[k2]'hLl) = d at e0 e1 hts
                obtain ⟨d1, d2⟩ := d
                clear hcell hLl
                have C0 : ∀ q, (wr.drewN q).cell? ⟨g6, o6 + k2 * 2, none⟩ = some (.int .i64 d1) := fun _ => e0
                have C1 : ∀ q, (wr.drewN q).cell? ⟨g6, o6 + k2 * 2 + 1, none⟩ = some (.int .i64 d2) := fun _ => e1
                have E0 : ∀ q, (wr.drewN q).cell? ⟨w.heap.size, 1, none⟩ = some (.int .i64 i0) := fun _ => z1
                have E1 : ∀ q, (wr.drewN q).cell? ⟨w.heap.size, 2, none⟩ = some (.int .i64 i1) := fun _ => z2
                have hk1' : (k2 : Int) < (n6 : Int) := by omega
                have hk0' : (0 : Int) ≤ (k2 : Int) := by omega
                have mixed := mixed
                have happ : ∀ (wq : World) (v : Value), wq.ownsRow w6.heap.size 24 2 v m (flat ((Lx.take k2).filter (fun q => decide (q ≠ o.id)))) → (d1, d2) ≠ o.id → ∀ (v' : Value) (wz : World), wz.ownsRow w6.heap.size 24 2 v' (m + 1) (flat ((Lx.take k2).filter (fun q => decide (q ≠ o.id))) ++ flat [(d1, d2)]) → wz.ownsRow w6.heap.size 24 2 v' (m + 1) (flat ((Lx.take (k2 + 1)).filter (fun q => decide (q ≠ o.id)))) ∧ ((Lx.take (k2 + 1)).filter (fun q => decide (q ≠ o.id))).length = m + 1 := fun wq v h1 hne v' wz h2 => by
                  rw [hts.out, List.filter_append, List.filter_cons_of_pos (by simpa using hne), List.filter_nil, flat_append]
                  exact ⟨h2, by rw [List.length_append, hOw.out.2]; rfl⟩
                have hkeep : (d1, d2) = o.id → wr.ownsRow w6.heap.size 24 2 u12 m (flat ((Lx.take (k2 + 1)).filter (fun q => decide (q ≠ o.id)))) ∧ ((Lx.take (k2 + 1)).filter (fun q => decide (q ≠ o.id))).length = m := fun he => by
                  rw [hts.out, List.filter_append, List.filter_cons_of_neg (by simpa using he), List.filter_nil, List.append_nil]
                  exact hOw.out
                have hOwD : ∀ q, (wr.drewN q).ownsRow w6.heap.size 24 2 u12 m (flat ((Lx.take k2).filter (fun q => decide (q ≠ o.id)))) := fun q => hOw.out.1
                have hBwD : ∀ q, Below w6.heap.size w6 (wr.drewN q) := fun q => hBw.out.trans (((Far.refl wr).drewN q).below.mono hBw.out.size)
                have hgrow : ∀ q (ob : Obj) w7, ((wr.drewN q).alloc ob).grownBy w7 u12.ownBlock → Below w6.heap.size w6 w7 := fun q ob w7 hg => ((hBwD q).alloc (hBwD q).size ob).grown hg (Nat.le_trans (hBwD q).size (by simp)) (fun j ej => (World.ownsRow.lt hOw.out.1 j ej).1)
                by_cases h1 : d1 = i0
                · subst h1
                  by_cases h2 : d2 = i1
                  · subst h2
                    have hend := hid (hkeep hoid.out.symm)
                    go_wp2_with fail
                    go_quiet (fail)
                    go_wp2
                    go_roundw
                    case rel => exact ⟨k2 + 1, m, by omega, by omega, by go_num, hid hend.out, hid (hBwD _)⟩
                    case measure => simp [intOf]; omega
                  · have hne : (d1, d2) ≠ o.id := fun e => h2 (by rw [hoid.out] at e; exact (Prod.mk.inj e).2)
                    go_wp2_with fail
                    go_quiet (fail)
                    go_wp2_with (at_builtin; refine wpList_append_dots rfl _ _ 49 Try.underlying49 rfl w6.heap.size u12 m _ rfl ((hOwD _).alloc _) (some ⟨(wr.drewN _).heap.size, 0, none⟩) 1 1 [(d1, d2)] rfl (ps_one _ (d1, d2)) (by omega) (by have := (hBw.out : Below _ _ _).size; simp; omega) ?_; intro v7 w7 ho7 hg7)
                    go_roundw
                    case rel => exact ⟨k2 + 1, m + 1, by omega, by omega, by go_num, hid (happ _ _ hOw.out.1 hne _ _ ho7), hid (hgrow _ _ _ hg7)⟩
                    case measure => simp [intOf]; omega
                · have hne : (d1, d2) ≠ o.id := fun e => h1 (by rw [hoid.out] at e; exact (Prod.mk.inj e).1)
                  go_wp2_with fail
                  go_quiet (fail)
                  go_wp2_with (at_builtin; refine wpList_append_dots rfl _ _ 49 Try.underlying49 rfl w6.heap.size u12 m _ rfl ((hOwD _).alloc _) (some ⟨(wr.drewN _).heap.size, 0, none⟩) 1 1 [(d1, d2)] rfl (ps_one _ (d1, d2)) (by omega) (by have := (hBw.out : Below _ _ _).size; simp; omega) ?_; intro v7 w7 ho7 hg7)
                  go_roundw
                  case rel => exact ⟨k2 + 1, m + 1, by omega, by omega, by go_num, hid (happ _ _ hOw.out.1 hne _ _ ho7), hid (hgrow _ _ _ hg7)⟩
                  case measure => simp [intOf]; omega
              · obtain rfl : k2 = n6 := by omega
                have hrow : wr.ownsRow w6.heap.size 24 2 u12 m (flat (allT T)) ∧ (allT T).length = m := by
                  have h := hOw.out
                  rw [List.take_of_length_le (by rw [hn6.out]; exact Nat.le_refl _), hst.out] at h
                  exact h
                obtain ⟨a12, c12, rfl, hp12⟩ := owned_ps hrow.1 hrow.2
                have dn : DR wr a12 m c12 (allT T) := ⟨own_base0 hrow.1, hrow.2⟩
                have er := e8'.below hBw.out
                have hs26 := same_dr dn er hl8
                have hbl : ((k2 : Int) == (n8 : Int) + 1) = true := by rw [hnH.out]; simp
                clear hrow hOw hp12 dr
                go_wp2_with (first
                  | (go_at_call 21; refine hs26.mono ?_; rintro e w8 ⟨rfl, b8⟩; have s8 := sr.below b8; obtain ⟨x1, x2⟩ := hzi _ s8)
                  | (go_at_call 17; refine (hse' _ s8).mono ?_; rintro e w9 ⟨rfl, b9⟩; have s9 := s8.below b9))
                go_ret
                exact ⟨rfl, s9.bel⟩
          · rw [insP_bad he] at hin
            have hne : ((insP T o.id o.at_ o.side o.char).1 == 0) = false := by simpa using he
            have hne2 : ((insP T o.id o.at_ o.side o.char).1 != 0) = true := by simpa using he
            have hAl : ∀ w6, SS w w.heap.size t o T w6 → Calls Try.prog 22 #[.pointer (some ⟨t, 0, none⟩)] w6 (Gives w6 (allT T)) := fun w6 h6 => all_tm h6.tm hTm
            obtain ⟨er, her⟩ : ∃ er, er = (insP T o.id o.at_ o.side o.char).1 := ⟨_, rfl⟩
            rw [← her] at hin hne hne2
            clear he her
            go_upto_region 17 with (go_at_call 12; refine hin.mono ?_; rintro e w5 ⟨rfl, s5, f5⟩)
            have e8 := d8.fr f5
            have e9 := d4.fr f5
            go_wp2_with (first
              | (go_at_call 22; refine (hAl _ s5).mono ?_; intro e w6 h6; obtain ⟨a6, n6, c6, rfl, d6, b6⟩ := gives_dr h6; have s6 := s5.below b6; have e8' := e8.below b6; have e9' := e9.below b6)
              | (have hq := d8'; go_at_call 21; refine (same_dr d8' g9 hl9).mono ?_; rintro e w9 ⟨rfl, b9⟩; have s9 := s8.below b9)
              | (go_at_call 21; refine (same_dr d6 e8' hl8).mono ?_; rintro e w7 ⟨rfl, b7⟩; have s7 := s6.below b7; have f9 := e9'.below b7)
              | (go_at_call 24; refine (hD1 _ s7).mono ?_; intro e w8 h8; obtain ⟨a10, n10, c10, rfl, d8', b8⟩ := gives_dr h8; have s8 := s7.below b8; have g9 := f9.below b8))
            go_ret
            exact ⟨rfl, s9.bel⟩
end Go.Proofs.Ytbpepmajpojacaa
