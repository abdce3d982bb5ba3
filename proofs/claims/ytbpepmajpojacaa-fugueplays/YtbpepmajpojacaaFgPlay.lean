/- FuguePlays: its walk. -/
import Derived.Test.YtbpepmajpojacaaFgIs
import Derived.Test.YtbpepmajpojacaaFgRIns
import Derived.Test.YtbpepmajpojacaaFgStayV
set_option linter.unusedVariables false
set_option linter.unusedSimpArgs false
namespace Go.Proofs.Ytbpepmajpojacaa
open Go.RowKit

theorem set_else {w : World} {r k : Nat} {v : Value} (hk : k < w.heap.size) (hne : k ≠ r) : (w.setCell ⟨r, 0, none⟩ v).heap[k]? = w.heap[k]? := (grownBy_setCell' w r v).block k hk (by simpa using hne)

/-- A store into a box of the reference's leaves a text as it is. -/
theorem TM.store {w : World} {t r : Nat} {T : List Cr} {u v : Value} (h : TM w t T) (hr : w.heap[r]? = some (.cells #[u] 30 (0, 0))) : TM (w.setCell ⟨r, 0, none⟩ v) t T := by
  obtain ⟨⟨G, R, h⟩, hc⟩ := h
  have ne : ∀ k (o : Obj), w.heap[k]? = some o → (∀ cs, o ≠ .cells cs 30 (0, 0)) → k ≠ r := fun k o hk ho e => by
    subst e
    rw [hr] at hk
    exact ho _ (Option.some.inj hk).symm
  refine ⟨⟨G, R, h.wt, ?_, h.gd, fun c hc => ?_, fun d s hd => ?_, h.apart⟩, hc⟩
  · obtain ⟨fm, h1, h2⟩ := h.tb
    refine ⟨fm, (set_else (Array.getElem?_eq_some_iff.1 h1).1 (ne _ _ h1 (fun cs e => by cases e))).trans h1, ?_⟩
    rcases h2 with h2 | ⟨mb, e, hm, hp⟩
    · exact Or.inl h2
    · refine Or.inr ⟨mb, e, hm, hp.same (set_else hp.lt ?_)⟩
      obtain ⟨D, ⟨es, clock, h1, h2⟩, hT⟩ := hp
      exact ne _ _ h1 (fun cs e => by cases e)
  · obtain ⟨g, h1, h2, h3⟩ := h.ch c hc
    exact ⟨g, h1, h2, (set_else (Array.getElem?_eq_some_iff.1 h3).1 (ne _ _ h3 (fun cs e => by cases e))).trans h3⟩
  · obtain ⟨gs, h1, h2⟩ := h.rows d s hd
    refine ⟨gs, h1, World.ownsRow.kept h2 (grownBy_setCell' w r v) ?_⟩
    cases hb : (R d s).ownBlock with
    | none => exact Or.inl rfl
    | some k =>
      obtain ⟨cur, h3⟩ := own_block h2 hb
      exact Or.inr (fun e => ne _ _ h3 (fun cs e => by cases e) (Option.some.inj e))

theorem RT.of {w w' : World} {a : Option Addr} {n c : Nat} {T : List Cr} (h : RT w a n c T) (hs : w.heap.size ≤ w'.heap.size) (hk : ∀ ad, a = some ad → w'.heap[ad.block]? = w.heap[ad.block]?) : RT w' a n c T :=
  ⟨h.len, h.cap, h.max, h.nil, fun hp => by
    obtain ⟨g, o, e, hg, hx⟩ := h.at_ hp
    exact ⟨g, o, e, Nat.lt_of_lt_of_le hg hs, fun i hi j u hj => by rw [World.cell?_of_block (a := ⟨g, o + i * 7 + j, none⟩) (show w'.heap[g]? = w.heap[g]? from hk _ e)]; exact hx i hi j u hj⟩⟩

theorem CT.of {w w' : World} {a : Option Addr} (h : CT w a) (hk : ∀ ad, a = some ad → w'.heap[ad.block]? = w.heap[ad.block]?) : CT w' a := fun ad e => by
  obtain ⟨cs, h1⟩ := h ad e
  exact ⟨cs, (hk ad e).trans h1⟩

/-- A text T, the reference's row U, a dot's box, an act's box. -/
structure PL (w0 : World) (d1 d2 : Int) (t r b : Nat) (x : Fo) (T U : List Cr) (a : Option Addr) (n c : Nat) (w : World) : Prop where
  tm : TM w t T
  bel : Below w0.heap.size w0 w
  tl : w0.heap.size < t
  rl : w0.heap.size ≤ r
  box : w.heap[w0.heap.size]? = some (.cells #[.int .i64 d1, .int .i64 d2] 24 (0, 0))
  rb : w.heap[r]? = some (.cells #[.slice a n c] 30 (0, 0))
  rt : RT w a n c U
  ct : CT w a
  xb : w.heap[b]? = some (.cells x.cells 32 (0, 0)) ∨ b = 0

theorem PL.fr {w0 : World} {d1 d2 : Int} {t r b : Nat} {x : Fo} {T T' U : List Cr} {a : Option Addr} {n c : Nat} {w w' : World} (h : PL w0 d1 d2 t r b x T U a n c w) (htm : TM w' t T') (hf : FrW t w w') : PL w0 d1 d2 t r b x T' U a n c w' := by
  have hk : ∀ ad, a = some ad → w'.heap[ad.block]? = w.heap[ad.block]? := fun ad e => by
    obtain ⟨cs, h1⟩ := h.ct ad e
    exact hf.block _ (Array.getElem?_eq_some_iff.1 h1).1 (Or.inr ⟨_, _, h1, by decide, by decide, by decide⟩)
  refine ⟨htm, ⟨hf.os.trans h.bel.os, hf.tape.trans h.bel.tape, hf.output.trans h.bel.output, Nat.le_trans h.bel.size hf.size, fun k hk => (hf.block k (Nat.lt_of_lt_of_le hk h.bel.size) (Or.inl (by have := h.tl; omega))).trans (h.bel.block k hk)⟩, h.tl, h.rl, ?_, ?_, h.rt.of hf.size hk, h.ct.of hk, ?_⟩
  · exact (hf.block _ (Array.getElem?_eq_some_iff.1 h.box).1 (Or.inl h.tl)).trans h.box
  · exact (hf.block _ (Array.getElem?_eq_some_iff.1 h.rb).1 (Or.inr ⟨_, _, h.rb, by decide, by decide, by decide⟩)).trans h.rb
  · rcases h.xb with hx | hx
    · exact Or.inl ((hf.block _ (Array.getElem?_eq_some_iff.1 hx).1 (Or.inr ⟨_, _, hx, by decide, by decide, by decide⟩)).trans hx)
    · exact Or.inr hx

theorem PL.below {w0 : World} {d1 d2 : Int} {t r b : Nat} {x : Fo} {T U : List Cr} {a : Option Addr} {n c : Nat} {w w' : World} (h : PL w0 d1 d2 t r b x T U a n c w) (hb : Below w.heap.size w w') : PL w0 d1 d2 t r b x T U a n c w' := h.fr (h.tm.below hb) (FrW.of_below hb)

theorem PL.store {w0 : World} {d1 d2 : Int} {t r b : Nat} {x : Fo} {T U U' : List Cr} {a a' : Option Addr} {n c n' c' : Nat} {w : World} (h : PL w0 d1 d2 t r b x T U a n c w) (hr : RT w a' n' c' U') (hc : CT w a') : PL w0 d1 d2 t r b x T U' a' n' c' (w.setCell ⟨r, 0, none⟩ (.slice a' n' c')) := by
  have ne : ∀ k (o : Obj), w.heap[k]? = some o → (∀ cs, o ≠ .cells cs 30 (0, 0)) → k ≠ r := fun k o hk ho e => by
    subst e
    rw [h.rb] at hk
    exact ho _ (Option.some.inj hk).symm
  have hk : ∀ ad, a' = some ad → (w.setCell ⟨r, 0, none⟩ (.slice a' n' c')).heap[ad.block]? = w.heap[ad.block]? := fun ad e => by
    obtain ⟨cs, h1⟩ := hc ad e
    exact set_else (Array.getElem?_eq_some_iff.1 h1).1 (ne _ _ h1 (fun cs e => by cases e))
  refine ⟨h.tm.store h.rb, h.bel.setCell (p := ⟨r, 0, none⟩) h.rl _, h.tl, h.rl, ?_, ?_, hr.of (Nat.le_of_eq (World.size_setCell _ _ _).symm) hk, hc.of hk, ?_⟩
  · exact (set_else (Array.getElem?_eq_some_iff.1 h.box).1 (ne _ _ h.box (fun cs e => by cases e))).trans h.box
  · rw [fset_block h.rb]; simp
  · rcases h.xb with hx | hx
    · exact Or.inl ((set_else (Array.getElem?_eq_some_iff.1 hx).1 (ne _ _ hx (fun cs e => by cases e))).trans hx)
    · exact Or.inr hx

theorem PL.at_ {w0 : World} {d1 d2 : Int} {t r b : Nat} {x : Fo} {T U : List Cr} {a : Option Addr} {n c : Nat} {w : World} (h : PL w0 d1 d2 t r b x T U a n c w) (hb0 : b ≠ 0) : FoAt w b 0 x := by
  have hb := h.xb.resolve_right hb0
  exact ⟨by simp [World.cell?, hb, Fo.cells], by simp [World.cell?, hb, Fo.cells], by simp [World.cell?, hb, Fo.cells], by simp [World.cell?, hb, Fo.cells], by simp [World.cell?, hb, Fo.cells], by simp [World.cell?, hb, Fo.cells], by simp [World.cell?, hb, Fo.cells]⟩

theorem PL.facts {w0 : World} {d1 d2 : Int} {t r b : Nat} {x : Fo} {T U : List Cr} {a : Option Addr} {n c : Nat} {w : World} (h : PL w0 d1 d2 t r b x T U a n c w) : w.cell? ⟨r, 0, none⟩ = some (.slice a n c) ∧ w.frozen? ⟨r, 0, none⟩ = false ∧ r < w.heap.size ∧ w.cell? ⟨w0.heap.size, 0, none⟩ = some (.int .i64 d1) ∧ w.cell? ⟨w0.heap.size, 1, none⟩ = some (.int .i64 d2) := by
  have h1 := h.rb
  have h2 := h.box
  exact ⟨by simp [World.cell?, h1], by simp [World.frozen?, h1], (Array.getElem?_eq_some_iff.1 h1).1, by simp [World.cell?, h2], by simp [World.cell?, h2]⟩

theorem dw_del {T : List Cr} (h : ∀ x ∈ T, Dw x.id) (d : Dt) : ∀ x ∈ (delP T d).2, Dw x.id := by
  unfold delP
  split
  · intro x hx
    unfold hide at hx
    obtain ⟨y, hy, rfl⟩ := List.mem_map.1 hx
    split
    · exact h y hy
    · exact h y hy
  · exact h

theorem dw_ins {T : List Cr} (h : ∀ x ∈ T, Dw x.id) (id at_ : Dt) (side ch : Int) (hd : Dw id) : ∀ x ∈ (insP T id at_ side ch).2, Dw x.id := by
  unfold insP
  split
  · exact h
  · split
    · exact h
    · split
      · exact h
      · intro x hx
        rcases List.mem_append.1 hx with hx | hx
        · exact h x hx
        · simp at hx; rw [hx]; exact hd

/-- What the reference's Delete, and Insert, leave. -/
theorem PL.rdelete {w0 : World} {d1 d2 : Int} {t r b : Nat} {x : Fo} {T U : List Cr} {a : Option Addr} {n c : Nat} {w : World} (h : PL w0 d1 d2 t r b x T U a n c w) (hU : (U.map Cr.id).Nodup) (hn : U.length ≤ 1000) :
    Calls Try.prog 11 #[.agg #[.slice a n c], .agg #[.int .i64 x.a0, .int .i64 x.a1]] w fun e w' => ∃ a' n' c', e = .returned (.tuple #[.agg #[.slice a' n' c'], .int .i64 (delP U x.at_).1]) ∧ PL w0 d1 d2 t r b x T U a n c w' ∧ PL w0 d1 d2 t r b x T (delP U x.at_).2 a' n' c' (w'.setCell ⟨r, 0, none⟩ (.slice a' n' c')) :=
  (rdelete_any a n c U hU (by have := h.rt.len; omega) x.at_ w h.rt).mono (fun e w' ⟨a', n', c', he, hr, hc, hb⟩ => by
    have h' := h.below hb
    refine ⟨a', n', c', he, h', h'.store hr ?_⟩
    rcases hc with rfl | hc
    · exact h'.ct
    · exact hc)

theorem PL.rinsert {w0 : World} {d1 d2 : Int} {t r b : Nat} {x : Fo} {T U : List Cr} {a : Option Addr} {n c : Nat} {w : World} (h : PL w0 d1 d2 t r b x T U a n c w) (hn : U.length ≤ 1000) :
    Calls Try.prog 13 #[.agg #[.slice a n c], .agg #[.int .i64 x.i0, .int .i64 x.i1], .agg #[.int .i64 x.a0, .int .i64 x.a1], .int .i64 x.side, .int .i64 x.char] w fun e w' => ∃ a' n' c', e = .returned (.tuple #[.agg #[.slice a' n' c'], .int .i64 (insP U x.id x.at_ x.side x.char).1]) ∧ PL w0 d1 d2 t r b x T U a n c w' ∧ PL w0 d1 d2 t r b x T (insP U x.id x.at_ x.side x.char).2 a' n' c' (w'.setCell ⟨r, 0, none⟩ (.slice a' n' c')) :=
  (rinsert_any a n c U (by have := h.rt.len; omega) x.id x.at_ x.side x.char w h.rt).mono (fun e w' ⟨a', n', c', he, hr, hc, hb⟩ => by
    have h' := h.below hb
    refine ⟨a', n', c', he, h', h'.store hr ?_⟩
    rcases hc with rfl | hc
    · exact h'.ct
    · exact hc)

theorem PL.delete {w0 : World} {d1 d2 : Int} {t r b : Nat} {x : Fo} {T U : List Cr} {a : Option Addr} {n c : Nat} {w : World} (h : PL w0 d1 d2 t r b x T U a n c w) (hx : x.Fits) :
    Calls Try.prog 10 #[.pointer (some ⟨t, 0, none⟩), .agg #[.int .i64 x.a0, .int .i64 x.a1]] w fun e w' => e = .returned (.int .i64 (delP T x.at_).1) ∧ PL w0 d1 d2 t r b x (delP T x.at_).2 U a n c w' :=
  (delete_tm h.tm x.at_ hx.at_).mono (fun e w' ⟨h1, h2, h3⟩ => ⟨h1, h.fr h2 h3⟩)

theorem PL.insert {w0 : World} {d1 d2 : Int} {t r b : Nat} {x : Fo} {T U : List Cr} {a : Option Addr} {n c : Nat} {w : World} (h : PL w0 d1 d2 t r b x T U a n c w) (hn : T.length ≤ 1000) (hx : x.Fits) :
    Calls Try.prog 12 #[.pointer (some ⟨t, 0, none⟩), .agg #[.int .i64 x.i0, .int .i64 x.i1], .agg #[.int .i64 x.a0, .int .i64 x.a1], .int .i64 x.side, .int .i64 x.char] w fun e w' => e = .returned (.int .i64 (insP T x.id x.at_ x.side x.char).1) ∧ PL w0 d1 d2 t r b x (insP T x.id x.at_ x.side x.char).2 U a n c w' :=
  (insert_tm h.tm (by omega) x.id x.at_ x.side x.char hx.id hx.at_ (i64_wf hx.char)).mono (fun e w' ⟨h1, h2, h3⟩ => ⟨h1, h.fr h2 h3⟩)

theorem PL.is_ {w0 : World} {d1 d2 : Int} {t r b : Nat} {x : Fo} {T : List Cr} {a : Option Addr} {n c : Nat} {w : World} (h : PL w0 d1 d2 t r b x T T a n c w) (hn : T.length ≤ 1000) (hdw : ∀ x ∈ T, Dw x.id) {i : Int} (hi : I64 i) :
    Calls Try.prog 14 #[.pointer (some ⟨t, 0, none⟩), .agg #[.slice a n c], .int .i64 i] w fun e w' => e = .returned (.bool true) ∧ PL w0 d1 d2 t r b x T T a n c w' :=
  (is_any t T a n c i w h.tm h.rt (by have := h.rt.len; omega) hdw hi).mono (fun e w' ⟨h1, h2⟩ => ⟨h1, h.below h2⟩)

theorem seenP_no {T : List Cr} (hT : WT T) {d : Dt} (h : (idxL (allC T) d).2 = false) : seenP T d = false := by
  have hno : ∀ c ∈ T, c.id ≠ d := fun c hc e => by
    have h1 : d ∈ (allC T).map Cr.id := by rw [allC_ids hT]; exact (mem_allT hT).2 ⟨c, hc, e⟩
    obtain ⟨x, hx, hxe⟩ := List.mem_map.1 h1
    have := idxL_yes hx
    rw [hxe, h] at this
    cases this
  unfold seenP
  rw [fnd_none.2 hno]

set_option maxRecDepth 100000 in
set_option maxHeartbeats 8000000 in
theorem plays_walk (a : Option Addr) (n c : Nat) (L : List Fo) (i : Int) (d : Dt) (w : World) (hL : FoS w a n c L) (hLf : ∀ x ∈ L, x.Fits) (hi : I64 i) (hd : Dw d) :
    Calls Try.prog 3 #[.slice a n c, .int .i64 i, dv d] w fun e w' => e = .returned (.bool true) ∧ Below w.heap.size w w' := by
  obtain ⟨d1, d2⟩ := d
  obtain ⟨wA, hwA⟩ : ∃ wA, wA = w.alloc (.cells #[.int .i64 d1, .int .i64 d2] 24) := ⟨_, rfl⟩
  have hBA : Below w.heap.size w wA := by rw [hwA]; exact (Below.refl _ w).alloc (Nat.le_refl _) _
  have hblk : wA.heap[w.heap.size]? = some (.cells #[.int .i64 d1, .int .i64 d2] 24 (0, 0)) := by rw [hwA]; exact World.alloc_heap_new _ _
  have hbl := (Array.getElem?_eq_some_iff.1 hblk).1
  have haw : Calls Try.prog 8 #[] wA fun e w1 => e = .returned (.bool true) ∧ Below wA.heap.size wA w1 := awake_any wA
  have hnew : ∀ w1, Below wA.heap.size wA w1 → Calls Try.prog 9 #[] w1 fun e w2 => ∃ t, e = .returned (.pointer (some ⟨t, 0, none⟩)) ∧ Hid (PL w d1 d2 t w2.heap.size 0 ⟨0, 0, 0, 0, 0, 0, 0⟩ [] [] none 0 0 (w2.alloc (.cells #[.slice none 0 0] 30))) := fun w1 h1 => (new_tm w1).mono (fun e w2 ⟨k1, k2, k3⟩ => by
    have h2 := h1.trans (k3.mono h1.size)
    have hb2 : Below w2.heap.size w2 (w2.alloc (.cells #[.slice none 0 0] 30)) := (Below.refl _ w2).alloc (Nat.le_refl _) _
    have h3 := h2.trans (hb2.mono h2.size)
    refine ⟨w1.heap.size, k1, hid ⟨k2.below hb2, hBA.trans (h3.mono hBA.size), Nat.lt_of_lt_of_le hbl h1.size, Nat.le_trans hBA.size h2.size, (h3.block _ hbl).trans hblk, World.alloc_heap_new _ _, ⟨rfl, Nat.le_refl _, Nat.zero_le _, fun _ => ⟨rfl, rfl⟩, fun hp => absurd hp (by omega)⟩, (fun ad e => by cases e), Or.inr rfl⟩⟩)
  have hwAH : Hid (wA = w.alloc (.cells #[.int .i64 d1, .int .i64 d2] 24)) := hid hwA
  clear hwA
  have hcap := hL.cap
  have hmx := hL.max
  unfold maxLen at hmx
  have HLlen := hid hL.len
  have HDd := hid hd
  have HI := hid hi
  clear hd hi
  go_enter Try.func3, Try.ntmps3
  go_wp2_with (first
    | (go_at_call 8; (try rw [← hwAH.out]); refine haw.mono ?_; rintro e w1 ⟨rfl, h1⟩)
    | (go_at_call 9; refine (hnew _ h1).mono ?_; rintro e w2 ⟨t, rfl, h2⟩))
  go_loopw [10] (fun i wr => ∃ k : Nat, k ≤ n ∧ k ≤ 30 ∧ i = .int .i64 k ∧ Hid (∃ T a' n' c' b x, T.length ≤ k ∧ (∀ y ∈ T, Dw y.id) ∧ PL w d1 d2 t w2.heap.size b x T T a' n' c' wr)) (fun i _ => n - (intOf i).toNat)
  case atStart => exact ⟨0, by omega, by omega, rfl, hid ⟨[], _, _, _, _, _, by simp, by simp, h2.out⟩⟩
  case round =>
    obtain ⟨k, hk, hk30, rfl, hS⟩ := hrel
    obtain ⟨T, a1, n1, c1, b0, x0, hTl, hdw, hPL⟩ := hS.out
    clear hS
    have HDW := hid hdw
    clear hdw
    by_cases hlt : k < n ∧ k < 30
    · obtain ⟨hk1, hk2⟩ := hlt
      have hb1 : decide ((k : Int) < (n : Int)) = true := by simp [hk1]
      have hb2 : decide ((k : Int) < 30) = true := by simp; omega
      obtain ⟨g, of, rfl, hat0⟩ := hL.at hk1
      obtain ⟨x, hx⟩ : ∃ x, x = L[k]'(by rw [hL.len]; exact hk1) := ⟨_, rfl⟩
      rw [← hx] at hat0
      have hxf : x.Fits := hLf x (by rw [hx]; exact List.getElem_mem _)
      clear hx
      have hat := hat0.below hPL.bel
      obtain ⟨c0, c1', c2, c3, c4, c5, c6⟩ := hat
      have hkk : I64 x.kind := i64_wf hxf.kind
      unfold I64 at hkk
      -- the act's box
      have HP0 : Hid (PL w d1 d2 t w2.heap.size wr.heap.size x T T a1 n1 c1 (wr.alloc (.cells #[.int .i64 x.kind, .int .i64 x.i0, .int .i64 x.i1, .int .i64 x.a0, .int .i64 x.a1, .int .i64 x.side, .int .i64 x.char] 32))) := hid (by
        have h1 := hPL.below ((Below.refl _ wr).alloc (Nat.le_refl _) (.cells #[.int .i64 x.kind, .int .i64 x.i0, .int .i64 x.i1, .int .i64 x.a0, .int .i64 x.a1, .int .i64 x.side, .int .i64 x.char] 32))
        exact ⟨h1.tm, h1.bel, h1.tl, h1.rl, h1.box, h1.rb, h1.rt, h1.ct, Or.inl (World.alloc_heap_new _ _)⟩)
      have hbz : wr.heap.size ≠ 0 := by have := hPL.facts.2.2.1; omega
      have HBZ := hid hbz
      clear hbz hPL hat0
      by_cases h3 : x.kind.tmod 3 = 0
      · have hb3 : (x.kind.tmod 3 == 0) = true := by simp [h3]
        obtain ⟨E, hE⟩ : ∃ E, E = (delP T x.at_).1 := ⟨_, rfl⟩
        obtain ⟨T', hT'⟩ : ∃ T', T' = (delP T x.at_).2 := ⟨_, rfl⟩
        have hnd : (T.map Cr.id).Nodup := HP0.out.tm.wt.ids
        have hTk : T'.length ≤ k := by rw [hT', delP_len]; exact hTl
        have HDW' : Hid (∀ y ∈ T', Dw y.id) := hid (by rw [hT']; exact dw_del HDW.out _)
        have hd1 := HP0.out.delete hxf
        rw [← hE, ← hT'] at hd1
        have hd2 : Hid (∀ w3, PL w d1 d2 t w2.heap.size wr.heap.size x T' T a1 n1 c1 w3 → Calls Try.prog 11 #[.agg #[.slice a1 n1 c1], .agg #[.int .i64 x.a0, .int .i64 x.a1]] w3 fun e w' => ∃ a' n' c', e = .returned (.tuple #[.agg #[.slice a' n' c'], .int .i64 E]) ∧ Hid (PL w d1 d2 t w2.heap.size wr.heap.size x T' T a1 n1 c1 w') ∧ Hid (PL w d1 d2 t w2.heap.size wr.heap.size x T' T' a' n' c' (w'.setCell ⟨w2.heap.size, 0, none⟩ (.slice a' n' c')))) := hid (fun w3 h3 => (h3.rdelete hnd (by omega)).mono (fun e w' ⟨a', n', c', k1, k2, k3⟩ => ⟨a', n', c', by rw [k1, hE], hid k2, hid (by rw [hT'] at k3 ⊢; exact k3)⟩))
        clear h3 hE hT' hnd
        go_wp2_with (first
          | (have hq := HP4; go_at_call 14; refine (HP4.out.is_ (by omega) HDW'.out HI.out).mono ?_; rintro e w5 ⟨rfl, h5⟩; have HP5 := hid h5; clear h5)
          | (have hq := HP3; go_at_call 11; refine (hd2.out _ HP3.out).mono ?_; rintro e w4 ⟨a4, n4, c4, rfl, HQ4, HP4⟩; obtain ⟨m0, m1, m2, m3, m4⟩ := HQ4.out.facts; clear e0 e1 e2 e3 e4 e5 e6 l0 l1 l2 l3 l4)
          | (go_at_call 10; refine hd1.mono ?_; rintro e w3 ⟨rfl, h3⟩; have HP3 := hid h3; clear h3; obtain ⟨e0, e1, e2, e3, e4, e5, e6⟩ := HP3.out.at_ HBZ.out; obtain ⟨l0, l1, l2, l3, l4⟩ := HP3.out.facts; clear c0 c1' c2 c3 c4 c5 c6))
        go_roundw
        case rel => exact ⟨k + 1, by omega, by omega, by go_num, hid ⟨T', _, _, _, _, _, by omega, HDW'.out, HP5.out⟩⟩
        case measure => simp [intOf]; omega
      · have hb3 : (x.kind.tmod 3 == 0) = false := by simpa using h3
        obtain ⟨E, hE⟩ : ∃ E, E = (insP T x.id x.at_ x.side x.char).1 := ⟨_, rfl⟩
        obtain ⟨T', hT'⟩ : ∃ T', T' = (insP T x.id x.at_ x.side x.char).2 := ⟨_, rfl⟩
        have hTk : T'.length ≤ k + 1 := by rw [hT']; have := insP_len T x.id x.at_ x.side x.char; omega
        have HDW' : Hid (∀ y ∈ T', Dw y.id) := hid (by rw [hT']; exact dw_ins HDW.out _ _ _ _ hxf.id)
        have hd1 := HP0.out.insert (by omega) hxf
        rw [← hE, ← hT'] at hd1
        have hd2 : Hid (∀ w3, PL w d1 d2 t w2.heap.size wr.heap.size x T' T a1 n1 c1 w3 → Calls Try.prog 13 #[.agg #[.slice a1 n1 c1], .agg #[.int .i64 x.i0, .int .i64 x.i1], .agg #[.int .i64 x.a0, .int .i64 x.a1], .int .i64 x.side, .int .i64 x.char] w3 fun e w' => ∃ a' n' c', e = .returned (.tuple #[.agg #[.slice a' n' c'], .int .i64 E]) ∧ Hid (PL w d1 d2 t w2.heap.size wr.heap.size x T' T a1 n1 c1 w') ∧ Hid (PL w d1 d2 t w2.heap.size wr.heap.size x T' T' a' n' c' (w'.setCell ⟨w2.heap.size, 0, none⟩ (.slice a' n' c')))) := hid (fun w3 h3 => (h3.rinsert (by omega)).mono (fun e w' ⟨a', n', c', k1, k2, k3⟩ => ⟨a', n', c', by rw [k1, hE], hid k2, hid (by rw [hT'] at k3 ⊢; exact k3)⟩))
        clear h3 hE hT'
        go_wp2_with (first
          | (have hq := HP4; go_at_call 14; refine (HP4.out.is_ (by omega) HDW'.out HI.out).mono ?_; rintro e w5 ⟨rfl, h5⟩; have HP5 := hid h5; clear h5)
          | (have hq := HP3; go_at_call 13; refine (hd2.out _ HP3.out).mono ?_; rintro e w4 ⟨a4, n4, c4, rfl, HQ4, HP4⟩; obtain ⟨m0, m1, m2, m3, m4⟩ := HQ4.out.facts; clear e0 e1 e2 e3 e4 e5 e6 l0 l1 l2 l3 l4)
          | (go_at_call 12; refine hd1.mono ?_; rintro e w3 ⟨rfl, h3⟩; have HP3 := hid h3; clear h3; obtain ⟨e0, e1, e2, e3, e4, e5, e6⟩ := HP3.out.at_ HBZ.out; obtain ⟨l0, l1, l2, l3, l4⟩ := HP3.out.facts; clear c0 c1' c2 c3 c4 c5 c6))
        go_roundw
        case rel => exact ⟨k + 1, by omega, by omega, by go_num, hid ⟨T', _, _, _, _, _, by omega, HDW'.out, HP5.out⟩⟩
        case measure => simp [intOf]; omega
    · have hTn : T.length ≤ 1000 := by omega
      clear hTl
      by_cases hk1 : k < n
      · have hb1 : decide ((k : Int) < (n : Int)) = true := by simp [hk1]
        have hb2 : decide ((k : Int) < 30) = false := by simp; omega
        obtain ⟨X, hX⟩ : ∃ X, X = (idxL (allC T) (d1, d2)).1 := ⟨_, rfl⟩
        obtain ⟨B, hB⟩ : ∃ B, B = (idxL (allC T) (d1, d2)).2 := ⟨_, rfl⟩
        obtain ⟨f0, f1, f2, f3, f4⟩ := hPL.facts
        have HP := hid hPL
        have cIx : Hid (∀ W, PL w d1 d2 t w2.heap.size b0 x0 T T a1 n1 c1 W → Calls Try.prog 15 #[.pointer (some ⟨t, 0, none⟩), .agg #[.int .i64 d1, .int .i64 d2]] W fun e w' => e = .returned (.tuple #[.int .i64 X, .bool B]) ∧ Hid (PL w d1 d2 t w2.heap.size b0 x0 T T a1 n1 c1 w')) := hid (fun W h => (index_tm h.tm (by omega) (d1, d2)).mono (fun e w' ⟨k1, k2⟩ => ⟨by rw [k1, hX, hB], hid (h.below k2)⟩))
        have rIx : Hid (∀ W, PL w d1 d2 t w2.heap.size b0 x0 T T a1 n1 c1 W → Calls Try.prog 16 #[.agg #[.slice a1 n1 c1], .agg #[.int .i64 d1, .int .i64 d2]] W fun e w' => e = .returned (.tuple #[.int .i64 X, .bool B]) ∧ Hid (PL w d1 d2 t w2.heap.size b0 x0 T T a1 n1 c1 w')) := hid (fun W h => (rindex_any a1 n1 c1 T h.tm.wt (by have := h.rt.len; omega) (d1, d2) W h.rt).mono (fun e w' ⟨k1, k2⟩ => ⟨by rw [k1, hX, hB], hid (h.below k2)⟩))
        have cSe : Hid (B = false → ∀ W, PL w d1 d2 t w2.heap.size b0 x0 T T a1 n1 c1 W → Calls Try.prog 17 #[.pointer (some ⟨t, 0, none⟩), .agg #[.int .i64 d1, .int .i64 d2]] W fun e w' => e = .returned (.bool false) ∧ Hid (PL w d1 d2 t w2.heap.size b0 x0 T T a1 n1 c1 w')) := hid (fun hBf W h => (seen_tm h.tm (d1, d2) HDd.out).mono (fun e w' ⟨k1, k2⟩ => ⟨by rw [k1, seenP_no h.tm.wt (hB.symm.trans hBf)], hid (h.below k2)⟩))
        clear hX hB hPL
        cases B with
        | true =>
          go_wp2_with (first
            | (have hq := HP4; go_at_call 14; refine (HP4.out.is_ (i := 0) hTn HDW.out (by unfold I64; omega)).mono ?_; rintro e w5 ⟨rfl, h5⟩; have HP5 := hid h5; clear h5)
            | (have hq := HP3; go_at_call 16; refine (rIx.out _ HP3.out).mono ?_; rintro e w4 ⟨rfl, HP4⟩; obtain ⟨m0, m1, m2, m3, m4⟩ := HP4.out.facts; clear l0 l1 l2 l3 l4)
            | (go_at_call 15; refine (cIx.out _ HP.out).mono ?_; rintro e w3 ⟨rfl, HP3⟩; obtain ⟨l0, l1, l2, l3, l4⟩ := HP3.out.facts; clear f0 f1 f2 f3 f4))
          go_ret
          exact ⟨rfl, HP5.out.bel⟩
        | false =>
          have cSf := hid (cSe.out rfl)
          clear cSe
          go_wp2_with (first
            | (have hq := HP6; go_at_call 14; refine (HP6.out.is_ (i := 0) hTn HDW.out (by unfold I64; omega)).mono ?_; rintro e w5 ⟨rfl, h5⟩; have HP5 := hid h5; clear h5)
            | (have hq := HP4; go_at_call 17; refine (cSf.out _ HP4.out).mono ?_; rintro e w6 ⟨rfl, HP6⟩; obtain ⟨p0, p1, p2, p3, p4⟩ := HP6.out.facts; clear m0 m1 m2 m3 m4)
            | (have hq := HP3; go_at_call 16; refine (rIx.out _ HP3.out).mono ?_; rintro e w4 ⟨rfl, HP4⟩; obtain ⟨m0, m1, m2, m3, m4⟩ := HP4.out.facts; clear l0 l1 l2 l3 l4)
            | (go_at_call 15; refine (cIx.out _ HP.out).mono ?_; rintro e w3 ⟨rfl, HP3⟩; obtain ⟨l0, l1, l2, l3, l4⟩ := HP3.out.facts; clear f0 f1 f2 f3 f4))
          go_ret
          exact ⟨rfl, HP5.out.bel⟩
      · have hb1 : decide ((k : Int) < (n : Int)) = false := by simp; omega
        obtain ⟨X, hX⟩ : ∃ X, X = (idxL (allC T) (d1, d2)).1 := ⟨_, rfl⟩
        obtain ⟨B, hB⟩ : ∃ B, B = (idxL (allC T) (d1, d2)).2 := ⟨_, rfl⟩
        obtain ⟨f0, f1, f2, f3, f4⟩ := hPL.facts
        have HP := hid hPL
        have cIx : Hid (∀ W, PL w d1 d2 t w2.heap.size b0 x0 T T a1 n1 c1 W → Calls Try.prog 15 #[.pointer (some ⟨t, 0, none⟩), .agg #[.int .i64 d1, .int .i64 d2]] W fun e w' => e = .returned (.tuple #[.int .i64 X, .bool B]) ∧ Hid (PL w d1 d2 t w2.heap.size b0 x0 T T a1 n1 c1 w')) := hid (fun W h => (index_tm h.tm (by omega) (d1, d2)).mono (fun e w' ⟨k1, k2⟩ => ⟨by rw [k1, hX, hB], hid (h.below k2)⟩))
        have rIx : Hid (∀ W, PL w d1 d2 t w2.heap.size b0 x0 T T a1 n1 c1 W → Calls Try.prog 16 #[.agg #[.slice a1 n1 c1], .agg #[.int .i64 d1, .int .i64 d2]] W fun e w' => e = .returned (.tuple #[.int .i64 X, .bool B]) ∧ Hid (PL w d1 d2 t w2.heap.size b0 x0 T T a1 n1 c1 w')) := hid (fun W h => (rindex_any a1 n1 c1 T h.tm.wt (by have := h.rt.len; omega) (d1, d2) W h.rt).mono (fun e w' ⟨k1, k2⟩ => ⟨by rw [k1, hX, hB], hid (h.below k2)⟩))
        have cSe : Hid (B = false → ∀ W, PL w d1 d2 t w2.heap.size b0 x0 T T a1 n1 c1 W → Calls Try.prog 17 #[.pointer (some ⟨t, 0, none⟩), .agg #[.int .i64 d1, .int .i64 d2]] W fun e w' => e = .returned (.bool false) ∧ Hid (PL w d1 d2 t w2.heap.size b0 x0 T T a1 n1 c1 w')) := hid (fun hBf W h => (seen_tm h.tm (d1, d2) HDd.out).mono (fun e w' ⟨k1, k2⟩ => ⟨by rw [k1, seenP_no h.tm.wt (hB.symm.trans hBf)], hid (h.below k2)⟩))
        clear hX hB hPL
        cases B with
        | true =>
          go_wp2_with (first
            | (have hq := HP4; go_at_call 14; refine (HP4.out.is_ (i := 0) hTn HDW.out (by unfold I64; omega)).mono ?_; rintro e w5 ⟨rfl, h5⟩; have HP5 := hid h5; clear h5)
            | (have hq := HP3; go_at_call 16; refine (rIx.out _ HP3.out).mono ?_; rintro e w4 ⟨rfl, HP4⟩; obtain ⟨m0, m1, m2, m3, m4⟩ := HP4.out.facts; clear l0 l1 l2 l3 l4)
            | (go_at_call 15; refine (cIx.out _ HP.out).mono ?_; rintro e w3 ⟨rfl, HP3⟩; obtain ⟨l0, l1, l2, l3, l4⟩ := HP3.out.facts; clear f0 f1 f2 f3 f4))
          go_ret
          exact ⟨rfl, HP5.out.bel⟩
        | false =>
          have cSf := hid (cSe.out rfl)
          clear cSe
          go_wp2_with (first
            | (have hq := HP6; go_at_call 14; refine (HP6.out.is_ (i := 0) hTn HDW.out (by unfold I64; omega)).mono ?_; rintro e w5 ⟨rfl, h5⟩; have HP5 := hid h5; clear h5)
            | (have hq := HP4; go_at_call 17; refine (cSf.out _ HP4.out).mono ?_; rintro e w6 ⟨rfl, HP6⟩; obtain ⟨p0, p1, p2, p3, p4⟩ := HP6.out.facts; clear m0 m1 m2 m3 m4)
            | (have hq := HP3; go_at_call 16; refine (rIx.out _ HP3.out).mono ?_; rintro e w4 ⟨rfl, HP4⟩; obtain ⟨m0, m1, m2, m3, m4⟩ := HP4.out.facts; clear l0 l1 l2 l3 l4)
            | (go_at_call 15; refine (cIx.out _ HP.out).mono ?_; rintro e w3 ⟨rfl, HP3⟩; obtain ⟨l0, l1, l2, l3, l4⟩ := HP3.out.facts; clear f0 f1 f2 f3 f4))
          go_ret
          exact ⟨rfl, HP5.out.bel⟩
end Go.Proofs.Ytbpepmajpojacaa
