/- TreePlays: its walk. -/
import Derived.Test.YtplcohjpchfkkaaTrIs
import Derived.Test.YtplcohjpchfkkaaTrRMove
import Derived.Test.YtplcohjpchfkkaaTrSRow
import Derived.Deep.CutRange
import Derived.Deep.CutBlock
import Derived.BigQuiet
set_option linter.unusedVariables false
set_option linter.unusedSimpArgs false
namespace Go.Proofs.Ytplcohjpchfkkaa
open Go.RowKit

/-- What is there behind some moves: a tree, the document's tree in a box, the other dot in a box. -/
structure PLs (w wr : World) (wb t : Nat) (o1 o2 : Int) (la : Option Addr) (n1 lc : Nat) (sa : Option Addr) (ns sc : Nat) (ka : Option Addr) (nk kc : Nat) (l : List Mv) : Prop where
  tp : TP wr t l (fun j => j < w.heap.size + 1 ∨ j = wb ∨ B3 la n1 sa ns ka nk j)
  r3 : R3 wr la n1 lc sa ns sc ka nk kc l
  box : wr.heap[wb]? = some (.cells #[.slice la n1 lc, .slice sa ns sc, .slice ka nk kc] 31 (0, 0))
  ob : wr.heap[w.heap.size]? = some (.cells #[.int .i64 o1, .int .i64 o2] 24 (0, 0))
  bel : Below w.heap.size w wr
  wbl : w.heap.size + 1 ≤ wb
  nw : ∀ j, B3 la n1 sa ns ka nk j → j ≠ wb

/-- What is held against the document's, told once more. -/
theorem PLs.is {w wr : World} {wb t : Nat} {o1 o2 : Int} {la : Option Addr} {n1 lc : Nat} {sa : Option Addr} {ns sc : Nat} {ka : Option Addr} {nk kc : Nat} {l : List Mv} (h : PLs w wr wb t o1 o2 la n1 lc sa ns sc ka nk kc l) (hd : Dw (o1, o2)) (hn : n1 ≤ 900) : Calls Try.prog 13 #[.pointer (some ⟨t, 0, none⟩), .agg #[.slice la n1 lc, .slice sa ns sc, .slice ka nk kc], .agg #[.int .i64 o1, .int .i64 o2]] wr fun e V => e = .returned (.bool true) ∧ PLs w V wb t o1 o2 la n1 lc sa ns sc ka nk kc l := by
  refine (tris_any t la n1 lc sa ns sc ka nk kc l (o1, o2) _ wr h.tp h.r3 (fun j hj => Or.inr (Or.inr hj)) hd hn).mono (fun e V g => ?_)
  obtain ⟨g1, g2, g3⟩ := g
  refine ⟨g1, g2, h.r3.same g3.size (fun j hj => g3.keep j (Or.inr (Or.inr hj))), (g3.keep wb (Or.inr (Or.inl rfl))).trans h.box, (g3.keep w.heap.size (Or.inl (by omega))).trans h.ob, ?_, h.wbl, h.nw⟩
  exact ⟨g3.sm.1.trans h.bel.os, g3.sm.2.1.trans h.bel.tape, g3.sm.2.2.trans h.bel.output, Nat.le_trans h.bel.size g3.size, fun j hj => (g3.keep j (Or.inl (by omega))).trans (h.bel.block j hj)⟩

/-- The document's tree is another one: its box is written. -/
theorem PLs.turn {w wr X1 V1 : World} {wb t : Nat} {o1 o2 : Int} {la : Option Addr} {n1 lc : Nat} {sa : Option Addr} {ns sc : Nat} {ka : Option Addr} {nk kc : Nat} {la2 : Option Addr} {n2 lc2 : Nat} {sa2 : Option Addr} {ns2 sc2 : Nat} {ka2 : Option Addr} {nk2 kc2 : Nat} {l l2 : List Mv} (h : PLs w wr wb t o1 o2 la n1 lc sa ns sc ka nk kc l) (h1 : Below wr.heap.size wr X1) (h2 : Below X1.heap.size X1 V1) (hr : R3 V1 la2 n2 lc2 sa2 ns2 sc2 ka2 nk2 kc2 l2) (hb : ∀ j, B3 la2 n2 sa2 ns2 ka2 nk2 j → B3 la n1 sa ns ka nk j ∨ X1.heap.size ≤ j) {mb : Nat} (hmb : wr.heap.size ≤ mb ∧ mb < X1.heap.size) {X2 X3 : World} (hX2 : X2 = V1.alloc (.cells #[.slice la2 n2 lc2, .slice sa2 ns2 sc2, .slice ka2 nk2 kc2] 31)) (hX3 : X3 = ((X2.setCell ⟨wb, 0, none⟩ (.slice la2 n2 lc2)).setCell ⟨wb, 1, none⟩ (.slice sa2 ns2 sc2)).setCell ⟨wb, 2, none⟩ (.slice ka2 nk2 kc2)) :
    TP X3 t l (fun j => j < w.heap.size + 1 ∨ j = wb ∨ B3 la2 n2 sa2 ns2 ka2 nk2 j ∨ j = mb) ∧ R3 X3 la2 n2 lc2 sa2 ns2 sc2 ka2 nk2 kc2 l2 ∧ X3.heap[wb]? = some (.cells #[.slice la2 n2 lc2, .slice sa2 ns2 sc2, .slice ka2 nk2 kc2] 31 (0, 0)) ∧ X3.heap[w.heap.size]? = some (.cells #[.int .i64 o1, .int .i64 o2] 24 (0, 0)) ∧ X3.heap[mb]? = X1.heap[mb]? ∧ Below w.heap.size w X3 ∧ (∀ j, B3 la2 n2 sa2 ns2 ka2 nk2 j → j ≠ wb) := by
  have hwl := (Array.getElem?_eq_some_iff.1 h.box).1
  have hol := (Array.getElem?_eq_some_iff.1 h.ob).1
  have b12 : Below wr.heap.size wr V1 := h1.trans (h2.mono h1.size)
  have hb2 : Below V1.heap.size V1 X2 := by rw [hX2]; exact (Below.refl _ V1).alloc (Nat.le_refl _) _
  have bX2 : Below wr.heap.size wr X2 := b12.trans (hb2.mono b12.size)
  have hk3 : ∀ j, j ≠ wb → X3.heap[j]? = X2.heap[j]? := fun j hj => by
    rw [hX3]
    exact (Below.heap_setCell _ _ _ j (by simpa using hj)).trans ((Below.heap_setCell _ _ _ j (by simpa using hj)).trans (Below.heap_setCell _ _ _ j (by simpa using hj)))
  have hs3 : X2.heap.size ≤ X3.heap.size := by
    rw [hX3]
    exact Nat.le_trans (grownBy_setCell X2 wb 0 (.slice la2 n2 lc2)).size (Nat.le_trans (grownBy_setCell _ wb 1 (.slice sa2 ns2 sc2)).size (grownBy_setCell _ wb 2 (.slice ka2 nk2 kc2)).size)
  have hm3 : Sm X2 X3 := by rw [hX3]; exact ⟨rfl, rfl, rfl⟩
  have hsz1 := h1.size
  have hsz2 := h2.size
  have hsz3 := hb2.size
  have hlt2 : ∀ j, B3 la2 n2 sa2 ns2 ka2 nk2 j → j < V1.heap.size := fun j hj => hr.lt hj
  have hnb : ∀ j, B3 la2 n2 sa2 ns2 ka2 nk2 j → j ≠ wb := fun j hj e => by
    rcases hb j hj with h' | h'
    · exact h.nw j h' e
    · omega
  refine ⟨h.tp.turn (by omega) (fun j hj hP => (hk3 j (fun e => hP (Or.inr (Or.inl e)))).trans (bX2.block j hj)) (fun j hj => ?_), (hr.below hb2).same hs3 (fun j hj => hk3 j (hnb j hj)), ?_, (hk3 _ (by have := h.wbl; omega)).trans ((bX2.block _ hol).trans h.ob), (hk3 mb (by omega)).trans ((hb2.block mb (by omega)).trans (h2.block mb hmb.2)), ?_, hnb⟩
  · rcases hj with hj | hj | hj | hj
    · exact Or.inl (Or.inl hj)
    · exact Or.inl (Or.inr (Or.inl hj))
    · rcases hb j hj with h' | h'
      · exact Or.inl (Or.inr (Or.inr h'))
      · have := hlt2 j hj
        exact Or.inr ⟨by omega, by omega⟩
    · subst hj
      exact Or.inr ⟨hmb.1, by omega⟩
  · have e := (bX2.block wb hwl).trans h.box
    rw [hX3]
    have := set_blk (j := 2) (set_blk (j := 1) (set_blk (j := 0) e (.slice la2 n2 lc2)) (.slice sa2 ns2 sc2)) (.slice ka2 nk2 kc2)
    simpa using this
  · have hB := h.bel.trans (bX2.mono h.bel.size)
    have hwb := h.wbl
    exact ⟨hm3.1.trans hB.os, hm3.2.1.trans hB.tape, hm3.2.2.trans hB.output, Nat.le_trans hB.size hs3, fun j hj => (hk3 j (by omega)).trans (hB.block j hj)⟩

set_option maxRecDepth 100000 in
set_option maxHeartbeats 8000000 in
theorem tplays_walk (a : Option Addr) (n c : Nat) (L : List Mv) (ot : Dt) (w : World) (hL : MvS w a n c L) (hf : ∀ m ∈ L, m.Fits) (hd : Dw ot) :
    Calls Try.prog 3 #[.slice a n c, dv ot] w fun e w' => e = .returned (.bool true) ∧ Below w.heap.size w w' := by
  obtain ⟨o1, o2⟩ := ot
  have hmxo : Try.prog.follows .mixedOrders = true := by kernel_rfl
  have mixed := mixed
  obtain ⟨W0, hW0⟩ : ∃ W0, W0 = w.alloc (.cells #[.int .i64 o1, .int .i64 o2] 24) := ⟨_, rfl⟩
  have hB0 : Below w.heap.size w W0 := by rw [hW0]; exact (Below.refl _ w).alloc (Nat.le_refl _) _
  have hz0 : W0.heap.size = w.heap.size + 1 := by rw [hW0]; simp
  have hob : W0.heap[w.heap.size]? = some (.cells #[.int .i64 o1, .int .i64 o2] 24 (0, 0)) := by rw [hW0]; exact World.alloc_heap_new w _
  have haw := tawake_any W0
  have HNew : Hid (∀ V, Below W0.heap.size W0 V → Calls Try.prog 10 #[] V fun e V' => ∃ t, e = .returned (.pointer (some ⟨t, 0, none⟩)) ∧ Hid (TP V' t [] (fun j => j < W0.heap.size) ∧ Below W0.heap.size W0 V')) := hid (fun V hV => (new_tp V).mono (fun e V' h => ⟨_, h.1, hid ⟨h.2.1.mono (fun j hj => Nat.lt_of_lt_of_le hj hV.size), hV.trans (h.2.2.mono hV.size)⟩⟩))
  have hnc := hL.cap
  have hcx := hL.max
  unfold maxLen at hcx
  have HLlen := hid hL.len
  have HL := hid hL
  have HFi := hid hf
  have HDo := hid hd
  have HB0 := hid hB0
  have HOB := hid hob
  have Hz0 := hid hz0
  clear hL hf hd hB0 hob hz0
  show Calls Try.prog 3 #[.slice a n c, .agg #[.int .i64 o1, .int .i64 o2]] w _
  go_enter Try.func3, Try.ntmps3
  go_upto_region 6 with (first
    | (go_at_call 9; rw [← hW0]; refine haw.mono ?_; rintro e w1 ⟨rfl, h1⟩)
    | (go_at_call 10; refine (HNew.out _ h1).mono ?_; rintro e w2 ⟨t, rfl, H2⟩))
  clear haw HNew h1
  obtain ⟨W3, hW3⟩ : ∃ W3, W3 = w2.alloc (.cells #[.slice none 0 0, .slice none 0 0, .slice none 0 0] 31) := ⟨_, rfl⟩
  rw [← hW3]
  obtain ⟨wb, hwb⟩ : ∃ wb, wb = w2.heap.size := ⟨_, rfl⟩
  rw [← hwb]
  have H3 : Hid (PLs w W3 wb t o1 o2 none 0 0 none 0 0 none 0 0 []) := hid (by
    have hb3 : Below w2.heap.size w2 W3 := by rw [hW3]; exact (Below.refl _ w2).alloc (Nat.le_refl _) _
    have hB2 := H2.out.2
    have hz := Hz0.out
    have hw2 := hB2.size
    have hB : Below w.heap.size w W3 := (HB0.out.trans (hB2.mono HB0.out.size)).trans (hb3.mono (by omega))
    refine ⟨H2.out.1.turn hb3.size (fun j hj _ => hb3.block j hj) (fun j hj => ?_), ⟨⟨rfl, Nat.le_refl _, Nat.zero_le _, fun _ => ⟨rfl, rfl⟩, fun hp => absurd hp (by omega)⟩, ⟨rfl, Nat.le_refl _, Nat.zero_le _, fun _ => ⟨rfl, rfl⟩, fun hp => absurd hp (by omega)⟩, by simpa [tkL, dnP] using PS.none W3⟩, by rw [hW3, hwb]; exact World.alloc_heap_new w2 _, (hb3.block _ (by omega)).trans ((hB2.block _ (by omega)).trans HOB.out), hB, by omega, fun j hj => by rcases hj with ⟨h, _⟩ | ⟨h, _⟩ | ⟨h, _⟩ <;> omega⟩
    rcases hj with hj | hj | hj
    · exact Or.inl (by omega)
    · subst hj
      refine Or.inr ⟨by omega, ?_⟩
      rw [hW3, hwb]
      simp
    · rcases hj with ⟨h, _⟩ | ⟨h, _⟩ | ⟨h, _⟩ <;> omega)
  clear hW3 hwb H2 hW0
  go_wp2_with fail
  go_loopw [8] (fun i wr => ∃ (k : Nat) (la : Option Addr) (n1 lc : Nat) (sa : Option Addr) (ns sc : Nat) (ka : Option Addr) (nk kc : Nat), k ≤ n ∧ k ≤ 25 ∧ n1 ≤ 60 ∧ i = .int .i64 k ∧ Hid (PLs w wr wb t o1 o2 la n1 lc sa ns sc ka nk kc (tr (L.take k)))) (fun i _ => n - (intOf i).toNat)
  case atStart => exact ⟨0, none, 0, 0, none, 0, 0, none, 0, 0, by omega, by omega, by omega, rfl, by simpa [tr] using H3⟩
  case round =>
    clear H3
    obtain ⟨k, la, n1, lc, sa, ns, sc, ka, nk, kc, hk, hk25, hn1, rfl, HS⟩ := hrel
    by_cases hlt : k < n ∧ k < 25
    · obtain ⟨hk1, hk2⟩ := hlt
      have hb1 : decide ((k : Int) < (n : Int)) = true := by simp [hk1]
      have hb2 : decide ((k : Int) < 25) = true := by simp; omega
      obtain ⟨m, hm⟩ : ∃ m, L[k]? = some m := ⟨_, List.getElem?_eq_getElem (by rw [HLlen.out]; exact hk1)⟩
      have hmf : m.Fits := HFi.out m (List.mem_of_getElem? hm)
      obtain ⟨⟨i1, i2⟩, tm, ⟨b1, b2⟩, ⟨p1, p2⟩, ky⟩ := m
      have HMX : Hid (tr (L.take (k + 1)) = mvL (tr (L.take k)) (⟨(i1, i2), tm, (b1, b2), (p1, p2), ky⟩ : Mv)) := hid (by rw [← tr_snoc, List.take_succ_eq_append_getElem (by rw [HLlen.out]; exact hk1), (List.getElem?_eq_some_iff.1 hm).2])
      obtain ⟨g, o, rfl, hg, hcl⟩ := HL.out.look hm
      obtain ⟨l0, hl0⟩ : ∃ l0, l0 = tr (L.take k) := ⟨_, rfl⟩
      rw [← hl0] at HS HMX
      have hll : l0.length ≤ 25 := by rw [hl0]; have := tr_len (L.take k); rw [List.length_take] at this; omega
      obtain ⟨f0, f1, f2, f3, f4, f5, f6, f7⟩ := hcl wr (HS.out.bel.block g hg)
      have HMF := hid hmf
      clear hm hmf hcl hg hl0
      have hkq : (k : Int) < (n : Int) := by omega
      go_upto_region 10 with fail
      obtain ⟨X1, hX1⟩ : ∃ X1, X1 = wr.alloc (.cells #[.int .i64 i1, .int .i64 i2, .int .i64 tm, .int .i64 b1, .int .i64 b2, .int .i64 p1, .int .i64 p2, .string ky] 33) := ⟨_, rfl⟩
      rw [← hX1]
      obtain ⟨mb, hmb⟩ : ∃ mb, mb = wr.heap.size := ⟨_, rfl⟩
      rw [← hmb]
      have hbX1 : Below wr.heap.size wr X1 := by rw [hX1]; exact (Below.refl _ wr).alloc (Nat.le_refl _) _
      have hmbx : X1.heap[mb]? = some (.cells #[.int .i64 i1, .int .i64 i2, .int .i64 tm, .int .i64 b1, .int .i64 b2, .int .i64 p1, .int .i64 p2, .string ky] 33 (0, 0)) := by rw [hX1, hmb]; exact World.alloc_heap_new wr _
      have hml := (Array.getElem?_eq_some_iff.1 hmbx).1
      have ebx := (hbX1.block wb (Array.getElem?_eq_some_iff.1 HS.out.box).1).trans HS.out.box
      have x0 : X1.cell? ⟨wb, 0, none⟩ = some (.slice la n1 lc) := by simp [World.cell?, ebx]
      have x1 : X1.cell? ⟨wb, 1, none⟩ = some (.slice sa ns sc) := by simp [World.cell?, ebx]
      have x2 : X1.cell? ⟨wb, 2, none⟩ = some (.slice ka nk kc) := by simp [World.cell?, ebx]
      have m0 : X1.cell? ⟨mb, 0, none⟩ = some (.int .i64 i1) := by simp [World.cell?, hmbx]
      have m1 : X1.cell? ⟨mb, 1, none⟩ = some (.int .i64 i2) := by simp [World.cell?, hmbx]
      have m2 : X1.cell? ⟨mb, 2, none⟩ = some (.int .i64 tm) := by simp [World.cell?, hmbx]
      have m3 : X1.cell? ⟨mb, 3, none⟩ = some (.int .i64 b1) := by simp [World.cell?, hmbx]
      have m4 : X1.cell? ⟨mb, 4, none⟩ = some (.int .i64 b2) := by simp [World.cell?, hmbx]
      have m5 : X1.cell? ⟨mb, 5, none⟩ = some (.int .i64 p1) := by simp [World.cell?, hmbx]
      have m6 : X1.cell? ⟨mb, 6, none⟩ = some (.int .i64 p2) := by simp [World.cell?, hmbx]
      have m7 : X1.cell? ⟨mb, 7, none⟩ = some (.string ky) := by simp [World.cell?, hmbx]
      obtain ⟨E, hE⟩ : ∃ E, E = mvE l0 (⟨(i1, i2), tm, (b1, b2), (p1, p2), ky⟩ : Mv) := ⟨_, rfl⟩
      have HRM : Calls Try.prog 11 #[.agg #[.slice la n1 lc, .slice sa ns sc, .slice ka nk kc], .agg #[.int .i64 i1, .int .i64 i2, .int .i64 tm, .int .i64 b1, .int .i64 b2, .int .i64 p1, .int .i64 p2, .string ky]] X1 fun e V => ∃ la2 n2 lc2 sa2 ns2 sc2 ka2 nk2 kc2, e = .returned (.tuple #[.agg #[.slice la2 n2 lc2, .slice sa2 ns2 sc2, .slice ka2 nk2 kc2], .int .i64 E]) ∧ Hid (R3 V la2 n2 lc2 sa2 ns2 sc2 ka2 nk2 kc2 (mvL l0 (⟨(i1, i2), tm, (b1, b2), (p1, p2), ky⟩ : Mv)) ∧ Below X1.heap.size X1 V ∧ ∀ j, B3 la2 n2 sa2 ns2 ka2 nk2 j → B3 la n1 sa ns ka nk j ∨ X1.heap.size ≤ j) := (trmove_any la n1 lc sa ns sc ka nk kc l0 (⟨(i1, i2), tm, (b1, b2), (p1, p2), ky⟩ : Mv) X1 (HS.out.r3.below hbX1) (by omega)).mono (fun e V h => by
        obtain ⟨la2, n2, lc2, sa2, ns2, sc2, ka2, nk2, kc2, h1, h2, h3, h4⟩ := h
        exact ⟨la2, n2, lc2, sa2, ns2, sc2, ka2, nk2, kc2, by rw [h1, hE], hid ⟨h2, h3, h4⟩⟩)
      have HX := hid (And.intro hbX1 (And.intro hmbx (And.intro hml hmb)))
      have HE := hid hE
      clear hX1 hbX1 hmbx ebx hml hmb f0 f1 f2 f3 f4 f5 f6 f7 hE
      go_upto_region 11 with (go_at_call 11; refine HRM.mono ?_; rintro e V1 ⟨la2, n2, lc2, sa2, ns2, sc2, ka2, nk2, kc2, rfl, Q1⟩)
      clear HRM x0 x1 x2 m0 m1 m2 m3 m4 m5 m6 m7
      obtain ⟨X2, hX2⟩ : ∃ X2, X2 = V1.alloc (.cells #[.slice la2 n2 lc2, .slice sa2 ns2 sc2, .slice ka2 nk2 kc2] 31) := ⟨_, rfl⟩
      rw [← hX2]
      obtain ⟨xb, hxb⟩ : ∃ xb, xb = V1.heap.size := ⟨_, rfl⟩
      rw [← hxb]
      have hb2' : Below V1.heap.size V1 X2 := by rw [hX2]; exact (Below.refl _ V1).alloc (Nat.le_refl _) _
      have hxx : X2.heap[xb]? = some (.cells #[.slice la2 n2 lc2, .slice sa2 ns2 sc2, .slice ka2 nk2 kc2] 31 (0, 0)) := by rw [hX2, hxb]; exact World.alloc_heap_new V1 _
      have x0 : X2.cell? ⟨xb, 0, none⟩ = some (.slice la2 n2 lc2) := by simp [World.cell?, hxx]
      have x1 : X2.cell? ⟨xb, 1, none⟩ = some (.slice sa2 ns2 sc2) := by simp [World.cell?, hxx]
      have x2 : X2.cell? ⟨xb, 2, none⟩ = some (.slice ka2 nk2 kc2) := by simp [World.cell?, hxx]
      have ew : X2.heap[wb]? = some (.cells #[.slice la n1 lc, .slice sa ns sc, .slice ka nk kc] 31 (0, 0)) := by
        have h1 := (Array.getElem?_eq_some_iff.1 HS.out.box).1
        have h2 := HX.out.1.size
        have h3 := Q1.out.2.1.size
        exact (hb2'.block wb (by omega)).trans ((Q1.out.2.1.block wb (by omega)).trans ((HX.out.1.block wb h1).trans HS.out.box))
      have y0 : X2.cell? ⟨wb, 0, none⟩ = some (.slice la n1 lc) := by simp [World.cell?, ew]
      have y1 : X2.cell? ⟨wb, 1, none⟩ = some (.slice sa ns sc) := by simp [World.cell?, ew]
      have y2 : X2.cell? ⟨wb, 2, none⟩ = some (.slice ka nk kc) := by simp [World.cell?, ew]
      have z0 : X2.frozen? ⟨wb, 0, none⟩ = false := by simp [World.frozen?, ew]
      have z1 : X2.frozen? ⟨wb, 1, none⟩ = false := by simp [World.frozen?, ew]
      have z2 : X2.frozen? ⟨wb, 2, none⟩ = false := by simp [World.frozen?, ew]
      obtain ⟨X3, hX3⟩ : ∃ X3, X3 = ((X2.setCell ⟨wb, 0, none⟩ (.slice la2 n2 lc2)).setCell ⟨wb, 1, none⟩ (.slice sa2 ns2 sc2)).setCell ⟨wb, 2, none⟩ (.slice ka2 nk2 kc2) := ⟨_, rfl⟩
      have HTU := hid (HS.out.turn HX.out.1 Q1.out.2.1 Q1.out.1 Q1.out.2.2 (mb := mb) ⟨by rw [HX.out.2.2.2]; exact Nat.le_refl _, HX.out.2.2.1⟩ hX2 hX3)
      clear hX2 hxb hb2' hxx ew
      go_upto_region 12 with fail
      rw [← hX3]
      clear hX3 x0 x1 x2 y0 y1 y2 z0 z1 z2
      obtain ⟨P3, hP3⟩ : ∃ P3 : Nat → Prop, P3 = (fun j => j < w.heap.size + 1 ∨ j = wb ∨ B3 la2 n2 sa2 ns2 ka2 nk2 j ∨ j = mb) := ⟨_, rfl⟩
      have HMB : Hid (∀ V, KP P3 X3 V → V.heap[mb]? = some (.cells #[.int .i64 i1, .int .i64 i2, .int .i64 tm, .int .i64 b1, .int .i64 b2, .int .i64 p1, .int .i64 p2, .string ky] 33 (0, 0))) := hid (fun V hV => (hV.keep mb (by rw [hP3]; exact Or.inr (Or.inr (Or.inr rfl)))).trans (HTU.out.2.2.2.2.1.trans HX.out.2.1))
      have ebm := HMB.out X3 (KP.refl _ _)
      have m0 : X3.cell? ⟨mb, 0, none⟩ = some (.int .i64 i1) := by simp [World.cell?, ebm]
      have m1 : X3.cell? ⟨mb, 1, none⟩ = some (.int .i64 i2) := by simp [World.cell?, ebm]
      have m2 : X3.cell? ⟨mb, 2, none⟩ = some (.int .i64 tm) := by simp [World.cell?, ebm]
      have m3 : X3.cell? ⟨mb, 3, none⟩ = some (.int .i64 b1) := by simp [World.cell?, ebm]
      have m4 : X3.cell? ⟨mb, 4, none⟩ = some (.int .i64 b2) := by simp [World.cell?, ebm]
      have m5 : X3.cell? ⟨mb, 5, none⟩ = some (.int .i64 p1) := by simp [World.cell?, ebm]
      have m6 : X3.cell? ⟨mb, 6, none⟩ = some (.int .i64 p2) := by simp [World.cell?, ebm]
      have m7 : X3.cell? ⟨mb, 7, none⟩ = some (.string ky) := by simp [World.cell?, ebm]
      have HMv : Calls Try.prog 12 #[.pointer (some ⟨t, 0, none⟩), .agg #[.int .i64 i1, .int .i64 i2], .int .i64 tm, .agg #[.int .i64 b1, .int .i64 b2], .agg #[.int .i64 p1, .int .i64 p2], .string ky] X3 fun e V => e = .returned (.int .i64 E) ∧ Hid (PLs w V wb t o1 o2 la2 n2 lc2 sa2 ns2 sc2 ka2 nk2 kc2 (tr (L.take (k + 1)))) := (move_tp (⟨(i1, i2), tm, (b1, b2), (p1, p2), ky⟩ : Mv) HTU.out.1 ⟨HMF.out.id, HMF.out.block, HMF.out.parent⟩ (by omega)).mono (fun e V h => by
        obtain ⟨h1, h2, h3⟩ := h
        obtain ⟨_, u2, u3, u4, _, u6, u7⟩ := HTU.out
        rw [HMX.out]
        refine ⟨by rw [h1, HE.out], hid ⟨h2.mono (fun j hj => by rcases hj with hj | hj | hj; exact Or.inl hj; exact Or.inr (Or.inl hj); exact Or.inr (Or.inr (Or.inl hj))), u2.same h3.size (fun j hj => h3.keep j (Or.inr (Or.inr (Or.inl hj)))), (h3.keep wb (Or.inr (Or.inl rfl))).trans u3, (h3.keep w.heap.size (Or.inl (by omega))).trans u4, ?_, HS.out.wbl, u7⟩⟩
        exact ⟨h3.sm.1.trans u6.os, h3.sm.2.1.trans u6.tape, h3.sm.2.2.trans u6.output, Nat.le_trans u6.size h3.size, fun j hj => (h3.keep j (Or.inl (by omega))).trans (u6.block j hj)⟩)
      have HN2 : Hid (n2 ≤ 60) := hid (by have h1 := Q1.out.1.mv.len; have h2 := mvL_len l0 (⟨(i1, i2), tm, (b1, b2), (p1, p2), ky⟩ : Mv); omega)
      have hn2 : n2 ≤ 60 := HN2.out
      have HCB : Hid (∀ V, (PLs w V wb t o1 o2 la2 n2 lc2 sa2 ns2 sc2 ka2 nk2 kc2 (tr (L.take (k + 1)))) → (V.cell? ⟨wb, 0, none⟩ = some (.slice la2 n2 lc2) ∧ V.cell? ⟨wb, 1, none⟩ = some (.slice sa2 ns2 sc2) ∧ V.cell? ⟨wb, 2, none⟩ = some (.slice ka2 nk2 kc2) ∧ V.cell? ⟨w.heap.size, 0, none⟩ = some (.int .i64 o1) ∧ V.cell? ⟨w.heap.size, 1, none⟩ = some (.int .i64 o2))) := hid (fun V hV => by
        have e1 := hV.box
        have e2 := hV.ob
        exact ⟨by simp [World.cell?, e1], by simp [World.cell?, e1], by simp [World.cell?, e1], by simp [World.cell?, e2], by simp [World.cell?, e2]⟩)
      have HIs : Hid (∀ V, (PLs w V wb t o1 o2 la2 n2 lc2 sa2 ns2 sc2 ka2 nk2 kc2 (tr (L.take (k + 1)))) → Calls Try.prog 13 #[.pointer (some ⟨t, 0, none⟩), .agg #[.slice la2 n2 lc2, .slice sa2 ns2 sc2, .slice ka2 nk2 kc2], .agg #[.int .i64 o1, .int .i64 o2]] V fun e V' => e = .returned (.bool true) ∧ Hid (PLs w V' wb t o1 o2 la2 n2 lc2 sa2 ns2 sc2 ka2 nk2 kc2 (tr (L.take (k + 1))))) := hid (fun V hV => (hV.is HDo.out (by omega)).mono (fun e V' g => ⟨g.1, hid g.2⟩))
      clear ebm hP3 HMB
      go_wp2_with (first
        | (go_at_call 13; refine (HIs.out _ S4.out).mono ?_; rintro e V5 ⟨rfl, S5⟩)
        | (go_at_call 12; refine HMv.mono ?_; rintro e V4 ⟨rfl, S4⟩; obtain ⟨y0, y1, y2, y3, y4⟩ := HCB.out _ S4.out))
      go_roundw
      case rel => exact ⟨k + 1, la2, n2, lc2, sa2, ns2, sc2, ka2, nk2, kc2, by omega, by omega, by omega, by go_num, S5⟩
      case measure => simp [intOf]; omega
    · go_upto_region 7 with fail
      go_cut [23] from 16 to 23 (fun s wc => s = .bool false ∧ wr = wc)
      case first =>
        by_cases hk1 : k < n
        · have hb1 : decide ((k : Int) < (n : Int)) = true := by simp [hk1]
          have h60 : 25 ≤ k := by omega
          have hb2 : decide ((k : Int) < 25) = false := by simp; omega
          go_wp2_with fail
          go_meet
          case rel => exact ⟨by first | rfl | (simp; omega), rfl⟩
        · have hkn : n ≤ k := by omega
          have hb1 : decide ((k : Int) < (n : Int)) = false := by simp; omega
          go_wp2_with fail
          go_meet
          case rel => exact ⟨rfl, rfl⟩
      case rest =>
        obtain ⟨rfl, rfl⟩ := hcut
        have HIs := HS.out.is HDo.out (by omega)
        have ebx := HS.out.box
        have eob := HS.out.ob
        have x0 : wr.cell? ⟨wb, 0, none⟩ = some (.slice la n1 lc) := by simp [World.cell?, ebx]
        have x1 : wr.cell? ⟨wb, 1, none⟩ = some (.slice sa ns sc) := by simp [World.cell?, ebx]
        have x2 : wr.cell? ⟨wb, 2, none⟩ = some (.slice ka nk kc) := by simp [World.cell?, ebx]
        have y0 : wr.cell? ⟨w.heap.size, 0, none⟩ = some (.int .i64 o1) := by simp [World.cell?, eob]
        have y1 : wr.cell? ⟨w.heap.size, 1, none⟩ = some (.int .i64 o2) := by simp [World.cell?, eob]
        clear ebx eob HS
        go_wp2_with (go_at_call 13; refine HIs.mono ?_; rintro e V1 ⟨rfl, S1⟩)
        go_ret
        exact ⟨rfl, S1.bel⟩
end Go.Proofs.Ytplcohjpchfkkaa
