/- A block that holds an operation; the state of Take; what takeParts does. -/
import Derived.Test.YthipadnghdodlaaOText
import Derived.Test.YthipadnghdodlaaOCheck
import Derived.Deep.CutBlock
import Derived.Deep.CutRange
namespace Go.Proofs.Ythipadnghdodlaa
open Go.RowKit
open Go.Sort (grow)

/-- Block q holds just these cells. -/
def Blk (w : World) (q : Nat) (cs : Array Value) : Prop := w.heap[q]? = some (.cells cs 27 (0, 0))

theorem Blk.cell {w : World} {q : Nat} {cs : Array Value} (h : Blk w q cs) {i : Nat} {v : Value} (hi : cs[i]? = some v) : w.cell? ⟨q, i, none⟩ = some v := by
  unfold Blk at h
  simp [World.cell?, h, hi]

theorem Blk.lt {w : World} {q : Nat} {cs : Array Value} (h : Blk w q cs) : q < w.heap.size := by
  rcases Nat.lt_or_ge q w.heap.size with h' | h'
  · exact h'
  · unfold Blk at h; rw [Array.getElem?_eq_none h'] at h; cases h

theorem Blk.frozen {w : World} {q : Nat} {cs : Array Value} (h : Blk w q cs) (i : Nat) : w.frozen? ⟨q, i, none⟩ = false := frozen_of_row w q i _ 27 h

theorem Blk.opAt {w : World} {q : Nat} {o : OpIn} {v : Value} (h : Blk w q (o.cells v)) : OpAt w q o v :=
  ⟨h.cell rfl, h.cell rfl, h.cell rfl, h.cell rfl, h.cell rfl, h.cell rfl, h.cell rfl, h.cell rfl, h.cell rfl, h.cell rfl, h.cell rfl, h.cell rfl, h.cell rfl, h.cell rfl⟩

theorem Blk.set {w : World} {q : Nat} {cs : Array Value} (h : Blk w q cs) (i : Nat) (v : Value) : Blk (w.setCell ⟨q, i, none⟩ v) q (cs.setIfInBounds i v) := heap_setCell_same w q i _ 27 v h

theorem blk_alloc (w : World) (cs : Array Value) : Blk (w.alloc (.cells cs 27)) w.heap.size cs := by
  show (w.heap.push (.cells cs 27))[w.heap.size]? = _
  simp

theorem Blk.same {w w' : World} {q : Nat} {cs : Array Value} (h : Blk w q cs) (e : w'.heap[q]? = w.heap[q]?) : Blk w' q cs := by
  unfold Blk at *
  rw [e]; exact h

/-- The empty operation. -/
def zer : OpIn := ⟨0, 0, 0, 0, 0, 0, 0, 0, 0, 0, 0, 0, { data := #[] }⟩

/-- A slice of dots while another block turns. -/
theorem PS.other {w w' : World} {a : Option Addr} {n c : Nat} {V : List Dt} (h : PS w a n c V) (he : ∀ ad, a = some ad → ad.block < w.heap.size → w'.heap[ad.block]? = w.heap[ad.block]?) : PS w' a n c V :=
  ⟨h.len, h.cap, h.max, h.nil, fun ad ha j u hj => by
    have hc := h.cells ad ha j u hj
    have hb : (ad.add j).block = ad.block := by unfold Addr.add; split <;> rfl
    have hl := cell_in hc
    rw [World.cell?_of_block (w := w) (by rw [hb]; exact he ad ha (by rw [hb] at hl; exact hl))]
    exact hc⟩

/-- Take under way: the operation in its block, the empty one in the result's, the reader. -/
structure St (w wi : World) (b z : Nat) (o : OpIn) (a : Option Addr) (n c : Nat) (V : List Dt) (L : List Int) (e : Int) : Prop where
  r : Rdr wi b z L e
  o : Blk wi (w.heap.size + 1) (o.cells (.slice a n c))
  k : Blk wi w.heap.size (zer.cells (.slice none 0 0))
  g : w.grownBy wi (some b)
  hb : b < w.heap.size
  hz : z < w.heap.size
  p : PS wi a n c V
  new : ∀ ad, a = some ad → w.heap.size + 1 < ad.block

section
variable {w wi w' : World} {b z n c n' c' : Nat} {o o' : OpIn} {a a' : Option Addr} {V V' : List Dt} {L L' : List Int} {e e' : Int}

theorem St.call (h : St w wi b z o a n c V L e) (R : Rdr w' b z L' e') (G : wi.grownBy w' (some b)) : St w w' b z o a n c V L' e' := by
  have hb := h.hb
  refine ⟨R, h.o.same ?_, h.k.same ?_, gb_trans h.g G, h.hb, h.hz, h.p.other fun ad ha hl => ?_, h.new⟩
  · exact G.block _ h.o.lt (by simp; omega)
  · exact G.block _ h.k.lt (by simp; omega)
  · have := h.new ad ha
    exact G.block _ hl (by simp; omega)

/-- The operation's own block is written. -/
theorem St.upd (h : St w wi b z o a n c V L e) (hO : Only (w.heap.size + 1) wi w') (hB : Blk w' (w.heap.size + 1) (o'.cells (.slice a n c))) : St w w' b z o' a n c V L e := by
  have hb := h.hb
  have hz := h.hz
  refine ⟨h.r.only hO (by omega) (by omega), hB, h.k.same (hO.block _ (by omega)), ⟨hO.os.trans h.g.os, hO.tape.trans h.g.tape, hO.output.trans h.g.output, by rw [hO.size]; exact h.g.size, fun k hk hne => ?_⟩, h.hb, h.hz, h.p.other fun ad ha _ => ?_, h.new⟩
  · rw [hO.block k (by omega)]
    exact h.g.block k hk hne
  · have := h.new ad ha
    exact hO.block _ (by omega)

theorem st_start (h : Rdr w b z L e) (hz : z < w.heap.size) : St w ((w.alloc (.cells #[.int .i64 0, .int .i64 0, .int .i64 0, .slice none 0 0, .int .i64 0, .int .i64 0, .int .i64 0, .int .i64 0, .int .i64 0, .int .i64 0, .int .i64 0, .int .i64 0, .int .i64 0, .string { data := #[] }] 27)).alloc (.cells #[.int .i64 0, .int .i64 0, .int .i64 0, .slice none 0 0, .int .i64 0, .int .i64 0, .int .i64 0, .int .i64 0, .int .i64 0, .int .i64 0, .int .i64 0, .int .i64 0, .int .i64 0, .string { data := #[] }] 27)) b z zer none 0 0 [] L e := by
  have hB : RowKit.Below w.heap.size w ((w.alloc (.cells #[.int .i64 0, .int .i64 0, .int .i64 0, .slice none 0 0, .int .i64 0, .int .i64 0, .int .i64 0, .int .i64 0, .int .i64 0, .int .i64 0, .int .i64 0, .int .i64 0, .int .i64 0, .string { data := #[] }] 27)).alloc (.cells #[.int .i64 0, .int .i64 0, .int .i64 0, .slice none 0 0, .int .i64 0, .int .i64 0, .int .i64 0, .int .i64 0, .int .i64 0, .int .i64 0, .int .i64 0, .int .i64 0, .int .i64 0, .string { data := #[] }] 27)) := ((Below.refl _ w).alloc (Nat.le_refl _) _).alloc (by simp) _
  refine ⟨h.below hB, ?_, ?_, ?_, h.lt, hz, PS.none _, fun ad ha => by cases ha⟩
  · have := blk_alloc (w.alloc (.cells #[.int .i64 0, .int .i64 0, .int .i64 0, .slice none 0 0, .int .i64 0, .int .i64 0, .int .i64 0, .int .i64 0, .int .i64 0, .int .i64 0, .int .i64 0, .int .i64 0, .int .i64 0, .string { data := #[] }] 27)) #[.int .i64 0, .int .i64 0, .int .i64 0, .slice none 0 0, .int .i64 0, .int .i64 0, .int .i64 0, .int .i64 0, .int .i64 0, .int .i64 0, .int .i64 0, .int .i64 0, .int .i64 0, .string { data := #[] }]
    rw [World.size_alloc] at this
    exact this
  · exact (blk_alloc w #[.int .i64 0, .int .i64 0, .int .i64 0, .slice none 0 0, .int .i64 0, .int .i64 0, .int .i64 0, .int .i64 0, .int .i64 0, .int .i64 0, .int .i64 0, .int .i64 0, .int .i64 0, .string { data := #[] }]).same (Below.heap_alloc _ _ _ (by simp))
  · exact ⟨hB.os, hB.tape, hB.output, hB.size, fun k hk _ => hB.block k hk⟩
end

/-- What is read of a kind's parts: At, Side, Char, Parent, Key; what is left, the error. -/
def prt (k : Int) (L : List Int) (e : Int) : (Dt × Int × Int × Dt × ByteArray) × List Int × Int :=
  if k = 1 then (((tk L e).1, dint (dec (tk L e).2.1 (tk L e).2.2).1, dint (dec (dec (tk L e).2.1 (tk L e).2.2).2.1 (dec (tk L e).2.1 (tk L e).2.2).2.2).1, (0, 0), { data := #[] }), (dec (dec (tk L e).2.1 (tk L e).2.2).2.1 (dec (tk L e).2.1 (tk L e).2.2).2.2).2)
  else if k = 2 then (((tk L e).1, 0, 0, (0, 0), { data := #[] }), (tk L e).2)
  else if k = 3 then (((0, 0), 0, 0, (tk L e).1, strOfNums (rtx (tk L e).2.1 (tk L e).2.2).1), (rtx (tk L e).2.1 (tk L e).2.2).2)
  else (((0, 0), 0, 0, (0, 0), { data := #[] }), L, e)

/-- The head of an operation, with its parts. -/
def mko (d : Dt) (t k : Int) (g : Dt) (p : Dt × Int × Int × Dt × ByteArray) : OpIn := ⟨d.1, d.2, t, k, g.1, g.2, p.1.1, p.1.2, p.2.1, p.2.2.1, p.2.2.2.1.1, p.2.2.2.1.2, p.2.2.2.2⟩

/-- No parts. -/
def np : Dt × Int × Int × Dt × ByteArray := ((0, 0), 0, 0, (0, 0), { data := #[] })

theorem only2 (w : World) (q i j : Nat) (x y : Value) : Only q w ((w.setCell ⟨q, i, none⟩ x).setCell ⟨q, j, none⟩ y) := ((Only.refl q w).setCell i x).setCell j y
theorem only1 (w : World) (q i : Nat) (x : Value) : Only q w (w.setCell ⟨q, i, none⟩ x) := (Only.refl q w).setCell i x

theorem prt_ins {k : Int} {L : List Int} {e : Int} (hk : k = 1) : prt k L e = (((tk L e).1, dint (dec (tk L e).2.1 (tk L e).2.2).1, dint (dec (dec (tk L e).2.1 (tk L e).2.2).2.1 (dec (tk L e).2.1 (tk L e).2.2).2.2).1, (0, 0), { data := #[] }), (dec (dec (tk L e).2.1 (tk L e).2.2).2.1 (dec (tk L e).2.1 (tk L e).2.2).2.2).2) := by simp [prt, hk]
theorem prt_del {k : Int} {L : List Int} {e : Int} (hk : k = 2) : prt k L e = (((tk L e).1, 0, 0, (0, 0), { data := #[] }), (tk L e).2) := by simp [prt, hk]
theorem prt_mov {k : Int} {L : List Int} {e : Int} (hk : k = 3) : prt k L e = (((0, 0), 0, 0, (tk L e).1, strOfNums (rtx (tk L e).2.1 (tk L e).2.2).1), (rtx (tk L e).2.1 (tk L e).2.2).2) := by simp [prt, hk]
theorem prt_no {k : Int} {L : List Int} {e : Int} (h1 : k ≠ 1) (h2 : k ≠ 2) (h3 : k ≠ 3) : prt k L e = (np, L, e) := by simp [prt, h1, h2, h3, np]

/-- The cells of a kind's parts, behind a call. -/
theorem pcells {wi w1 : World} {b : Nat} {x y u : Value} (G : (wi.alloc (.cells #[x, y, u] 69)).grownBy w1 (some b)) (hb : b ≠ wi.heap.size) : w1.cell? ⟨wi.heap.size, 0, none⟩ = some x ∧ w1.cell? ⟨wi.heap.size, 1, none⟩ = some y ∧ w1.cell? ⟨wi.heap.size, 2, none⟩ = some u := by
  have h := G.block wi.heap.size (by simp) (by simpa using Ne.symm hb)
  refine ⟨(World.cell?_of_block (w := wi.alloc (.cells #[x, y, u] 69)) h).trans ?_, (World.cell?_of_block (w := wi.alloc (.cells #[x, y, u] 69)) h).trans ?_, (World.cell?_of_block (w := wi.alloc (.cells #[x, y, u] 69)) h).trans ?_⟩ <;> go_simp

theorem below_grownS {w w' : World} {b : Nat} (h : RowKit.Below w.heap.size w w') : w.grownBy w' (some b) := ⟨h.os, h.tape, h.output, h.size, fun k hk _ => h.block k hk⟩

set_option maxRecDepth 100000 in
set_option maxHeartbeats 4000000 in
theorem tp_del {w wi : World} {b z : Nat} {d g : Dt} {t k : Int} {a : Option Addr} {n c : Nat} {V : List Dt} {L : List Int} {e : Int} (h : St w wi b z (mko d t k g np) a n c V L e) (hk : k = 2) :
    Calls Try.prog 53 #[.pointer (some ⟨b, 0, none⟩), pv k, .pointer (some ⟨w.heap.size + 1, 0, none⟩)] wi fun r w' => r = .returned (.tuple #[]) ∧ St w w' b z (mko d t k g (prt k L e).1) a n c V (prt k L e).2.1 (prt k L e).2.2 := by
  have p1 : pat k = true := by simp [pat, hk]
  have p2 : pch k = false := by simp [pch, hk]
  have p3 : ppl k = false := by simp [ppl, hk]
  have hp := prt_del (L := L) (e := e) hk
  unfold pv
  rw [p1, p2, p3, hp]
  simp only
  have hb := h.hb
  have hgs := h.g.size
  have ho := h.o.lt
  have h0 : St w (wi.alloc (.cells #[.bool true, .bool false, .bool false] 69)) b z (mko d t k g np) a n c V L e := h.call (h.r.below ((Below.refl _ _).alloc (Nat.le_refl _) _)) (below_grownS ((Below.refl _ _).alloc (Nat.le_refl _) _))
  clear p1 p2 p3 hp hk
  have c1 := take_any _ b z L e h0.r (Nat.lt_of_lt_of_le h0.hz h0.g.size)
  generalize tk L e = s at c1 ⊢
  obtain ⟨⟨x, y⟩, L1, e1⟩ := s
  simp only at c1 ⊢
  have hne : b ≠ wi.heap.size := by omega
  have hnq : w.heap.size + 1 ≠ wi.heap.size := by omega
  generalize hq : w.heap.size + 1 = q at ho hnq ⊢
  go_enter Try.func53, Try.ntmps53
  go_upto_region 3 with (first
    | (go_at_call 48; refine c1.mono ?_; rintro r w1 ⟨rfl, R1, G1⟩; have h1 := h0.call R1 G1; have e7 := h1.o.opAt.c7; have e8 := h1.o.opAt.c8; have f7 := h1.o.frozen 7; have f8 := h1.o.frozen 8; rw [hq] at e7 e8 f7 f8; obtain ⟨m0, m1, m2⟩ := pcells G1 hne))
  have h2 : St w ((w1.setCell ⟨q, 7, none⟩ (.int .i64 x)).setCell ⟨q, 8, none⟩ (.int .i64 y)) b z (mko d t k g ((x, y), 0, 0, (0, 0), { data := #[] })) a n c V L1 e1 := h1.upd (by rw [hq]; exact only2 _ _ _ _ _ _) (by have := (h1.o.set 7 (.int .i64 x)).set 8 (.int .i64 y); rw [hq] at this ⊢; exact this)
  have n1 := ((only2 w1 q 7 8 (.int .i64 x) (.int .i64 y)).cell (p := ⟨wi.heap.size, 1, none⟩) (Ne.symm hnq)).trans m1
  have n2 := ((only2 w1 q 7 8 (.int .i64 x) (.int .i64 y)).cell (p := ⟨wi.heap.size, 2, none⟩) (Ne.symm hnq)).trans m2
  generalize (w1.setCell ⟨q, 7, none⟩ (.int .i64 x)).setCell ⟨q, 8, none⟩ (.int .i64 y) = u1 at h2 n1 n2 ⊢
  clear e7 e8 f7 f8 m0 m1 m2 c1 h0 h1 R1 G1
  go_wp2_with fail
  exact bodyPost_end (results_none rfl _ _ _) rfl ⟨rfl, h2⟩

set_option maxRecDepth 100000 in
set_option maxHeartbeats 4000000 in
theorem tp_ins {w wi : World} {b z : Nat} {d g : Dt} {t k : Int} {a : Option Addr} {n c : Nat} {V : List Dt} {L : List Int} {e : Int} (h : St w wi b z (mko d t k g np) a n c V L e) (hk : k = 1) :
    Calls Try.prog 53 #[.pointer (some ⟨b, 0, none⟩), pv k, .pointer (some ⟨w.heap.size + 1, 0, none⟩)] wi fun r w' => r = .returned (.tuple #[]) ∧ St w w' b z (mko d t k g (prt k L e).1) a n c V (prt k L e).2.1 (prt k L e).2.2 := by
  have p1 : pat k = true := by simp [pat, hk]
  have p2 : pch k = true := by simp [pch, hk]
  have p3 : ppl k = false := by simp [ppl, hk]
  have hp := prt_ins (L := L) (e := e) hk
  unfold pv
  rw [p1, p2, p3, hp]
  simp only
  have hb := h.hb
  have hgs := h.g.size
  have ho := h.o.lt
  have h0 : St w (wi.alloc (.cells #[.bool true, .bool true, .bool false] 69)) b z (mko d t k g np) a n c V L e := h.call (h.r.below ((Below.refl _ _).alloc (Nat.le_refl _) _)) (below_grownS ((Below.refl _ _).alloc (Nat.le_refl _) _))
  clear p1 p2 p3 hp hk
  have c1 := take_any _ b z L e h0.r (Nat.lt_of_lt_of_le h0.hz h0.g.size)
  generalize tk L e = s at c1 ⊢
  obtain ⟨⟨x, y⟩, L1, e1⟩ := s
  simp only at c1 ⊢
  have c2 := fun W (hW : Rdr W b z L1 e1) => rint_any W b z L1 e1 hW
  generalize dec L1 e1 = s at c2 ⊢
  obtain ⟨i2, L2, e2⟩ := s
  simp only at c2 ⊢
  have c3 := fun W (hW : Rdr W b z L2 e2) => rint_any W b z L2 e2 hW
  generalize dec L2 e2 = s at c3 ⊢
  obtain ⟨i3, L3, e3⟩ := s
  simp only at c3 ⊢
  generalize dint i2 = x2 at c2 ⊢
  generalize dint i3 = x3 at c3 ⊢
  have hne : b ≠ wi.heap.size := by omega
  have hnq : w.heap.size + 1 ≠ wi.heap.size := by omega
  generalize hq : w.heap.size + 1 = q at ho hnq ⊢
  go_enter Try.func53, Try.ntmps53
  go_upto_region 3 with (first
    | (go_at_call 48; refine c1.mono ?_; rintro r w1 ⟨rfl, R1, G1⟩; have h1 := h0.call R1 G1; have e7 := h1.o.opAt.c7; have e8 := h1.o.opAt.c8; have f7 := h1.o.frozen 7; have f8 := h1.o.frozen 8; rw [hq] at e7 e8 f7 f8; obtain ⟨m0, m1, m2⟩ := pcells G1 hne))
  have h2 : St w ((w1.setCell ⟨q, 7, none⟩ (.int .i64 x)).setCell ⟨q, 8, none⟩ (.int .i64 y)) b z (mko d t k g ((x, y), 0, 0, (0, 0), { data := #[] })) a n c V L1 e1 := h1.upd (by rw [hq]; exact only2 _ _ _ _ _ _) (by have := (h1.o.set 7 (.int .i64 x)).set 8 (.int .i64 y); rw [hq] at this ⊢; exact this)
  have n1 := ((only2 w1 q 7 8 (.int .i64 x) (.int .i64 y)).cell (p := ⟨wi.heap.size, 1, none⟩) (Ne.symm hnq)).trans m1
  have n2 := ((only2 w1 q 7 8 (.int .i64 x) (.int .i64 y)).cell (p := ⟨wi.heap.size, 2, none⟩) (Ne.symm hnq)).trans m2
  generalize (w1.setCell ⟨q, 7, none⟩ (.int .i64 x)).setCell ⟨q, 8, none⟩ (.int .i64 y) = u1 at h2 n1 n2 ⊢
  clear e7 e8 f7 f8 m0 m1 m2 c1 h0 h1 R1 G1
  go_upto_region 5 with (first
    | (go_at_call 49; refine (c2 _ h2.r).mono ?_; rintro r w2 ⟨rfl, R2, O2⟩; have h3 := h2.call R2 O2.grown; have e9 := h3.o.opAt.c9; have f9 := h3.o.frozen 9; rw [hq] at e9 f9; have m2 := (O2.cell (p := ⟨wi.heap.size, 2, none⟩) (Ne.symm hne)).trans n2))
  have h4 : St w (w2.setCell ⟨q, 9, none⟩ (.int .i64 x2)) b z (mko d t k g ((x, y), x2, 0, (0, 0), { data := #[] })) a n c V L2 e2 := h3.upd (by rw [hq]; exact only1 _ _ _ _) (by have := h3.o.set 9 (.int .i64 x2); rw [hq] at this ⊢; exact this)
  have k2 := ((only1 w2 q 9 (.int .i64 x2)).cell (p := ⟨wi.heap.size, 2, none⟩) (Ne.symm hnq)).trans m2
  generalize w2.setCell ⟨q, 9, none⟩ (.int .i64 x2) = u2 at h4 k2 ⊢
  clear e9 f9 m2 n1 n2 c2 h2 h3 R2 O2
  go_upto_region 6 with (first
    | (go_at_call 49; refine (c3 _ h4.r).mono ?_; rintro r w3 ⟨rfl, R3, O3⟩; have h5 := h4.call R3 O3.grown; have e10 := h5.o.opAt.c10; have f10 := h5.o.frozen 10; rw [hq] at e10 f10; have m2 := (O3.cell (p := ⟨wi.heap.size, 2, none⟩) (Ne.symm hne)).trans k2))
  have h6 : St w (w3.setCell ⟨q, 10, none⟩ (.int .i64 x3)) b z (mko d t k g ((x, y), x2, x3, (0, 0), { data := #[] })) a n c V L3 e3 := h5.upd (by rw [hq]; exact only1 _ _ _ _) (by have := h5.o.set 10 (.int .i64 x3); rw [hq] at this ⊢; exact this)
  have j2 := ((only1 w3 q 10 (.int .i64 x3)).cell (p := ⟨wi.heap.size, 2, none⟩) (Ne.symm hnq)).trans m2
  generalize w3.setCell ⟨q, 10, none⟩ (.int .i64 x3) = u3 at h6 j2 ⊢
  clear e10 f10 m2 k2 c3 h4 h5 R3 O3
  go_wp2_with fail
  exact bodyPost_end (results_none rfl _ _ _) rfl ⟨rfl, h6⟩

set_option maxRecDepth 100000 in
set_option maxHeartbeats 4000000 in
theorem tp_mov {w wi : World} {b z : Nat} {d g : Dt} {t k : Int} {a : Option Addr} {n c : Nat} {V : List Dt} {L : List Int} {e : Int} (h : St w wi b z (mko d t k g np) a n c V L e) (hk : k = 3) :
    Calls Try.prog 53 #[.pointer (some ⟨b, 0, none⟩), pv k, .pointer (some ⟨w.heap.size + 1, 0, none⟩)] wi fun r w' => r = .returned (.tuple #[]) ∧ St w w' b z (mko d t k g (prt k L e).1) a n c V (prt k L e).2.1 (prt k L e).2.2 := by
  have p1 : pat k = false := by simp [pat, hk]
  have p2 : pch k = false := by simp [pch, hk]
  have p3 : ppl k = true := by simp [ppl, hk]
  have hp := prt_mov (L := L) (e := e) hk
  unfold pv
  rw [p1, p2, p3, hp]
  simp only
  have hb := h.hb
  have hgs := h.g.size
  have ho := h.o.lt
  have h0 : St w (wi.alloc (.cells #[.bool false, .bool false, .bool true] 69)) b z (mko d t k g np) a n c V L e := h.call (h.r.below ((Below.refl _ _).alloc (Nat.le_refl _) _)) (below_grownS ((Below.refl _ _).alloc (Nat.le_refl _) _))
  clear p1 p2 p3 hp hk
  have c1 := take_any _ b z L e h0.r (Nat.lt_of_lt_of_le h0.hz h0.g.size)
  generalize tk L e = s at c1 ⊢
  obtain ⟨⟨x, y⟩, L1, e1⟩ := s
  simp only at c1 ⊢
  have c2 := fun W (hW : Rdr W b z L1 e1) => rtext_any W b z L1 e1 hW
  generalize rtx L1 e1 = s at c2 ⊢
  obtain ⟨i2, L2, e2⟩ := s
  simp only at c2 ⊢
  generalize strOfNums i2 = ks at c2 ⊢
  have hne : b ≠ wi.heap.size := by omega
  have hnq : w.heap.size + 1 ≠ wi.heap.size := by omega
  generalize hq : w.heap.size + 1 = q at ho hnq ⊢
  go_enter Try.func53, Try.ntmps53
  go_upto_region 8 with (first
    | (go_at_call 48; refine c1.mono ?_; rintro r w1 ⟨rfl, R1, G1⟩; have h1 := h0.call R1 G1; have e11 := h1.o.opAt.c11; have e12 := h1.o.opAt.c12; have f11 := h1.o.frozen 11; have f12 := h1.o.frozen 12; rw [hq] at e11 e12 f11 f12))
  have h2 : St w ((w1.setCell ⟨q, 11, none⟩ (.int .i64 x)).setCell ⟨q, 12, none⟩ (.int .i64 y)) b z (mko d t k g ((0, 0), 0, 0, (x, y), { data := #[] })) a n c V L1 e1 := h1.upd (by rw [hq]; exact only2 _ _ _ _ _ _) (by have := (h1.o.set 11 (.int .i64 x)).set 12 (.int .i64 y); rw [hq] at this ⊢; exact this)
  generalize (w1.setCell ⟨q, 11, none⟩ (.int .i64 x)).setCell ⟨q, 12, none⟩ (.int .i64 y) = u1 at h2 ⊢
  clear e11 e12 f11 f12 c1 h0 h1 R1 G1
  go_wp2_with (first
    | (go_at_call 74; refine (c2 _ h2.r).mono ?_; rintro r w2 ⟨rfl, R2, O2⟩; have h3 := h2.call R2 O2.grown; have e13 := h3.o.opAt.c13; have f13 := h3.o.frozen 13; rw [hq] at e13 f13))
  have h4 : St w (w2.setCell ⟨q, 13, none⟩ (.string ks)) b z (mko d t k g ((0, 0), 0, 0, (x, y), ks)) a n c V L2 e2 := h3.upd (by rw [hq]; exact only1 _ _ _ _) (by have := h3.o.set 13 (.string ks); rw [hq] at this ⊢; exact this)
  exact bodyPost_end (results_none rfl _ _ _) rfl ⟨rfl, h4⟩

set_option maxRecDepth 100000 in
set_option maxHeartbeats 4000000 in
theorem tp_no {w wi : World} {b z : Nat} {d g : Dt} {t k : Int} {a : Option Addr} {n c : Nat} {V : List Dt} {L : List Int} {e : Int} (h : St w wi b z (mko d t k g np) a n c V L e) (h1 : k ≠ 1) (h2 : k ≠ 2) (h3 : k ≠ 3) :
    Calls Try.prog 53 #[.pointer (some ⟨b, 0, none⟩), pv k, .pointer (some ⟨w.heap.size + 1, 0, none⟩)] wi fun r w' => r = .returned (.tuple #[]) ∧ St w w' b z (mko d t k g (prt k L e).1) a n c V (prt k L e).2.1 (prt k L e).2.2 := by
  have p1 : pat k = false := by simp [pat, h1, h2]
  have p2 : pch k = false := by simp [pch, h1]
  have p3 : ppl k = false := by simp [ppl, h3]
  unfold pv
  rw [p1, p2, p3, prt_no h1 h2 h3]
  simp only
  have h0 : St w (wi.alloc (.cells #[.bool false, .bool false, .bool false] 69)) b z (mko d t k g np) a n c V L e := h.call (h.r.below ((Below.refl _ _).alloc (Nat.le_refl _) _)) (below_grownS ((Below.refl _ _).alloc (Nat.le_refl _) _))
  clear p1 p2 p3 h1 h2 h3 h
  generalize w.heap.size + 1 = q
  go_enter Try.func53, Try.ntmps53
  go_wp2_with fail
  exact bodyPost_end (results_none rfl _ _ _) rfl ⟨rfl, h0⟩

theorem takeParts_any {w wi : World} {b z : Nat} {d g : Dt} {t k : Int} {a : Option Addr} {n c : Nat} {V : List Dt} {L : List Int} {e : Int} (h : St w wi b z (mko d t k g np) a n c V L e) :
    Calls Try.prog 53 #[.pointer (some ⟨b, 0, none⟩), pv k, .pointer (some ⟨w.heap.size + 1, 0, none⟩)] wi fun r w' => r = .returned (.tuple #[]) ∧ St w w' b z (mko d t k g (prt k L e).1) a n c V (prt k L e).2.1 (prt k L e).2.2 := by
  by_cases h1 : k = 1
  · exact tp_ins h h1
  by_cases h2 : k = 2
  · exact tp_del h h2
  by_cases h3 : k = 3
  · exact tp_mov h h3
  exact tp_no h h1 h2 h3
end Go.Proofs.Ythipadnghdodlaa
