/- Rows of operations in memory: what they hold, one of the call's own, appends of one. No function of the program but ids. -/
import Derived.Test.YtlncokkpdkddlaaGreatOCheck
import Derived.Test.YtlncokkpdkddlaaGreatOLess
import Derived.Test.YtlncokkpdkddlaaGreatVMiss
import Derived.Test.YtlncokkpdkddlaaGreatGBase
import Derived.Deep.AppendLies
namespace Go.Proofs.YtlncokkpdkddlaaGreat
open Go.RowKit
open Go.Sort (grow)

/-- An operation as it lies in memory: where its Deps lie, and what they are. -/
structure Mo where
  o : OpIn
  a : Option Addr
  n : Nat
  c : Nat
  V : List Dt

/-- An operation, whatever memory it lies in. -/
abbrev Mop := OpIn × List Dt
abbrev Mo.m (x : Mo) : Mop := (x.o, x.V)
abbrev Mo.dep (x : Mo) : Value := .slice x.a x.n x.c
def Mo.cells (x : Mo) : List Value := [.int .i64 x.o.id0, .int .i64 x.o.id1, .int .i64 x.o.time, x.dep, .int .i64 x.o.kind, .int .i64 x.o.bl0, .int .i64 x.o.bl1, .int .i64 x.o.at0, .int .i64 x.o.at1, .int .i64 x.o.side, .int .i64 x.o.char, .int .i64 x.o.pa0, .int .i64 x.o.pa1, .string x.o.key]

def flo : List Mo → List Value
  | [] => []
  | x :: r => x.cells ++ flo r

theorem flo_append (l l' : List Mo) : flo (l ++ l') = flo l ++ flo l' := by
  induction l with
  | nil => rfl
  | cons x r ih => simp [flo, ih]

theorem flo_length (l : List Mo) : (flo l).length = l.length * 14 := by
  induction l with
  | nil => rfl
  | cons x r ih => simp [flo, ih, Mo.cells]; omega

theorem flo_get (l : List Mo) (i : Nat) (hi : i < l.length) (j : Nat) (hj : j < 14) : (flo l)[i * 14 + j]? = (l[i]).cells[j]? := by
  induction l generalizing i with
  | nil => simp at hi
  | cons x r ih =>
    cases i with
    | zero => simp [flo]; rw [List.getElem?_append_left (by simp [Mo.cells]; omega)]
    | succ i =>
      simp only [flo]
      rw [List.getElem?_append_right (by simp [Mo.cells]; omega)]
      have e : (i + 1) * 14 + j - x.cells.length = i * 14 + j := by simp [Mo.cells]; omega
      rw [e, ih i (by simpa using hi)]
      rfl

theorem flo_one (L : List Mo) : ∀ u ∈ flo L, u.oneCell' = true := by
  induction L with
  | nil => intro u hu; simp [flo] at hu
  | cons d r ih =>
    intro u hu
    simp only [flo, List.mem_append] at hu
    rcases hu with hu | hu
    · simp only [Mo.cells, List.mem_cons, List.not_mem_nil, or_false] at hu
      rcases hu with rfl | rfl | rfl | rfl | rfl | rfl | rfl | rfl | rfl | rfl | rfl | rfl | rfl | rfl <;> rfl
    · exact ih u hu

/-- The slice (a, n, c) holds these operations. -/
structure OS (w : World) (a : Option Addr) (n c : Nat) (L : List Mo) : Prop where
  len : L.length = n
  cap : n ≤ c
  max : c ≤ maxLen
  nil : a = none → n = 0 ∧ c = 0
  cells : ∀ ad, a = some ad → ∀ j u, (flo L)[j]? = some u → w.cell? (ad.add j) = some u
  deps : ∀ x ∈ L, PS w x.a x.n x.c x.V

theorem OS.below {w w' : World} {a : Option Addr} {n c : Nat} {L : List Mo} (h : OS w a n c L) (hb : RowKit.Below w.heap.size w w') : OS w' a n c L :=
  ⟨h.len, h.cap, h.max, h.nil, fun ad ha j u hj => by
    have := h.cells ad ha j u hj
    rw [hb.cell (cell_in this)]
    exact this, fun x hx => (h.deps x hx).below hb⟩

theorem OS.far {w w' : World} {a : Option Addr} {n c : Nat} {L : List Mo} (h : OS w a n c L) (hb : Far w w') : OS w' a n c L := h.below hb.below

theorem OS.none (w : World) : OS w none 0 0 [] := ⟨rfl, Nat.le_refl _, Nat.zero_le _, fun _ => ⟨rfl, rfl⟩, (fun _ h => by cases h), (fun x hx => by simp at hx)⟩

/-- The fourteen cells of an operation, from a place on. -/
structure OpAtO (w : World) (q s : Nat) (x : Mo) : Prop where
  c0 : w.cell? ⟨q, s, none⟩ = some (.int .i64 x.o.id0)
  c1 : w.cell? ⟨q, s + 1, none⟩ = some (.int .i64 x.o.id1)
  c2 : w.cell? ⟨q, s + 2, none⟩ = some (.int .i64 x.o.time)
  c3 : w.cell? ⟨q, s + 3, none⟩ = some (.slice x.a x.n x.c)
  c4 : w.cell? ⟨q, s + 4, none⟩ = some (.int .i64 x.o.kind)
  c5 : w.cell? ⟨q, s + 5, none⟩ = some (.int .i64 x.o.bl0)
  c6 : w.cell? ⟨q, s + 6, none⟩ = some (.int .i64 x.o.bl1)
  c7 : w.cell? ⟨q, s + 7, none⟩ = some (.int .i64 x.o.at0)
  c8 : w.cell? ⟨q, s + 8, none⟩ = some (.int .i64 x.o.at1)
  c9 : w.cell? ⟨q, s + 9, none⟩ = some (.int .i64 x.o.side)
  c10 : w.cell? ⟨q, s + 10, none⟩ = some (.int .i64 x.o.char)
  c11 : w.cell? ⟨q, s + 11, none⟩ = some (.int .i64 x.o.pa0)
  c12 : w.cell? ⟨q, s + 12, none⟩ = some (.int .i64 x.o.pa1)
  c13 : w.cell? ⟨q, s + 13, none⟩ = some (.string x.o.key)

theorem add_none (g o j : Nat) : (⟨g, o, Option.none⟩ : Addr).add j = ⟨g, o + j, Option.none⟩ := by
  by_cases hj : j = 0
  · subst hj; simp [Addr.add]
  · simp [Addr.add, hj]

/-- Where operations are, they lie at a plain address. -/
theorem OS.at {w : World} {a : Option Addr} {n c : Nat} {L : List Mo} (h : OS w a n c L) (hp : 0 < n) :
    ∃ g o, a = some ⟨g, o, Option.none⟩ ∧ g < w.heap.size ∧ ∀ i (hi : i < L.length), OpAtO w g (o + i * 14) L[i] := by
  cases a with
  | none => have := (h.nil rfl).1; omega
  | some ad =>
    have hc := h.cells ad rfl
    obtain ⟨g, o, sp⟩ := ad
    have hl : 0 < L.length := by rw [h.len]; exact hp
    have h0 := hc 0 (.int .i64 (L[0]).o.id0) (by have := flo_get L 0 hl 0 (by omega); simpa [Mo.cells] using this)
    have hspot : sp = Option.none := by simpa [Addr.add] using World.cell?_spot h0
    subst hspot
    have each : ∀ i (hi : i < L.length) j (_ : j < 14) u, (L[i]).cells[j]? = some u → w.cell? ⟨g, o + i * 14 + j, Option.none⟩ = some u := fun i hi j hj u hu => by
      have := hc (i * 14 + j) u (by rw [flo_get L i hi j hj]; exact hu)
      rw [add_none, ← Nat.add_assoc] at this
      exact this
    refine ⟨g, o, rfl, by have := cell_in h0; simpa [Addr.add] using this, fun i hi => ?_⟩
    exact ⟨each i hi 0 (by omega) _ rfl, each i hi 1 (by omega) _ rfl, each i hi 2 (by omega) _ rfl, each i hi 3 (by omega) _ rfl, each i hi 4 (by omega) _ rfl, each i hi 5 (by omega) _ rfl, each i hi 6 (by omega) _ rfl,
      each i hi 7 (by omega) _ rfl, each i hi 8 (by omega) _ rfl, each i hi 9 (by omega) _ rfl, each i hi 10 (by omega) _ rfl, each i hi 11 (by omega) _ rfl, each i hi 12 (by omega) _ rfl, each i hi 13 (by omega) _ rfl⟩

theorem Tryz.infoOp : (Tryz.prog.info? 36).map (fun i => (i.zero, i.size, i.bytes)) = some (some (.agg #[.int .i64 0, .int .i64 0, .int .i64 0, .slice none 0 0, .int .i64 0, .int .i64 0, .int .i64 0, .int .i64 0, .int .i64 0, .int .i64 0, .int .i64 0, .int .i64 0, .int .i64 0, .string ByteArray.empty]), 14, 136) := by kernel_rfl

/-- The slice v of operations is of the call's own, or none, and holds L. -/
abbrev OwnO (w : World) (base : Nat) (v : Value) (L : List Mo) : Prop := w.ownsRow base 36 14 v L.length (flo L)

theorem owned_os {w : World} {base : Nat} {v : Value} {L : List Mo} (h : OwnO w base v L) (hd : ∀ x ∈ L, PS w x.a x.n x.c x.V) : ∃ a c, v = .slice a L.length c ∧ OS w a L.length c L := by
  rcases h.2 with ⟨rfl, hl⟩ | ⟨g, cap, cur, rfl, hg, hb, hn, hcap, hsz, ht⟩
  · have : L = [] := List.eq_nil_of_length_eq_zero hl
    subst this
    exact ⟨none, 0, rfl, OS.none w⟩
  · exact ⟨_, _, rfl, rfl, hn, hcap, fun h => (by cases h), fun ad ha j u hj => (by cases ha; exact h.cells (g := g) rfl j u hj), hd⟩

theorem ps_one1 (w : World) (b : Obj) (d : Dt) : PS ((w.alloc b).alloc (.cells #[.int .i64 d.1, .int .i64 d.2] 32)) (some ⟨w.heap.size + 1, 0, none⟩) 1 1 [d] := by
  have := ps_one (w.alloc b) d
  rw [World.size_alloc] at this
  exact this

set_option maxRecDepth 100000 in
set_option maxHeartbeats 1000000 in
theorem ids_any (a : Option Addr) (n c : Nat) (L : List Mo) (w : World) (hs : OS w a n c L) (hn : n ≤ 1000000) :
    Calls Tryz.prog 36 #[.slice a n c] w (Gives w (L.map (fun x => x.o.id))) := by
  have hlen := hs.len
  go_enter Tryz.func36, Tryz.ntmps36
  go_wp2
  go_loopw [8, 3] (fun i v wr => ∃ k : Nat, k ≤ n ∧ i = .int .i64 k ∧ OwnV wr w.heap.size v ((L.take k).map (fun x => x.o.id)) ∧ RowKit.Below w.heap.size w wr) (fun i _ _ => n - (intOf i).toNat)
  case atStart => exact ⟨0, by omega, rfl, World.ownsRow_nil _ _ _ _, Below.refl _ _⟩
  case round =>
    obtain ⟨k, hk, rfl, hO, hbl⟩ := hrel
    by_cases hlt : k < n
    · obtain ⟨g, o, rfl, hg, hcell⟩ := (hs.below hbl).at (by omega)
      obtain ⟨c0, c1, c2, c3, c4, c5, c6, c7, c8, c9, c10, c11, c12, c13⟩ := hcell k (by omega)
      have hts := hid (show ((L.take (k + 1)).map (fun x => x.o.id)) = ((L.take k).map (fun x => x.o.id)) ++ [(L[k]'(by omega)).o.id] by rw [List.take_succ_eq_append_getElem (by omega), List.map_append]; rfl)
      have htl : ((L.take k).map (fun x => x.o.id)).length = k := by simp; omega
      have hO' : wr.ownsRow w.heap.size 32 2 u3 k (flat ((L.take k).map (fun x => x.o.id))) := by have := hO; unfold OwnV at this; rw [htl] at this; exact this
      have hsz := hbl.size
      generalize (L[k]'(by omega)) = x at *
      obtain ⟨⟨i0, i1, tm, kd, b0, b1, t0, t1, sd, ch, p0, p1, ky⟩, xa, xn, xc, xV⟩ := x
      clear hcell hO htl
      go_wp2_with (first
        | (at_builtin; refine wpList_append_dots rfl _ _ 33 Tryz.underlying33 rfl w.heap.size u3 k _ rfl ((hO'.alloc _).alloc _) (some ⟨wr.heap.size + 1, 0, none⟩) 1 1 [(i0, i1)] rfl (ps_one1 wr _ (i0, i1)) (by omega) (by simp; omega) ?_; intro v5 w5 ho5 hg5))
      go_roundw
      case rel =>
        refine ⟨k + 1, by omega, by go_num, ?_, ((hbl.alloc hbl.size _).alloc (by simp; omega) _).grown hg5 (by simp; omega) (fun j hj => (hO'.lt j hj).1)⟩
        rw [hts.out]
        show World.ownsRow _ _ _ _ _ (List.length _) _
        rw [List.length_append, List.length_map, List.length_take, Nat.min_eq_left (by omega), flat_append]
        exact ho5
      case measure => simp [intOf]; omega
    · obtain rfl : k = n := by omega
      have hO' := hid hO
      go_wp2
      go_ret
      refine ⟨u3, rfl, ?_, hbl⟩
      have := hO'.out
      rw [← hlen, List.take_length] at this
      exact this

/-- append of one operation, that lies in a block, to a slice of the call's own. -/
theorem wpList_append_op {w : World} {ops : Array Oper} {rest : List Oper} {o : Oper} {a : Act} {Q : Exit → Act → World → Prop} (hgd : o.guard = none) (s x : Operand)
    (ho : o.op = .call { callee := .builtin .append, args := #[s, x], argTypes := #[22, 22] }) (base : Nat) (v : Value) (n : Nat) (L : List Mo) (hs : a.eval s = v) (hn : L.length = n) (hown : OwnO w base v L)
    (B : Nat) (y : Mo) (hx : a.eval x = .slice (some ⟨B, 0, none⟩) 1 1) (hB : ∀ j u, y.cells[j]? = some u → w.cell? ((⟨B, 0, none⟩ : Addr).add j) = some u) (hb : n + 1 ≤ 1000000) (hbase : base ≤ w.heap.size)
    (h : ∀ g cap w', OwnO w' base (.slice (some ⟨g, 0, none⟩) (n + 1) cap) (L ++ [y]) → w.grownBy w' v.ownBlock → (v.ownBlock = some g ∨ g = w.heap.size) → g < w'.heap.size → wpList Tryz.prog ops Q rest (a.put o.dst (.slice (some ⟨g, 0, none⟩) (n + 1) cap)) w') : wpList Tryz.prog ops Q (o :: rest) a w := by
  subst hn
  obtain ⟨i0, hi, hz0, hz1, hz2⟩ := info_parts Tryz.infoOp
  refine wpList_append_lies w hgd s x 22 ho base 36 i0 _ 14 136 Tryz.underlying22 hi hz0 hz1 hz2 rfl (by decide) v L.length (flo L) hs hown ⟨B, 0, none⟩ 1 1 y.cells hx (by simp [Mo.cells]) hB ?_ (by decide) (by unfold maxLen; omega) (by omega) hbase _ rfl ?_
  · have := flo_one [y]
    simpa [flo] using this
  · intro g cap w' h1 h2 h3 h4
    refine h g cap w' ?_ h2 h3 h4
    show World.ownsRow _ _ _ _ _ (List.length _) _
    rw [List.length_append, flo_append]
    simpa [flo] using h1

/-- The block of an operation that was just made. -/
theorem mo_cells (w : World) (B : Nat) (x : Mo) (h : OpAt w B x.o x.dep) : ∀ j u, x.cells[j]? = some u → w.cell? ((⟨B, 0, none⟩ : Addr).add j) = some u := by
  intro j u hj
  rw [add_none, Nat.zero_add]
  match j, hj with
  | 0, hj => simp [Mo.cells] at hj; subst hj; exact h.c0
  | 1, hj => simp [Mo.cells] at hj; subst hj; exact h.c1
  | 2, hj => simp [Mo.cells] at hj; subst hj; exact h.c2
  | 3, hj => simp [Mo.cells] at hj; subst hj; exact h.c3
  | 4, hj => simp [Mo.cells] at hj; subst hj; exact h.c4
  | 5, hj => simp [Mo.cells] at hj; subst hj; exact h.c5
  | 6, hj => simp [Mo.cells] at hj; subst hj; exact h.c6
  | 7, hj => simp [Mo.cells] at hj; subst hj; exact h.c7
  | 8, hj => simp [Mo.cells] at hj; subst hj; exact h.c8
  | 9, hj => simp [Mo.cells] at hj; subst hj; exact h.c9
  | 10, hj => simp [Mo.cells] at hj; subst hj; exact h.c10
  | 11, hj => simp [Mo.cells] at hj; subst hj; exact h.c11
  | 12, hj => simp [Mo.cells] at hj; subst hj; exact h.c12
  | 13, hj => simp [Mo.cells] at hj; subst hj; exact h.c13
  | j + 14, hj => simp [Mo.cells] at hj

/-- Rows of things of unlike makes lie in unlike blocks. -/
theorem rows_apart {w : World} {b b' e e' z z' : Nat} {v v' : Value} {n n' : Nat} {xs xs' : List Value} (h : w.ownsRow b e z v n xs) (h' : w.ownsRow b' e' z' v' n' xs') (he : e ≠ e') : v.ownBlock = none ∨ v.ownBlock ≠ v'.ownBlock := by
  rcases h.2 with ⟨rfl, _⟩ | ⟨g, cap, cur, rfl, _, hb, _⟩
  · exact .inl rfl
  · refine .inr fun e1 => ?_
    rcases h'.2 with ⟨rfl, _⟩ | ⟨g', cap', cur', rfl, _, hb', _⟩
    · cases e1
    · simp [Value.ownBlock] at e1
      subst e1
      rw [hb] at hb'
      simp at hb'
      exact he hb'.2
end Go.Proofs.YtlncokkpdkddlaaGreat
