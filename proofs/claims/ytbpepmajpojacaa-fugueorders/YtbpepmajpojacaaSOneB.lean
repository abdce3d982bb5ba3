/- A new block beside a call: two forms. No function of the program. -/
import Derived.Test.YtbpepmajpojacaaSMove
import Derived.Test.YtbpepmajpojacaaFgMath
namespace Go.Proofs.Ytbpepmajpojacaa
section
open Go.RowKit
open Go.Sort (grow)

/-- Raw ones that came in. -/
structure MdAtO (w : World) (g o : Nat) (m : Md) : Prop where
  c0 : w.cell? ⟨g, o, none⟩ = some (.int .i64 m.act)
  c1 : w.cell? ⟨g, o + 1, none⟩ = some (.int .i64 m.kn)
  c2 : w.cell? ⟨g, o + 2, none⟩ = some (.int .i64 m.kd)
  c3 : w.cell? ⟨g, o + 3, none⟩ = some (.int .i64 m.ma)
  c4 : w.cell? ⟨g, o + 4, none⟩ = some (.int .i64 m.mb)
  c5 : w.cell? ⟨g, o + 5, none⟩ = some (.string m.key)

theorem MdAtO.below {w w' : World} {g o : Nat} {m : Md} (h : MdAtO w g o m) (hb : RowKit.Below w.heap.size w w') (hg : g < w.heap.size) : MdAtO w' g o m :=
  ⟨(hb.cell hg).trans h.c0, (hb.cell hg).trans h.c1, (hb.cell hg).trans h.c2, (hb.cell hg).trans h.c3, (hb.cell hg).trans h.c4, (hb.cell hg).trans h.c5⟩

structure MS (w : World) (a : Option Addr) (n c : Nat) (l : List Md) : Prop where
  len : l.length = n
  cap : n ≤ c
  max : c ≤ maxLen
  at_ : 0 < n → ∃ g o, a = some ⟨g, o, none⟩ ∧ g < w.heap.size ∧ ∀ i (hi : i < l.length), MdAtO w g (o + i * 6) l[i]

theorem MS.below {w w' : World} {a : Option Addr} {n c : Nat} {l : List Md} (h : MS w a n c l) (hb : RowKit.Below w.heap.size w w') : MS w' a n c l :=
  ⟨h.len, h.cap, h.max, fun hp => by
    obtain ⟨g, o, e, hg, hx⟩ := h.at_ hp
    exact ⟨g, o, e, Nat.lt_of_lt_of_le hg hb.size, fun i hi => (hx i hi).below hb hg⟩⟩

/-- A vector, and where it lies. -/
structure Kv where
  a : Option Addr
  n : Nat
  c : Nat
  V : List Dt

abbrev Kv.v (k : Kv) : Value := .slice k.a k.n k.c

theorem own_len {w : World} {b : Nat} {a : Option Addr} {n c : Nat} {V : List Dt} (h : OwnV w b (.slice a n c) V) : V.length = n := by
  obtain ⟨a', c', e, _⟩ := owned_ps h rfl
  simp only [Value.slice.injEq] at e
  exact e.2.1.symm

theorem own_is_ps {w : World} {b : Nat} {a : Option Addr} {n c : Nat} {V : List Dt} (h : OwnV w b (.slice a n c) V) : PS w a n c V := by
  have hl := own_len h
  refine own_ps_at' (base := b) ?_ hl
  have h' : w.ownsRow b 24 2 (.slice a n c) V.length (flat V) := h
  rw [hl] at h'
  exact h'

theorem own_mono {w : World} {b b' e z : Nat} {v : Value} {n : Nat} {xs : List Value} (h : w.ownsRow b e z v n xs) (hb : b' ≤ b) : w.ownsRow b' e z v n xs := by
  refine ⟨h.1, ?_⟩
  rcases h.2 with h2 | ⟨g, cap, cur, h3, h4, h5⟩
  · exact Or.inl h2
  · exact Or.inr ⟨g, cap, cur, h3, Nat.le_trans hb h4, h5⟩

theorem own_keep {w w' : World} {base e z : Nat} {v : Value} {n : Nat} {xs : List Value} (h : w.ownsRow base e z v n xs) (hb : RowKit.Below w.heap.size w w') : w'.ownsRow base e z v n xs := World.ownsRow.kept h (below_grown hb) none_or

theorem KN.few {A : List Mop} {V : List Dt} {act : Int} (h : KN A V act) : V.length ≤ A.length := by
  have hn : V.Nodup := h.vm.ac.imp (fun {a b} hab e => by rw [e] at hab; omega)
  have := List.Nodup.length_le_of_subset hn (l₂ := A.map (fun x => x.1.id)) (fun d hd => by
    obtain ⟨y, hy, e⟩ := h.ids d hd
    exact List.mem_map.2 ⟨y, hy, e⟩)
  simpa using this

/-- What lies in memory: the vectors of the four, the operations so far. -/
structure SH (w wr : World) (v : Value) (L : List Mo) (K : Nat → Kv) : Prop where
  blk : ∃ cur : Array Value, wr.heap[w.heap.size]? = some (.cells cur 80) ∧ cur.size = 4 ∧ ∀ j, j < 4 → cur[j]? = some (K j).v
  own : ∀ j, j < 4 → OwnV wr (w.heap.size + 1) (K j).v (K j).V
  out : OwnO wr (w.heap.size + 1) v L
  dep : ∀ x ∈ L, OwnV wr (w.heap.size + 1) x.dep x.V
  bel : RowKit.Below w.heap.size w wr

/-- What is known of them. -/
structure SP (L : List Mo) (K : Nat → Kv) : Prop where
  fit : ∀ x ∈ L, x.o.Fits ∧ x.o.time ≤ (L.length : Int) ∧ 1 ≤ x.o.id0
  st : St (L.map Mo.m)
  kn : ∀ j, j < 4 → KN (L.map Mo.m) (K j).V (1 + (j : Int) * 256)

theorem SH.start (w : World) : SH w (w.alloc (.cells #[.slice none 0 0, .slice none 0 0, .slice none 0 0, .slice none 0 0] 80)) (.slice none 0 0) [] (fun _ => ⟨none, 0, 0, []⟩) := by
  refine ⟨⟨_, (MapKept.heap_alloc w _).1, rfl, fun j hj => ?_⟩, fun j _ => World.ownsRow_nil _ _ _ _, World.ownsRow_nil _ _ _ _, fun x hx => by simp at hx, ((Far.refl w).alloc _).below⟩
  match j, hj with
  | 0, _ => rfl
  | 1, _ => rfl
  | 2, _ => rfl
  | 3, _ => rfl
  | j + 4, hj => omega

theorem SP.start : SP [] (fun _ => ⟨none, 0, 0, []⟩) := ⟨by simp, St.nil, fun _ _ => KN.nil _⟩

theorem SH.lt {w wr : World} {v : Value} {L : List Mo} {K : Nat → Kv} (h : SH w wr v L K) : w.heap.size < wr.heap.size := by
  obtain ⟨cur, h1, _⟩ := h.blk
  exact (Array.getElem?_eq_some_iff.1 h1).1

theorem SH.below {w wr wr' : World} {v : Value} {L : List Mo} {K : Nat → Kv} (h : SH w wr v L K) (hb : RowKit.Below wr.heap.size wr wr') : SH w wr' v L K := by
  obtain ⟨cur, h1, h2, h3⟩ := h.blk
  exact ⟨⟨cur, (hb.block _ h.lt).trans h1, h2, h3⟩, fun j hj => own_keep (h.own j hj) hb, own_keep h.out hb, fun x hx => own_keep (h.dep x hx) hb, below2 h.bel hb⟩

theorem SH.cell {w wr : World} {v : Value} {L : List Mo} {K : Nat → Kv} (h : SH w wr v L K) {j : Nat} (hj : j < 4) : wr.cell? ⟨w.heap.size, j, none⟩ = some (.slice (K j).a (K j).n (K j).c) := by
  obtain ⟨cur, h1, _, h3⟩ := h.blk
  have := h3 j hj
  simp [World.cell?, h1, this]

theorem SH.frozen {w wr : World} {v : Value} {L : List Mo} {K : Nat → Kv} (h : SH w wr v L K) (j : Nat) : wr.frozen? ⟨w.heap.size, j, none⟩ = false := by
  obtain ⟨cur, h1, _⟩ := h.blk
  exact frozen_of_block h1 j

theorem SH.ps {w wr : World} {v : Value} {L : List Mo} {K : Nat → Kv} (h : SH w wr v L K) {j : Nat} (hj : j < 4) : PS wr (K j).a (K j).n (K j).c (K j).V := own_is_ps (h.own j hj)

theorem SH.os {w wr : World} {v : Value} {L : List Mo} {K : Nat → Kv} (h : SH w wr v L K) : ∃ a c, v = .slice a L.length c ∧ OS wr a L.length c L := owned_os h.out (fun x hx => own_is_ps (h.dep x hx))

theorem SH.os_at {w wr : World} {a : Option Addr} {n c : Nat} {L : List Mo} {K : Nat → Kv} (h : SH w wr (.slice a n c) L K) : OS wr a n c L := by
  obtain ⟨a', c', e, ho⟩ := h.os
  simp only [Value.slice.injEq] at e
  obtain ⟨rfl, rfl, rfl⟩ := e
  exact ho

theorem SP.few {L : List Mo} {K : Nat → Kv} (h : SP L K) {w wr : World} {v : Value} (hh : SH w wr v L K) {j : Nat} (hj : j < 4) : (K j).n ≤ L.length := by
  have := (h.kn j hj).few
  rw [← own_len (hh.own j hj)]
  simpa using this

theorem SP.deps {L : List Mo} {K : Nat → Kv} (h : SP L K) {w wr : World} {v : Value} (hh : SH w wr v L K) {x : Mo} (hx : x ∈ L) : x.n ≤ L.length := by
  have hv : VM x.V := (chk_head (h.st.cl.may _ (List.mem_map.2 ⟨x, hx, rfl⟩))).2.1
  have hn : x.V.Nodup := hv.ac.imp (fun {a b} hab e => by rw [e] at hab; omega)
  have := List.Nodup.length_le_of_subset hn (l₂ := (L.map Mo.m).map (fun x => x.1.id)) (fun d hd => by
    obtain ⟨y, hy, e⟩ := h.st.cl.deps (List.mem_map.2 ⟨x, hx, rfl⟩) d hd
    exact List.mem_map.2 ⟨y, hy, e⟩)
  rw [← own_len (hh.dep x hx)]
  simpa using this

theorem SH.set {w wr : World} {v : Value} {L : List Mo} {K : Nat → Kv} (h : SH w wr v L K) {j : Nat} (hj : j < 4) (k' : Kv) (ho : OwnV wr (w.heap.size + 1) k'.v k'.V) :
    SH w (wr.setCell ⟨w.heap.size, j, none⟩ k'.v) v L (fun i => if i = j then k' else K i) := by
  obtain ⟨cur, h1, h2, h3⟩ := h.blk
  refine ⟨⟨cur.setIfInBounds j k'.v, set_block h1 _, by simpa using h2, fun i hi => ?_⟩, fun i hi => ?_, ownsRow_setCell_below h.out (Nat.lt_succ_self _) _, fun x hx => ownsRow_setCell_below (h.dep x hx) (Nat.lt_succ_self _) _, below_set h.bel (Nat.le_refl _) h.bel.size j _⟩
  · by_cases e : i = j
    · subst e
      simp [h2, hi]
    · rw [if_neg e, Array.getElem?_setIfInBounds_ne (fun e' => e e'.symm)]
      exact h3 i hi
  · by_cases e : i = j
    · subst e
      simp only [if_true]
      exact ownsRow_setCell_below ho (Nat.lt_succ_self _) _
    · simp only [if_neg e]
      exact ownsRow_setCell_below (h.own i hi) (Nat.lt_succ_self _) _

theorem SP.more {L : List Mo} {K : Nat → Kv} (h : SP L K) {j : Nat} (hj : j < 4) (k' : Kv) {x : Mo} (hx : x ∈ L) (hb : belv x.V (K j).V = true) (hk : k'.V = vwith (K j).V x.o.id) : SP L (fun i => if i = j then k' else K i) := by
  refine ⟨h.fit, h.st, fun i hi => ?_⟩
  by_cases e : i = j
  · subst e
    simp only [if_true]
    rw [hk]
    exact (h.kn i hi).more h.st.cl (List.mem_map.2 ⟨x, hx, rfl⟩) hb
  · simp only [if_neg e]
    exact h.kn i hi

theorem SH.with_ {w wz w1 : World} {v : Value} {L : List Mo} {K : Nat → Kv} (h : SH w wz v L K) (hB : RowKit.Below wz.heap.size wz w1) {j : Nat} (hj : j < 4) {a1 : Option Addr} {c1 b1 : Nat} {V : List Dt} (ho : w1.ownsRow b1 24 2 (.slice a1 V.length c1) V.length (flat V)) (hb : w.heap.size + 1 ≤ b1) :
    SH w (w1.setCell ⟨w.heap.size, j, none⟩ (.slice a1 V.length c1)) v L (fun i => if i = j then ⟨a1, V.length, c1, V⟩ else K i) := (h.below hB).set hj ⟨a1, V.length, c1, V⟩ (own_mono ho hb)

/-- With one more operation. -/
theorem SH.snoc {w wr wr' : World} {v v' : Value} {L : List Mo} {K : Nat → Kv} (h : SH w wr v L K) {j : Nat} (hj : j < 4) (o : OpIn) (hg : wr.grownBy wr' v.ownBlock) (ho : OwnO wr' (w.heap.size + 1) v' (L ++ [⟨o, (K j).a, (K j).n, (K j).c, (K j).V⟩])) : SH w wr' v' (L ++ [⟨o, (K j).a, (K j).n, (K j).c, (K j).V⟩]) K := by
  obtain ⟨cur, h1, h2, h3⟩ := h.blk
  have hne : 24 ≠ 52 := by decide
  have hk : ∀ {u : Value} {V : List Dt}, OwnV wr (w.heap.size + 1) u V → OwnV wr' (w.heap.size + 1) u V := fun {u V} hu => World.ownsRow.kept hu hg (rows_apart hu h.out hne)
  refine ⟨⟨cur, (hg.block _ h.lt (fun e => ?_)).trans h1, h2, h3⟩, fun i hi => hk (h.own i hi), ho, fun x hx => ?_, h.bel.grown hg h.bel.size (fun k hk => by have := (World.ownsRow.lt h.out k hk).1; omega)⟩
  · have := (World.ownsRow.lt h.out _ e.symm).1
    omega
  · rcases List.mem_append.1 hx with hx | hx
    · exact hk (h.dep x hx)
    · simp at hx
      rw [hx]
      exact hk (h.own j hj)

theorem SP.new {L : List Mo} {K : Nat → Kv} {j : Nat} {o : OpIn} (hid0 : o.id0 = 1 + (j : Int) * 256) (hid1 : o.id1 = gt (K j).V (1 + (j : Int) * 256) + 1) (ht : o.time = latI (K j).V L 0 + 1) (hkd : KD (L.map Mo.m) o (K j).V) (hc : chk o (K j).V = true) : New (L.map Mo.m) (K j).V (1 + (j : Int) * 256) o := by
  refine ⟨hc, hid0, hid1, fun y hy hh => ?_, hkd⟩
  obtain ⟨x, hx, rfl⟩ := List.mem_map.1 hy
  have := (latI_ge (K j).V L 0).2 x hx hh
  show x.o.time < o.time
  omega

theorem SP.snoc {L : List Mo} {K : Nat → Kv} (h : SP L K) {j : Nat} (hj : j < 4) (k' : Kv) {o : OpIn} (hn : New (L.map Mo.m) (K j).V (1 + (j : Int) * 256) o) (hf : o.Fits) (ht : o.time = latI (K j).V L 0 + 1) (hk : k'.V = vwith (K j).V o.id) : SP (L ++ [⟨o, (K j).a, (K j).n, (K j).c, (K j).V⟩]) (fun i => if i = j then k' else K i) := by
  have hm : (L ++ [(⟨o, (K j).a, (K j).n, (K j).c, (K j).V⟩ : Mo)]).map Mo.m = L.map Mo.m ++ [(o, (K j).V)] := by simp
  refine ⟨fun x hx => ?_, by rw [hm]; exact h.st.snoc (h.kn j hj) hn, fun i hi => ?_⟩
  · have hle := latI_le (K j).V L 0 (M := (L.length : Int)) (by omega) (fun x hx => (h.fit x hx).2.1)
    rw [List.length_append, List.length_singleton]
    rcases List.mem_append.1 hx with hx | hx
    · have := h.fit x hx
      exact ⟨this.1, by have := this.2.1; omega, this.2.2⟩
    · simp at hx
      rw [hx]
      exact ⟨hf, by show o.time ≤ _; omega, by show 1 ≤ o.id0; rw [hn.id0]; omega⟩
  · rw [hm]
    by_cases e : i = j
    · subst e
      simp only [if_true]
      rw [hk]
      exact (h.kn i hi).snoc h.st.cl hn
    · simp only [if_neg e]
      exact (h.kn j hj).other hn (h.kn i hi) (by omega)

end

section
open Go.RowKit
open Go.Sort (grow)

theorem bel_a {W w1 : World} (h : RowKit.Below W.heap.size W w1) (C : Obj) : (w1.alloc C).heap[w1.heap.size]? = some C ∧ W.heap.size ≤ w1.heap.size ∧ RowKit.Below W.heap.size W (w1.alloc C) := ⟨(MapKept.heap_alloc w1 C).1, h.size, h.alloc h.size C⟩

theorem bel_b {W w1 : World} {Y : Obj} (h : RowKit.Below (W.alloc Y).drew.heap.size (W.alloc Y).drew w1) (hY : Y = .cells (zop.cells (.slice none 0 0)) 52) (o : OpIn) (v : Value) : (put14 w1 W.heap.size o v).heap[W.heap.size]? = some (.cells (o.cells v) 52) ∧ RowKit.Below W.heap.size W (put14 w1 W.heap.size o v) := by
  have h0 : W.heap.size < (W.alloc Y).drew.heap.size := by show W.heap.size < (W.alloc Y).heap.size; simp
  have h1 := (h.block _ h0).trans (MapKept.heap_alloc W Y).1
  rw [hY] at h1
  have hF : RowKit.Below W.heap.size W w1 := below2 (((Far.refl W).alloc Y).drew).below h
  have G := put14_grown w1 W.heap.size o v
  exact ⟨put14_block h1, hF.grown G hF.size (fun j hj => by cases hj; exact Nat.le_refl _)⟩

theorem wrap_is {x : Int} (h0 : -9223372036854775808 ≤ x) (h1 : x ≤ 9223372036854775807) : IntKind.i64.wrap x = x := by
  rw [IntKind.wrap_i64]
  omega
end
end Go.Proofs.Ytbpepmajpojacaa
