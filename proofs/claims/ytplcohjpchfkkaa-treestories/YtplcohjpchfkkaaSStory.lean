/- Stories: Story, over what one tells. -/
import Derived.Test.YtplcohjpchfkkaaROrdB
import Derived.Test.YtplcohjpchfkkaaRMathB
import Derived.Deep.RegionHeld
import Derived.Deep.CutRange
namespace Go.Proofs.Ytplcohjpchfkkaa
section
open Go.RowKit
open Go.Sort (grow)

/-- Raw ones that came in. -/
structure MdAtO (w : World) (g o : Nat) (m : Md) : Prop where
  c0 : w.cell? ⟨g, o, none⟩ = some (.int .i64 m.act)
  c1 : w.cell? ⟨g, o + 1, none⟩ = some (.int .i64 m.kn)
  c2 : w.cell? ⟨g, o + 2, none⟩ = some (.int .i64 m.kd)
  c3 : w.cell? ⟨g, o + 3, none⟩ = some (.int .i64 m.ma)
  c4 : w.cell? ⟨g, o + 4, none⟩ = some (.int .i64 m.mb)
  c5 : w.cell? ⟨g, o + 5, none⟩ = some (.string m.key)

theorem MdAtO.below {w w' : World} {g o : Nat} {m : Md} (h : MdAtO w g o m) (hb : RowKit.Below w.heap.size w w') (hg : g < w.heap.size) : MdAtO w' g o m :=
  ⟨(hb.cell hg).trans h.c0, (hb.cell hg).trans h.c1, (hb.cell hg).trans h.c2, (hb.cell hg).trans h.c3, (hb.cell hg).trans h.c4, (hb.cell hg).trans h.c5⟩

structure MS (w : World) (a : Option Addr) (n c : Nat) (l : List Md) : Prop where
  len : l.length = n
  cap : n ≤ c
  max : c ≤ maxLen
  at_ : 0 < n → ∃ g o, a = some ⟨g, o, none⟩ ∧ g < w.heap.size ∧ ∀ i (hi : i < l.length), MdAtO w g (o + i * 6) l[i]

theorem MS.below {w w' : World} {a : Option Addr} {n c : Nat} {l : List Md} (h : MS w a n c l) (hb : RowKit.Below w.heap.size w w') : MS w' a n c l :=
  ⟨h.len, h.cap, h.max, fun hp => by
    obtain ⟨g, o, e, hg, hx⟩ := h.at_ hp
    exact ⟨g, o, e, Nat.lt_of_lt_of_le hg hb.size, fun i hi => (hx i hi).below hb hg⟩⟩

/-- A vector, and where it lies. -/
structure Kv where
  a : Option Addr
  n : Nat
  c : Nat
  V : List Dt

abbrev Kv.v (k : Kv) : Value := .slice k.a k.n k.c

theorem own_len {w : World} {b : Nat} {a : Option Addr} {n c : Nat} {V : List Dt} (h : OwnV w b (.slice a n c) V) : V.length = n := by
  obtain ⟨a', c', e, _⟩ := owned_ps h rfl
  simp only [Value.slice.injEq] at e
  exact e.2.1.symm

theorem own_is_ps {w : World} {b : Nat} {a : Option Addr} {n c : Nat} {V : List Dt} (h : OwnV w b (.slice a n c) V) : PS w a n c V := by
  have hl := own_len h
  refine own_ps_at' (base := b) ?_ hl
  have h' : w.ownsRow b 24 2 (.slice a n c) V.length (flat V) := h
  rw [hl] at h'
  exact h'

theorem own_mono {w : World} {b b' e z : Nat} {v : Value} {n : Nat} {xs : List Value} (h : w.ownsRow b e z v n xs) (hb : b' ≤ b) : w.ownsRow b' e z v n xs := by
  refine ⟨h.1, ?_⟩
  rcases h.2 with h2 | ⟨g, cap, cur, h3, h4, h5⟩
  · exact Or.inl h2
  · exact Or.inr ⟨g, cap, cur, h3, Nat.le_trans hb h4, h5⟩

theorem own_keep {w w' : World} {base e z : Nat} {v : Value} {n : Nat} {xs : List Value} (h : w.ownsRow base e z v n xs) (hb : RowKit.Below w.heap.size w w') : w'.ownsRow base e z v n xs := World.ownsRow.kept h (obelow_grown hb) none_or

theorem KN.few {A : List Mop} {V : List Dt} {act : Int} (h : KN A V act) : V.length ≤ A.length := by
  have hn : V.Nodup := h.vm.ac.imp (fun {a b} hab e => by rw [e] at hab; omega)
  have := List.Nodup.length_le_of_subset hn (l₂ := A.map (fun x => x.1.id)) (fun d hd => by
    obtain ⟨y, hy, e⟩ := h.ids d hd
    exact List.mem_map.2 ⟨y, hy, e⟩)
  simpa using this

/-- What lies in memory: the vectors of the four, the operations so far. -/
structure SH (w wr : World) (v : Value) (L : List Mo) (K : Nat → Kv) : Prop where
  blk : ∃ cur : Array Value, wr.heap[w.heap.size]? = some (.cells cur 91) ∧ cur.size = 4 ∧ ∀ j, j < 4 → cur[j]? = some (K j).v
  own : ∀ j, j < 4 → OwnV wr (w.heap.size + 1) (K j).v (K j).V
  out : OwnO wr (w.heap.size + 1) v L
  dep : ∀ x ∈ L, OwnV wr (w.heap.size + 1) x.dep x.V
  bel : RowKit.Below w.heap.size w wr

/-- What is known of them. -/
structure SP (L : List Mo) (K : Nat → Kv) : Prop where
  fit : ∀ x ∈ L, x.o.Fits ∧ x.o.time ≤ (L.length : Int) ∧ 1 ≤ x.o.id0
  st : St (L.map Mo.m)
  kn : ∀ j, j < 4 → KN (L.map Mo.m) (K j).V (1 + (j : Int) * 256)

theorem SH.start (w : World) : SH w (w.alloc (.cells #[.slice none 0 0, .slice none 0 0, .slice none 0 0, .slice none 0 0] 91)) (.slice none 0 0) [] (fun _ => ⟨none, 0, 0, []⟩) := by
  refine ⟨⟨_, (MapKept.heap_alloc w _).1, rfl, fun j hj => ?_⟩, fun j _ => World.ownsRow_nil _ _ _ _, World.ownsRow_nil _ _ _ _, fun x hx => by simp at hx, ((Far.refl w).alloc _).below⟩
  match j, hj with
  | 0, _ => rfl
  | 1, _ => rfl
  | 2, _ => rfl
  | 3, _ => rfl
  | j + 4, hj => omega

theorem SP.start : SP [] (fun _ => ⟨none, 0, 0, []⟩) := ⟨by simp, St.nil, fun _ _ => KN.nil _⟩

theorem SH.lt {w wr : World} {v : Value} {L : List Mo} {K : Nat → Kv} (h : SH w wr v L K) : w.heap.size < wr.heap.size := by
  obtain ⟨cur, h1, _⟩ := h.blk
  exact (Array.getElem?_eq_some_iff.1 h1).1

theorem SH.below {w wr wr' : World} {v : Value} {L : List Mo} {K : Nat → Kv} (h : SH w wr v L K) (hb : RowKit.Below wr.heap.size wr wr') : SH w wr' v L K := by
  obtain ⟨cur, h1, h2, h3⟩ := h.blk
  exact ⟨⟨cur, (hb.block _ h.lt).trans h1, h2, h3⟩, fun j hj => own_keep (h.own j hj) hb, own_keep h.out hb, fun x hx => own_keep (h.dep x hx) hb, below2 h.bel hb⟩

theorem SH.cell {w wr : World} {v : Value} {L : List Mo} {K : Nat → Kv} (h : SH w wr v L K) {j : Nat} (hj : j < 4) : wr.cell? ⟨w.heap.size, j, none⟩ = some (.slice (K j).a (K j).n (K j).c) := by
  obtain ⟨cur, h1, _, h3⟩ := h.blk
  have := h3 j hj
  simp [World.cell?, h1, this]

theorem SH.frozen {w wr : World} {v : Value} {L : List Mo} {K : Nat → Kv} (h : SH w wr v L K) (j : Nat) : wr.frozen? ⟨w.heap.size, j, none⟩ = false := by
  obtain ⟨cur, h1, _⟩ := h.blk
  exact frozen_of_block h1 j

theorem SH.ps {w wr : World} {v : Value} {L : List Mo} {K : Nat → Kv} (h : SH w wr v L K) {j : Nat} (hj : j < 4) : PS wr (K j).a (K j).n (K j).c (K j).V := own_is_ps (h.own j hj)

theorem SH.os {w wr : World} {v : Value} {L : List Mo} {K : Nat → Kv} (h : SH w wr v L K) : ∃ a c, v = .slice a L.length c ∧ OS wr a L.length c L := owned_os h.out (fun x hx => own_is_ps (h.dep x hx))

theorem SH.os_at {w wr : World} {a : Option Addr} {n c : Nat} {L : List Mo} {K : Nat → Kv} (h : SH w wr (.slice a n c) L K) : OS wr a n c L := by
  obtain ⟨a', c', e, ho⟩ := h.os
  simp only [Value.slice.injEq] at e
  obtain ⟨rfl, rfl, rfl⟩ := e
  exact ho

theorem SP.few {L : List Mo} {K : Nat → Kv} (h : SP L K) {w wr : World} {v : Value} (hh : SH w wr v L K) {j : Nat} (hj : j < 4) : (K j).n ≤ L.length := by
  have := (h.kn j hj).few
  rw [← own_len (hh.own j hj)]
  simpa using this

theorem SP.deps {L : List Mo} {K : Nat → Kv} (h : SP L K) {w wr : World} {v : Value} (hh : SH w wr v L K) {x : Mo} (hx : x ∈ L) : x.n ≤ L.length := by
  have hv : VM x.V := (chk_head (h.st.cl.may _ (List.mem_map.2 ⟨x, hx, rfl⟩))).2.1
  have hn : x.V.Nodup := hv.ac.imp (fun {a b} hab e => by rw [e] at hab; omega)
  have := List.Nodup.length_le_of_subset hn (l₂ := (L.map Mo.m).map (fun x => x.1.id)) (fun d hd => by
    obtain ⟨y, hy, e⟩ := h.st.cl.deps (List.mem_map.2 ⟨x, hx, rfl⟩) d hd
    exact List.mem_map.2 ⟨y, hy, e⟩)
  rw [← own_len (hh.dep x hx)]
  simpa using this

theorem SH.set {w wr : World} {v : Value} {L : List Mo} {K : Nat → Kv} (h : SH w wr v L K) {j : Nat} (hj : j < 4) (k' : Kv) (ho : OwnV wr (w.heap.size + 1) k'.v k'.V) :
    SH w (wr.setCell ⟨w.heap.size, j, none⟩ k'.v) v L (fun i => if i = j then k' else K i) := by
  obtain ⟨cur, h1, h2, h3⟩ := h.blk
  refine ⟨⟨cur.setIfInBounds j k'.v, set_block h1 _, by simpa using h2, fun i hi => ?_⟩, fun i hi => ?_, ownsRow_setCell_below h.out (Nat.lt_succ_self _) _, fun x hx => ownsRow_setCell_below (h.dep x hx) (Nat.lt_succ_self _) _, below_set h.bel (Nat.le_refl _) h.bel.size j _⟩
  · by_cases e : i = j
    · subst e
      simp [h2, hi]
    · rw [if_neg e, Array.getElem?_setIfInBounds_ne (fun e' => e e'.symm)]
      exact h3 i hi
  · by_cases e : i = j
    · subst e
      simp only [if_true]
      exact ownsRow_setCell_below ho (Nat.lt_succ_self _) _
    · simp only [if_neg e]
      exact ownsRow_setCell_below (h.own i hi) (Nat.lt_succ_self _) _

theorem SP.more {L : List Mo} {K : Nat → Kv} (h : SP L K) {j : Nat} (hj : j < 4) (k' : Kv) {x : Mo} (hx : x ∈ L) (hb : belv x.V (K j).V = true) (hk : k'.V = vwith (K j).V x.o.id) : SP L (fun i => if i = j then k' else K i) := by
  refine ⟨h.fit, h.st, fun i hi => ?_⟩
  by_cases e : i = j
  · subst e
    simp only [if_true]
    rw [hk]
    exact (h.kn i hi).more h.st.cl (List.mem_map.2 ⟨x, hx, rfl⟩) hb
  · simp only [if_neg e]
    exact h.kn i hi

theorem SH.with_ {w wz w1 : World} {v : Value} {L : List Mo} {K : Nat → Kv} (h : SH w wz v L K) (hB : RowKit.Below wz.heap.size wz w1) {j : Nat} (hj : j < 4) {a1 : Option Addr} {c1 b1 : Nat} {V : List Dt} (ho : w1.ownsRow b1 24 2 (.slice a1 V.length c1) V.length (flat V)) (hb : w.heap.size + 1 ≤ b1) :
    SH w (w1.setCell ⟨w.heap.size, j, none⟩ (.slice a1 V.length c1)) v L (fun i => if i = j then ⟨a1, V.length, c1, V⟩ else K i) := (h.below hB).set hj ⟨a1, V.length, c1, V⟩ (own_mono ho hb)

/-- With one more operation. -/
theorem SH.snoc {w wr wr' : World} {v v' : Value} {L : List Mo} {K : Nat → Kv} (h : SH w wr v L K) {j : Nat} (hj : j < 4) (o : OpIn) (hg : wr.grownBy wr' v.ownBlock) (ho : OwnO wr' (w.heap.size + 1) v' (L ++ [⟨o, (K j).a, (K j).n, (K j).c, (K j).V⟩])) : SH w wr' v' (L ++ [⟨o, (K j).a, (K j).n, (K j).c, (K j).V⟩]) K := by
  obtain ⟨cur, h1, h2, h3⟩ := h.blk
  have hne : 24 ≠ 58 := by decide
  have hk : ∀ {u : Value} {V : List Dt}, OwnV wr (w.heap.size + 1) u V → OwnV wr' (w.heap.size + 1) u V := fun {u V} hu => World.ownsRow.kept hu hg (rows_apart hu h.out hne)
  refine ⟨⟨cur, (hg.block _ h.lt (fun e => ?_)).trans h1, h2, h3⟩, fun i hi => hk (h.own i hi), ho, fun x hx => ?_, h.bel.grown hg h.bel.size (fun k hk => by have := (World.ownsRow.lt h.out k hk).1; omega)⟩
  · have := (World.ownsRow.lt h.out _ e.symm).1
    omega
  · rcases List.mem_append.1 hx with hx | hx
    · exact hk (h.dep x hx)
    · simp at hx
      rw [hx]
      exact hk (h.own j hj)

theorem SP.new {L : List Mo} {K : Nat → Kv} {j : Nat} {o : OpIn} (hid0 : o.id0 = 1 + (j : Int) * 256) (hid1 : o.id1 = gt (K j).V (1 + (j : Int) * 256) + 1) (ht : o.time = latI (K j).V L 0 + 1) (hkd : KD (L.map Mo.m) o (K j).V) (hc : chk o (K j).V = true) : New (L.map Mo.m) (K j).V (1 + (j : Int) * 256) o := by
  refine ⟨hc, hid0, hid1, fun y hy hh => ?_, hkd⟩
  obtain ⟨x, hx, rfl⟩ := List.mem_map.1 hy
  have := (latI_ge (K j).V L 0).2 x hx hh
  show x.o.time < o.time
  omega

theorem SP.snoc {L : List Mo} {K : Nat → Kv} (h : SP L K) {j : Nat} (hj : j < 4) (k' : Kv) {o : OpIn} (hn : New (L.map Mo.m) (K j).V (1 + (j : Int) * 256) o) (hf : o.Fits) (ht : o.time = latI (K j).V L 0 + 1) (hk : k'.V = vwith (K j).V o.id) : SP (L ++ [⟨o, (K j).a, (K j).n, (K j).c, (K j).V⟩]) (fun i => if i = j then k' else K i) := by
  have hm : (L ++ [(⟨o, (K j).a, (K j).n, (K j).c, (K j).V⟩ : Mo)]).map Mo.m = L.map Mo.m ++ [(o, (K j).V)] := by simp
  refine ⟨fun x hx => ?_, by rw [hm]; exact h.st.snoc (h.kn j hj) hn, fun i hi => ?_⟩
  · have hle := latI_le (K j).V L 0 (M := (L.length : Int)) (by omega) (fun x hx => (h.fit x hx).2.1)
    rw [List.length_append, List.length_singleton]
    rcases List.mem_append.1 hx with hx | hx
    · have := h.fit x hx
      exact ⟨this.1, by have := this.2.1; omega, this.2.2⟩
    · simp at hx
      rw [hx]
      exact ⟨hf, by show o.time ≤ _; omega, by show 1 ≤ o.id0; rw [hn.id0]; omega⟩
  · rw [hm]
    by_cases e : i = j
    · subst e
      simp only [if_true]
      rw [hk]
      exact (h.kn i hi).snoc h.st.cl hn
    · simp only [if_neg e]
      exact (h.kn j hj).other hn (h.kn i hi) (by omega)
end

section
open Go.RowKit
open Go.Sort (grow)

theorem bel_a {W w1 : World} (h : RowKit.Below W.heap.size W w1) (C : Obj) : (w1.alloc C).heap[w1.heap.size]? = some C ∧ W.heap.size ≤ w1.heap.size ∧ RowKit.Below W.heap.size W (w1.alloc C) := ⟨(MapKept.heap_alloc w1 C).1, h.size, h.alloc h.size C⟩

theorem bel_b {W w1 : World} {Y : Obj} (h : RowKit.Below (W.alloc Y).drew.heap.size (W.alloc Y).drew w1) (hY : Y = .cells (zop.cells (.slice none 0 0)) 58) (o : OpIn) (v : Value) : (put14 w1 W.heap.size o v).heap[W.heap.size]? = some (.cells (o.cells v) 58) ∧ RowKit.Below W.heap.size W (put14 w1 W.heap.size o v) := by
  have h0 : W.heap.size < (W.alloc Y).drew.heap.size := by show W.heap.size < (W.alloc Y).heap.size; simp
  have h1 := (h.block _ h0).trans (MapKept.heap_alloc W Y).1
  rw [hY] at h1
  have hF : RowKit.Below W.heap.size W w1 := below2 (((Far.refl W).alloc Y).drew).below h
  have G := put14_grown w1 W.heap.size o v
  exact ⟨put14_block h1, hF.grown G hF.size (fun j hj => by cases hj; exact Nat.le_refl _)⟩

theorem wrap_is {x : Int} (h0 : -9223372036854775808 ≤ x) (h1 : x ≤ 9223372036854775807) : IntKind.i64.wrap x = x := by
  rw [IntKind.wrap_i64]
  omega
end

section
open Go.RowKit
open Go.Sort (grow)

/-- What one tells. -/
def OneSays : Prop := ∀ (a : Option Addr) (n c : Nat) (L : List Mo) (xa : Option Addr) (xn xc : Nat) (V : List Dt) (act : Int) (m : Md) (w : World), OS w a n c L → PS w xa xn xc V → n ≤ 1000 → xn ≤ 1000000 → VM V → m.Fits → F64 act → (∀ x ∈ L, x.o.Fits ∧ x.o.time ≤ 1099511627776 ∧ 1 ≤ x.o.id0) →
    Calls Try.prog 47 #[.slice a n c, .slice xa xn xc, .int .i64 act, mv m] w fun e w' => ∃ o', e = .returned (ov o' (.slice xa xn xc)) ∧ o'.Fits ∧ o'.id0 = act ∧ o'.id1 = gt V act + 1 ∧ o'.time = latI V L 0 + 1 ∧ KD (L.map Mo.m) o' V ∧ RowKit.Below w.heap.size w w'

/-- What Story tells. -/
def StorySays : Prop := ∀ (a : Option Addr) (n c : Nat) (l : List Md) (w : World), MS w a n c l → (∀ m ∈ l, m.Fits) →
    Calls Try.prog 26 #[.slice a n c] w fun e w' => ∃ (v : Value) (L : List Mo) (K : Nat → Kv), e = .returned v ∧ SH w w' v L K ∧ SP L K ∧ L.length ≤ 60

set_option maxRecDepth 100000 in
set_option maxHeartbeats 8000000 in
theorem story_of (hOne : OneSays) : StorySays := by
  intro a n c l w hs hm
  have hlen := hs.len
  have hcap := hs.cap
  have hmax := hs.max
  unfold maxLen at hmax
  have HOne := hid hOne
  clear hOne
  go_enter Try.func26, Try.ntmps26
  go_wp2
  go_loopw [5, 3] (fun i v wr => ∃ (k : Nat) (L : List Mo) (K : Nat → Kv), k ≤ n ∧ k ≤ 60 ∧ i = .int .i64 k ∧ L.length ≤ k ∧ Hid (SH w wr v L K) ∧ Hid (SP L K)) (fun i _ _ => 60 - (intOf i).toNat)
  case atStart => exact ⟨0, [], _, by omega, by omega, rfl, by simp, hid (SH.start w), hid SP.start⟩
  case round =>
    obtain ⟨k, L, K, hk, hk6, rfl, hLk, hH, hP⟩ := hrel
    by_cases hlt : k < n
    · by_cases h60 : k < 60
      · have hkl : k < l.length := by omega
        obtain ⟨g, o, rfl, hg, hcell⟩ := (hs.below hH.out.bel).at_ (by omega)
        obtain ⟨q0, q1, q2, q3, q4, q5⟩ := hcell k hkl
        have hmf := hm _ (List.getElem_mem hkl)
        generalize l[k] = m at *
        obtain ⟨oa, oc, rfl, hos⟩ := hH.out.os
        have hF1 : Far wr (wr.alloc (.cells m.cells 93)) := (Far.refl wr).alloc _
        have hbm : (wr.alloc (.cells m.cells 93)).heap[wr.heap.size]? = some (.cells m.cells 93) := (MapKept.heap_alloc wr _).1
        have hact := absI_bounds hmf.act
        have hknw := absI_bounds hmf.kn
        have kA := fun W' => abs_any m.act hmf.act W'
        have kN := fun W' => abs_any m.kn hmf.kn W'
        generalize absI m.act = A0 at *
        generalize absI m.kn = N0 at *
        obtain ⟨j, hj⟩ := nat_of (show 0 ≤ A0 % 4 by omega)
        have hj4 : j < 4 := by omega
        have k2r := tmod_range hknw.1 (show (0 : Int) < (L.length : Int) + 1 by omega)
        obtain ⟨q, hq⟩ := nat_of k2r.1
        have hql : q ≤ L.length := by omega
        have hsr := hH.out.bel.size
        go_upto_region 9 with (first
          | (go_at_call 44; refine (kA _).mono ?_; rintro e wq ⟨rfl, rfl⟩)
          | (go_at_call 44; refine (kN _).mono ?_; rintro e wq ⟨rfl, rfl⟩))
        have hF1' : Far wr (wr.alloc (.cells #[.int .i64 m.act, .int .i64 m.kn, .int .i64 m.kd, .int .i64 m.ma, .int .i64 m.mb, .string m.key] 93)) := hF1
        have hbm' : (wr.alloc (.cells #[.int .i64 m.act, .int .i64 m.kn, .int .i64 m.kd, .int .i64 m.ma, .int .i64 m.mb, .string m.key] 93)).heap[wr.heap.size]? = some (.cells m.cells 93) := hbm
        clear hF1 hbm
        generalize wr.alloc (.cells #[.int .i64 m.act, .int .i64 m.kn, .int .i64 m.kd, .int .i64 m.ma, .int .i64 m.mb, .string m.key] 93) = W1 at *
        have hH1 := hid (hH.out.below hF1'.below)
        have hlt1 := hH.out.lt
        have HBM := hid hbm'
        obtain ⟨qm, hqm⟩ : ∃ qm, wr.heap.size = qm := ⟨_, rfl⟩
        rw [hqm] at HBM hlt1 ⊢
        clear hbm' hF1' hos hH q0 q1 q2 q3 q4 q5 hqm kA kN hcell hsr
        clear hg
        go_wp2
        go_loopw [9] (fun i wr => ∃ (k2 : Nat) (K2 : Nat → Kv), k2 ≤ q ∧ i = .int .i64 k2 ∧ Hid (SH w wr (.slice oa L.length oc) L K2) ∧ Hid (SP L K2) ∧ Hid (wr.heap[qm]? = some (.cells m.cells 93))) (fun i _ => q - (intOf i).toNat)
        case atStart => exact ⟨0, K, by omega, rfl, hH1, hP, HBM⟩
        case round =>
          clear hH1 hP HBM K
          obtain ⟨k2, K2, hk2, rfl, hH2, hP2, hbm2⟩ := hrel
          obtain ⟨⟨ka, kn, kc, kV⟩, hKj⟩ : ∃ x, K2 j = x := ⟨_, rfl⟩
          have hps : PS wr ka kn kc kV := by have := hH2.out.ps hj4; rw [hKj] at this; exact this
          have hcj : wr.cell? ⟨w.heap.size, j, none⟩ = some (.slice ka kn kc) := by have := hH2.out.cell hj4; rw [hKj] at this; exact this
          have hkn : KN (L.map Mo.m) kV (1 + (j : Int) * 256) := by have := hP2.out.kn j hj4; rw [hKj] at this; exact this
          have hfw : kn ≤ L.length := by have := hP2.out.few hH2.out hj4; rw [hKj] at this; exact this
          have hlw := hH2.out.lt
          have hjb : (j : Int) < 4 := by omega
          by_cases hlt2 : k2 < q
          · have hkl2 : k2 < L.length := by omega
            have hos := hH2.out.os_at
            obtain ⟨g2, o2, rfl, hg2, hcell2⟩ := hos.at (by omega)
            have hX := hid (hcell2 k2 hkl2)
            have hxL := List.getElem_mem hkl2
            generalize L[k2] = x at *
            have hxn := hP2.out.deps hH2.out hxL
            have hxf := (hP2.out.fit x hxL).1
            have hxm : mayd x.o.id = true := (chk_head (hP2.out.st.cl.may _ (List.mem_map.2 ⟨x, hxL, rfl⟩))).1
            haveI : Nonempty (Wb wr) := ⟨⟨wr, Below.refl _ _⟩⟩
            have y3 : ∀ p : Wb wr, p.u.cell? ⟨g2, o2 + k2 * 14 + 3, none⟩ = some (.slice x.a x.n x.c) := fun p => (hX.out.below p.h hg2).c3
            have yk : ∀ p : Wb wr, p.u.cell? ⟨w.heap.size, j, none⟩ = some (.slice ka kn kc) := fun p => (p.h.cell hlw).trans hcj
            have hBel : ∀ p : Wb wr, Calls Try.prog 45 #[.slice x.a x.n x.c, .slice ka kn kc] p.u fun e w' => e = .returned (.bool (belv x.V kV)) ∧ ∃ p' : Wb wr, w' = p'.u := fun p => far_q (rbelow_any (own_is_ps ((hH2.out.below p.h).dep x hxL)) (by omega) (hps.below p.h) (by omega))
            go_upto_region 12 with fail
            refine wp_region_below mixed (by kernel_rfl) ?_
            repeat (go_big_quiet_step (first | (go_at_call 45; exact hBel _)))
            refine wpQuiet_nil ?_
            intro _ hw'
            obtain ⟨p, hw''⟩ := hw'
            subst hw''
            have hb' := p.h
            have hH3 := hid (hH2.out.below hb')
            have hbm3 := hid ((hb'.block _ (Array.getElem?_eq_some_iff.1 hbm2.out).1).trans hbm2.out)
            have hX3 := hX.out.below hb' hg2
            have hps3 := hps.below hb'
            have hcj3 := yk p
            have hg3 := Nat.lt_of_lt_of_le hg2 hb'.size
            have hlw3 := Nat.lt_of_lt_of_le hlw hb'.size
            generalize p.u = wz at *
            clear hBel y3 yk hb' hH2 hbm2 hX hps hcj hos hcell2 hg2 hlw this
            cases hbv : belv x.V kV
            · go_wp2
              go_roundw
              case rel => exact ⟨k2 + 1, K2, by omega, by go_num, hH3, hP2, hbm3⟩
              case measure => simp [intOf]; omega
            · go_upto_region 14 with fail
              have hd1 : Far wz wz.drew := (Far.refl wz).drew
              have e0 : wz.drew.cell? ⟨g2, o2 + k2 * 14, none⟩ = some (.int .i64 x.o.id0) := hX3.c0
              have e1 : wz.drew.cell? ⟨g2, o2 + k2 * 14 + 1, none⟩ = some (.int .i64 x.o.id1) := hX3.c1
              have ej : wz.drew.cell? ⟨w.heap.size, j, none⟩ = some (.slice ka kn kc) := hcj3
              have hW : Calls Try.prog 46 #[.slice ka kn kc, .agg #[.int .i64 x.o.id0, .int .i64 x.o.id1]] wz.drew (Gives wz.drew (vwith kV x.o.id)) := rwith_own x.o.id hxm (hps3.far hd1) (by omega) hkn.vm
              clear hX3 hps3
              go_region_with (first
                | (go_at_call 46; refine hW.mono ?_; rintro e w1 ⟨v1, rfl, ho1, hb1⟩; obtain ⟨a1, c1, rfl, hp1⟩ := owned_ps ho1 rfl; have hB1 := hid (below2 hd1.below hb1); have ck1 := (hb1.cell (by exact hlw3)).trans ej; have fz1 := (hH3.out.below (below2 hd1.below hb1)).frozen j))
              all_goals
                (go_wp2
                 go_roundw
                 case rel =>
                   refine ⟨k2 + 1, _, by omega, by go_num, hid (hH3.out.with_ hB1.out hj4 ho1 (by show w.heap.size + 1 ≤ wz.heap.size; omega)), hid (hP2.out.more hj4 ⟨a1, _, c1, vwith kV x.o.id⟩ hxL (by rw [hKj]; exact hbv) (by rw [hKj])), hid ?_⟩
                   exact (set_other (by omega) _).trans ((hB1.out.block _ (Array.getElem?_eq_some_iff.1 hbm3.out).1).trans hbm3.out)
                 case measure => simp [intOf]; omega)
          · obtain rfl : q = k2 := by omega
            have hos := hH2.out.os_at
            have HOS := hid hos
            have HPS := hid hps
            have hkvm := hkn.vm
            have hF64 : F64 (1 + (j : Int) * 256) := ⟨by omega, by omega⟩
            have hfit : ∀ x ∈ L, x.o.Fits ∧ x.o.time ≤ 1099511627776 ∧ 1 ≤ x.o.id0 := fun x hx => by
              have := hP2.out.fit x hx
              exact ⟨this.1, by have := this.2.1; omega, this.2.2⟩
            have kO : ∀ W', RowKit.Below wr.heap.size wr W' → Calls Try.prog 47 #[.slice oa L.length oc, .slice ka kn kc, .int .i64 (1 + (j : Int) * 256), .agg #[.int .i64 m.act, .int .i64 m.kn, .int .i64 m.kd, .int .i64 m.ma, .int .i64 m.mb, .string m.key]] W' fun e w' => ∃ o', e = .returned (.agg #[.int .i64 o'.id0, .int .i64 o'.id1, .int .i64 o'.time, .slice ka kn kc, .int .i64 o'.kind, .int .i64 o'.bl0, .int .i64 o'.bl1, .int .i64 o'.at0, .int .i64 o'.at1, .int .i64 o'.side, .int .i64 o'.char, .int .i64 o'.pa0, .int .i64 o'.pa1, .string o'.key]) ∧ Hid (o'.Fits ∧ o'.id0 = 1 + (j : Int) * 256 ∧ o'.id1 = gt kV (1 + (j : Int) * 256) + 1 ∧ o'.time = latI kV L 0 + 1 ∧ KD (L.map Mo.m) o' kV) ∧ RowKit.Below W'.heap.size W' w' := fun W' hb =>
              (HOne.out oa L.length oc L ka kn kc kV (1 + (j : Int) * 256) m W' (HOS.out.below hb) (HPS.out.below hb) (by omega) (by omega) hkvm hmf hF64 hfit).mono fun _ _ ⟨o', h0, h1, h2, h3, h4, h5, h6⟩ => ⟨o', h0, hid ⟨h1, h2, h3, h4, h5⟩, h6⟩
            have hmc := mdAt_of hbm2.out
            have hqml := (Array.getElem?_eq_some_iff.1 hbm2.out).1
            have hSf : ∀ W', RowKit.Below wr.heap.size wr W' → W'.cell? ⟨w.heap.size, j, none⟩ = some (.slice ka kn kc) ∧ W'.cell? ⟨qm, 0, none⟩ = some (.int .i64 m.act) ∧ W'.cell? ⟨qm, 1, none⟩ = some (.int .i64 m.kn) ∧ W'.cell? ⟨qm, 2, none⟩ = some (.int .i64 m.kd) ∧ W'.cell? ⟨qm, 3, none⟩ = some (.int .i64 m.ma) ∧ W'.cell? ⟨qm, 4, none⟩ = some (.int .i64 m.mb) ∧ W'.cell? ⟨qm, 5, none⟩ = some (.string m.key) := fun W' hb => ⟨(hb.cell hlw).trans hcj, (hb.cell hqml).trans hmc.c0, (hb.cell hqml).trans hmc.c1, (hb.cell hqml).trans hmc.c2, (hb.cell hqml).trans hmc.c3, (hb.cell hqml).trans hmc.c4, (hb.cell hqml).trans hmc.c5⟩
            have hD0 : RowKit.Below wr.heap.size wr wr.drew := ((Far.refl wr).drew).below
            have hD1 : RowKit.Below wr.heap.size wr (wr.alloc (.cells #[.int .i64 0, .int .i64 0, .int .i64 0, .slice none 0 0, .int .i64 0, .int .i64 0, .int .i64 0, .int .i64 0, .int .i64 0, .int .i64 0, .int .i64 0, .int .i64 0, .int .i64 0, .string { data := #[] }] 58)).drew := (((Far.refl wr).alloc _).drew).below
            have hw1 : IntKind.i64.wrap ((j : Int) * 256) = (j : Int) * 256 := wrap_is (by omega) (by omega)
            have hw2 : IntKind.i64.wrap (1 + (j : Int) * 256) = 1 + (j : Int) * 256 := wrap_is (by omega) (by omega)
            go_upto_region 15 with fail
            go_cut [11] from 63 to 72 (fun s wc => ∃ (qo : Nat) (o' : OpIn), s = .pointer (some ⟨qo, 0, none⟩) ∧ wc.heap[qo]? = some (.cells (o'.cells (.slice ka kn kc)) 58) ∧ wr.heap.size ≤ qo ∧ Hid (RowKit.Below wr.heap.size wr wc) ∧ Hid (o'.Fits ∧ o'.id0 = 1 + (j : Int) * 256 ∧ o'.id1 = gt kV (1 + (j : Int) * 256) + 1 ∧ o'.time = latI kV L 0 + 1 ∧ KD (L.map Mo.m) o' kV))
            case first =>
              have hQ : ∀ w1, RowKit.Below (wr.alloc (.cells #[.int .i64 0, .int .i64 0, .int .i64 0, .slice none 0 0, .int .i64 0, .int .i64 0, .int .i64 0, .int .i64 0, .int .i64 0, .int .i64 0, .int .i64 0, .int .i64 0, .int .i64 0, .string { data := #[] }] 58)).drew.heap.size (wr.alloc (.cells #[.int .i64 0, .int .i64 0, .int .i64 0, .slice none 0 0, .int .i64 0, .int .i64 0, .int .i64 0, .int .i64 0, .int .i64 0, .int .i64 0, .int .i64 0, .int .i64 0, .int .i64 0, .string { data := #[] }] 58)).drew w1 → w1.heap[wr.heap.size]? = some (.cells (zop.cells (.slice none 0 0)) 58) := fun w1 h => (h.block _ (by show wr.heap.size < (wr.alloc _).heap.size; simp)).trans (MapKept.heap_alloc wr _).1
              have S0 := hSf _ hD0
              have S1 := hSf _ hD1
              have hn1 : wr.heap.size ≠ w.heap.size := by omega
              have hn2 : wr.heap.size ≠ qm := by omega
              clear hos hfit hps hmc hkn
              go_region_held (fun w' => w'.cell? ⟨w.heap.size, j, none⟩ = some (.slice ka kn kc) ∧ w'.cell? ⟨qm, 0, none⟩ = some (.int .i64 m.act) ∧ w'.cell? ⟨qm, 1, none⟩ = some (.int .i64 m.kn) ∧ w'.cell? ⟨qm, 2, none⟩ = some (.int .i64 m.kd) ∧ w'.cell? ⟨qm, 3, none⟩ = some (.int .i64 m.ma) ∧ w'.cell? ⟨qm, 4, none⟩ = some (.int .i64 m.mb) ∧ w'.cell? ⟨qm, 5, none⟩ = some (.string m.key)) (first | with_reducible exact S0 | with_reducible exact S1 | with_reducible exact hSb | with_reducible exact hSa _ | (simp only [World.cell?_setCell_far, hn1, hn2, ne_eq, not_false_eq_true, hSb, and_self]; done))
                (first
                 | (go_at_call 47; with_reducible refine (kO _ hD1).mono ?_; rintro e w1 ⟨o', rfl, hOP, hkb⟩; have hSb := hSf _ (below2 hD1 hkb); have hZ := hQ w1 hkb; obtain ⟨z0, z1, z2, z3, z4, z5, z6, z7, z8, z9, z10, z11, z12, z13⟩ := opAt_of_block hZ; have zf := frozen_of_block hZ)
                 | (go_at_call 47; with_reducible refine (kO _ hD0).mono ?_; rintro e w1 ⟨o', rfl, hOP, hka⟩; have hSb := hSf _ (below2 hD0 hka); have hSa := fun (C : Obj) => hSf _ ((below2 hD0 hka).alloc (below2 hD0 hka).size C)))
              all_goals first
                | (have hq := hkb
                   obtain ⟨r1, r3⟩ := bel_b hkb rfl o' (.slice ka kn kc)
                   as_aux_lemma =>
                   change Exit.then _ _ _ _ (put14 w1 wr.heap.size o' (.slice ka kn kc))
                   generalize put14 w1 wr.heap.size o' (.slice ka kn kc) = X at r1 r3 ⊢
                   go_wp2
                   go_meet
                   exact ⟨wr.heap.size, o', rfl, r1, Nat.le_refl _, hid r3, hOP⟩)
                | (have hq := hka
                   obtain ⟨r1, r2, r3⟩ := bel_a (below2 hD0 hka) (.cells (o'.cells (.slice ka kn kc)) 58)
                   as_aux_lemma =>
                   change Exit.then _ _ _ _ (w1.alloc (.cells (o'.cells (.slice ka kn kc)) 58))
                   generalize w1.alloc (.cells (o'.cells (.slice ka kn kc)) 58) = X at r1 r3 ⊢
                   go_wp2
                   go_meet
                   exact ⟨w1.heap.size, o', rfl, r1, r2, hid r3, hOP⟩)
            obtain ⟨qo, o', rfl, hqo, hql', hBc, hOP⟩ := hcut
            have hof := hOP.out.1
            have hH3 := hid (hH2.out.below hBc.out)
            have hps3 := HPS.out.below hBc.out
            have hne3 : Hid (∀ b, (Value.slice oa L.length oc).ownBlock = some b → b ≠ qo) := hid (fun b hb e => by have := (World.ownsRow.lt hH2.out.out b hb).2; omega)
            have HQO := hid hqo
            obtain ⟨b0, b1, b2, b3, b4, b5, b6, b7, b8, b9, b10, b11, b12, b13⟩ := opAt_of_block hqo
            have hCk : Calls Try.prog 48 #[.agg #[.int .i64 o'.id0, .int .i64 o'.id1, .int .i64 o'.time, .slice ka kn kc, .int .i64 o'.kind, .int .i64 o'.bl0, .int .i64 o'.bl1, .int .i64 o'.at0, .int .i64 o'.at1, .int .i64 o'.side, .int .i64 o'.char, .int .i64 o'.pa0, .int .i64 o'.pa1, .string o'.key]] wc fun e w' => e = .returned (.bool (chk o' kV)) ∧ Far wc w' := rcheck_any o' ka kn kc kV wc hps3 (by omega) hof.key
            have hl61 : L.length + 1 ≤ 60 := by omega
            clear hos hps hcj hkn kO hSf hD0 hD1 hmc hfit hw1 hw2 hqo hBc hH2 hbm2 hlw hqml
            cases hck : chk o' kV
            · rw [hck] at hCk
              go_wp2_with (first
                | (go_at_call 48; refine hCk.mono ?_; rintro e w4 ⟨rfl, hF4⟩))
              go_roundw
              case rel => exact ⟨k + 1, L, K2, by omega, by omega, by go_num, by omega, hid (hH3.out.below hF4.below), hP2⟩
              case measure => simp [intOf]; omega
            · rw [hck] at hCk
              go_upto_region 17 with (first
                | (go_at_call 48; refine hCk.mono ?_; rintro e w4 ⟨rfl, hF4⟩))
              have hH4 := hid (hH3.out.below hF4.below)
              have hq4 := (hF4.below.block _ (Array.getElem?_eq_some_iff.1 HQO.out).1).trans HQO.out
              have hq4l := (Array.getElem?_eq_some_iff.1 hq4).1
              have hlw4 := hH4.out.lt
              clear b0 b1 b2 b3 b4 b5 b6 b7 b8 b9 b10 b11 b12 b13 hCk hps3 hF4 hH3
              obtain ⟨b0, b1, b2, b3, b4, b5, b6, b7, b8, b9, b10, b11, b12, b13⟩ := opAt_of_block hq4
              go_upto_region 18 with (first
                | (at_builtin; refine wpList_append_op rfl _ _ rfl (w.heap.size + 1) (.slice oa L.length oc) L.length L rfl rfl (hH4.out.out.alloc _) w4.heap.size ⟨o', ka, kn, kc, kV⟩ rfl (mo_cells _ _ _ (opAt_alloc w4 o' (.slice ka kn kc) 58)) (by omega) (by simp; omega) ?_; intro g7 c7 w7 hO7 hG7 hat7 hlt7))
              have hA4 : SH w (w4.alloc (.cells (o'.cells (.slice ka kn kc)) 58)) (.slice oa L.length oc) L K2 := hH4.out.below ((Far.refl w4).alloc _).below
              have hH7 : Hid (SH w w7 (.slice (some ⟨g7, 0, none⟩) (L.length + 1) c7) (L ++ [⟨o', ka, kn, kc, kV⟩]) K2) := hid (by
                have := hA4.snoc hj4 o' hG7 (v' := .slice (some ⟨g7, 0, none⟩) (L.length + 1) c7) (by rw [hKj]; exact hO7)
                rw [hKj] at this
                exact this)
              have hq7 := (hG7.block qo (by simp; omega) (fun e => hne3.out qo e.symm rfl)).trans (((World.grownBy_alloc w4 (.cells (o'.cells (.slice ka kn kc)) 58) none).block qo hq4l (by simp)).trans hq4)
              have hps7 : PS w7 ka kn kc kV := by have := hH7.out.ps hj4; rw [hKj] at this; exact this
              have hcj7 : w7.cell? ⟨w.heap.size, j, none⟩ = some (.slice ka kn kc) := by have := hH7.out.cell hj4; rw [hKj] at this; exact this
              have hlw7 := hH7.out.lt
              clear b0 b1 b2 b3 b4 b5 b6 b7 b8 b9 b10 b11 b12 b13
              have hq7l := (Array.getElem?_eq_some_iff.1 hq7).1
              have hd1 : Far w7 w7.drew := (Far.refl w7).drew
              have hop7 := opAt_of_block hq7
              have e0 : w7.drew.cell? ⟨qo, 0, none⟩ = some (.int .i64 o'.id0) := hop7.c0
              have e1 : w7.drew.cell? ⟨qo, 1, none⟩ = some (.int .i64 o'.id1) := hop7.c1
              have ej : w7.drew.cell? ⟨w.heap.size, j, none⟩ = some (.slice ka kn kc) := hcj7
              have hW : Calls Try.prog 46 #[.slice ka kn kc, .agg #[.int .i64 o'.id0, .int .i64 o'.id1]] w7.drew (Gives w7.drew (vwith kV o'.id)) := rwith_own o'.id (chk_head hck).1 (hps7.far hd1) (by omega) hkvm
              clear hop7 hps7 hcj7 hG7 hO7 hq7 hA4 hH4 hq4 hat7
              go_region_with (first
                | (go_at_call 46; refine hW.mono ?_; rintro e w8 ⟨v8, rfl, ho8, hb8⟩; obtain ⟨a8, c8, rfl, hp8⟩ := owned_ps ho8 rfl; have hB8 := hid (below2 hd1.below hb8); have ck8 := (hb8.cell (by exact hlw7)).trans ej; have fz8 := (hH7.out.below (below2 hd1.below hb8)).frozen j))
              all_goals
                (go_wp2
                 go_roundw
                 case rel =>
                   have hnew : New (L.map Mo.m) (K2 j).V (1 + (j : Int) * 256) o' := by
                     rw [hKj]
                     have h := hOP.out
                     have := @SP.new L K2 j o'
                     rw [hKj] at this
                     exact this h.2.1 h.2.2.1 h.2.2.2.1 h.2.2.2.2 hck
                   have hsp := hP2.out.snoc hj4 ⟨a8, (vwith kV o'.id).length, c8, vwith kV o'.id⟩ hnew hof (by rw [hKj]; exact hOP.out.2.2.2.1) (by rw [hKj])
                   rw [hKj] at hsp
                   exact ⟨k + 1, _, _, by omega, by omega, by go_num, by simp; omega, hid (hH7.out.with_ hB8.out hj4 ho8 (by show w.heap.size + 1 ≤ w7.heap.size; omega)), hid hsp⟩
                 case measure => simp [intOf]; omega)
      · have hk0 : decide ((k : Int) < 60) = false := by simp; omega
        obtain ⟨oa, oc, rfl, hos⟩ := hH.out.os
        go_wp2
        go_ret
        exact ⟨_, L, K, rfl, hH.out, hP.out, by omega⟩
    · obtain ⟨oa, oc, rfl, hos⟩ := hH.out.os
      go_wp2
      go_ret
      exact ⟨_, L, K, rfl, hH.out, hP.out, by omega⟩
end
end Go.Proofs.Ytplcohjpchfkkaa
