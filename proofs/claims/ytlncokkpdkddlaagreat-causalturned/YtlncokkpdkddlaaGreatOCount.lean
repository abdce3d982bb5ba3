/- counting: of operations those that count, with Deps of their own, by ops.Less. -/
import Derived.Test.YtlncokkpdkddlaaGreatOSort
import Derived.Test.YtlncokkpdkddlaaGreatMRise
import Derived.Test.YtlncokkpdkddlaaGreatONil
namespace Go.Proofs.YtlncokkpdkddlaaGreat
open Go.RowKit Go.Maps
open Go.Sort (grow)

theorem opAt_of_block {w : World} {q : Nat} {o : OpIn} {v : Value} {t : TypeId} (h : w.heap[q]? = some (.cells (o.cells v) t)) : OpAt w q o v := by
  constructor <;> simp [World.cell?, h, OpIn.cells]

theorem frozen_of_block {w : World} {q : Nat} {cs : Array Value} {t : TypeId} (h : w.heap[q]? = some (.cells cs t)) (j : Nat) : w.frozen? ⟨q, j, none⟩ = false := by simp [World.frozen?, h]

theorem block_dep {w : World} {q : Nat} {o : OpIn} {v : Value} {t : TypeId} (h : w.heap[q]? = some (.cells (o.cells v) t)) (v' : Value) : (w.setCell ⟨q, 3, none⟩ v').heap[q]? = some (.cells (o.cells v') t) := by
  simp [World.setCell, Array.getElem?_modify, h, OpIn.cells]

/-- Is there one with this identity? -/
def hasId (l : List Mop) (d : Dt) : Bool := l.any (fun x => decide (x.1.id = d))

/-- One more that counts, or not. -/
def cnt1 (out : List Mop) (x : Mop) : List Mop := if hasId out x.1.id = false ∧ chk x.1 x.2 = true then out ++ [x] else out
/-- Those that count, in their order. -/
def cnt (l : List Mop) : List Mop := l.foldl cnt1 []

theorem cnt_snoc (l : List Mop) (x : Mop) : cnt (l ++ [x]) = cnt1 (cnt l) x := by simp [cnt]

theorem hasId_iff (l : List Mop) (d : Dt) : hasId l d = true ↔ d ∈ l.map (fun x => x.1.id) := by
  simp only [hasId, List.any_eq_true, decide_eq_true_eq, List.mem_map]

theorem cnt1_nodup {out : List Mop} (h : (out.map (fun x => x.1.id)).Nodup) (x : Mop) : ((cnt1 out x).map (fun x => x.1.id)).Nodup := by
  unfold cnt1
  split
  · rename_i hh
    rw [List.map_append]
    refine List.nodup_append.2 ⟨h, by simp, fun a ha b hb e => ?_⟩
    simp at hb
    subst hb
    subst e
    have := (hasId_iff out x.1.id).2 ha
    rw [hh.1] at this
    cases this
  · exact h

theorem foldl_nodup (l : List Mop) : ∀ out : List Mop, (out.map (fun x => x.1.id)).Nodup → ((l.foldl cnt1 out).map (fun x => x.1.id)).Nodup := by
  induction l with
  | nil => intro out h; exact h
  | cons x r ih => intro out h; exact ih _ (cnt1_nodup h x)

theorem cnt_nodup (l : List Mop) : ((cnt l).map (fun x => x.1.id)).Nodup := foldl_nodup l [] (by simp)

/-- What counting has so far. -/
structure CI (w wr : World) (mb : Nat) (v : Value) (L' : List Mo) (l : List Mop) (k : Nat) : Prop where
  own : OwnO wr w.heap.size v L'
  dep : ∀ x ∈ L', wr.ownsRow w.heap.size 32 2 x.dep x.V.length (flat x.V) ∧ x.o.Fits ∧ Dws x.V
  map : ∃ g, DM wr mb k g ∧ ∀ d, (g d).isSome = hasId l d
  same : L'.map Mo.m = l
  below : RowKit.Below w.heap.size w wr
  lt : w.heap.size < wr.heap.size

theorem own_ne_map {w : World} {b e z mb k : Nat} {v : Value} {n : Nat} {xs : List Value} {g : Dt → Option Int} (h : w.ownsRow b e z v n xs) (hm : DM w mb k g) : v.ownBlock = none ∨ v.ownBlock ≠ some mb := by
  rcases h.2 with ⟨rfl, _⟩ | ⟨g', cap, cur, rfl, _, hb, _⟩
  · exact .inl rfl
  · refine .inr fun e1 => ?_
    simp [Value.ownBlock] at e1
    subst e1
    obtain ⟨D, ⟨es, clock, h1, _⟩, _⟩ := hm
    rw [hb] at h1
    cases h1

theorem DM.kept {w w' : World} {b n : Nat} {g : Dt → Option Int} {r : Option Nat} (h : DM w b n g) (hg : w.grownBy w' r) (hne : some b ≠ r) : DM w' b n g := by
  obtain ⟨D, hown, hT⟩ := h
  exact ⟨D, hown.kept hg hne, hT⟩

theorem DM.mono {w : World} {b n n' : Nat} {g : Dt → Option Int} (h : DM w b n g) (hn : n ≤ n') : DM w b n' g := by
  obtain ⟨D, hown, hT⟩ := h
  exact ⟨D, hown.mono hn, hT⟩

/-- Another block turns: none of counting's. -/
theorem CI.kept {w wr wr' : World} {mb k k' : Nat} {v : Value} {L' : List Mo} {l : List Mop} {r : Option Nat} (h : CI w wr mb v L' l k) (hg : wr.grownBy wr' r) (hm : some mb ≠ r) (hv : v.ownBlock = none ∨ v.ownBlock ≠ r) (hd : ∀ x ∈ L', x.dep.ownBlock = none ∨ x.dep.ownBlock ≠ r) (hb : ∀ j, r = some j → w.heap.size ≤ j) (hk : k ≤ k') : CI w wr' mb v L' l k' := by
  obtain ⟨g, hD, hgd⟩ := h.map
  exact ⟨h.own.kept hg hv, fun x hx => ⟨(h.dep x hx).1.kept hg (hd x hx), (h.dep x hx).2⟩, ⟨g, (hD.kept hg hm).mono hk, hgd⟩, h.same, h.below.grown hg h.below.size hb, Nat.lt_of_lt_of_le h.lt hg.size⟩

theorem none_or {o : Option Nat} : o = none ∨ o ≠ none := by cases o <;> simp

theorem CI.far {w wr wr' : World} {mb k k' : Nat} {v : Value} {L' : List Mo} {l : List Mop} (h : CI w wr mb v L' l k) (hf : Far wr wr') (hk : k ≤ k') : CI w wr' mb v L' l k' :=
  h.kept (far_grown hf) (by simp) none_or (fun _ _ => none_or) (fun j hj => by cases hj) hk

theorem below_grown {w w' : World} (h : RowKit.Below w.heap.size w w') : w.grownBy w' none := ⟨h.os, h.tape, h.output, h.size, fun k hk _ => h.block k hk⟩

theorem PS.kept_map {w w' : World} {a : Option Addr} {n c mb k : Nat} {L : List Dt} {g : Dt → Option Int} (h : PS w a n c L) (hm : DM w mb k g) (hg : w.grownBy w' (some mb)) : PS w' a n c L :=
  ⟨h.len, h.cap, h.max, h.nil, fun ad ha j u hj => by
    have := h.cells ad ha j u hj
    rw [hg.cell_far _ (cell_in this) (fun e => ?_)]
    · exact this
    · obtain ⟨D, ⟨es, clock, h1, _⟩, _⟩ := hm
      have e' : (ad.add j).block = mb := by simpa using e
      simp [World.cell?, e', h1] at this⟩

theorem mo_new (w : World) (q : Nat) (u : Value) (x : Mo) : ∀ j y, x.cells[j]? = some y → ((w.setCell ⟨q, 3, none⟩ u).alloc (.cells (x.o.cells x.dep) 36)).cell? ((⟨w.heap.size, 0, none⟩ : Addr).add j) = some y := by
  have h := opAt_alloc (w.setCell ⟨q, 3, none⟩ u) x.o x.dep 36
  have e : (w.setCell ⟨q, 3, none⟩ u).heap.size = w.heap.size := by simp [World.setCell]
  rw [e] at h
  exact mo_cells _ _ _ h

theorem own_lt_ne {w : World} {b e z q : Nat} {v : Value} {n : Nat} {xs : List Value} (h : w.ownsRow b e z v n xs) (hq : w.heap.size ≤ q) : v.ownBlock = none ∨ v.ownBlock ≠ some q := by
  by_cases he : v.ownBlock = none
  · exact .inl he
  · refine .inr fun e1 => ?_
    have := (h.lt q e1).2
    omega

/-- What one more that counts goes through: a row that was there stays. -/
theorem five {w wr w2 w3 w4 : World} {mb k : Nat} {v : Value} {e z n : Nat} {xs : List Value} {u : Value} {g : Dt → Option Int} (h : wr.ownsRow w.heap.size e z v n xs) (hm : DM wr mb k g) (hF : Far wr w2) (hG3 : w2.grownBy w3 (some mb)) (hB4 : RowKit.Below w3.heap.size w3 w4) :
    (w4.setCell ⟨wr.heap.size, 3, none⟩ u).ownsRow w.heap.size e z v n xs := by
  have h2 := h.kept (far_grown hF) none_or
  have hm2 := hm.kept (far_grown hF) (by simp)
  have h3 := h2.kept hG3 (own_ne_map h2 hm2)
  have h4 := h3.kept (below_grown hB4) none_or
  exact h4.kept (grownBy_setCell w4 wr.heap.size 3 u) (own_lt_ne h (Nat.le_refl _))

theorem CI.more {w wr w2 w3 w4 w7 : World} {mb k : Nat} {v : Value} {L' : List Mo} {l : List Mop} {op : OpIn} {xV : List Dt} {a' : Option Addr} {c' g7 cap7 : Nat} {u : Value} {o : Obj} {g' : Dt → Option Int} (h : CI w wr mb v L' l k) (hF : Far wr w2) (hq : wr.heap.size < w2.heap.size)
    (hG3 : w2.grownBy w3 (some mb)) (hD3 : DM w3 mb (k + 1) g') (hg' : ∀ d, (g' d).isSome = hasId (l ++ [(op, xV)]) d) (hB4 : RowKit.Below w3.heap.size w3 w4) (hO4 : w4.ownsRow w3.heap.size 32 2 (.slice a' xV.length c') xV.length (flat xV)) (hf : op.Fits) (hd : Dws xV)
    (hG7 : ((w4.setCell ⟨wr.heap.size, 3, none⟩ u).alloc o).grownBy w7 v.ownBlock) (hO7 : OwnO w7 w.heap.size (.slice (some ⟨g7, 0, none⟩) (L'.length + 1) cap7) (L' ++ [⟨op, a', xV.length, c', xV⟩])) (hmb : w.heap.size ≤ mb) (hmb2 : mb < wr.heap.size) :
    CI w w7 mb (.slice (some ⟨g7, 0, none⟩) (L'.length + 1) cap7) (L' ++ [⟨op, a', xV.length, c', xV⟩]) (l ++ [(op, xV)]) (k + 1) := by
  obtain ⟨g, hD, hgd⟩ := h.map
  have hrow := (five (u := u) h.own hD hF hG3 hB4).alloc o
  have hD5 := ((hD3.kept (below_grown hB4) (by simp)).kept (grownBy_setCell w4 wr.heap.size 3 u) (by simp; omega)).kept (World.grownBy_alloc _ o none) (by simp)
  have s3 := hG3.size
  have s2 := hF.below.size
  have s4 := hB4.size
  have hbase : ∀ j, v.ownBlock = some j → w.heap.size ≤ j := fun j hj => (hrow.lt j hj).1
  have h1 := h.below.size
  have e5 : (w4.setCell ⟨wr.heap.size, 3, none⟩ u).heap.size = w4.heap.size := by simp [World.setCell]
  have b5 : RowKit.Below w.heap.size w ((w4.setCell ⟨wr.heap.size, 3, none⟩ u).alloc o) := by
    have b2 := h.below.grown (far_grown hF) h1 (fun j hj => by cases hj)
    have b3 := b2.grown hG3 (by omega) (fun j hj => by cases hj; exact hmb)
    have b4 := b3.grown (below_grown hB4) (by omega) (fun j hj => by cases hj)
    have b5 := b4.grown (grownBy_setCell w4 wr.heap.size 3 u) (by omega) (fun j hj => by cases hj; omega)
    exact b5.alloc (by rw [e5]; omega) o
  refine ⟨?_, fun x hx => ?_, ⟨g', hD5.kept hG7 ?_, hg'⟩, by rw [List.map_append, h.same]; rfl, b5.grown hG7 (by simp [e5]; omega) hbase, ?_⟩
  · show World.ownsRow _ _ _ _ _ (List.length _) _
    rw [List.length_append]
    have := hO7
    unfold OwnO at this
    rw [List.length_append] at this
    exact this
  · rcases List.mem_append.1 hx with hx | hx
    · obtain ⟨r1, r2⟩ := h.dep x hx
      have r5 := (five (u := u) r1 hD hF hG3 hB4).alloc o
      exact ⟨r5.kept hG7 (rows_apart r5 hrow (by decide)), r2⟩
    · simp at hx
      subst hx
      have r4 : w4.ownsRow w.heap.size 32 2 (.slice a' xV.length c') xV.length (flat xV) := sbase hO4 (by omega)
      have r5 := (r4.kept (grownBy_setCell w4 wr.heap.size 3 u) (by
        by_cases he : (Value.slice a' xV.length c').ownBlock = none
        · exact .inl he
        · refine .inr fun e1 => ?_
          have := (hO4.lt _ e1).1
          omega)).alloc o
      exact ⟨r5.kept hG7 (rows_apart r5 hrow (by decide)), hf, hd⟩
  · rcases own_ne_map hrow hD5 with hh | hh
    · rw [hh]; simp
    · exact fun e => hh e.symm
  · have := hG7.size
    simp [e5] at this
    omega

set_option maxRecDepth 100000 in
set_option maxHeartbeats 4000000 in
theorem counting_any (a : Option Addr) (n c : Nat) (L : List Mo) (w : World) (hs : OS w a n c L) (hF : ∀ x ∈ L, x.o.Fits ∧ Dws x.V ∧ x.n ≤ 1000000) (hn : n ≤ 999999) :
    Calls Tryz.prog 20 #[.slice a n c] w fun e w' => ∃ a' c' L', e = .returned (.slice a' L'.length c') ∧ OS w' a' L'.length c' L' ∧ UpO L' ∧ (L'.map Mo.m).Perm (cnt (L.map Mo.m)) ∧ (∀ x ∈ L', x.o.Fits ∧ Dws x.V) ∧ RowKit.Below w.heap.size w w' := by
  have hlen := hs.len
  have hmk := @run_makeMap Tryz.prog
  go_enter Tryz.func20, Tryz.ntmps20
  go_wp2
  go_loopw [12, 4] (fun i v wr => ∃ (k : Nat) (L' : List Mo), k ≤ n ∧ L'.length ≤ k ∧ (L' = [] → v = .slice none 0 0) ∧ i = .int .i64 k ∧ CI w wr w.heap.size v L' (cnt ((L.take k).map Mo.m)) k) (fun i _ _ => n - (intOf i).toNat)
  case atStart => exact ⟨0, [], by omega, by simp, fun _ => rfl, rfl, ⟨World.ownsRow_nil _ _ _ _, by simp, ⟨_, ⟨_, World.ownsMap_made _ _ _ _, tells_empty⟩, fun d => by simp [cnt, hasId]⟩, rfl, (Below.refl _ _).alloc (Nat.le_refl _) _, by simp⟩⟩
  case round =>
    obtain ⟨k, L', hk, hkl, hnl, rfl, hC⟩ := hrel
    have HN := hid hnl
    clear hnl
    by_cases hlt : k < n
    · obtain ⟨g, o, rfl, hg, hcell⟩ := (hs.below hC.below).at (by omega)
      obtain ⟨c0, c1, c2, c3, c4, c5, c6, c7, c8, c9, c10, c11, c12, c13⟩ := hcell k (by omega)
      have hts := hid (show cnt ((L.take (k + 1)).map Mo.m) = cnt1 (cnt ((L.take k).map Mo.m)) (L[k]'(by omega)).m by rw [List.take_succ_eq_append_getElem (by omega), List.map_append, List.map_cons, List.map_nil, cnt_snoc])
      have hP := (hs.below hC.below).deps _ (List.getElem_mem (by omega : k < L.length))
      have hFx := hF _ (List.getElem_mem (by omega : k < L.length))
      generalize (L[k]'(by omega)) = x at *
      obtain ⟨op, xa, xn, xc, xV⟩ := x
      generalize hl : cnt ((L.take k).map Mo.m) = l at *
      obtain ⟨⟨fn, ⟨D, hown, hT⟩, hfn⟩⟩ := And.intro hC.map trivial
      have hdw : Dw op.id := ⟨hFx.1.id0, hFx.1.id1⟩
      have hlk := (hT op.id hdw).1
      rw [hfn] at hlk
      have hlt0 := hC.lt
      have hnk : k ≤ 1000000 := by omega
      clear hcell hs hl
      by_cases h1 : hasId l op.id = true
      · rw [h1] at hlk
        have hst := hid (show cnt1 l (op, xV) = l by unfold cnt1; rw [if_neg (fun hh => by rw [h1] at hh; cases hh.1)])
        have HC := hid hC
        clear h1 hC hT hfn
        go_wp2_with (first
          | (at_lookup; refine wpList_lookup_own_ok_int _ rfl _ _ 46 rfl 32 3 .i64 law Tryz.underlying46 Tryz.underlying3 (zero3 _) w.heap.size k D rfl (hown.alloc _) _ _ rfl (keyOf_dot (d := (op.id0, op.id1)) hdw) ?_; intro cc hat hwc; rw [hlk]))
        go_roundw
        case rel =>
          refine ⟨k + 1, L', by omega, by omega, HN.out, by go_num, ?_⟩
          rw [hts.out, hst.out]
          exact HC.out.far ((Far.refl _).alloc _) (Nat.le_succ _)
        case measure => simp [intOf]; omega
      · have h1' : hasId l op.id = false := by simpa using h1
        rw [h1'] at hlk
        have hCk := fun W (hf : Far wr W) => check_any op xa xn xc xV W (hP.far hf) hFx.2.2 hFx.1.key
        have hA := opAt_alloc wr op (.slice xa xn xc) 36
        have hAb : (wr.alloc (.cells (op.cells (.slice xa xn xc)) 36)).heap[wr.heap.size]? = some (.cells (op.cells (.slice xa xn xc)) 36) := (MapKept.heap_alloc wr _).1
        have hF1 : Far wr (wr.alloc (.cells (op.cells (.slice xa xn xc)) 36)) := (Far.refl _).alloc _
        by_cases h2 : chk op xV = true
        · rw [h2] at hCk
          have hst := hid (show cnt1 l (op, xV) = l ++ [(op, xV)] by unfold cnt1; rw [if_pos ⟨h1', h2⟩])
          have HC := hid hC
          have HT := hid (And.intro hT hfn)
          have HS := hid hC.same
          obtain ⟨a0, a1, a2, a3, a4, a5, a6, a7, a8, a9, a10, a11, a12, a13⟩ := hA
          clear h1 h1' h2 hC hT hfn
          go_wp2_with (first
            | (at_builtin; have hq := hb5; refine wpList_append_op rfl _ _ rfl w.heap.size u4 L'.length L' rfl rfl (HR5.out.alloc _) w4.heap.size ⟨op, a', xV.length, c', xV⟩ rfl (mo_new w4 wr.heap.size (.slice a' xV.length c') ⟨op, a', xV.length, c', xV⟩) (by omega) (by simp [World.setCell]; omega) ?_; intro g7 cap7 w7 hO7 hG7 hat7 hlt7)
            | (go_at_call 42; refine (clone_any (hP3) hFx.2.2).mono ?_; rintro e w4 ⟨v4, rfl, hO4, hB4⟩; obtain ⟨a', c', rfl, hp4⟩ := owned_ps hO4 rfl; have hb4 := (hB4.block _ hq3).trans hb3; have hs4 := hB4.size; have hA4 := opAt_of_block hb4; obtain ⟨a0, a1, a2, a3, a4, a5, a6, a7, a8, a9, a10, a11, a12, a13⟩ := hA4; have f4 := frozen_of_block hb4 3; have hb5 := block_dep hb4 (.slice a' xV.length c'); have hA5 := opAt_of_block hb5; obtain ⟨s0, s1, s2, s3, s4, s5, s6, s7, s8, s9, s10, s11, s12, s13⟩ := hA5; have HR5 := hid (five (u := .slice a' xV.length c') HC.out.own ⟨D, hown, HT.out.1⟩ (hF1.trans hF2) hG3 hB4); have HO4 := hid hO4; have HB4 := hid hB4; clear hO4 hB4 hp4)
            | (at_mapUpdate; refine wpList_mapUpdate_own _ rfl _ _ _ 46 rfl 32 3 law Tryz.underlying46 _ w.heap.size k D rfl hown2 (by unfold maxLen; omega) _ _ (kl op.id) rfl rfl (keyOf_dot hdw) (.lit (.int .i64 k)) [] (plainElem_int Tryz.underlying3 (WalkArith.wf_i64 (by omega))) ?_; intro w3 hown3 hG3; have hb3 : w3.heap[wr.heap.size]? = some (.cells (op.cells (.slice xa xn xc)) 36) := (hG3.block _ (by have := hF2.below.size; simp at this; omega) (by simp; omega)).trans hb2; have hq3 : wr.heap.size < w3.heap.size := (by have := hF2.below.size; have := hG3.size; simp at *; omega); have hA3 := opAt_of_block hb3; obtain ⟨a0, a1, a2, a3, a4, a5, a6, a7, a8, a9, a10, a11, a12, a13⟩ := hA3; have hP3 : PS w3 xa xn xc xV := (hP.far (hF1.trans hF2)).kept_map ⟨D, hown2, HT.out.1⟩ hG3)
            | (go_at_call 40; refine (hCk _ hF1).mono ?_; rintro e w2 ⟨rfl, hF2⟩; have hb2 : w2.heap[wr.heap.size]? = some (.cells (op.cells (.slice xa xn xc)) 36) := (hF2.below.block _ (by simp)).trans hAb; have hA2 := opAt_of_block hb2; obtain ⟨a0, a1, a2, a3, a4, a5, a6, a7, a8, a9, a10, a11, a12, a13⟩ := hA2; have hown2 := hown.kept (far_grown (hF1.trans hF2)) (by simp))
            | (at_lookup; refine wpList_lookup_own_ok_int _ rfl _ _ 46 rfl 32 3 .i64 law Tryz.underlying46 Tryz.underlying3 (zero3 _) w.heap.size k D rfl (hown.alloc _) _ _ rfl (keyOf_dot (d := (op.id0, op.id1)) hdw) ?_; intro cc hat hwc; rw [hlk]))
          go_roundw
          case rel =>
            refine ⟨k + 1, L' ++ [⟨op, a', xV.length, c', xV⟩], by omega, by simp; omega, (fun e => by simp at e), by go_num, ?_⟩
            rw [hts.out, hst.out]
            refine HC.out.more (hF1.trans hF2) (by have := hF2.below.size; simp at this; omega) hG3 ⟨_, hown3, HT.out.1.put hown2.isMap hdw k⟩ (fun d => ?_) HB4.out HO4.out hFx.1 hFx.2.1 hG7 hO7 (Nat.le_refl _) hlt0
            have := HT.out.2 d
            simp only [hasId, List.any_append, List.any_cons, List.any_nil, Bool.or_false] at this ⊢
            by_cases hde : d = op.id
            · subst hde; simp
            · have hde' : ¬ op.id = d := fun e => hde e.symm
              simp [hde, hde', this]
          case measure => simp [intOf]; omega
        · have h2' : chk op xV = false := by simpa using h2
          rw [h2'] at hCk
          have hst := hid (show cnt1 l (op, xV) = l by unfold cnt1; rw [if_neg (fun hh => h2 hh.2)])
          have HC := hid hC
          obtain ⟨a0, a1, a2, a3, a4, a5, a6, a7, a8, a9, a10, a11, a12, a13⟩ := hA
          clear h1 h1' h2 h2' hC hT hfn
          go_wp2_with (first
            | (go_at_call 40; refine (hCk _ hF1).mono ?_; rintro e w2 ⟨rfl, hF2⟩)
            | (at_lookup; refine wpList_lookup_own_ok_int _ rfl _ _ 46 rfl 32 3 .i64 law Tryz.underlying46 Tryz.underlying3 (zero3 _) w.heap.size k D rfl (hown.alloc _) _ _ rfl (keyOf_dot (d := (op.id0, op.id1)) hdw) ?_; intro cc hat hwc; rw [hlk]))
          go_roundw
          case rel =>
            refine ⟨k + 1, L', by omega, by omega, HN.out, by go_num, ?_⟩
            rw [hts.out, hst.out]
            exact HC.out.far (hF1.trans hF2) (Nat.le_succ _)
          case measure => simp [intOf]; omega
    · obtain rfl : k = n := by omega
      rw [← hlen, List.take_length] at hC
      have hnd := cnt_nodup (L.map Mo.m)
      have HC := hid hC
      by_cases h0 : L' = []
      · have hv := HN.out h0
        subst hv
        have hS := fun W => sort_0 none 0 (.func (.func 44) #[] #[]) W
        clear hC
        go_wp2_with (first
          | (go_at_call 43; refine (hS _).mono ?_; rintro e w1 ⟨rfl, rfl⟩))
        go_ret
        have hsm := HC.out.same
        rw [h0] at hsm
        exact ⟨none, 0, [], rfl, OS.none _, List.Pairwise.nil, by rw [← hsm], by simp, HC.out.below⟩
      · obtain ⟨g, cap, rfl, hgb, hgl⟩ := hC.own.form (List.length_pos_iff.2 h0)
        have hS := sorto_any w.heap.size g cap L' wr hC.own (by have := hC.same; rw [← this] at hnd; simpa [Function.comp_def] using hnd) (by omega)
        clear hC
        go_wp2_with (first
          | (go_at_call 43; refine hS.mono ?_; rintro e w1 ⟨rfl, ts, hp, hu, hO, hG⟩))
        go_ret
        have hl := hp.length_eq
        have hdep : ∀ x ∈ ts, w1.ownsRow w.heap.size 32 2 x.dep x.V.length (flat x.V) ∧ x.o.Fits ∧ Dws x.V := fun x hx => by
          obtain ⟨r1, r2⟩ := HC.out.dep x (hp.mem_iff.1 hx)
          exact ⟨r1.kept hG (rows_apart r1 HC.out.own (by decide)), r2⟩
        rw [← hl] at hO
        obtain ⟨a', c', he, hos⟩ := owned_os hO (fun x hx => by
          obtain ⟨r1, _⟩ := hdep x hx
          obtain ⟨a2, c2, he2, hp2⟩ := owned_ps r1 rfl
          simp only [Mo.dep, Value.slice.injEq] at he2
          rw [he2.1, he2.2.1, he2.2.2]
          exact hp2)
        cases he
        refine ⟨_, _, ts, by rw [hl]; rfl, hos, hu, ?_, fun x hx => (hdep x hx).2, HC.out.below.grown hG HC.out.below.size (fun j hj => by cases hj; exact hgb)⟩
        rw [← HC.out.same]
        exact hp.map _
end Go.Proofs.YtlncokkpdkddlaaGreat
