/- The walk through a text's characters: the closure that calls itself. -/
import Derived.Test.YtnmdcdphpcpojaaGreatDoorFgTree
import Derived.RangeFuncNested
import Derived.RangeFuncBound
import Derived.RangeFuncCalls
import Derived.RangeFuncLeaves
import Derived.RangeFuncWrites
import Derived.RangeFuncBox
import Derived.Shelf.Abstract
import Derived.Shelf.RegionOpen
import Derived.OwnWalkIn
import Derived.TacticsInMore
import Derived.LoopNIn
import Derived.LoopIn
set_option linter.unusedVariables false
namespace Go.Proofs.YtnmdcdphpcpojaaGreatDoor
open Go.RowKit Go.Shelf

attribute [local go_sem] Oper.semAt_some

/-- All cells but those of one's own are as they were. -/
structure KC (own : Nat → Prop) (W W' : World) : Prop where
  size : W.heap.size ≤ W'.heap.size
  keep : ∀ (k : Nat) (cs : Array Value) (ty : TypeId) (fz : Nat × Nat), W.heap[k]? = some (.cells cs ty fz) → ¬ own k → W'.heap[k]? = some (.cells cs ty fz)

theorem KC.refl (own : Nat → Prop) (W : World) : KC own W W := ⟨Nat.le_refl _, fun _ _ _ _ h _ => h⟩
theorem KC.trans {own : Nat → Prop} {A B C : World} (h : KC own A B) (k : KC own B C) : KC own A C := ⟨Nat.le_trans h.size k.size, fun i cs ty fz hi hn => k.keep i cs ty fz (h.keep i cs ty fz hi hn) hn⟩
theorem KC.of_below {own : Nat → Prop} {W W' : World} (h : RowKit.Below W.heap.size W W') : KC own W W' := ⟨h.size, fun k cs ty fz hk _ => (h.block k (Array.getElem?_eq_some_iff.1 hk).1).trans hk⟩
theorem KC.cell {own : Nat → Prop} {W W' : World} (h : KC own W W') {b j : Nat} {v : Value} (hc : W.cell? ⟨b, j, none⟩ = some v) (hn : ¬ own b) : W'.cell? ⟨b, j, none⟩ = some v := by
  simp only [World.cell?] at hc ⊢
  cases hb : W.heap[b]? with
  | none => rw [hb] at hc; simp at hc
  | some o =>
    rw [hb] at hc
    cases o with
    | cells cs ty fz => rw [h.keep b cs ty fz hb hn]; simpa using hc
    | _ => simp at hc

/-- A slice of pointers in memory below n₀. -/
structure PB (n₀ : Nat) (W : World) (a : Option Addr) (n c : Nat) (gs : List Nat) : Prop where
  len : gs.length = n
  cap : n ≤ c
  max : c ≤ maxLen
  at_ : 0 < n → ∃ g o, a = some ⟨g, o, none⟩ ∧ g < n₀ ∧ ∀ i (hi : i < gs.length), W.cell? ⟨g, o + i, none⟩ = some (pvFc gs[i])

theorem PB.keep {n₀ : Nat} {own : Nat → Prop} (hown : ∀ k, own k → n₀ ≤ k) {W W' : World} {a : Option Addr} {n c : Nat} {gs : List Nat} (h : PB n₀ W a n c gs) (hk : KC own W W') : PB n₀ W' a n c gs :=
  ⟨h.len, h.cap, h.max, fun hp => by
    obtain ⟨g, o, e, hg, hx⟩ := h.at_ hp
    exact ⟨g, o, e, hg, fun i hi => hk.cell (hx i hi) (fun ho => by have := hown g ho; omega)⟩⟩

/-- The characters, as they are read. -/
structure CM (n₀ : Nat) (W : World) (T : List Cr) (G : Dt → Option Nat) (R : Dt → Bool → Value) : Prop where
  ch : ∀ c ∈ T, ∃ g, G c.id = some g ∧ g < n₀ ∧ W.heap[g]? = some (.cells (c.cells (R c.id false) (R c.id true)) 124 (0, 0))
  row : ∀ d s, nodes T d → ∃ a c gs, R d s = .slice a (kids T d s).length c ∧ gs.map some = (kids T d s).map G ∧ PB n₀ W a (kids T d s).length c gs

theorem CM.keep {n₀ : Nat} {own : Nat → Prop} (hown : ∀ k, own k → n₀ ≤ k) {W W' : World} {T : List Cr} {G : Dt → Option Nat} {R : Dt → Bool → Value} (h : CM n₀ W T G R) (hk : KC own W W') : CM n₀ W' T G R :=
  ⟨fun c hc => by
    obtain ⟨g, h1, h2, h3⟩ := h.ch c hc
    exact ⟨g, h1, h2, hk.keep _ _ _ _ h3 (fun ho => by have := hown g ho; omega)⟩,
   fun d s hd => by
    obtain ⟨a, c, gs, h1, h2, h3⟩ := h.row d s hd
    exact ⟨a, c, gs, h1, h2, h3.keep hown hk⟩⟩

theorem TX.cm {w : World} {t : Nat} {T : List Cr} {G M : Dt → Option Nat} {n : Nat} {R : Dt → Bool → Value} (h : TX w t T G M n R) : CM w.heap.size w T G R :=
  ⟨fun c hc => by
    obtain ⟨g, h1, _, h3⟩ := h.ch c hc
    exact ⟨g, h1, (Array.getElem?_eq_some_iff.1 h3).1, h3⟩,
   fun d s hd => by
    obtain ⟨gs, h1, h2⟩ := h.rows d s hd
    obtain ⟨a, c, e, hp⟩ := own_ppc h2
    exact ⟨a, c, gs, e, h1, hp.len, hp.cap, hp.max, hp.at_⟩⟩

theorem flat_prefix {α β : Type} {ks : List α} {k : Nat} (hk : k < ks.length) (f : α → List β) {q : List β} (hq : q <+: f ks[k]) : (ks.take k).flatMap f ++ q <+: ks.flatMap f := by
  obtain ⟨r, hr⟩ := hq
  refine ⟨r ++ (ks.drop (k + 1)).flatMap f, ?_⟩
  have e : ks = ks.take k ++ ks[k] :: ks.drop (k + 1) := by rw [← List.drop_eq_getElem_cons hk, List.take_append_drop]
  have e2 : ks.flatMap f = (ks.take k).flatMap f ++ (f ks[k] ++ (ks.drop (k + 1)).flatMap f) := by
    rw (occs := .pos [1]) [e]
    rw [List.flatMap_append, List.flatMap_cons]
  rw [e2, ← hr]
  simp

theorem flatMap_snoc9 {α β : Type} (l : List α) (x : α) (f : α → List β) : (l ++ [x]).flatMap f = l.flatMap f ++ f x := by simp

set_option maxRecDepth 100000 in
set_option maxHeartbeats 4000000 in
/-- The closure, over the characters of a row: all of their trees have come, in order; or some of them, a round having said 'no more'. -/
theorem through_in (l n₀ N thb yb : Nat) (own : Nat → Prop) (hown : ∀ k, own k → n₀ ≤ k) (hth : ¬ own thb) (hyb : ¬ own yb) (T : List Cr) (hT : WT T) (hTl : T.length ≤ 1000000) (G : Dt → Option Nat) (R : Dt → Bool → Value) (J Jx : List Dt → World → Prop) (hJd : ∀ pre W, J pre W → J pre W.drew)
    (hY : ∀ m pre (c : Cr) (g : Nat) W, c ∈ T → G c.id = some g → J pre W → pre.length < N → YieldAt Fence.wide m Tryz.prog l #[pvFc g] W fun e W' =>
      (e = .returned (.bool true) ∧ J (pre ++ [c.id]) W' ∧ KC own W W') ∨ (e = .returned (.bool false) ∧ Jx (pre ++ [c.id]) W')) :
    ∀ (f n : Nat) (ks : List Dt) (a : Option Addr) (c : Nat) (gs : List Nat) (pre : List Dt) (W : World), PB n₀ W a ks.length c gs → gs.map some = ks.map G → (∀ k ∈ ks, dep T f k ∧ ∃ x ∈ T, x.id = k) → ks.length ≤ 1000000 → CM n₀ W T G R →
      W.cell? ⟨thb, 0, none⟩ = some (.func (.func 137) #[] #[.pointer (some ⟨thb, 0, none⟩), .pointer (some ⟨yb, 0, none⟩)]) → W.cell? ⟨yb, 0, none⟩ = some (.func (.yield l) #[] #[]) →
      J pre W → pre.length + (ks.flatMap (trF T f)).length ≤ N →
      CallsIn Fence.wide n Tryz.prog 137 #[.slice a ks.length c, .pointer (some ⟨thb, 0, none⟩), .pointer (some ⟨yb, 0, none⟩)] W fun e W' =>
        (e = .returned (.bool true) ∧ J (pre ++ ks.flatMap (trF T f)) W' ∧ KC own W W') ∨ (e = .returned (.bool false) ∧ ∃ q, q <+: ks.flatMap (trF T f) ∧ Jx (pre ++ q) W') := by
  intro f
  induction f with
  | zero =>
    intro n ks a c gs pre W hp hg hk hkl hcm h1 h2 hJ hN
    have hks : ks = [] := by
      cases ks with
      | nil => rfl
      | cons x r => exact (hk x (by simp)).1.elim
    subst hks
    refine callsIn_of_wp Tryz.func137 rfl trivial ?_ rfl
    simp only [Tryz.ntmps137, List.size_toArray, List.length_cons, List.length_nil, Nat.reduceAdd, Nat.reduceSub, Array.replicate_succ, Array.replicate_zero, List.push_toArray, List.append_toArray, List.nil_append, List.cons_append]
    gi_wp2
    gi_loopw [9] (fun i wr => i = .int .i64 0 ∧ wr = W) (fun _ _ => 0)
    case atStart => exact ⟨rfl, rfl⟩
    case round =>
      obtain ⟨rfl, hwr⟩ := hrel
      subst hwr
      gi_wp2
      go_ret
      exact Or.inl ⟨rfl, by simpa using hJ, KC.refl _ _⟩
  | succ f ih =>
    intro n ks a c gs pre W hp hg hk hkl hcm h1 h2 hJ hN
    have hglen : gs.length = ks.length := hp.len
    have hcap := hp.cap
    have hmax := hp.max
    unfold maxLen at hmax
    refine callsIn_of_wp Tryz.func137 rfl trivial ?_ rfl
    simp only [Tryz.ntmps137, List.size_toArray, List.length_cons, List.length_nil, Nat.reduceAdd, Nat.reduceSub, Array.replicate_succ, Array.replicate_zero, List.push_toArray, List.append_toArray, List.nil_append, List.cons_append]
    gi_wp2
    gi_loopw [9] (fun i wr => ∃ k : Nat, k ≤ ks.length ∧ i = .int .i64 k ∧ Hid (J (pre ++ (ks.take k).flatMap (trF T (f + 1))) wr) ∧ Hid (KC own W wr)) (fun i _ => ks.length - (intOf i).toNat)
    case atStart => exact ⟨0, by omega, rfl, hid (by simpa using hJ), hid (KC.refl _ _)⟩
    case round =>
      obtain ⟨k, hk', rfl, hJk, hKk⟩ := hrel
      by_cases hlt : k < ks.length
      · have hcmr := hcm.keep hown hKk.out
        have ht1 := hKk.out.cell h1 hth
        have hy1 := hKk.out.cell h2 hyb
        obtain ⟨g, o, rfl, hgn, hcell⟩ := (hp.keep hown hKk.out).at_ (by omega)
        have hcg := hcell k (by omega)
        obtain ⟨hdx, cx, hcx, hcxe⟩ := hk _ (List.getElem_mem hlt)
        have hGx : G ks[k] = some (gs[k]'(by omega)) := by
          have : ((gs.map some)[k]? : Option (Option Nat)) = (ks.map G)[k]? := by rw [hg]
          rw [List.getElem?_map, List.getElem?_map, List.getElem?_eq_getElem hlt, List.getElem?_eq_getElem (by omega)] at this
          simpa using this.symm
        have htk : Hid ((ks.take (k + 1)).flatMap (trF T (f + 1)) = (ks.take k).flatMap (trF T (f + 1)) ++ trF T (f + 1) ks[k]) := hid (by rw [List.take_succ_eq_append_getElem hlt, flatMap_snoc9])
        have hpx : ∀ q, q <+: trF T (f + 1) ks[k] → (ks.take k).flatMap (trF T (f + 1)) ++ q <+: ks.flatMap (trF T (f + 1)) := fun q hq => flat_prefix hlt (trF T (f + 1)) hq
        have hlk : ((ks.take k).flatMap (trF T (f + 1))).length + (trF T (f + 1) ks[k]).length ≤ (ks.flatMap (trF T (f + 1))).length := by
          have := (hpx _ (List.prefix_refl _)).length_le
          rwa [List.length_append] at this
        have HPX := hid hpx
        clear hpx
        generalize (gs[k]'(by omega)) = gx at *
        generalize ks[k] = x at *
        obtain ⟨gx', e1, hgxn, hblk⟩ := hcmr.ch cx hcx
        rw [hcxe] at e1 hblk
        obtain rfl : gx = gx' := by rw [hGx] at e1; simpa using e1
        have hnx : nodes T x := Or.inr ⟨cx, hcx, hcxe⟩
        obtain ⟨a0, c0, gs0, r0, m0, p0⟩ := hcmr.row x false hnx
        obtain ⟨a1, c1, gs1, r1, m1, p1⟩ := hcmr.row x true hnx
        rw [r0, r1] at hblk
        have b4 : wr.cell? ⟨gx, 4, none⟩ = some (.slice a0 (kids T x false).length c0) := by simp [World.cell?, hblk, Cr.cells]
        have b5 : wr.cell? ⟨gx, 5, none⟩ = some (.slice a1 (kids T x true).length c1) := by simp [World.cell?, hblk, Cr.cells]
        have hxz : x ≠ (0, 0) := by rw [← hcxe]; exact hT.nz cx hcx
        have htr : trF T (f + 1) x = (kids T x false).flatMap (trF T f) ++ [x] ++ (kids T x true).flatMap (trF T f) := by
          show _ ++ (if x = (0, 0) then [] else [x]) ++ _ = _
          rw [if_neg hxz]
        obtain ⟨A, hA⟩ : ∃ A, A = pre ++ (ks.take k).flatMap (trF T (f + 1)) := ⟨_, rfl⟩
        obtain ⟨B0, hB0⟩ : ∃ B0, B0 = (kids T x false).flatMap (trF T f) := ⟨_, rfl⟩
        obtain ⟨B1, hB1⟩ : ∃ B1, B1 = (kids T x true).flatMap (trF T f) := ⟨_, rfl⟩
        have hlenA : A.length + B0.length + 1 + B1.length ≤ N := by
          rw [htr] at hlk
          simp only [List.length_append, List.length_singleton] at hlk
          rw [hA, hB0, hB1, List.length_append]
          omega
        have hkin : ∀ s', ∀ y ∈ kids T x s', dep T f y ∧ ∃ z ∈ T, z.id = y := fun s' y hy => ⟨hdx s' y hy, by
          obtain ⟨z, hz, _, _, e⟩ := mem_kids.1 hy
          exact ⟨z, hz, e⟩⟩
        have hJA : J A wr.drew := hJd _ _ (by rw [hA]; exact hJk.out)
        have hKd : KC own wr wr.drew := KC.of_below ((Far.refl wr).drew.below)
        have hkl0 := kids_len T x false
        have hL := (ih (n - 1) (kids T x false) a0 c0 gs0 A wr.drew (p0.keep hown hKd) m0 (hkin false) (by have := kids_len T x false; omega) (hcmr.keep hown hKd) (hKd.cell ht1 hth) (hKd.cell hy1 hyb) hJA (by rw [← hB0]; omega))
        rw [← hB0] at hL
        have hRest : ∀ w2, J (A ++ B0) w2 → KC own wr.drew w2 → w2.cell? ⟨yb, 0, none⟩ = some (.func (.yield l) #[] #[]) ∧ YieldAt Fence.wide (n - 1) Tryz.prog l #[pvFc gx] w2 fun e w3 =>
            (e = .returned (.bool true) ∧ KC own wr.drew w3 ∧ w3.cell? ⟨thb, 0, none⟩ = some (.func (.func 137) #[] #[.pointer (some ⟨thb, 0, none⟩), .pointer (some ⟨yb, 0, none⟩)]) ∧ w3.cell? ⟨gx, 5, none⟩ = some (.slice a1 (kids T x true).length c1) ∧ CallsIn Fence.wide (n - 1) Tryz.prog 137 #[.slice a1 (kids T x true).length c1, .pointer (some ⟨thb, 0, none⟩), .pointer (some ⟨yb, 0, none⟩)] w3 fun e W' => (e = .returned (.bool true) ∧ J (A ++ B0 ++ [x] ++ B1) W' ∧ KC own w3 W') ∨ (e = .returned (.bool false) ∧ ∃ q, q <+: B1 ∧ Jx (A ++ B0 ++ [x] ++ q) W')) ∨ (e = .returned (.bool false) ∧ Jx (A ++ B0 ++ [x]) w3) := fun w2 hJ2 hK2 => by
          refine ⟨(hKd.trans hK2).cell hy1 hyb, ?_⟩
          have := hY (n - 1) (A ++ B0) cx gx w2 hcx (by rw [hcxe]; exact hGx) hJ2 (by rw [List.length_append]; omega)
          rw [hcxe] at this
          refine YieldAt.mono this fun e w3 hh => ?_
          rcases hh with ⟨he, hJ3, hK3⟩ | hh
          · have hK13 := hKd.trans (hK2.trans hK3)
            refine Or.inl ⟨he, hK2.trans hK3, hK13.cell ht1 hth, hK13.cell b5 (fun ho => by have := hown gx ho; omega), ?_⟩
            have := ih (n - 1) (kids T x true) a1 c1 gs1 (A ++ B0 ++ [x]) w3 (p1.keep hown hK13) m1 (hkin true) (by have := kids_len T x true; omega) (hcmr.keep hown hK13) (hK13.cell ht1 hth) (hK13.cell hy1 hyb) hJ3 (by rw [← hB1]; simp; omega)
            rw [← hB1] at this
            exact this
          · exact Or.inr hh
        have HRest := hid hRest
        have HTR := hid htr
        have e4 : wr.drew.cell? ⟨gx, 4, none⟩ = some (.slice a0 (kids T x false).length c0) := b4
        have et : wr.drew.cell? ⟨thb, 0, none⟩ = some (.func (.func 137) #[] #[.pointer (some ⟨thb, 0, none⟩), .pointer (some ⟨yb, 0, none⟩)]) := ht1
        generalize (kids T x false).length = n0 at *
        generalize (kids T x true).length = n1 at *
        clear hRest htr ih hY hcmr hcell hblk m0 m1 p0 p1 hkin hJA r0 r1 hdx hGx hcx hcxe
        gi_wp2
        have mixed := mixed
        have hdep : ∀ {m : Nat}, Fence.wide.depth.isSome = true → 1 ≤ m := fun h => by simp [Fence.wide] at h
        refine wpIn_region_any (by assumption) ?_
        change wpAnyIn _ _ _ _ _ _ _ _ _ (World.drew _)
        refine wpAnyIn_take (i := 1) (v := ?_) rfl rfl (by kernel_rfl) (by kernel_rfl) (by kernel_rfl) (fun _ _ _ h => h) ⟨Or.inl ⟨by kernel_rfl, ?_⟩, fun _ => rfl⟩ ?_
        rotate_left 1
        · intro w; go_simp; try (with_reducible rfl)
        refine wpAnyIn_take (i := 2) (v := ?_) rfl rfl (by kernel_rfl) (by kernel_rfl) (by kernel_rfl) (fun _ _ _ h => h) ⟨Or.inl ⟨by kernel_rfl, ?_⟩, fun _ => rfl⟩ ?_
        rotate_left 1
        · intro w; go_simp; try (with_reducible rfl)
        refine wpAnyIn_take (i := 3) (v := ?_) rfl rfl (by kernel_rfl) (by kernel_rfl) (by kernel_rfl) (fun _ _ _ h => h) ⟨Or.inl ⟨by kernel_rfl, ?_⟩, fun _ => rfl⟩ ?_
        rotate_left 1
        · intro w; go_simp; try (with_reducible rfl)
        refine wpAnyIn_take (i := 4) (v := ?_) rfl rfl (by kernel_rfl) (by kernel_rfl) (by kernel_rfl) (fun _ _ _ h => h) ⟨Or.inl ⟨by kernel_rfl, ?_⟩, fun _ => rfl⟩ ?_
        rotate_left 1
        · intro w; go_simp; try (with_reducible rfl)
        refine wpAnyIn_ready (rs := [0, 5]) (by kernel_rfl) (by simp) ?_
        refine AllReadyIn.cons rfl (fun K hK => ?_) (AllReadyIn.cons rfl (fun K hK => ?_) AllReadyIn.nil)
        · go_simp
          refine hK _ _ ?_
          clear hK K
          refine wpAnyIn_ready (rs := [5]) (by kernel_rfl) (by simp) ?_
          refine AllReadyIn.cons rfl (fun K hK => ?_) AllReadyIn.nil
          go_simp
          refine hK _ _ ?_
          clear hK K
          refine wpAnyIn_ready (rs := [6]) (by kernel_rfl) (by simp) ?_
          refine AllReadyIn.cons rfl (fun K hK => ?_) AllReadyIn.nil
          go_simp
          refine ⟨trivial, hdep, ?_⟩
          refine hL.mono ?_
          rintro e w2 (⟨rfl, hJ2, hK2⟩ | ⟨rfl, q2, hq2, hx2⟩)
          · obtain ⟨hy2, fn, tmps, assign, body, hy', hR⟩ := HRest.out w2 hJ2 hK2
            refine hK _ _ ?_
            clear hK K
            refine wpAnyIn_take (i := 7) (v := ?_) rfl rfl (by kernel_rfl) (by kernel_rfl) (by kernel_rfl) (fun _ _ _ h => h) ⟨Or.inl ⟨by kernel_rfl, ?_⟩, fun _ => rfl⟩ ?_
            rotate_left 1
            · intro w; go_simp; try (with_reducible rfl)
            refine wpAnyIn_take (i := 8) (v := ?_) rfl rfl (by kernel_rfl) (by kernel_rfl) (by kernel_rfl) (fun _ _ _ h => h) ⟨Or.inl ⟨by kernel_rfl, ?_⟩, fun _ => rfl⟩ ?_
            rotate_left 1
            · intro w; go_simp; try (with_reducible rfl)
            refine wpAnyIn_take (i := 10) (v := ?_) rfl rfl (by kernel_rfl) (by kernel_rfl) (by kernel_rfl) (fun _ _ _ h => h) ⟨Or.inl ⟨by kernel_rfl, ?_⟩, fun _ => rfl⟩ ?_
            rotate_left 1
            · intro w; go_simp; try (with_reducible rfl)
            refine wpAnyIn_ready (rs := [9]) (by kernel_rfl) (by simp) ?_
            refine AllReadyIn.cons rfl (fun K hK => ?_) AllReadyIn.nil
            go_simp
            refine hK _ _ ?_
            clear hK K
            refine wpAnyIn_ready (rs := [11]) (by kernel_rfl) (by simp) ?_
            refine AllReadyIn.cons rfl (fun K hK => ?_) AllReadyIn.nil
            go_simp
            refine ⟨hdep, ?_⟩
            refine hR.mono ?_
            rintro e w3 (⟨rfl, hK3, ht3, h53, hRt⟩ | ⟨rfl, hx3⟩)
            · refine hK _ _ ?_
              clear hK K
              refine wpAnyIn_take (i := 12) (v := ?_) rfl rfl (by kernel_rfl) (by kernel_rfl) (by kernel_rfl) (fun _ _ _ h => h) ⟨Or.inl ⟨by kernel_rfl, ?_⟩, fun _ => rfl⟩ ?_
              rotate_left 1
              · intro w; go_simp; try (with_reducible rfl)
              refine wpAnyIn_take (i := 13) (v := ?_) rfl rfl (by kernel_rfl) (by kernel_rfl) (by kernel_rfl) (fun _ _ _ h => h) ⟨Or.inl ⟨by kernel_rfl, ?_⟩, fun _ => rfl⟩ ?_
              rotate_left 1
              · intro w; go_simp; try (with_reducible rfl)
              refine wpAnyIn_take (i := 14) (v := ?_) rfl rfl (by kernel_rfl) (by kernel_rfl) (by kernel_rfl) (fun _ _ _ h => h) ⟨Or.inl ⟨by kernel_rfl, ?_⟩, fun _ => rfl⟩ ?_
              rotate_left 1
              · intro w; go_simp; try (with_reducible rfl)
              refine wpAnyIn_take (i := 16) (v := ?_) rfl rfl (by kernel_rfl) (by kernel_rfl) (by kernel_rfl) (fun _ _ _ h => h) ⟨Or.inl ⟨by kernel_rfl, ?_⟩, fun _ => rfl⟩ ?_
              rotate_left 1
              · intro w; go_simp; try (with_reducible rfl)
              refine wpAnyIn_take (i := 17) (v := ?_) rfl rfl (by kernel_rfl) (by kernel_rfl) (by kernel_rfl) (fun _ _ _ h => h) ⟨Or.inl ⟨by kernel_rfl, ?_⟩, fun _ => rfl⟩ ?_
              rotate_left 1
              · intro w; go_simp; try (with_reducible rfl)
              refine wpAnyIn_take (i := 18) (v := ?_) rfl rfl (by kernel_rfl) (by kernel_rfl) (by kernel_rfl) (fun _ _ _ h => h) ⟨Or.inl ⟨by kernel_rfl, ?_⟩, fun _ => rfl⟩ ?_
              rotate_left 1
              · intro w; go_simp; try (with_reducible rfl)
              refine wpAnyIn_take (i := 19) (v := ?_) rfl rfl (by kernel_rfl) (by kernel_rfl) (by kernel_rfl) (fun _ _ _ h => h) ⟨Or.inl ⟨by kernel_rfl, ?_⟩, fun _ => rfl⟩ ?_
              rotate_left 1
              · intro w; go_simp; try (with_reducible rfl)
              refine wpAnyIn_ready (rs := [15, 20]) (by kernel_rfl) (by simp) ?_
              refine AllReadyIn.cons rfl (fun K hK => ?_) (AllReadyIn.cons rfl (fun K hK => ?_) AllReadyIn.nil)
              · go_simp
                refine hK _ _ ?_
                clear hK K
                refine wpAnyIn_ready (rs := [20]) (by kernel_rfl) (by simp) ?_
                refine AllReadyIn.cons rfl (fun K hK => ?_) AllReadyIn.nil
                go_simp
                refine hK _ _ ?_
                clear hK K
                refine wpAnyIn_ready (rs := [21]) (by kernel_rfl) (by simp) ?_
                refine AllReadyIn.cons rfl (fun K hK => ?_) AllReadyIn.nil
                go_simp
                refine ⟨trivial, hdep, ?_⟩
                refine hRt.mono ?_
                rintro e w4 (⟨rfl, hJ4, hK4⟩ | ⟨rfl, q4, hq4, hx4⟩)
                · refine hK _ _ ?_
                  clear hK K
                  refine wpAnyIn_take (i := 22) (v := ?_) rfl rfl (by kernel_rfl) (by kernel_rfl) (by kernel_rfl) (fun _ _ _ h => h) ⟨Or.inl ⟨by kernel_rfl, ?_⟩, fun _ => rfl⟩ ?_
                  rotate_left 1
                  · intro w; go_simp; try (with_reducible rfl)
                  refine wpAnyIn_take (i := 23) (v := ?_) rfl rfl (by kernel_rfl) (by kernel_rfl) (by kernel_rfl) (fun _ _ _ h => h) ⟨Or.inl ⟨by kernel_rfl, ?_⟩, fun _ => rfl⟩ ?_
                  rotate_left 1
                  · intro w; go_simp; try (with_reducible rfl)
                  refine wpAnyIn_done (by kernel_rfl) ?_ _
                  gi_wp2
                  go_roundw
                  case rel =>
                    refine ⟨k + 1, by omega, by go_num, hid ?_, hid (hKk.out.trans (hKd.trans (hK3.trans hK4)))⟩
                    rw [htk.out, HTR.out, ← hB0, ← hB1, ← List.append_assoc, ← hA]
                    rw [show A ++ (B0 ++ [x] ++ B1) = A ++ B0 ++ [x] ++ B1 by simp]
                    exact hJ4
                  case measure => simp [intOf]; omega
                · refine hK _ _ ?_
                  clear hK K
                  refine wpAnyIn_take (i := 22) (v := ?_) rfl rfl (by kernel_rfl) (by kernel_rfl) (by kernel_rfl) (fun _ _ _ h => h) ⟨Or.inl ⟨by kernel_rfl, ?_⟩, fun _ => rfl⟩ ?_
                  rotate_left 1
                  · intro w; go_simp; try (with_reducible rfl)
                  refine wpAnyIn_take (i := 23) (v := ?_) rfl rfl (by kernel_rfl) (by kernel_rfl) (by kernel_rfl) (fun _ _ _ h => h) ⟨Or.inl ⟨by kernel_rfl, ?_⟩, fun _ => rfl⟩ ?_
                  rotate_left 1
                  · intro w; go_simp; try (with_reducible rfl)
                  refine wpAnyIn_done (by kernel_rfl) ?_ _
                  gi_wp2
                  go_ret
                  refine Or.inr ⟨rfl, (ks.take k).flatMap (trF T (f + 1)) ++ (B0 ++ [x] ++ q4), HPX.out _ ?_, ?_⟩
                  · rw [HTR.out, ← hB0, ← hB1]
                    exact List.prefix_append_right_inj _ |>.2 hq4
                  · rw [← List.append_assoc, ← hA]
                    rw [show A ++ (B0 ++ [x] ++ q4) = A ++ B0 ++ [x] ++ q4 by simp]; exact hx4
              · go_simp
                refine hK _ _ ?_
                clear hK K
                refine wpAnyIn_ready (rs := [15]) (by kernel_rfl) (by simp) ?_
                refine AllReadyIn.cons rfl (fun K hK => ?_) AllReadyIn.nil
                go_simp
                refine hK _ _ ?_
                clear hK K
                refine wpAnyIn_ready (rs := [21]) (by kernel_rfl) (by simp) ?_
                refine AllReadyIn.cons rfl (fun K hK => ?_) AllReadyIn.nil
                go_simp
                refine ⟨trivial, hdep, ?_⟩
                refine hRt.mono ?_
                rintro e w4 (⟨rfl, hJ4, hK4⟩ | ⟨rfl, q4, hq4, hx4⟩)
                · refine hK _ _ ?_
                  clear hK K
                  refine wpAnyIn_take (i := 22) (v := ?_) rfl rfl (by kernel_rfl) (by kernel_rfl) (by kernel_rfl) (fun _ _ _ h => h) ⟨Or.inl ⟨by kernel_rfl, ?_⟩, fun _ => rfl⟩ ?_
                  rotate_left 1
                  · intro w; go_simp; try (with_reducible rfl)
                  refine wpAnyIn_take (i := 23) (v := ?_) rfl rfl (by kernel_rfl) (by kernel_rfl) (by kernel_rfl) (fun _ _ _ h => h) ⟨Or.inl ⟨by kernel_rfl, ?_⟩, fun _ => rfl⟩ ?_
                  rotate_left 1
                  · intro w; go_simp; try (with_reducible rfl)
                  refine wpAnyIn_done (by kernel_rfl) ?_ _
                  gi_wp2
                  go_roundw
                  case rel =>
                    refine ⟨k + 1, by omega, by go_num, hid ?_, hid (hKk.out.trans (hKd.trans (hK3.trans hK4)))⟩
                    rw [htk.out, HTR.out, ← hB0, ← hB1, ← List.append_assoc, ← hA]
                    rw [show A ++ (B0 ++ [x] ++ B1) = A ++ B0 ++ [x] ++ B1 by simp]
                    exact hJ4
                  case measure => simp [intOf]; omega
                · refine hK _ _ ?_
                  clear hK K
                  refine wpAnyIn_take (i := 22) (v := ?_) rfl rfl (by kernel_rfl) (by kernel_rfl) (by kernel_rfl) (fun _ _ _ h => h) ⟨Or.inl ⟨by kernel_rfl, ?_⟩, fun _ => rfl⟩ ?_
                  rotate_left 1
                  · intro w; go_simp; try (with_reducible rfl)
                  refine wpAnyIn_take (i := 23) (v := ?_) rfl rfl (by kernel_rfl) (by kernel_rfl) (by kernel_rfl) (fun _ _ _ h => h) ⟨Or.inl ⟨by kernel_rfl, ?_⟩, fun _ => rfl⟩ ?_
                  rotate_left 1
                  · intro w; go_simp; try (with_reducible rfl)
                  refine wpAnyIn_done (by kernel_rfl) ?_ _
                  gi_wp2
                  go_ret
                  refine Or.inr ⟨rfl, (ks.take k).flatMap (trF T (f + 1)) ++ (B0 ++ [x] ++ q4), HPX.out _ ?_, ?_⟩
                  · rw [HTR.out, ← hB0, ← hB1]
                    exact List.prefix_append_right_inj _ |>.2 hq4
                  · rw [← List.append_assoc, ← hA]
                    rw [show A ++ (B0 ++ [x] ++ q4) = A ++ B0 ++ [x] ++ q4 by simp]; exact hx4
            · refine hK _ _ ?_
              clear hK K
              refine wpAnyIn_take (i := 12) (v := ?_) rfl rfl (by kernel_rfl) (by kernel_rfl) (by kernel_rfl) (fun _ _ _ h => h) ⟨Or.inl ⟨by kernel_rfl, ?_⟩, fun _ => rfl⟩ ?_
              rotate_left 1
              · intro w; go_simp; try (with_reducible rfl)
              refine wpAnyIn_take (i := 13) (v := ?_) rfl rfl (by kernel_rfl) (by kernel_rfl) (by kernel_rfl) (fun _ _ _ h => h) ⟨Or.inl ⟨by kernel_rfl, ?_⟩, fun _ => rfl⟩ ?_
              rotate_left 1
              · intro w; go_simp; try (with_reducible rfl)
              refine wpAnyIn_take (i := 14) (v := ?_) rfl rfl (by kernel_rfl) (by kernel_rfl) (by kernel_rfl) (fun _ _ _ h => h) ⟨Or.inl ⟨by kernel_rfl, ?_⟩, fun _ => rfl⟩ ?_
              rotate_left 1
              · intro w; go_simp; try (with_reducible rfl)
              refine wpAnyIn_take (i := 16) (v := undef) rfl rfl (by kernel_rfl) (by kernel_rfl) (by kernel_rfl) (fun _ _ _ h => h) ⟨Or.inr ⟨by kernel_rfl, rfl⟩, fun _ => rfl⟩ ?_
              refine wpAnyIn_take (i := 17) (v := undef) rfl rfl (by kernel_rfl) (by kernel_rfl) (by kernel_rfl) (fun _ _ _ h => h) ⟨Or.inr ⟨by kernel_rfl, rfl⟩, fun _ => rfl⟩ ?_
              refine wpAnyIn_take (i := 18) (v := undef) rfl rfl (by kernel_rfl) (by kernel_rfl) (by kernel_rfl) (fun _ _ _ h => h) ⟨Or.inr ⟨by kernel_rfl, rfl⟩, fun _ => rfl⟩ ?_
              refine wpAnyIn_take (i := 19) (v := undef) rfl rfl (by kernel_rfl) (by kernel_rfl) (by kernel_rfl) (fun _ _ _ h => h) ⟨Or.inr ⟨by kernel_rfl, rfl⟩, fun _ => rfl⟩ ?_
              refine wpAnyIn_take (i := 20) (v := undef) rfl rfl (by kernel_rfl) (by kernel_rfl) (by kernel_rfl) (fun _ _ _ h => h) ⟨Or.inr ⟨by kernel_rfl, rfl⟩, fun _ => rfl⟩ ?_
              refine wpAnyIn_ready (rs := [15]) (by kernel_rfl) (by simp) ?_
              refine AllReadyIn.cons rfl (fun K hK => ?_) AllReadyIn.nil
              go_simp
              (try refine ⟨fun _ _ => trivial, ?_⟩)
              refine hK _ _ ?_
              clear hK K
              refine wpAnyIn_ready (rs := [21]) (by kernel_rfl) (by simp) ?_
              refine AllReadyIn.cons rfl (fun K hK => ?_) AllReadyIn.nil
              go_simp
              (try refine ⟨fun _ _ => trivial, ?_⟩)
              refine hK _ _ ?_
              clear hK K
              refine wpAnyIn_take (i := 22) (v := undef) rfl rfl (by kernel_rfl) (by kernel_rfl) (by kernel_rfl) (fun _ _ _ h => h) ⟨Or.inr ⟨by kernel_rfl, rfl⟩, fun _ => rfl⟩ ?_
              refine wpAnyIn_take (i := 23) (v := ?_) rfl rfl (by kernel_rfl) (by kernel_rfl) (by kernel_rfl) (fun _ _ _ h => h) ⟨Or.inl ⟨by kernel_rfl, ?_⟩, fun _ => rfl⟩ ?_
              rotate_left 1
              · intro w; go_simp; try (with_reducible rfl)
              refine wpAnyIn_done (by kernel_rfl) ?_ _
              gi_wp2
              go_ret
              refine Or.inr ⟨rfl, (ks.take k).flatMap (trF T (f + 1)) ++ (B0 ++ [x]), HPX.out _ ?_, ?_⟩
              · rw [HTR.out, ← hB0, ← hB1]
                exact List.prefix_append _ _
              · rw [← List.append_assoc, ← hA]
                rw [show A ++ (B0 ++ [x]) = A ++ B0 ++ [x] by simp]; exact hx3
          · refine hK _ _ ?_
            clear hK K
            refine wpAnyIn_take (i := 7) (v := ?_) rfl rfl (by kernel_rfl) (by kernel_rfl) (by kernel_rfl) (fun _ _ _ h => h) ⟨Or.inl ⟨by kernel_rfl, ?_⟩, fun _ => rfl⟩ ?_
            rotate_left 1
            · intro w; go_simp; try (with_reducible rfl)
            refine wpAnyIn_take (i := 8) (v := ?_) rfl rfl (by kernel_rfl) (by kernel_rfl) (by kernel_rfl) (fun _ _ _ h => h) ⟨Or.inl ⟨by kernel_rfl, ?_⟩, fun _ => rfl⟩ ?_
            rotate_left 1
            · intro w; go_simp; try (with_reducible rfl)
            refine wpAnyIn_take (i := 10) (v := undef) rfl rfl (by kernel_rfl) (by kernel_rfl) (by kernel_rfl) (fun _ _ _ h => h) ⟨Or.inr ⟨by kernel_rfl, rfl⟩, fun _ => rfl⟩ ?_
            refine wpAnyIn_ready (rs := [9]) (by kernel_rfl) (by simp) ?_
            refine AllReadyIn.cons rfl (fun K hK => ?_) AllReadyIn.nil
            go_simp
            (try refine ⟨fun _ _ => trivial, ?_⟩)
            refine hK _ _ ?_
            clear hK K
            refine wpAnyIn_ready (rs := [11]) (by kernel_rfl) (by simp) ?_
            refine AllReadyIn.cons rfl (fun K hK => ?_) AllReadyIn.nil
            go_simp
            (try refine ⟨fun _ _ => trivial, ?_⟩)
            refine hK _ _ ?_
            clear hK K
            refine wpAnyIn_take (i := 12) (v := undef) rfl rfl (by kernel_rfl) (by kernel_rfl) (by kernel_rfl) (fun _ _ _ h => h) ⟨Or.inr ⟨by kernel_rfl, rfl⟩, fun _ => rfl⟩ ?_
            refine wpAnyIn_take (i := 13) (v := ?_) rfl rfl (by kernel_rfl) (by kernel_rfl) (by kernel_rfl) (fun _ _ _ h => h) ⟨Or.inl ⟨by kernel_rfl, ?_⟩, fun _ => rfl⟩ ?_
            rotate_left 1
            · intro w; go_simp; try (with_reducible rfl)
            refine wpAnyIn_take (i := 14) (v := ?_) rfl rfl (by kernel_rfl) (by kernel_rfl) (by kernel_rfl) (fun _ _ _ h => h) ⟨Or.inl ⟨by kernel_rfl, ?_⟩, fun _ => rfl⟩ ?_
            rotate_left 1
            · intro w; go_simp; try (with_reducible rfl)
            refine wpAnyIn_take (i := 16) (v := undef) rfl rfl (by kernel_rfl) (by kernel_rfl) (by kernel_rfl) (fun _ _ _ h => h) ⟨Or.inr ⟨by kernel_rfl, rfl⟩, fun _ => rfl⟩ ?_
            refine wpAnyIn_take (i := 17) (v := undef) rfl rfl (by kernel_rfl) (by kernel_rfl) (by kernel_rfl) (fun _ _ _ h => h) ⟨Or.inr ⟨by kernel_rfl, rfl⟩, fun _ => rfl⟩ ?_
            refine wpAnyIn_take (i := 18) (v := undef) rfl rfl (by kernel_rfl) (by kernel_rfl) (by kernel_rfl) (fun _ _ _ h => h) ⟨Or.inr ⟨by kernel_rfl, rfl⟩, fun _ => rfl⟩ ?_
            refine wpAnyIn_take (i := 19) (v := undef) rfl rfl (by kernel_rfl) (by kernel_rfl) (by kernel_rfl) (fun _ _ _ h => h) ⟨Or.inr ⟨by kernel_rfl, rfl⟩, fun _ => rfl⟩ ?_
            refine wpAnyIn_take (i := 20) (v := undef) rfl rfl (by kernel_rfl) (by kernel_rfl) (by kernel_rfl) (fun _ _ _ h => h) ⟨Or.inr ⟨by kernel_rfl, rfl⟩, fun _ => rfl⟩ ?_
            refine wpAnyIn_ready (rs := [15]) (by kernel_rfl) (by simp) ?_
            refine AllReadyIn.cons rfl (fun K hK => ?_) AllReadyIn.nil
            go_simp
            (try refine ⟨fun _ _ => trivial, ?_⟩)
            refine hK _ _ ?_
            clear hK K
            refine wpAnyIn_ready (rs := [21]) (by kernel_rfl) (by simp) ?_
            refine AllReadyIn.cons rfl (fun K hK => ?_) AllReadyIn.nil
            go_simp
            (try refine ⟨fun _ _ => trivial, ?_⟩)
            refine hK _ _ ?_
            clear hK K
            refine wpAnyIn_take (i := 22) (v := undef) rfl rfl (by kernel_rfl) (by kernel_rfl) (by kernel_rfl) (fun _ _ _ h => h) ⟨Or.inr ⟨by kernel_rfl, rfl⟩, fun _ => rfl⟩ ?_
            refine wpAnyIn_take (i := 23) (v := ?_) rfl rfl (by kernel_rfl) (by kernel_rfl) (by kernel_rfl) (fun _ _ _ h => h) ⟨Or.inl ⟨by kernel_rfl, ?_⟩, fun _ => rfl⟩ ?_
            rotate_left 1
            · intro w; go_simp; try (with_reducible rfl)
            refine wpAnyIn_done (by kernel_rfl) ?_ _
            gi_wp2
            go_ret
            refine Or.inr ⟨rfl, (ks.take k).flatMap (trF T (f + 1)) ++ q2, HPX.out _ ?_, ?_⟩
            · rw [HTR.out, ← hB0, ← hB1]
              exact hq2.trans (by rw [List.append_assoc]; exact List.prefix_append _ _)
            · rw [← List.append_assoc, ← hA]
              exact hx2
        · go_simp
          refine hK _ _ ?_
          clear hK K
          refine wpAnyIn_ready (rs := [0]) (by kernel_rfl) (by simp) ?_
          refine AllReadyIn.cons rfl (fun K hK => ?_) AllReadyIn.nil
          go_simp
          refine hK _ _ ?_
          clear hK K
          refine wpAnyIn_ready (rs := [6]) (by kernel_rfl) (by simp) ?_
          refine AllReadyIn.cons rfl (fun K hK => ?_) AllReadyIn.nil
          go_simp
          refine ⟨trivial, hdep, ?_⟩
          refine hL.mono ?_
          rintro e w2 (⟨rfl, hJ2, hK2⟩ | ⟨rfl, q2, hq2, hx2⟩)
          · obtain ⟨hy2, fn, tmps, assign, body, hy', hR⟩ := HRest.out w2 hJ2 hK2
            refine hK _ _ ?_
            clear hK K
            refine wpAnyIn_take (i := 7) (v := ?_) rfl rfl (by kernel_rfl) (by kernel_rfl) (by kernel_rfl) (fun _ _ _ h => h) ⟨Or.inl ⟨by kernel_rfl, ?_⟩, fun _ => rfl⟩ ?_
            rotate_left 1
            · intro w; go_simp; try (with_reducible rfl)
            refine wpAnyIn_take (i := 8) (v := ?_) rfl rfl (by kernel_rfl) (by kernel_rfl) (by kernel_rfl) (fun _ _ _ h => h) ⟨Or.inl ⟨by kernel_rfl, ?_⟩, fun _ => rfl⟩ ?_
            rotate_left 1
            · intro w; go_simp; try (with_reducible rfl)
            refine wpAnyIn_take (i := 10) (v := ?_) rfl rfl (by kernel_rfl) (by kernel_rfl) (by kernel_rfl) (fun _ _ _ h => h) ⟨Or.inl ⟨by kernel_rfl, ?_⟩, fun _ => rfl⟩ ?_
            rotate_left 1
            · intro w; go_simp; try (with_reducible rfl)
            refine wpAnyIn_ready (rs := [9]) (by kernel_rfl) (by simp) ?_
            refine AllReadyIn.cons rfl (fun K hK => ?_) AllReadyIn.nil
            go_simp
            refine hK _ _ ?_
            clear hK K
            refine wpAnyIn_ready (rs := [11]) (by kernel_rfl) (by simp) ?_
            refine AllReadyIn.cons rfl (fun K hK => ?_) AllReadyIn.nil
            go_simp
            refine ⟨hdep, ?_⟩
            refine hR.mono ?_
            rintro e w3 (⟨rfl, hK3, ht3, h53, hRt⟩ | ⟨rfl, hx3⟩)
            · refine hK _ _ ?_
              clear hK K
              refine wpAnyIn_take (i := 12) (v := ?_) rfl rfl (by kernel_rfl) (by kernel_rfl) (by kernel_rfl) (fun _ _ _ h => h) ⟨Or.inl ⟨by kernel_rfl, ?_⟩, fun _ => rfl⟩ ?_
              rotate_left 1
              · intro w; go_simp; try (with_reducible rfl)
              refine wpAnyIn_take (i := 13) (v := ?_) rfl rfl (by kernel_rfl) (by kernel_rfl) (by kernel_rfl) (fun _ _ _ h => h) ⟨Or.inl ⟨by kernel_rfl, ?_⟩, fun _ => rfl⟩ ?_
              rotate_left 1
              · intro w; go_simp; try (with_reducible rfl)
              refine wpAnyIn_take (i := 14) (v := ?_) rfl rfl (by kernel_rfl) (by kernel_rfl) (by kernel_rfl) (fun _ _ _ h => h) ⟨Or.inl ⟨by kernel_rfl, ?_⟩, fun _ => rfl⟩ ?_
              rotate_left 1
              · intro w; go_simp; try (with_reducible rfl)
              refine wpAnyIn_take (i := 16) (v := ?_) rfl rfl (by kernel_rfl) (by kernel_rfl) (by kernel_rfl) (fun _ _ _ h => h) ⟨Or.inl ⟨by kernel_rfl, ?_⟩, fun _ => rfl⟩ ?_
              rotate_left 1
              · intro w; go_simp; try (with_reducible rfl)
              refine wpAnyIn_take (i := 17) (v := ?_) rfl rfl (by kernel_rfl) (by kernel_rfl) (by kernel_rfl) (fun _ _ _ h => h) ⟨Or.inl ⟨by kernel_rfl, ?_⟩, fun _ => rfl⟩ ?_
              rotate_left 1
              · intro w; go_simp; try (with_reducible rfl)
              refine wpAnyIn_take (i := 18) (v := ?_) rfl rfl (by kernel_rfl) (by kernel_rfl) (by kernel_rfl) (fun _ _ _ h => h) ⟨Or.inl ⟨by kernel_rfl, ?_⟩, fun _ => rfl⟩ ?_
              rotate_left 1
              · intro w; go_simp; try (with_reducible rfl)
              refine wpAnyIn_take (i := 19) (v := ?_) rfl rfl (by kernel_rfl) (by kernel_rfl) (by kernel_rfl) (fun _ _ _ h => h) ⟨Or.inl ⟨by kernel_rfl, ?_⟩, fun _ => rfl⟩ ?_
              rotate_left 1
              · intro w; go_simp; try (with_reducible rfl)
              refine wpAnyIn_ready (rs := [15, 20]) (by kernel_rfl) (by simp) ?_
              refine AllReadyIn.cons rfl (fun K hK => ?_) (AllReadyIn.cons rfl (fun K hK => ?_) AllReadyIn.nil)
              · go_simp
                refine hK _ _ ?_
                clear hK K
                refine wpAnyIn_ready (rs := [20]) (by kernel_rfl) (by simp) ?_
                refine AllReadyIn.cons rfl (fun K hK => ?_) AllReadyIn.nil
                go_simp
                refine hK _ _ ?_
                clear hK K
                refine wpAnyIn_ready (rs := [21]) (by kernel_rfl) (by simp) ?_
                refine AllReadyIn.cons rfl (fun K hK => ?_) AllReadyIn.nil
                go_simp
                refine ⟨trivial, hdep, ?_⟩
                refine hRt.mono ?_
                rintro e w4 (⟨rfl, hJ4, hK4⟩ | ⟨rfl, q4, hq4, hx4⟩)
                · refine hK _ _ ?_
                  clear hK K
                  refine wpAnyIn_take (i := 22) (v := ?_) rfl rfl (by kernel_rfl) (by kernel_rfl) (by kernel_rfl) (fun _ _ _ h => h) ⟨Or.inl ⟨by kernel_rfl, ?_⟩, fun _ => rfl⟩ ?_
                  rotate_left 1
                  · intro w; go_simp; try (with_reducible rfl)
                  refine wpAnyIn_take (i := 23) (v := ?_) rfl rfl (by kernel_rfl) (by kernel_rfl) (by kernel_rfl) (fun _ _ _ h => h) ⟨Or.inl ⟨by kernel_rfl, ?_⟩, fun _ => rfl⟩ ?_
                  rotate_left 1
                  · intro w; go_simp; try (with_reducible rfl)
                  refine wpAnyIn_done (by kernel_rfl) ?_ _
                  gi_wp2
                  go_roundw
                  case rel =>
                    refine ⟨k + 1, by omega, by go_num, hid ?_, hid (hKk.out.trans (hKd.trans (hK3.trans hK4)))⟩
                    rw [htk.out, HTR.out, ← hB0, ← hB1, ← List.append_assoc, ← hA]
                    rw [show A ++ (B0 ++ [x] ++ B1) = A ++ B0 ++ [x] ++ B1 by simp]
                    exact hJ4
                  case measure => simp [intOf]; omega
                · refine hK _ _ ?_
                  clear hK K
                  refine wpAnyIn_take (i := 22) (v := ?_) rfl rfl (by kernel_rfl) (by kernel_rfl) (by kernel_rfl) (fun _ _ _ h => h) ⟨Or.inl ⟨by kernel_rfl, ?_⟩, fun _ => rfl⟩ ?_
                  rotate_left 1
                  · intro w; go_simp; try (with_reducible rfl)
                  refine wpAnyIn_take (i := 23) (v := ?_) rfl rfl (by kernel_rfl) (by kernel_rfl) (by kernel_rfl) (fun _ _ _ h => h) ⟨Or.inl ⟨by kernel_rfl, ?_⟩, fun _ => rfl⟩ ?_
                  rotate_left 1
                  · intro w; go_simp; try (with_reducible rfl)
                  refine wpAnyIn_done (by kernel_rfl) ?_ _
                  gi_wp2
                  go_ret
                  refine Or.inr ⟨rfl, (ks.take k).flatMap (trF T (f + 1)) ++ (B0 ++ [x] ++ q4), HPX.out _ ?_, ?_⟩
                  · rw [HTR.out, ← hB0, ← hB1]
                    exact List.prefix_append_right_inj _ |>.2 hq4
                  · rw [← List.append_assoc, ← hA]
                    rw [show A ++ (B0 ++ [x] ++ q4) = A ++ B0 ++ [x] ++ q4 by simp]; exact hx4
              · go_simp
                refine hK _ _ ?_
                clear hK K
                refine wpAnyIn_ready (rs := [15]) (by kernel_rfl) (by simp) ?_
                refine AllReadyIn.cons rfl (fun K hK => ?_) AllReadyIn.nil
                go_simp
                refine hK _ _ ?_
                clear hK K
                refine wpAnyIn_ready (rs := [21]) (by kernel_rfl) (by simp) ?_
                refine AllReadyIn.cons rfl (fun K hK => ?_) AllReadyIn.nil
                go_simp
                refine ⟨trivial, hdep, ?_⟩
                refine hRt.mono ?_
                rintro e w4 (⟨rfl, hJ4, hK4⟩ | ⟨rfl, q4, hq4, hx4⟩)
                · refine hK _ _ ?_
                  clear hK K
                  refine wpAnyIn_take (i := 22) (v := ?_) rfl rfl (by kernel_rfl) (by kernel_rfl) (by kernel_rfl) (fun _ _ _ h => h) ⟨Or.inl ⟨by kernel_rfl, ?_⟩, fun _ => rfl⟩ ?_
                  rotate_left 1
                  · intro w; go_simp; try (with_reducible rfl)
                  refine wpAnyIn_take (i := 23) (v := ?_) rfl rfl (by kernel_rfl) (by kernel_rfl) (by kernel_rfl) (fun _ _ _ h => h) ⟨Or.inl ⟨by kernel_rfl, ?_⟩, fun _ => rfl⟩ ?_
                  rotate_left 1
                  · intro w; go_simp; try (with_reducible rfl)
                  refine wpAnyIn_done (by kernel_rfl) ?_ _
                  gi_wp2
                  go_roundw
                  case rel =>
                    refine ⟨k + 1, by omega, by go_num, hid ?_, hid (hKk.out.trans (hKd.trans (hK3.trans hK4)))⟩
                    rw [htk.out, HTR.out, ← hB0, ← hB1, ← List.append_assoc, ← hA]
                    rw [show A ++ (B0 ++ [x] ++ B1) = A ++ B0 ++ [x] ++ B1 by simp]
                    exact hJ4
                  case measure => simp [intOf]; omega
                · refine hK _ _ ?_
                  clear hK K
                  refine wpAnyIn_take (i := 22) (v := ?_) rfl rfl (by kernel_rfl) (by kernel_rfl) (by kernel_rfl) (fun _ _ _ h => h) ⟨Or.inl ⟨by kernel_rfl, ?_⟩, fun _ => rfl⟩ ?_
                  rotate_left 1
                  · intro w; go_simp; try (with_reducible rfl)
                  refine wpAnyIn_take (i := 23) (v := ?_) rfl rfl (by kernel_rfl) (by kernel_rfl) (by kernel_rfl) (fun _ _ _ h => h) ⟨Or.inl ⟨by kernel_rfl, ?_⟩, fun _ => rfl⟩ ?_
                  rotate_left 1
                  · intro w; go_simp; try (with_reducible rfl)
                  refine wpAnyIn_done (by kernel_rfl) ?_ _
                  gi_wp2
                  go_ret
                  refine Or.inr ⟨rfl, (ks.take k).flatMap (trF T (f + 1)) ++ (B0 ++ [x] ++ q4), HPX.out _ ?_, ?_⟩
                  · rw [HTR.out, ← hB0, ← hB1]
                    exact List.prefix_append_right_inj _ |>.2 hq4
                  · rw [← List.append_assoc, ← hA]
                    rw [show A ++ (B0 ++ [x] ++ q4) = A ++ B0 ++ [x] ++ q4 by simp]; exact hx4
            · refine hK _ _ ?_
              clear hK K
              refine wpAnyIn_take (i := 12) (v := ?_) rfl rfl (by kernel_rfl) (by kernel_rfl) (by kernel_rfl) (fun _ _ _ h => h) ⟨Or.inl ⟨by kernel_rfl, ?_⟩, fun _ => rfl⟩ ?_
              rotate_left 1
              · intro w; go_simp; try (with_reducible rfl)
              refine wpAnyIn_take (i := 13) (v := ?_) rfl rfl (by kernel_rfl) (by kernel_rfl) (by kernel_rfl) (fun _ _ _ h => h) ⟨Or.inl ⟨by kernel_rfl, ?_⟩, fun _ => rfl⟩ ?_
              rotate_left 1
              · intro w; go_simp; try (with_reducible rfl)
              refine wpAnyIn_take (i := 14) (v := ?_) rfl rfl (by kernel_rfl) (by kernel_rfl) (by kernel_rfl) (fun _ _ _ h => h) ⟨Or.inl ⟨by kernel_rfl, ?_⟩, fun _ => rfl⟩ ?_
              rotate_left 1
              · intro w; go_simp; try (with_reducible rfl)
              refine wpAnyIn_take (i := 16) (v := undef) rfl rfl (by kernel_rfl) (by kernel_rfl) (by kernel_rfl) (fun _ _ _ h => h) ⟨Or.inr ⟨by kernel_rfl, rfl⟩, fun _ => rfl⟩ ?_
              refine wpAnyIn_take (i := 17) (v := undef) rfl rfl (by kernel_rfl) (by kernel_rfl) (by kernel_rfl) (fun _ _ _ h => h) ⟨Or.inr ⟨by kernel_rfl, rfl⟩, fun _ => rfl⟩ ?_
              refine wpAnyIn_take (i := 18) (v := undef) rfl rfl (by kernel_rfl) (by kernel_rfl) (by kernel_rfl) (fun _ _ _ h => h) ⟨Or.inr ⟨by kernel_rfl, rfl⟩, fun _ => rfl⟩ ?_
              refine wpAnyIn_take (i := 19) (v := undef) rfl rfl (by kernel_rfl) (by kernel_rfl) (by kernel_rfl) (fun _ _ _ h => h) ⟨Or.inr ⟨by kernel_rfl, rfl⟩, fun _ => rfl⟩ ?_
              refine wpAnyIn_take (i := 20) (v := undef) rfl rfl (by kernel_rfl) (by kernel_rfl) (by kernel_rfl) (fun _ _ _ h => h) ⟨Or.inr ⟨by kernel_rfl, rfl⟩, fun _ => rfl⟩ ?_
              refine wpAnyIn_ready (rs := [15]) (by kernel_rfl) (by simp) ?_
              refine AllReadyIn.cons rfl (fun K hK => ?_) AllReadyIn.nil
              go_simp
              (try refine ⟨fun _ _ => trivial, ?_⟩)
              refine hK _ _ ?_
              clear hK K
              refine wpAnyIn_ready (rs := [21]) (by kernel_rfl) (by simp) ?_
              refine AllReadyIn.cons rfl (fun K hK => ?_) AllReadyIn.nil
              go_simp
              (try refine ⟨fun _ _ => trivial, ?_⟩)
              refine hK _ _ ?_
              clear hK K
              refine wpAnyIn_take (i := 22) (v := undef) rfl rfl (by kernel_rfl) (by kernel_rfl) (by kernel_rfl) (fun _ _ _ h => h) ⟨Or.inr ⟨by kernel_rfl, rfl⟩, fun _ => rfl⟩ ?_
              refine wpAnyIn_take (i := 23) (v := ?_) rfl rfl (by kernel_rfl) (by kernel_rfl) (by kernel_rfl) (fun _ _ _ h => h) ⟨Or.inl ⟨by kernel_rfl, ?_⟩, fun _ => rfl⟩ ?_
              rotate_left 1
              · intro w; go_simp; try (with_reducible rfl)
              refine wpAnyIn_done (by kernel_rfl) ?_ _
              gi_wp2
              go_ret
              refine Or.inr ⟨rfl, (ks.take k).flatMap (trF T (f + 1)) ++ (B0 ++ [x]), HPX.out _ ?_, ?_⟩
              · rw [HTR.out, ← hB0, ← hB1]
                exact List.prefix_append _ _
              · rw [← List.append_assoc, ← hA]
                rw [show A ++ (B0 ++ [x]) = A ++ B0 ++ [x] by simp]; exact hx3
          · refine hK _ _ ?_
            clear hK K
            refine wpAnyIn_take (i := 7) (v := ?_) rfl rfl (by kernel_rfl) (by kernel_rfl) (by kernel_rfl) (fun _ _ _ h => h) ⟨Or.inl ⟨by kernel_rfl, ?_⟩, fun _ => rfl⟩ ?_
            rotate_left 1
            · intro w; go_simp; try (with_reducible rfl)
            refine wpAnyIn_take (i := 8) (v := ?_) rfl rfl (by kernel_rfl) (by kernel_rfl) (by kernel_rfl) (fun _ _ _ h => h) ⟨Or.inl ⟨by kernel_rfl, ?_⟩, fun _ => rfl⟩ ?_
            rotate_left 1
            · intro w; go_simp; try (with_reducible rfl)
            refine wpAnyIn_take (i := 10) (v := undef) rfl rfl (by kernel_rfl) (by kernel_rfl) (by kernel_rfl) (fun _ _ _ h => h) ⟨Or.inr ⟨by kernel_rfl, rfl⟩, fun _ => rfl⟩ ?_
            refine wpAnyIn_ready (rs := [9]) (by kernel_rfl) (by simp) ?_
            refine AllReadyIn.cons rfl (fun K hK => ?_) AllReadyIn.nil
            go_simp
            (try refine ⟨fun _ _ => trivial, ?_⟩)
            refine hK _ _ ?_
            clear hK K
            refine wpAnyIn_ready (rs := [11]) (by kernel_rfl) (by simp) ?_
            refine AllReadyIn.cons rfl (fun K hK => ?_) AllReadyIn.nil
            go_simp
            (try refine ⟨fun _ _ => trivial, ?_⟩)
            refine hK _ _ ?_
            clear hK K
            refine wpAnyIn_take (i := 12) (v := undef) rfl rfl (by kernel_rfl) (by kernel_rfl) (by kernel_rfl) (fun _ _ _ h => h) ⟨Or.inr ⟨by kernel_rfl, rfl⟩, fun _ => rfl⟩ ?_
            refine wpAnyIn_take (i := 13) (v := ?_) rfl rfl (by kernel_rfl) (by kernel_rfl) (by kernel_rfl) (fun _ _ _ h => h) ⟨Or.inl ⟨by kernel_rfl, ?_⟩, fun _ => rfl⟩ ?_
            rotate_left 1
            · intro w; go_simp; try (with_reducible rfl)
            refine wpAnyIn_take (i := 14) (v := ?_) rfl rfl (by kernel_rfl) (by kernel_rfl) (by kernel_rfl) (fun _ _ _ h => h) ⟨Or.inl ⟨by kernel_rfl, ?_⟩, fun _ => rfl⟩ ?_
            rotate_left 1
            · intro w; go_simp; try (with_reducible rfl)
            refine wpAnyIn_take (i := 16) (v := undef) rfl rfl (by kernel_rfl) (by kernel_rfl) (by kernel_rfl) (fun _ _ _ h => h) ⟨Or.inr ⟨by kernel_rfl, rfl⟩, fun _ => rfl⟩ ?_
            refine wpAnyIn_take (i := 17) (v := undef) rfl rfl (by kernel_rfl) (by kernel_rfl) (by kernel_rfl) (fun _ _ _ h => h) ⟨Or.inr ⟨by kernel_rfl, rfl⟩, fun _ => rfl⟩ ?_
            refine wpAnyIn_take (i := 18) (v := undef) rfl rfl (by kernel_rfl) (by kernel_rfl) (by kernel_rfl) (fun _ _ _ h => h) ⟨Or.inr ⟨by kernel_rfl, rfl⟩, fun _ => rfl⟩ ?_
            refine wpAnyIn_take (i := 19) (v := undef) rfl rfl (by kernel_rfl) (by kernel_rfl) (by kernel_rfl) (fun _ _ _ h => h) ⟨Or.inr ⟨by kernel_rfl, rfl⟩, fun _ => rfl⟩ ?_
            refine wpAnyIn_take (i := 20) (v := undef) rfl rfl (by kernel_rfl) (by kernel_rfl) (by kernel_rfl) (fun _ _ _ h => h) ⟨Or.inr ⟨by kernel_rfl, rfl⟩, fun _ => rfl⟩ ?_
            refine wpAnyIn_ready (rs := [15]) (by kernel_rfl) (by simp) ?_
            refine AllReadyIn.cons rfl (fun K hK => ?_) AllReadyIn.nil
            go_simp
            (try refine ⟨fun _ _ => trivial, ?_⟩)
            refine hK _ _ ?_
            clear hK K
            refine wpAnyIn_ready (rs := [21]) (by kernel_rfl) (by simp) ?_
            refine AllReadyIn.cons rfl (fun K hK => ?_) AllReadyIn.nil
            go_simp
            (try refine ⟨fun _ _ => trivial, ?_⟩)
            refine hK _ _ ?_
            clear hK K
            refine wpAnyIn_take (i := 22) (v := undef) rfl rfl (by kernel_rfl) (by kernel_rfl) (by kernel_rfl) (fun _ _ _ h => h) ⟨Or.inr ⟨by kernel_rfl, rfl⟩, fun _ => rfl⟩ ?_
            refine wpAnyIn_take (i := 23) (v := ?_) rfl rfl (by kernel_rfl) (by kernel_rfl) (by kernel_rfl) (fun _ _ _ h => h) ⟨Or.inl ⟨by kernel_rfl, ?_⟩, fun _ => rfl⟩ ?_
            rotate_left 1
            · intro w; go_simp; try (with_reducible rfl)
            refine wpAnyIn_done (by kernel_rfl) ?_ _
            gi_wp2
            go_ret
            refine Or.inr ⟨rfl, (ks.take k).flatMap (trF T (f + 1)) ++ q2, HPX.out _ ?_, ?_⟩
            · rw [HTR.out, ← hB0, ← hB1]
              exact hq2.trans (by rw [List.append_assoc]; exact List.prefix_append _ _)
            · rw [← List.append_assoc, ← hA]
              exact hx2
      · obtain rfl : ks.length = k := by omega
        gi_wp2
        go_ret
        refine Or.inl ⟨rfl, ?_, hKk.out⟩
        have := hJk.out
        rwa [List.take_length] at this
end Go.Proofs.YtnmdcdphpcpojaaGreatDoor
