/- The reference: a character's tree, in order. -/
import Derived.Test.YtnmdcdphpcpojaaGreatDoorFgStayV
import Derived.Deep.RegionHeld
import Derived.Maps.AppendAt
set_option linter.unusedVariables false
set_option linter.unusedSimpArgs false
namespace Go.Proofs.YtnmdcdphpcpojaaGreatDoor
open Go.RowKit
open Go.Sort (grow)

/-- A row of dots of one's own that grows, beside what is kept of an earlier world: all below B, and all from lo on. -/
structure RL (W3 : World) (B lo : Nat) (w : World) (v : Value) (P : List Dt) : Prop where
  own : w.ownsRow B 24 2 v P.length (flat P)
  os : w.os = W3.os
  tape : w.tape = W3.tape
  output : w.output = W3.output
  size : W3.heap.size ≤ w.heap.size
  block : ∀ k, k < W3.heap.size → (k < B ∨ lo ≤ k) → w.heap[k]? = W3.heap[k]?
  vb : ∀ b, v.ownBlock = some b → b < lo ∨ W3.heap.size ≤ b
  base : B ≤ W3.heap.size

theorem RL.below {W3 w : World} {B lo : Nat} {v : Value} {P : List Dt} (h : RL W3 B lo w v P) : Below B W3 w := ⟨h.os, h.tape, h.output, h.size, fun k hk => h.block k (Nat.lt_of_lt_of_le hk h.base) (Or.inl hk)⟩

theorem RL.cell {W3 w : World} {B lo : Nat} {v : Value} {P : List Dt} (h : RL W3 B lo w v P) {p : Addr} {u : Value} (hp : W3.cell? p = some u) (hb : p.block < B ∨ lo ≤ p.block) : w.cell? p = some u :=
  (World.cell?_of_block (h.block _ (cell_in hp) hb)).trans hp

theorem RL.more {W3 w w' : World} {B lo : Nat} {v : Value} {P : List Dt} (h : RL W3 B lo w v P) (hb : Below w.heap.size w w') : RL W3 B lo w' v P :=
  ⟨own_fr (t := 0) h.own (FrW.of_below hb), hb.os.trans h.os, hb.tape.trans h.tape, hb.output.trans h.output, Nat.le_trans h.size hb.size, fun k hk hc => (hb.block k (Nat.lt_of_lt_of_le hk h.size)).trans (h.block k hk hc), h.vb, h.base⟩

theorem RL.app {W3 w : World} {B lo : Nat} {v : Value} {P : List Dt} (h : RL W3 B lo w v P) (t ty : TypeId) (ht : Tryz.prog.underlying t = some (.slice 24)) {ao : Option Addr} {m c : Nat} {L : List Dt} (hL : PS w ao m c L) (hb : P.length + m ≤ 8000000) :
    ∃ v' w', (Builtin.append_ #[t, t] ty #[v, .slice ao m c]).run Tryz.prog w = .ok v' w' ∧ RL W3 B lo w' v' (P ++ L) := by
  obtain ⟨i0, hi, hz0, hz1, hz2⟩ := info_parts Tryz.info24
  cases ao with
  | none =>
    obtain ⟨rfl, rfl⟩ := hL.nil rfl
    have : L = [] := List.eq_nil_of_length_eq_zero hL.len
    subst this
    exact ⟨v, w, run_append_owned_none w B t ty 24 i0 2 ht hi v _ _ h.own, by rw [List.append_nil]; exact h⟩
  | some ad =>
    obtain ⟨v', w', h1, h2, h3, _, h4⟩ := run_append_own_at (P := Tryz.prog) w B t ty 24 i0 _ 2 16 ht hi hz0 hz1 hz2 rfl (by decide) v P.length (flat P) h.own ad m c (flat L) (by rw [flat_length, hL.len]) (hL.cells ad rfl) (flat_one L) (by unfold maxLen; omega) (by omega) (Nat.le_trans h.base h.size)
    refine ⟨v', w', h1, by rw [List.length_append, flat_append, hL.len]; exact h2, h3.os.trans h.os, h3.tape.trans h.tape, h3.output.trans h.output, Nat.le_trans h.size h3.size, fun k hk hc => ?_, fun b hb => ?_, h.base⟩
    · refine (h3.block k (Nat.lt_of_lt_of_le hk h.size) (fun e => ?_)).trans (h.block k hk hc)
      have e1 := h.vb k e.symm
      have e2 := (h.own.lt k e.symm).1
      omega
    · rcases h4 with h4 | h4
      · exact h.vb b (by rw [← h4]; exact hb)
      · rw [h4] at hb
        cases hb
        exact Or.inr h.size

theorem wpList_append_RL {w : World} {ops : Array Oper} {rest : List Oper} {o : Oper} {a : Act} {Q : Exit → Act → World → Prop} (hgd : o.guard = none) (s x : Operand) (t : TypeId) (ht : Tryz.prog.underlying t = some (.slice 24))
    (ho : o.op = .call { callee := .builtin .append, args := #[s, x], argTypes := #[t, t] }) {W3 : World} {B lo : Nat} (v : Value) (P : List Dt) (hs : a.eval s = v) (hR : RL W3 B lo w v P)
    (ao : Option Addr) (m c : Nat) (L : List Dt) (hx : a.eval x = .slice ao m c) (hL : PS w ao m c L) (hb : P.length + m ≤ 8000000)
    (h : ∀ v' w', RL W3 B lo w' v' (P ++ L) → wpList Tryz.prog ops Q rest (a.put o.dst v') w') : wpList Tryz.prog ops Q (o :: rest) a w := by
  obtain ⟨v', w', hr, hR'⟩ := hR.app t o.type ht hL hb
  refine wpList_plain hgd fun _ hK => ?_
  unfold Oper.wp execOp
  simp only [ho, resolve, invoke, builtin, Sem.run_bind, Sem.run_pure, Result.andThen_ok, List.map_toArray, List.map_cons, List.map_nil, hs, hx, hr]
  exact hK _ _ (h v' w' hR')

theorem RL.again {W1 w w' : World} {B lo : Nat} {v : Value} {P : List Dt} (h : RL W1 B lo w v P) (hb : Below w.heap.size w w') : RL w' B w.heap.size w' v P :=
  ⟨own_fr (t := 0) h.own (FrW.of_below hb), rfl, rfl, rfl, Nat.le_refl _, fun _ _ _ => rfl, fun b hv => Or.inl (h.own.lt b hv).2, Nat.le_trans h.base (Nat.le_trans h.size hb.size)⟩

theorem add_block (ad : Addr) (j : Nat) : (ad.add j).block = ad.block := by unfold Addr.add; split <;> rfl

theorem RL.ps {W3 w : World} {B lo : Nat} {v : Value} {P : List Dt} (h : RL W3 B lo w v P) {a : Option Addr} {n c : Nat} {L : List Dt} (hp : PS W3 a n c L) (hr : ∀ ad, a = some ad → ad.block < B ∨ lo ≤ ad.block) : PS w a n c L :=
  ⟨hp.len, hp.cap, hp.max, hp.nil, fun ad ha j u hj => h.cell (hp.cells ad ha j u hj) (by rw [add_block]; exact hr ad ha)⟩

theorem RL.gives {W3 w0 w : World} {B lo : Nat} {v : Value} {P : List Dt} (h : RL W3 B lo w v P) (hb : Below w0.heap.size w0 W3) (hB : w0.heap.size ≤ B) : Gives w0 P (.returned v) w := by
  refine ⟨v, rfl, ⟨h.own.1, ?_⟩, hb.trans (h.below.mono hB)⟩
  rcases h.own.2 with h0 | ⟨g, cap, cur, h1, h2, h3⟩
  · exact Or.inl h0
  · exact Or.inr ⟨g, cap, cur, h1, Nat.le_trans hB h2, h3⟩

theorem flat_take_len {g : Dt → List Dt} (L : List Dt) (k : Nat) : ((L.take k).flatMap g).length ≤ (L.flatMap g).length := by
  have : L.flatMap g = (L.take k).flatMap g ++ (L.drop k).flatMap g := by rw [← List.flatMap_append, List.take_append_drop]
  rw [this, List.length_append]
  omega

theorem append_stepH {P : Program} {ops : Array Oper} {o : Oper} {a : Act} {w : World} {K : Act → World → Prop} {Q : Exit → Act → World → Prop} (s x : Operand) (t : TypeId) (v u v' : Value) (w' : World)
    (hgd : o.guard = none) (hop : o.op = Op.call { callee := Callee.builtin Builtin.append, args := #[s, x], argTypes := #[t, t] }) (hs : a.eval s = v) (hx : a.eval x = u)
    (hrun : (Builtin.append_ #[t, t] o.type #[v, u]).run P w = .ok v' w') (hK : K (a.put o.dst v') w') :
    if Region.wanted o (yielded ops a.tmps) = true then Oper.wp P o a w K Q else K (a.put o.dst undef) w := by
  simp only [Region.wanted, hgd, if_true]
  unfold Oper.wp
  simp [execOp, hop, resolve, invoke, builtin, hs, hx, hrun, Result.andThen, Oper.upon]
  exact hK

theorem nodup_len : ∀ {l m : List Dt}, l.Nodup → (∀ x ∈ l, x ∈ m) → l.length ≤ m.length
  | [], _, _, _ => by simp
  | a :: r, m, hn, hm => by
    have hn' := List.nodup_cons.1 hn
    have ham := hm a (by simp)
    obtain ⟨p, q, rfl⟩ := List.append_of_mem ham
    have ih := nodup_len (l := r) (m := p ++ q) hn'.2 (fun x hx => by
      have := hm x (List.mem_cons_of_mem _ hx)
      rcases List.mem_append.1 this with h | h
      · exact List.mem_append_left _ h
      · rcases List.mem_cons.1 h with rfl | h
        · exact absurd hx hn'.1
        · exact List.mem_append_right _ h)
    simp only [List.length_append, List.length_cons] at ih ⊢
    omega

theorem trF_len {T : List Cr} (hT : WT T) {f : Nat} {d : Dt} (hd : nodes T d) : (trF T f d).length ≤ T.length + 1 := by
  have h1 := trF_once hT f d hd
  have h2 : ∀ x ∈ trF T f d, x ∈ d :: T.map Cr.id := fun x hx => by
    rcases mem_trF hT hx with ⟨e, _⟩ | ⟨c, hc, e⟩
    · rw [e]; simp
    · exact List.mem_cons_of_mem _ (List.mem_map.2 ⟨c, hc, e⟩)
  have h3 := nodup_len h1 h2
  simpa using h3

set_option maxRecDepth 100000 in
set_option maxHeartbeats 4000000 in
theorem rtree_any (a : Option Addr) (n c : Nat) (T : List Cr) (hT : WT T) (hn : n ≤ 100000) : ∀ (f : Nat) (d : Dt) (w : World), RT w a n c T → nodes T d → dep T f d →
    Calls Tryz.prog 160 #[.agg #[.slice a n c], dv d] w (Gives w (trF T f d)) := by
  intro f
  induction f with
  | zero => intro d w _ _ h; exact h.elim
  | succ f ih =>
    intro d w h hd hdep
    obtain ⟨d1, d2⟩ := d
    have mixed := mixed
    obtain ⟨W0, hW0⟩ : ∃ W0, W0 = (w.alloc (.cells #[.slice a n c] 62)).alloc (.cells #[.int .i64 d1, .int .i64 d2] 24) := ⟨_, rfl⟩
    have hB0 : Below w.heap.size w W0 := by rw [hW0]; exact ((Below.refl _ w).alloc (Nat.le_refl _) _).alloc (by simp) _
    have hb1 : W0.heap[w.heap.size]? = some (.cells #[.slice a n c] 62 (0, 0)) := by rw [hW0]; exact (Below.heap_alloc _ _ _ (by simp)).trans (World.alloc_heap_new w _)
    have hb2 : W0.heap[w.heap.size + 1]? = some (.cells #[.int .i64 d1, .int .i64 d2] 24 (0, 0)) := by
      rw [hW0]
      have := World.alloc_heap_new (w.alloc (.cells #[.slice a n c] 62)) (.cells #[.int .i64 d1, .int .i64 d2] 24)
      rwa [World.size_alloc] at this
    have hl1 := (Array.getElem?_eq_some_iff.1 hb1).1
    have hl2 := (Array.getElem?_eq_some_iff.1 hb2).1
    have hcells : ∀ W, Below W0.heap.size W0 W → W.cell? ⟨w.heap.size, 0, none⟩ = some (.slice a n c) ∧ W.cell? ⟨w.heap.size + 1, 0, none⟩ = some (.int .i64 d1) ∧ W.cell? ⟨w.heap.size + 1, 1, none⟩ = some (.int .i64 d2) := fun W hb => by
      have g1 := (hb.block _ hl1).trans hb1
      have g2 := (hb.block _ hl2).trans hb2
      exact ⟨by simp [World.cell?, g1], by simp [World.cell?, g2], by simp [World.cell?, g2]⟩
    have hRT : ∀ W, Below W0.heap.size W0 W → RT W a n c T := fun W hb => h.below (hB0.trans (hb.mono hB0.size))
    have hkid : ∀ (s : Int) W, Below W0.heap.size W0 W → Calls Tryz.prog 186 #[.agg #[.slice a n c], .agg #[.int .i64 d1, .int .i64 d2], .int .i64 s] W fun e w' => ∃ a' n' c', e = .returned (.slice a' n' c') ∧ PS w' a' n' c' (kidI T (d1, d2) s) ∧ Below W0.heap.size W0 w' ∧ Below W.heap.size W w' ∧ ∀ ad, a' = some ad → W.heap.size ≤ ad.block := fun s W hb => (rkids_any a n c T (d1, d2) s W (hRT W hb) (by omega)).mono (fun e w' ⟨a', n', c', k1, k2, k3, k4⟩ => ⟨a', n', c', k1, k2, hb.trans (k3.mono hb.size), k3, k4⟩)
    have hTl := h.len
    obtain ⟨c1, c2, c3⟩ := hcells W0 (Below.refl _ _)
    obtain ⟨KF, hKF⟩ : ∃ KF, KF = kids T (d1, d2) false := ⟨_, rfl⟩
    obtain ⟨KL, hKL⟩ : ∃ KL, KL = kids T (d1, d2) true := ⟨_, rfl⟩
    have hk0 := hkid 0
    have hk1 := hkid 1
    rw [kidI_left, ← hKF] at hk0
    rw [kidI_right, ← hKL] at hk1
    have hFl : KF.length ≤ n := by rw [hKF, ← hTl]; exact kids_len _ _ _
    have hLl : KL.length ≤ n := by rw [hKL, ← hTl]; exact kids_len _ _ _
    have hmxo : Tryz.prog.follows .mixedOrders = true := by kernel_rfl
    have hall := trF_len hT (f := f + 1) hd
    have hst : trF T (f + 1) (d1, d2) = KF.flatMap (trF T f) ++ (if (d1, d2) = ((0 : Int), (0 : Int)) then [] else [(d1, d2)]) ++ KL.flatMap (trF T f) := by rw [hKF, hKL]; rfl
    have Hst := hid hst
    rw [hst, List.length_append, List.length_append, hTl] at hall
    have hstep : ∀ (s : Bool) (KS : List Dt), KS = kids T (d1, d2) s → ∀ (W3 W : World) (B lo : Nat) (v : Value) (P : List Dt) (k : Nat) (y : Dt), KS[k]? = some y → Below W0.heap.size W0 W → RL W3 B lo W v P → P.length ≤ 200000 →
        Calls Tryz.prog 160 #[.agg #[.slice a n c], .agg #[.int .i64 y.1, .int .i64 y.2]] W fun e w3 => ∃ a3 n3 c3, e = .returned (.slice a3 n3 c3) ∧ RL W3 B lo w3 v P ∧ ∃ v4 w4, (Builtin.append_ #[32, 32] 32 #[v, .slice a3 n3 c3]).run Tryz.prog w3 = .ok v4 w4 ∧ RL W3 B lo w4 v4 (P ++ trF T f y) := fun s KS hKS W3 W B lo v P k y hy hb hR hP => by
      have hym : y ∈ kids T (d1, d2) s := by rw [← hKS]; exact List.mem_of_getElem? hy
      obtain ⟨z, hz, _, _, hze⟩ := mem_kids.1 hym
      have hyn : nodes T y := Or.inr ⟨z, hz, hze⟩
      have hlen := trF_len hT (f := f) hyn
      refine (ih y W (hRT W hb) hyn (hdep s y hym)).mono ?_
      intro e w3 h3
      obtain ⟨a3, c3', he, hp3, hb3⟩ := h3.ans
      have hR3 := hR.more hb3
      obtain ⟨v4, w4, hr, hR4⟩ := hR3.app 32 32 Tryz.underlying32 hp3 (by omega)
      exact ⟨a3, _, c3', he, hR3, v4, w4, hr, hR4⟩
    have hsF := hstep false KF hKF
    have hsL := hstep true KL hKL
    have HKs := hid (And.intro hKF hKL)
    have HT := hid hTl
    have HC := hid hcells
    have Hs := hid (And.intro hsF hsL)
    have Hall := hid hall
    have HFl := hid (And.intro hFl hLl)
    clear hcells hsF hsL hall hFl hLl
    clear hstep ih hkid hKF hKL hTl hst hdep
    have hw01 : w.heap.size < W0.heap.size := hl1
    go_enter Tryz.func160, Tryz.ntmps160
    go_wp2_with (go_at_call 186; rw [← hW0]; clear hW0; refine (hk0 W0 (Below.refl _ _)).mono ?_; rintro e W1 ⟨a1, n1, c1, rfl, q1, b1, b1', f1⟩)
    obtain rfl : KF.length = n1 := q1.len
    obtain ⟨B1, hB1⟩ : ∃ B1, B1 = W1.heap.size := ⟨_, rfl⟩
    have hB1' : W0.heap.size ≤ B1 := by rw [hB1]; exact b1.size
    have hq1 := hid q1
    have hcap1 := q1.cap
    have hmax1 := q1.max
    unfold maxLen at hmax1
    have Hb1 := hid b1
    have Hf1 : Hid (∀ ad, a1 = some ad → ad.block < B1 ∨ B1 ≤ ad.block) := hid (fun ad _ => by omega)
    have hR1 : Hid (RL W1 B1 B1 W1 (.slice none 0 0) []) := hid ⟨World.ownsRow_nil _ _ _ _, rfl, rfl, rfl, Nat.le_refl _, fun _ _ _ => rfl, fun b hb => by simp [Value.ownBlock] at hb, by rw [hB1]; exact Nat.le_refl _⟩
    have HB1 := hid hB1
    clear hB1 q1 b1 b1' f1 hk0
    go_loopw [5, 7] (fun u i wr => ∃ (k : Nat) (v : Value), k ≤ KF.length ∧ i = .int .i64 k ∧ v = u ∧ Hid (RL W1 B1 B1 wr v ((KF.take k).flatMap (trF T f)))) (fun _ i _ => KF.length - (intOf i).toNat)
    case atStart => exact ⟨0, _, by omega, rfl, rfl, hid (by simpa using hR1.out)⟩
    case round =>
      obtain ⟨k, v, hk, rfl, rfl, hR⟩ := hrel
      by_cases hlt : k < KF.length
      · have hRd : Hid (RL W1 B1 B1 wr.drew v ((KF.take k).flatMap (trF T f))) := hid (hR.out.more ((Far.refl wr).drewN 1).below)
        obtain ⟨g, o, rfl, hg, hat⟩ := hq1.out.at (by omega)
        obtain ⟨hc0, hc1⟩ := hat k hlt
        have hts : Hid _ := hid (take_snoc (L := KF) (k := k) hlt)
        have hLk : Hid _ := hid (List.getElem?_eq_getElem (l := KF) (i := k) hlt)
        generalize (KF[k]'hlt) = y at hc0 hc1 hts hLk
        have hgo := Hf1.out _ rfl
        have hSx : ∀ w' v' P', RL W1 B1 B1 w' v' P' → (w'.cell? ⟨w.heap.size, 0, none⟩ = some (.slice a n c) ∧ w'.cell? ⟨g, o + k * 2, none⟩ = some (.int .i64 y.1) ∧ w'.cell? ⟨g, o + k * 2 + 1, none⟩ = some (.int .i64 y.2)) := fun w' v' P' h' => ⟨h'.cell (HC.out W1 Hb1.out).1 (Or.inl (by show w.heap.size < B1; omega)), h'.cell hc0 hgo, h'.cell hc1 hgo⟩
        have hS0 := hSx _ _ _ hRd.out
        have hall := Hall.out
        obtain ⟨hsF, hsL⟩ := Hs.out
        have hPl : ((KF.take k).flatMap (trF T f)).length ≤ 200000 := by
          have := flat_take_len (g := trF T f) KF k
          omega
        have hcall := hsF W1 wr.drew B1 B1 v _ k y hLk.out (Hb1.out.trans (hRd.out.below.mono hB1')) hRd.out hPl
        have hk1 : (k : Int) < (KF.length : Int) := by omega
        have hk0' : (0 : Int) ≤ (k : Int) := by omega
        clear hat hc0 hc1 hR hPl hall hsF hsL
        go_wp2_with fail
        refine wp_region_held_drew (S := fun w' => w'.cell? ⟨w.heap.size, 0, none⟩ = some (.slice a n c) ∧ w'.cell? ⟨g, o + k * 2, none⟩ = some (.int .i64 y.1) ∧ w'.cell? ⟨g, o + k * 2 + 1, none⟩ = some (.int .i64 y.2)) hmxo hS0 ?_
        intro _
        refine wpAnyH_take (i := 0) (v := v) rfl (by kernel_rfl) (by kernel_rfl) (by kernel_rfl) (fun _ _ _ h => h) (Or.inl ⟨by kernel_rfl, fun w hSw => ?_⟩) hS0 ?_
        · obtain ⟨d1, d2, d3⟩ := hSw; go_simp
        simp only [Act.put, List.setIfInBounds_toArray, List.set_cons_zero, List.set_cons_succ]
        refine wpAnyH_take (i := 1) (v := .agg #[.slice a n c]) rfl (by kernel_rfl) (by kernel_rfl) (by kernel_rfl) (fun _ _ _ h => h) (Or.inl ⟨by kernel_rfl, fun w hSw => ?_⟩) hS0 ?_
        · obtain ⟨d1, d2, d3⟩ := hSw; go_simp
        simp only [Act.put, List.setIfInBounds_toArray, List.set_cons_zero, List.set_cons_succ]
        refine wpAnyH_take (i := 2) (v := .slice (some ⟨g, o, none⟩) KF.length c1) rfl (by kernel_rfl) (by kernel_rfl) (by kernel_rfl) (fun _ _ _ h => h) (Or.inl ⟨by kernel_rfl, fun w hSw => ?_⟩) hS0 ?_
        · obtain ⟨d1, d2, d3⟩ := hSw; go_simp
        simp only [Act.put, List.setIfInBounds_toArray, List.set_cons_zero, List.set_cons_succ]
        refine wpAnyH_take (i := 3) (v := .int .i64 (k : Int)) rfl (by kernel_rfl) (by kernel_rfl) (by kernel_rfl) (fun _ _ _ h => h) (Or.inl ⟨by kernel_rfl, fun w hSw => ?_⟩) hS0 ?_
        · obtain ⟨d1, d2, d3⟩ := hSw; go_simp
        simp only [Act.put, List.setIfInBounds_toArray, List.set_cons_zero, List.set_cons_succ]
        refine wpAnyH_take (i := 4) (v := .pointer (some ⟨g, o + k * 2, none⟩)) rfl (by kernel_rfl) (by kernel_rfl) (by kernel_rfl) (fun _ _ _ h => h) (Or.inl ⟨by kernel_rfl, fun w hSw => ?_⟩) hS0 ?_
        · obtain ⟨d1, d2, d3⟩ := hSw; go_simp
        simp only [Act.put, List.setIfInBounds_toArray, List.set_cons_zero, List.set_cons_succ]
        refine wpAnyH_take (i := 5) (v := .agg #[.int .i64 y.1, .int .i64 y.2]) rfl (by kernel_rfl) (by kernel_rfl) (by kernel_rfl) (fun _ _ _ h => h) (Or.inl ⟨by kernel_rfl, fun w hSw => ?_⟩) hS0 ?_
        · obtain ⟨d1, d2, d3⟩ := hSw; go_simp
        simp only [Act.put, List.setIfInBounds_toArray, List.set_cons_zero, List.set_cons_succ]
        refine wpAnyH_ready (rs := [6]) (by kernel_rfl) (by simp) ?_
        refine AllReadyH.cons rfl (fun K hK => ?_) AllReadyH.nil
        go_simp
        refine hcall.mono ?_
        rintro e w5 ⟨a5, n5, c5, rfl, hR5, v6, w6, hrun, hR6⟩
        refine hK.out _ _ (hSx _ _ _ hR5) (fun _ => ?_)
        clear hK K
        refine wpAnyH_ready (rs := [7]) (by kernel_rfl) (by simp) ?_
        refine AllReadyH.cons rfl (fun K hK => ?_) AllReadyH.nil
        refine append_stepH _ _ 32 v _ _ w6 rfl rfl rfl rfl hrun ?_
        refine hK.out _ _ (hSx _ _ _ hR6) (fun _ => ?_)
        clear hK K
        simp only [Act.put, List.setIfInBounds_toArray, List.set_cons_zero, List.set_cons_succ]
        refine wpAnyH_take (i := 8) (v := v6) rfl (by kernel_rfl) (by kernel_rfl) (by kernel_rfl) (fun _ _ _ h => h) (Or.inl ⟨by kernel_rfl, fun w hSw => ?_⟩) (hSx _ _ _ hR6) ?_
        · go_simp
        simp only [Act.put, List.setIfInBounds_toArray, List.set_cons_zero, List.set_cons_succ]
        refine wpAnyH_done (by kernel_rfl) ?_ _
        have hR7 : Hid (RL W1 B1 B1 w6 v6 ((KF.take (k + 1)).flatMap (trF T f))) := hid (by rw [hts.out, List.flatMap_append]; simpa [List.append_assoc] using hR6)
        clear hR6 hR5 hrun hcall hSx hS0 hRd
        go_wp2
        go_roundw
        case rel => exact ⟨k + 1, _, by omega, by go_num, rfl, hR7⟩
        case measure => simp [intOf]; omega
      · obtain rfl : k = KF.length := by omega
        have hR2 : Hid (RL W1 B1 B1 wr v (KF.flatMap (trF T f))) := hid (by have := hR.out; rwa [List.take_length] at this)
        clear hR
        have Hnx : Hid (∀ w5 v5 P5, RL W1 B1 B1 w5 v5 P5 → w5.cell? ⟨w.heap.size, 0, none⟩ = some (.slice a n c) ∧ w5.cell? ⟨w.heap.size + 1, 0, none⟩ = some (.int .i64 d1) ∧ w5.cell? ⟨w.heap.size + 1, 1, none⟩ = some (.int .i64 d2) ∧ Below W0.heap.size W0 w5) := hid (fun w5 v5 P5 h5 => ⟨h5.cell (HC.out W1 Hb1.out).1 (Or.inl (show w.heap.size < B1 by omega)), h5.cell (HC.out W1 Hb1.out).2.1 (Or.inl (show w.heap.size + 1 < B1 by omega)), h5.cell (HC.out W1 Hb1.out).2.2 (Or.inl (show w.heap.size + 1 < B1 by omega)), Hb1.out.trans (h5.below.mono hB1')⟩)
        obtain ⟨e1, e2, e3, hbW0⟩ := Hnx.out _ _ _ hR2.out
        have hbW := hid hbW0
        clear hbW0
        have hAl := Hall.out
        have hcmp : (d1 = 0 ∧ d2 = 0) ∨ (d1 = 0 ∧ ¬ d2 = 0) ∨ ¬ d1 = 0 := by omega
        obtain ⟨M, hM⟩ : ∃ M, M = KF.flatMap (trF T f) ++ (if (d1, d2) = ((0 : Int), (0 : Int)) then [] else [(d1, d2)]) := ⟨_, rfl⟩
        have hMl : Hid (M.length = (KF.flatMap (trF T f)).length + (if (d1, d2) = ((0 : Int), (0 : Int)) then [] else [(d1, d2)]).length) := hid (by rw [hM, List.length_append])
        have HM := hid hM
        clear hM
        have hFb : (KF.flatMap (trF T f)).length ≤ 100001 := by omega
        clear hAl
        have HFb := hid hFb
        clear hFb
        rcases hcmp with ⟨rfl, rfl⟩ | hcmp
        · have hM0 : Hid (RL W1 B1 B1 wr v M) := hid (by rw [HM.out, if_pos rfl, List.append_nil]; exact hR2.out)
          clear hR2
          go_wp2_with (go_at_call 186; refine (hk1 _ hbW.out).mono ?_; rintro e W3 ⟨a3, n3, c3, rfl, q3, b3, b3', f3⟩)
          obtain rfl : KL.length = n3 := q3.len
          obtain ⟨B2, hB2⟩ : ∃ B2, B2 = wr.heap.size := ⟨_, rfl⟩
          have Hf3 : Hid (∀ ad, a3 = some ad → ad.block < B1 ∨ B2 ≤ ad.block) := hid (fun ad e => Or.inr (by rw [hB2]; exact f3 ad e))
          have hR3 : Hid (RL W3 B1 B2 W3 v M) := hid (by rw [hB2]; exact (hM0.out).again b3')
          have Hb3 := hid b3
          have hq3 := hid q3
          have hcap3 := q3.cap
          have hmax3 := q3.max
          unfold maxLen at hmax3
          clear hB2 f3 b3' b3 q3 e1 e2 e3 hM0 hbW
          go_loopw [5, 9] (fun u i wr => ∃ (k : Nat) (v : Value), k ≤ KL.length ∧ i = .int .i64 k ∧ v = u ∧ Hid (RL W3 B1 B2 wr v (M ++ (KL.take k).flatMap (trF T f)))) (fun _ i _ => KL.length - (intOf i).toNat)
          case atStart => exact ⟨0, _, by omega, rfl, rfl, hid (by simpa using hR3.out)⟩
          case round =>
            obtain ⟨k, v, hk, rfl, rfl, hR⟩ := hrel
            by_cases hlt : k < KL.length
            · have hRd : Hid (RL W3 B1 B2 wr.drew v (M ++ (KL.take k).flatMap (trF T f))) := hid (hR.out.more ((Far.refl wr).drewN 1).below)
              obtain ⟨g, o, rfl, hg, hat⟩ := hq3.out.at (by omega)
              obtain ⟨hc0, hc1⟩ := hat k hlt
              have hts : Hid _ := hid (take_snoc (L := KL) (k := k) hlt)
              have hLk : Hid _ := hid (List.getElem?_eq_getElem (l := KL) (i := k) hlt)
              generalize (KL[k]'hlt) = y at hc0 hc1 hts hLk
              have hgo := Hf3.out _ rfl
              have hSx : ∀ w' v' P', RL W3 B1 B2 w' v' P' → (w'.cell? ⟨w.heap.size, 0, none⟩ = some (.slice a n c) ∧ w'.cell? ⟨g, o + k * 2, none⟩ = some (.int .i64 y.1) ∧ w'.cell? ⟨g, o + k * 2 + 1, none⟩ = some (.int .i64 y.2)) := fun w' v' P' h' => ⟨h'.cell (HC.out W3 Hb3.out).1 (Or.inl (by show w.heap.size < B1; omega)), h'.cell hc0 hgo, h'.cell hc1 hgo⟩
              have hS0 := hSx _ _ _ hRd.out
              have hall := Hall.out
              obtain ⟨hsF, hsL⟩ := Hs.out
              have hPl : (M ++ (KL.take k).flatMap (trF T f)).length ≤ 200000 := by
                have := flat_take_len (g := trF T f) KL k
                rw [List.length_append, hMl.out]; omega
              have hcall := hsL W3 wr.drew B1 B2 v _ k y hLk.out (Hb3.out.trans (hRd.out.below.mono hB1')) hRd.out hPl
              have hk1 : (k : Int) < (KL.length : Int) := by omega
              have hk0' : (0 : Int) ≤ (k : Int) := by omega
              clear hat hc0 hc1 hR hPl hall hsF hsL
              go_wp2_with fail
              refine wp_region_held_drew (S := fun w' => w'.cell? ⟨w.heap.size, 0, none⟩ = some (.slice a n c) ∧ w'.cell? ⟨g, o + k * 2, none⟩ = some (.int .i64 y.1) ∧ w'.cell? ⟨g, o + k * 2 + 1, none⟩ = some (.int .i64 y.2)) hmxo hS0 ?_
              intro _
              refine wpAnyH_take (i := 0) (v := v) rfl (by kernel_rfl) (by kernel_rfl) (by kernel_rfl) (fun _ _ _ h => h) (Or.inl ⟨by kernel_rfl, fun w hSw => ?_⟩) hS0 ?_
              · obtain ⟨d1, d2, d3⟩ := hSw; go_simp
              simp only [Act.put, List.setIfInBounds_toArray, List.set_cons_zero, List.set_cons_succ]
              refine wpAnyH_take (i := 1) (v := .agg #[.slice a n c]) rfl (by kernel_rfl) (by kernel_rfl) (by kernel_rfl) (fun _ _ _ h => h) (Or.inl ⟨by kernel_rfl, fun w hSw => ?_⟩) hS0 ?_
              · obtain ⟨d1, d2, d3⟩ := hSw; go_simp
              simp only [Act.put, List.setIfInBounds_toArray, List.set_cons_zero, List.set_cons_succ]
              refine wpAnyH_take (i := 2) (v := .slice (some ⟨g, o, none⟩) KL.length c3) rfl (by kernel_rfl) (by kernel_rfl) (by kernel_rfl) (fun _ _ _ h => h) (Or.inl ⟨by kernel_rfl, fun w hSw => ?_⟩) hS0 ?_
              · obtain ⟨d1, d2, d3⟩ := hSw; go_simp
              simp only [Act.put, List.setIfInBounds_toArray, List.set_cons_zero, List.set_cons_succ]
              refine wpAnyH_take (i := 3) (v := .int .i64 (k : Int)) rfl (by kernel_rfl) (by kernel_rfl) (by kernel_rfl) (fun _ _ _ h => h) (Or.inl ⟨by kernel_rfl, fun w hSw => ?_⟩) hS0 ?_
              · obtain ⟨d1, d2, d3⟩ := hSw; go_simp
              simp only [Act.put, List.setIfInBounds_toArray, List.set_cons_zero, List.set_cons_succ]
              refine wpAnyH_take (i := 4) (v := .pointer (some ⟨g, o + k * 2, none⟩)) rfl (by kernel_rfl) (by kernel_rfl) (by kernel_rfl) (fun _ _ _ h => h) (Or.inl ⟨by kernel_rfl, fun w hSw => ?_⟩) hS0 ?_
              · obtain ⟨d1, d2, d3⟩ := hSw; go_simp
              simp only [Act.put, List.setIfInBounds_toArray, List.set_cons_zero, List.set_cons_succ]
              refine wpAnyH_take (i := 5) (v := .agg #[.int .i64 y.1, .int .i64 y.2]) rfl (by kernel_rfl) (by kernel_rfl) (by kernel_rfl) (fun _ _ _ h => h) (Or.inl ⟨by kernel_rfl, fun w hSw => ?_⟩) hS0 ?_
              · obtain ⟨d1, d2, d3⟩ := hSw; go_simp
              simp only [Act.put, List.setIfInBounds_toArray, List.set_cons_zero, List.set_cons_succ]
              refine wpAnyH_ready (rs := [6]) (by kernel_rfl) (by simp) ?_
              refine AllReadyH.cons rfl (fun K hK => ?_) AllReadyH.nil
              go_simp
              refine hcall.mono ?_
              rintro e w5 ⟨a5, n5, c5, rfl, hR5, v6, w6, hrun, hR6⟩
              refine hK.out _ _ (hSx _ _ _ hR5) (fun _ => ?_)
              clear hK K
              refine wpAnyH_ready (rs := [7]) (by kernel_rfl) (by simp) ?_
              refine AllReadyH.cons rfl (fun K hK => ?_) AllReadyH.nil
              refine append_stepH _ _ 32 v _ _ w6 rfl rfl rfl rfl hrun ?_
              refine hK.out _ _ (hSx _ _ _ hR6) (fun _ => ?_)
              clear hK K
              simp only [Act.put, List.setIfInBounds_toArray, List.set_cons_zero, List.set_cons_succ]
              refine wpAnyH_take (i := 8) (v := v6) rfl (by kernel_rfl) (by kernel_rfl) (by kernel_rfl) (fun _ _ _ h => h) (Or.inl ⟨by kernel_rfl, fun w hSw => ?_⟩) (hSx _ _ _ hR6) ?_
              · go_simp
              simp only [Act.put, List.setIfInBounds_toArray, List.set_cons_zero, List.set_cons_succ]
              refine wpAnyH_done (by kernel_rfl) ?_ _
              have hR7 : Hid (RL W3 B1 B2 w6 v6 (M ++ (KL.take (k + 1)).flatMap (trF T f))) := hid (by rw [hts.out, List.flatMap_append]; simpa [List.append_assoc] using hR6)
              clear hR6 hR5 hrun hcall hSx hS0 hRd
              go_wp2
              go_roundw
              case rel => exact ⟨k + 1, _, by omega, by go_num, rfl, hR7⟩
              case measure => simp [intOf]; omega
            · obtain rfl : k = KL.length := by omega
              have hR9 : Hid (RL W3 B1 B2 wr v (M ++ KL.flatMap (trF T f))) := hid (by have := hR.out; rwa [List.take_length] at this)
              clear hR
              have hb9 : Hid (Below w.heap.size w W3) := hid (hB0.trans (Hb3.out.mono hB0.size))
              go_wp2
              go_ret
              rw [Hst.out, ← HM.out]
              exact hR9.out.gives hb9.out (by omega)
        · have hM1 : Hid (M = KF.flatMap (trF T f) ++ [(d1, d2)]) := hid (by rw [HM.out, if_neg (fun e => by have h1 := congrArg Prod.fst e; have h2 := congrArg Prod.snd e; simp only at h1 h2; rcases hcmp with h | h; exact h.2 h2; exact h h1)])
          have hRa : Hid (∀ o, RL W1 B1 B1 (wr.alloc o) v (KF.flatMap (trF T f))) := hid (fun o => hR2.out.more ((Below.refl _ wr).alloc (Nat.le_refl _) o))
          clear hR2
          rcases hcmp with ⟨rfl, hne⟩ | hne
          · go_wp2_with (first | (at_builtin; refine wpList_append_RL rfl _ _ 32 Tryz.underlying32 rfl v _ rfl (hRa.out _) (some ⟨wr.heap.size, 0, none⟩) 1 1 [((0 : Int), d2)] rfl (ps_one wr ((0 : Int), d2)) (by have := HFb.out; omega) ?_; intro v5 w5 hR5; have Hn5 := Hnx.out _ _ _ hR5; have HR5 := hid hR5; clear hR5; obtain ⟨e15, e25, e35, hb5⟩ := Hn5; have Hb5 := hid hb5; clear hb5) | (go_at_call 186; refine (hk1 _ Hb5.out).mono ?_; rintro e W3 ⟨a3, n3, c3, rfl, q3, b3, b3', f3⟩))
            have hM0 : Hid (RL W1 B1 B1 w5 v5 M) := hid (by rw [hM1.out]; exact HR5.out)
            obtain rfl : KL.length = n3 := q3.len
            obtain ⟨B2, hB2⟩ : ∃ B2, B2 = w5.heap.size := ⟨_, rfl⟩
            have Hf3 : Hid (∀ ad, a3 = some ad → ad.block < B1 ∨ B2 ≤ ad.block) := hid (fun ad e => Or.inr (by rw [hB2]; exact f3 ad e))
            have hR3 : Hid (RL W3 B1 B2 W3 v5 M) := hid (by rw [hB2]; exact (hM0.out).again b3')
            have Hb3 := hid b3
            have hq3 := hid q3
            have hcap3 := q3.cap
            have hmax3 := q3.max
            unfold maxLen at hmax3
            clear hB2 f3 b3' b3 q3 e1 e2 e3 e15 e25 e35 hM0 HR5 Hb5 hRa
            go_loopw [5, 9] (fun u i wr => ∃ (k : Nat) (v : Value), k ≤ KL.length ∧ i = .int .i64 k ∧ v = u ∧ Hid (RL W3 B1 B2 wr v (M ++ (KL.take k).flatMap (trF T f)))) (fun _ i _ => KL.length - (intOf i).toNat)
            case atStart => exact ⟨0, _, by omega, rfl, rfl, hid (by simpa using hR3.out)⟩
            case round =>
              obtain ⟨k, v, hk, rfl, rfl, hR⟩ := hrel
              by_cases hlt : k < KL.length
              · have hRd : Hid (RL W3 B1 B2 wr.drew v (M ++ (KL.take k).flatMap (trF T f))) := hid (hR.out.more ((Far.refl wr).drewN 1).below)
                obtain ⟨g, o, rfl, hg, hat⟩ := hq3.out.at (by omega)
                obtain ⟨hc0, hc1⟩ := hat k hlt
                have hts : Hid _ := hid (take_snoc (L := KL) (k := k) hlt)
                have hLk : Hid _ := hid (List.getElem?_eq_getElem (l := KL) (i := k) hlt)
                generalize (KL[k]'hlt) = y at hc0 hc1 hts hLk
                have hgo := Hf3.out _ rfl
                have hSx : ∀ w' v' P', RL W3 B1 B2 w' v' P' → (w'.cell? ⟨w.heap.size, 0, none⟩ = some (.slice a n c) ∧ w'.cell? ⟨g, o + k * 2, none⟩ = some (.int .i64 y.1) ∧ w'.cell? ⟨g, o + k * 2 + 1, none⟩ = some (.int .i64 y.2)) := fun w' v' P' h' => ⟨h'.cell (HC.out W3 Hb3.out).1 (Or.inl (by show w.heap.size < B1; omega)), h'.cell hc0 hgo, h'.cell hc1 hgo⟩
                have hS0 := hSx _ _ _ hRd.out
                have hall := Hall.out
                obtain ⟨hsF, hsL⟩ := Hs.out
                have hPl : (M ++ (KL.take k).flatMap (trF T f)).length ≤ 200000 := by
                  have := flat_take_len (g := trF T f) KL k
                  rw [List.length_append, hMl.out]; omega
                have hcall := hsL W3 wr.drew B1 B2 v _ k y hLk.out (Hb3.out.trans (hRd.out.below.mono hB1')) hRd.out hPl
                have hk1 : (k : Int) < (KL.length : Int) := by omega
                have hk0' : (0 : Int) ≤ (k : Int) := by omega
                clear hat hc0 hc1 hR hPl hall hsF hsL
                go_wp2_with fail
                refine wp_region_held_drew (S := fun w' => w'.cell? ⟨w.heap.size, 0, none⟩ = some (.slice a n c) ∧ w'.cell? ⟨g, o + k * 2, none⟩ = some (.int .i64 y.1) ∧ w'.cell? ⟨g, o + k * 2 + 1, none⟩ = some (.int .i64 y.2)) hmxo hS0 ?_
                intro _
                refine wpAnyH_take (i := 0) (v := v) rfl (by kernel_rfl) (by kernel_rfl) (by kernel_rfl) (fun _ _ _ h => h) (Or.inl ⟨by kernel_rfl, fun w hSw => ?_⟩) hS0 ?_
                · obtain ⟨d1, d2, d3⟩ := hSw; go_simp
                simp only [Act.put, List.setIfInBounds_toArray, List.set_cons_zero, List.set_cons_succ]
                refine wpAnyH_take (i := 1) (v := .agg #[.slice a n c]) rfl (by kernel_rfl) (by kernel_rfl) (by kernel_rfl) (fun _ _ _ h => h) (Or.inl ⟨by kernel_rfl, fun w hSw => ?_⟩) hS0 ?_
                · obtain ⟨d1, d2, d3⟩ := hSw; go_simp
                simp only [Act.put, List.setIfInBounds_toArray, List.set_cons_zero, List.set_cons_succ]
                refine wpAnyH_take (i := 2) (v := .slice (some ⟨g, o, none⟩) KL.length c3) rfl (by kernel_rfl) (by kernel_rfl) (by kernel_rfl) (fun _ _ _ h => h) (Or.inl ⟨by kernel_rfl, fun w hSw => ?_⟩) hS0 ?_
                · obtain ⟨d1, d2, d3⟩ := hSw; go_simp
                simp only [Act.put, List.setIfInBounds_toArray, List.set_cons_zero, List.set_cons_succ]
                refine wpAnyH_take (i := 3) (v := .int .i64 (k : Int)) rfl (by kernel_rfl) (by kernel_rfl) (by kernel_rfl) (fun _ _ _ h => h) (Or.inl ⟨by kernel_rfl, fun w hSw => ?_⟩) hS0 ?_
                · obtain ⟨d1, d2, d3⟩ := hSw; go_simp
                simp only [Act.put, List.setIfInBounds_toArray, List.set_cons_zero, List.set_cons_succ]
                refine wpAnyH_take (i := 4) (v := .pointer (some ⟨g, o + k * 2, none⟩)) rfl (by kernel_rfl) (by kernel_rfl) (by kernel_rfl) (fun _ _ _ h => h) (Or.inl ⟨by kernel_rfl, fun w hSw => ?_⟩) hS0 ?_
                · obtain ⟨d1, d2, d3⟩ := hSw; go_simp
                simp only [Act.put, List.setIfInBounds_toArray, List.set_cons_zero, List.set_cons_succ]
                refine wpAnyH_take (i := 5) (v := .agg #[.int .i64 y.1, .int .i64 y.2]) rfl (by kernel_rfl) (by kernel_rfl) (by kernel_rfl) (fun _ _ _ h => h) (Or.inl ⟨by kernel_rfl, fun w hSw => ?_⟩) hS0 ?_
                · obtain ⟨d1, d2, d3⟩ := hSw; go_simp
                simp only [Act.put, List.setIfInBounds_toArray, List.set_cons_zero, List.set_cons_succ]
                refine wpAnyH_ready (rs := [6]) (by kernel_rfl) (by simp) ?_
                refine AllReadyH.cons rfl (fun K hK => ?_) AllReadyH.nil
                go_simp
                refine hcall.mono ?_
                rintro e w5 ⟨a5, n5, c5, rfl, hR5, v6, w6, hrun, hR6⟩
                refine hK.out _ _ (hSx _ _ _ hR5) (fun _ => ?_)
                clear hK K
                refine wpAnyH_ready (rs := [7]) (by kernel_rfl) (by simp) ?_
                refine AllReadyH.cons rfl (fun K hK => ?_) AllReadyH.nil
                refine append_stepH _ _ 32 v _ _ w6 rfl rfl rfl rfl hrun ?_
                refine hK.out _ _ (hSx _ _ _ hR6) (fun _ => ?_)
                clear hK K
                simp only [Act.put, List.setIfInBounds_toArray, List.set_cons_zero, List.set_cons_succ]
                refine wpAnyH_take (i := 8) (v := v6) rfl (by kernel_rfl) (by kernel_rfl) (by kernel_rfl) (fun _ _ _ h => h) (Or.inl ⟨by kernel_rfl, fun w hSw => ?_⟩) (hSx _ _ _ hR6) ?_
                · go_simp
                simp only [Act.put, List.setIfInBounds_toArray, List.set_cons_zero, List.set_cons_succ]
                refine wpAnyH_done (by kernel_rfl) ?_ _
                have hR7 : Hid (RL W3 B1 B2 w6 v6 (M ++ (KL.take (k + 1)).flatMap (trF T f))) := hid (by rw [hts.out, List.flatMap_append]; simpa [List.append_assoc] using hR6)
                clear hR6 hR5 hrun hcall hSx hS0 hRd
                go_wp2
                go_roundw
                case rel => exact ⟨k + 1, _, by omega, by go_num, rfl, hR7⟩
                case measure => simp [intOf]; omega
              · obtain rfl : k = KL.length := by omega
                have hR9 : Hid (RL W3 B1 B2 wr v (M ++ KL.flatMap (trF T f))) := hid (by have := hR.out; rwa [List.take_length] at this)
                clear hR
                have hb9 : Hid (Below w.heap.size w W3) := hid (hB0.trans (Hb3.out.mono hB0.size))
                go_wp2
                go_ret
                rw [Hst.out, ← HM.out]
                exact hR9.out.gives hb9.out (by omega)
          · go_wp2_with (first | (at_builtin; refine wpList_append_RL rfl _ _ 32 Tryz.underlying32 rfl v _ rfl (hRa.out _) (some ⟨wr.heap.size, 0, none⟩) 1 1 [(d1, d2)] rfl (ps_one wr (d1, d2)) (by have := HFb.out; omega) ?_; intro v5 w5 hR5; have Hn5 := Hnx.out _ _ _ hR5; have HR5 := hid hR5; clear hR5; obtain ⟨e15, e25, e35, hb5⟩ := Hn5; have Hb5 := hid hb5; clear hb5) | (go_at_call 186; refine (hk1 _ Hb5.out).mono ?_; rintro e W3 ⟨a3, n3, c3, rfl, q3, b3, b3', f3⟩))
            have hM0 : Hid (RL W1 B1 B1 w5 v5 M) := hid (by rw [hM1.out]; exact HR5.out)
            obtain rfl : KL.length = n3 := q3.len
            obtain ⟨B2, hB2⟩ : ∃ B2, B2 = w5.heap.size := ⟨_, rfl⟩
            have Hf3 : Hid (∀ ad, a3 = some ad → ad.block < B1 ∨ B2 ≤ ad.block) := hid (fun ad e => Or.inr (by rw [hB2]; exact f3 ad e))
            have hR3 : Hid (RL W3 B1 B2 W3 v5 M) := hid (by rw [hB2]; exact (hM0.out).again b3')
            have Hb3 := hid b3
            have hq3 := hid q3
            have hcap3 := q3.cap
            have hmax3 := q3.max
            unfold maxLen at hmax3
            clear hB2 f3 b3' b3 q3 e1 e2 e3 e15 e25 e35 hM0 HR5 Hb5 hRa
            go_loopw [5, 9] (fun u i wr => ∃ (k : Nat) (v : Value), k ≤ KL.length ∧ i = .int .i64 k ∧ v = u ∧ Hid (RL W3 B1 B2 wr v (M ++ (KL.take k).flatMap (trF T f)))) (fun _ i _ => KL.length - (intOf i).toNat)
            case atStart => exact ⟨0, _, by omega, rfl, rfl, hid (by simpa using hR3.out)⟩
            case round =>
              obtain ⟨k, v, hk, rfl, rfl, hR⟩ := hrel
              by_cases hlt : k < KL.length
              · have hRd : Hid (RL W3 B1 B2 wr.drew v (M ++ (KL.take k).flatMap (trF T f))) := hid (hR.out.more ((Far.refl wr).drewN 1).below)
                obtain ⟨g, o, rfl, hg, hat⟩ := hq3.out.at (by omega)
                obtain ⟨hc0, hc1⟩ := hat k hlt
                have hts : Hid _ := hid (take_snoc (L := KL) (k := k) hlt)
                have hLk : Hid _ := hid (List.getElem?_eq_getElem (l := KL) (i := k) hlt)
                generalize (KL[k]'hlt) = y at hc0 hc1 hts hLk
                have hgo := Hf3.out _ rfl
                have hSx : ∀ w' v' P', RL W3 B1 B2 w' v' P' → (w'.cell? ⟨w.heap.size, 0, none⟩ = some (.slice a n c) ∧ w'.cell? ⟨g, o + k * 2, none⟩ = some (.int .i64 y.1) ∧ w'.cell? ⟨g, o + k * 2 + 1, none⟩ = some (.int .i64 y.2)) := fun w' v' P' h' => ⟨h'.cell (HC.out W3 Hb3.out).1 (Or.inl (by show w.heap.size < B1; omega)), h'.cell hc0 hgo, h'.cell hc1 hgo⟩
                have hS0 := hSx _ _ _ hRd.out
                have hall := Hall.out
                obtain ⟨hsF, hsL⟩ := Hs.out
                have hPl : (M ++ (KL.take k).flatMap (trF T f)).length ≤ 200000 := by
                  have := flat_take_len (g := trF T f) KL k
                  rw [List.length_append, hMl.out]; omega
                have hcall := hsL W3 wr.drew B1 B2 v _ k y hLk.out (Hb3.out.trans (hRd.out.below.mono hB1')) hRd.out hPl
                have hk1 : (k : Int) < (KL.length : Int) := by omega
                have hk0' : (0 : Int) ≤ (k : Int) := by omega
                clear hat hc0 hc1 hR hPl hall hsF hsL
                go_wp2_with fail
                refine wp_region_held_drew (S := fun w' => w'.cell? ⟨w.heap.size, 0, none⟩ = some (.slice a n c) ∧ w'.cell? ⟨g, o + k * 2, none⟩ = some (.int .i64 y.1) ∧ w'.cell? ⟨g, o + k * 2 + 1, none⟩ = some (.int .i64 y.2)) hmxo hS0 ?_
                intro _
                refine wpAnyH_take (i := 0) (v := v) rfl (by kernel_rfl) (by kernel_rfl) (by kernel_rfl) (fun _ _ _ h => h) (Or.inl ⟨by kernel_rfl, fun w hSw => ?_⟩) hS0 ?_
                · obtain ⟨d1, d2, d3⟩ := hSw; go_simp
                simp only [Act.put, List.setIfInBounds_toArray, List.set_cons_zero, List.set_cons_succ]
                refine wpAnyH_take (i := 1) (v := .agg #[.slice a n c]) rfl (by kernel_rfl) (by kernel_rfl) (by kernel_rfl) (fun _ _ _ h => h) (Or.inl ⟨by kernel_rfl, fun w hSw => ?_⟩) hS0 ?_
                · obtain ⟨d1, d2, d3⟩ := hSw; go_simp
                simp only [Act.put, List.setIfInBounds_toArray, List.set_cons_zero, List.set_cons_succ]
                refine wpAnyH_take (i := 2) (v := .slice (some ⟨g, o, none⟩) KL.length c3) rfl (by kernel_rfl) (by kernel_rfl) (by kernel_rfl) (fun _ _ _ h => h) (Or.inl ⟨by kernel_rfl, fun w hSw => ?_⟩) hS0 ?_
                · obtain ⟨d1, d2, d3⟩ := hSw; go_simp
                simp only [Act.put, List.setIfInBounds_toArray, List.set_cons_zero, List.set_cons_succ]
                refine wpAnyH_take (i := 3) (v := .int .i64 (k : Int)) rfl (by kernel_rfl) (by kernel_rfl) (by kernel_rfl) (fun _ _ _ h => h) (Or.inl ⟨by kernel_rfl, fun w hSw => ?_⟩) hS0 ?_
                · obtain ⟨d1, d2, d3⟩ := hSw; go_simp
                simp only [Act.put, List.setIfInBounds_toArray, List.set_cons_zero, List.set_cons_succ]
                refine wpAnyH_take (i := 4) (v := .pointer (some ⟨g, o + k * 2, none⟩)) rfl (by kernel_rfl) (by kernel_rfl) (by kernel_rfl) (fun _ _ _ h => h) (Or.inl ⟨by kernel_rfl, fun w hSw => ?_⟩) hS0 ?_
                · obtain ⟨d1, d2, d3⟩ := hSw; go_simp
                simp only [Act.put, List.setIfInBounds_toArray, List.set_cons_zero, List.set_cons_succ]
                refine wpAnyH_take (i := 5) (v := .agg #[.int .i64 y.1, .int .i64 y.2]) rfl (by kernel_rfl) (by kernel_rfl) (by kernel_rfl) (fun _ _ _ h => h) (Or.inl ⟨by kernel_rfl, fun w hSw => ?_⟩) hS0 ?_
                · obtain ⟨d1, d2, d3⟩ := hSw; go_simp
                simp only [Act.put, List.setIfInBounds_toArray, List.set_cons_zero, List.set_cons_succ]
                refine wpAnyH_ready (rs := [6]) (by kernel_rfl) (by simp) ?_
                refine AllReadyH.cons rfl (fun K hK => ?_) AllReadyH.nil
                go_simp
                refine hcall.mono ?_
                rintro e w5 ⟨a5, n5, c5, rfl, hR5, v6, w6, hrun, hR6⟩
                refine hK.out _ _ (hSx _ _ _ hR5) (fun _ => ?_)
                clear hK K
                refine wpAnyH_ready (rs := [7]) (by kernel_rfl) (by simp) ?_
                refine AllReadyH.cons rfl (fun K hK => ?_) AllReadyH.nil
                refine append_stepH _ _ 32 v _ _ w6 rfl rfl rfl rfl hrun ?_
                refine hK.out _ _ (hSx _ _ _ hR6) (fun _ => ?_)
                clear hK K
                simp only [Act.put, List.setIfInBounds_toArray, List.set_cons_zero, List.set_cons_succ]
                refine wpAnyH_take (i := 8) (v := v6) rfl (by kernel_rfl) (by kernel_rfl) (by kernel_rfl) (fun _ _ _ h => h) (Or.inl ⟨by kernel_rfl, fun w hSw => ?_⟩) (hSx _ _ _ hR6) ?_
                · go_simp
                simp only [Act.put, List.setIfInBounds_toArray, List.set_cons_zero, List.set_cons_succ]
                refine wpAnyH_done (by kernel_rfl) ?_ _
                have hR7 : Hid (RL W3 B1 B2 w6 v6 (M ++ (KL.take (k + 1)).flatMap (trF T f))) := hid (by rw [hts.out, List.flatMap_append]; simpa [List.append_assoc] using hR6)
                clear hR6 hR5 hrun hcall hSx hS0 hRd
                go_wp2
                go_roundw
                case rel => exact ⟨k + 1, _, by omega, by go_num, rfl, hR7⟩
                case measure => simp [intOf]; omega
              · obtain rfl : k = KL.length := by omega
                have hR9 : Hid (RL W3 B1 B2 wr v (M ++ KL.flatMap (trF T f))) := hid (by have := hR.out; rwa [List.take_length] at this)
                clear hR
                have hb9 : Hid (Below w.heap.size w W3) := hid (hB0.trans (Hb3.out.mono hB0.size))
                go_wp2
                go_ret
                rw [Hst.out, ← HM.out]
                exact hR9.out.gives hb9.out (by omega)
end Go.Proofs.YtnmdcdphpcpojaaGreatDoor
