/- turned: a story's operations in another order that may be. -/
import Derived.Test.YtbpepmajpojacaaFgMath
import Derived.Test.YtbpepmajpojacaaFgOrdM
import Derived.Test.YtbpepmajpojacaaFgMath
import Derived.Test.YtbpepmajpojacaaFgArg
import Derived.Test.YtbpepmajpojacaaFgTexts
import Derived.Deep.CutRange
set_option linter.unusedVariables false
set_option linter.unusedSimpArgs false
namespace Go.Proofs.Ytbpepmajpojacaa
open Go.RowKit

/-- Those that are out, and the rest, in rows of their own. -/
structure TU (w : World) (L : List Mo) (wr : World) (vo vr : Value) (O R : List Mo) : Prop where
  out : OwnO wr w.heap.size vo O
  rest : OwnO wr w.heap.size vr R
  apart : vr.ownBlock = none ∨ vr.ownBlock ≠ vo.ownBlock
  bel : Below w.heap.size w wr
  perm : (O ++ R).Perm L
  cl : Cl (O.map Mo.m)

theorem TU.below {w : World} {L : List Mo} {wr wr' : World} {vo vr : Value} {O R : List Mo} (h : TU w L wr vo vr O R) (hb : Below wr.heap.size wr wr') : TU w L wr' vo vr O R :=
  ⟨own_kept h.out hb, own_kept h.rest hb, h.apart, h.bel.trans (hb.mono h.bel.size), h.perm, h.cl⟩

theorem own_low {w : World} {b b' : Nat} {v : Value} {L : List Mo} (h : OwnO w b v L) (hb : b' ≤ b) : OwnO w b' v L := by
  obtain ⟨h1, h2⟩ := h
  refine ⟨h1, ?_⟩
  rcases h2 with h2 | ⟨g', cap', cur, hv, hg, r⟩
  · exact Or.inl h2
  · exact Or.inr ⟨g', cap', cur, hv, Nat.le_trans hb hg, r⟩

theorem TU.rest1 {w : World} {L : List Mo} {U w1 : World} {vo vr : Value} {O R : List Mo} (h : TU w L U vo vr O R) (ob : Obj) (hg : (U.alloc ob).grownBy w1 vo.ownBlock) : OwnO w1 w.heap.size vr R := (h.rest.alloc ob).kept hg h.apart

theorem TU.step {w : World} {L : List Mo} {U w1 w2 w3 : World} {vo vr v1 v2 v3 : Value} {O R : List Mo} {x : Mo} {p : Nat} (h : TU w L U vo vr O R) (hx : R[p]? = some x) (hc : chk x.o x.V = true) (hrd : rdyE (verv (O.map Mo.m)) x.o x.V = 0) (ob : Obj) (hg1 : (U.alloc ob).grownBy w1 vo.ownBlock) (ho1 : OwnO w1 w.heap.size v1 (O ++ [x])) (hg2 : w1.grownBy w2 none) (ho2 : OwnO w2 w1.heap.size v2 (R.take p)) (hg3 : w2.grownBy w3 v2.ownBlock) (ho3 : OwnO w3 w1.heap.size v3 (R.take p ++ R.drop (p + 1))) :
    TU w L w3 v1 v3 (O ++ [x]) (R.take p ++ R.drop (p + 1)) := by
  have B0 := h.bel.alloc h.bel.size ob
  have B1 : Below w.heap.size w w1 := B0.grown hg1 B0.size (fun j hj => (h.out.lt j hj).1)
  have B2 : Below w.heap.size w w2 := B1.grown hg2 B1.size (fun j hj => by cases hj)
  have B3 : Below w.heap.size w w3 := B2.grown hg3 B2.size (fun j hj => Nat.le_trans B1.size (ho2.lt j hj).1)
  have hk2 : OwnO w2 w.heap.size v1 (O ++ [x]) := ho1.kept hg2 (by cases v1.ownBlock <;> simp)
  have hk3 : OwnO w3 w.heap.size v1 (O ++ [x]) := hk2.kept hg3 (by
    cases e : v1.ownBlock with
    | none => exact Or.inl rfl
    | some j =>
      refine Or.inr (fun e2 => ?_)
      have := (ho1.lt j e).2
      have := (ho2.lt j e2.symm).1
      omega)
  refine ⟨hk3, own_low ho3 B1.size, ?_, B3, ?_, ?_⟩
  · cases e : v3.ownBlock with
    | none => exact Or.inl rfl
    | some j =>
      refine Or.inr (fun e2 => ?_)
      have := (ho3.lt j e).1
      have := (ho1.lt j e2.symm).2
      omega
  · have hpl := (List.getElem?_eq_some_iff.1 hx).1
    have hR : R = R.take p ++ x :: R.drop (p + 1) := by
      rw [← (List.getElem?_eq_some_iff.1 hx).2, ← List.drop_eq_getElem_cons hpl, List.take_append_drop]
    refine List.Perm.trans ?_ h.perm
    have e1 : (O ++ [x]) ++ (R.take p ++ R.drop (p + 1)) = O ++ (x :: (R.take p ++ R.drop (p + 1))) := by simp
    rw [e1]
    refine List.Perm.append_left O ?_
    have := (List.perm_middle (a := x) (l₁ := R.take p) (l₂ := R.drop (p + 1))).symm
    rw [← hR] at this
    exact this
  · rw [List.map_append]
    exact h.cl.more (x := x.m) hc hrd

theorem rs_at {w : World} {base : Nat} {g n c : Nat} {R : List Mo} (h : OwnO w base (.slice (some ⟨g, 0, none⟩) n c) R) (hn : n = R.length) : RS w (some ⟨g, 0, none⟩) n c R := by
  obtain ⟨a, c', e, hr⟩ := owned_rs h
  cases e
  exact hr

theorem RS.of_grown {w w' : World} {g n c : Nat} {R : List Mo} {o : Option Nat} (h : RS w (some ⟨g, 0, none⟩) n c R) (hg : w.grownBy w' o) (ho : o ≠ some g) : RS w' (some ⟨g, 0, none⟩) n c R :=
  ⟨h.len, h.cap, h.max, h.nil, fun ad ha j u hj => by
    have h1 := h.cells ad ha j u hj
    cases ha
    exact World.grownBy.cell hg h1 (by rw [add_none]; exact fun e => ho e.symm)⟩

theorem hdeps_os {w : World} {base : Nat} {g n c : Nat} {R : List Mo} (h : OwnO w base (.slice (some ⟨g, 0, none⟩) n c) R) (hd : ∀ x ∈ R, PS w x.a x.n x.c x.V) (hn : n = R.length) : OS w (some ⟨g, 0, none⟩) n c R := by
  obtain ⟨a, c', e, hr⟩ := owned_os h hd
  cases e
  exact hr

/-- A call that answers a slice of dots. -/
def FD (L : List Dt) (v : Value) (w : World) : Prop := ∃ a c, v = .slice a L.length c ∧ PS w a L.length c L

theorem turn_all {K l q : Nat} (hl : 0 < l) (hK : K < l) (hq : q < l) : ∃ j, j < l ∧ (K + j) % l = q := by
  refine ⟨(q + l - K) % l, Nat.mod_lt _ hl, ?_⟩
  rw [Nat.add_mod_mod, show K + (q + l - K) = q + l by omega, Nat.add_mod_right, Nat.mod_eq_of_lt hq]

set_option maxRecDepth 100000 in
set_option maxHeartbeats 16000000 in
theorem turned_any (a : Option Addr) (n c : Nat) (L : List Mo) (ta : Option Addr) (tn tc : Nat) (U : List Int) (w : World) (h : OS w a n c L) (hA : Cl (L.map Mo.m)) (hf : ∀ x ∈ L, x.o.Fits ∧ Dws x.V ∧ x.n ≤ 1000000) (hn : n ≤ 60) (hU : NumS w ta tn tc U) :
    Calls Try.prog 19 #[.slice a n c, .slice ta tn tc] w fun e w' => ∃ (v : Value) (M : List Mo), e = .returned v ∧ OwnO w' w.heap.size v M ∧ M.Perm L ∧ Cl (M.map Mo.m) ∧ Below w.heap.size w w' := by
  have mixed := mixed
  have hmxo : Try.prog.follows .mixedOrders = true := by kernel_rfl
  have hlen := h.len
  have hcapU := hU.cap
  have hmaxU := hU.max
  unfold maxLen at hmaxU
  have HLl : Hid (L.length = n) := hid h.len
  have HOS := hid h
  have HA := hid hA
  have HF := hid hf
  have HU := hid hU
  clear hlen h hA hf hU
  go_enter Try.func19, Try.ntmps19
  go_wp2_with (at_builtin; refine wpList_append_ops rfl _ _ rfl w.heap.size (.slice none 0 0) [] rfl (World.ownsRow_nil _ _ _ _) a n c L rfl HOS.out.rs (by first | (simp; done) | (simp; omega)) (Nat.le_refl _) ?_; intro v1 w1 hO1 hG1)
  have HS0 : Hid (TU w L w1 (.slice none 0 0) v1 [] L) := hid ⟨World.ownsRow_nil _ _ _ _, hO1, (by cases v1.ownBlock <;> simp [Value.ownBlock]), (Below.refl _ w).grown hG1 (Nat.le_refl _) (fun j hj => by cases hj), List.Perm.refl _, ⟨by simp, by simp, by simp⟩⟩
  clear hO1 hG1
  go_loopw [5, 6, 7] (fun s5 s6 i wr => ∃ (k : Nat) (vo vr : Value) (O R : List Mo), vo = s5 ∧ vr = s6 ∧ i = .int .i64 k ∧ k ≤ n ∧ Hid (O.length = k ∧ TU w L wr vo vr O R)) (fun _ _ i _ => n - (intOf i).toNat)
  case atStart => exact ⟨0, _, _, [], L, rfl, rfl, rfl, by omega, hid ⟨rfl, HS0.out⟩⟩
  case round =>
    obtain ⟨k, vo, vr, O, R, h5, h6, rfl, hkn, HT⟩ := hrel
    subst h5
    subst h6
    have hb100 : decide ((k : Int) < 100) = true := by simp; omega
    rcases own_forms HT.out.2.rest with ⟨hvr, hR0⟩ | ⟨gr, cr, hvr, hgb, hgl, hcr, hrs⟩
    · subst hvr
      subst hR0
      have hfin : Hid (OwnO wr w.heap.size vo O ∧ O.Perm L ∧ Cl (O.map Mo.m) ∧ Below w.heap.size w wr) := hid (by
        have h1 := HT.out.2
        exact ⟨h1.out, by simpa using h1.perm, h1.cl, h1.bel⟩)
      go_wp2
      go_ret
      exact ⟨vo, O, rfl, hfin.out.1, hfin.out.2.1, hfin.out.2.2.1, hfin.out.2.2.2⟩
    · subst hvr
      obtain ⟨rl, hrl⟩ : ∃ rl, rl = R.length := ⟨_, rfl⟩
      rw [← hrl] at hcr hrs HT ⊢
      by_cases hrl0 : rl = 0
      · subst hrl0
        have hfin : Hid (OwnO wr w.heap.size vo O ∧ O.Perm L ∧ Cl (O.map Mo.m) ∧ Below w.heap.size w wr) := hid (by
          have h1 := HT.out.2
          have hR0 : R = [] := List.eq_nil_of_length_eq_zero hrl.symm
          rw [hR0] at h1
          exact ⟨h1.out, by simpa using h1.perm, h1.cl, h1.bel⟩)
        clear hrs hrl
        go_wp2
        go_ret
        exact ⟨vo, O, rfl, hfin.out.1, hfin.out.2.1, hfin.out.2.2.1, hfin.out.2.2.2⟩
      · have hrlp : 0 < rl := by omega
        have hkr : k + rl = n := by
          have h1 := HT.out.2.perm.length_eq
          rw [List.length_append, HT.out.1, ← hrl, HLl.out] at h1
          exact h1
        have hb0 : decide ((0 : Int) < (rl : Int)) = true := by simp; omega
        have hmxr := hrs.max
        unfold maxLen at hmxr
        have HRS := hid hrs
        have HRL := hid hrl
        clear hrs hrl
        -- which one is looked at first
        go_upto_if 28 with fail
        go_cut [8] from 16 to 78 (fun s wc => ∃ kk : Int, s = .int .i64 kk ∧ -(rl : Int) < kk ∧ kk < (rl : Int) ∧ wr = wc)
        case first =>
          by_cases hkt : k < tn
          · have hb4 : decide ((k : Int) < (tn : Int)) = true := by simp [hkt]
            obtain ⟨g', of', e', hg', hx'⟩ := HU.out.at_ (by omega)
            subst e'
            have hkU : k < U.length := by rw [HU.out.len]; exact hkt
            have hc0 := hx' k hkU
            obtain ⟨y, hy⟩ : ∃ y, y = U[k]'hkU := ⟨_, rfl⟩
            rw [← hy] at hc0
            have hyi : I64 y := HU.out.i64 y (by rw [hy]; exact List.getElem_mem _)
            unfold I64 at hyi
            have c1 : wr.cell? ⟨g', of' + k, none⟩ = some (.int .i64 y) := (HT.out.2.bel.cell (p := ⟨g', of' + k, none⟩) (cell_in hc0)).trans hc0
            have hyt : (y.tmod (rl : Int)).natAbs < rl := by
              rw [Int.natAbs_tmod]
              exact Nat.mod_lt _ (by omega)
            clear hx' hc0 hy hkU
            go_wp2_with fail
            go_meet
            case rel => exact ⟨_, rfl, by omega, by omega, rfl⟩
          · have hb4 : decide ((k : Int) < (tn : Int)) = false := by simp; omega
            go_wp2_with fail
            go_meet
            case rel => exact ⟨0, rfl, by omega, by omega, rfl⟩
        case rest =>
          obtain ⟨kk, rfl, hkk1, hkk2, rfl⟩ := hcut
          go_upto_if 37 with fail
          go_cut [8] from 16 to 78 (fun s wc => ∃ K : Nat, s = .int .i64 (K : Int) ∧ K < rl ∧ wr = wc)
          case first =>
            by_cases hs : kk < 0
            · have hb3 : decide (kk < 0) = true := by simp [hs]
              go_wp2_with fail
              go_meet
              case rel =>
                refine ⟨kk.natAbs, ?_, by omega, rfl⟩
                first
                  | (congr 1; omega)
                  | (rw [Go.IntWalk.wrap64_in _ ⟨by omega, by omega⟩]; congr 1; omega)
            · have hb3 : decide (kk < 0) = false := by simp; omega
              go_wp2_with fail
              go_meet
              case rel => exact ⟨kk.natAbs, by congr 1; omega, by omega, rfl⟩
          case rest =>
            clear hkk1 hkk2
            obtain ⟨K, rfl, hK, rfl⟩ := hcut
            go_wp2_with fail
            go_loopw [5, 6, 9] (fun s5 s6 j wj => ∃ q : Nat, vo = s5 ∧ Value.slice (some ⟨gr, 0, none⟩) rl cr = s6 ∧ q ≤ rl ∧ j = .int .i64 q ∧ Hid (TU w L wj vo (.slice (some ⟨gr, 0, none⟩) rl cr) O R) ∧ Hid (∀ j', j' < q → ∀ x, R[(K + j') % rl]? = some x → rdyE (verv (O.map Mo.m)) x.o x.V ≠ 0)) (fun _ _ j _ => rl - (intOf j).toNat)
            case atStart => exact ⟨0, rfl, rfl, by omega, rfl, hid HT.out.2, hid (fun j' hj => absurd hj (by omega))⟩
            case round =>
              obtain ⟨q, h5, h6, hq, rfl, HTJ, HNO⟩ := hrel
              subst h5
              subst h6
              by_cases hql : q < rl
              · obtain ⟨p, hp⟩ : ∃ p, p = (K + q) % rl := ⟨_, rfl⟩
                have hpl : p < rl := by rw [hp]; exact Nat.mod_lt _ hrlp
                have hpe : ((K : Int) + (q : Int)).tmod (rl : Int) = (p : Int) := by
                  rw [hp, Int.tmod_eq_emod_of_nonneg (by omega), ← Int.natCast_add]
                  exact (Int.natCast_emod (K + q) rl).symm
                have HPE := hid hp
                clear hp
                have hpR : p < R.length := by rw [← HRL.out]; exact hpl
                obtain ⟨x, hx⟩ : ∃ x, x = R[p]'hpR := ⟨_, rfl⟩
                have HXp : Hid (R[p]? = some x) := hid (by rw [hx]; exact List.getElem?_eq_getElem hpR)
                have hxL : x ∈ L := HTJ.out.perm.mem_iff.1 (List.mem_append_right O (by rw [hx]; exact List.getElem_mem _))
                have HCH : Hid (chk x.o x.V = true) := hid (HA.out.may x.m (List.mem_map.2 ⟨x, hxL, rfl⟩))
                have hfx := HF.out x hxL
                have hdeps : ∀ y ∈ L, ∀ W, Below w.heap.size w W → PS W y.a y.n y.c y.V := fun y hy W hb => (HOS.out.deps y hy).below hb
                have hOL : ∀ y ∈ O, y ∈ L := fun y hy => HTJ.out.perm.mem_iff.1 (List.mem_append_left R hy)
                obtain ⟨oa, oc, hvo, hosO⟩ := owned_os HTJ.out.out (fun y hy => hdeps y (hOL y hy) _ HTJ.out.bel)
                have hOk := HT.out.1
                have HSx : Hid (∀ W, Below wr.heap.size wr W → (W.cell? ⟨gr, p * 14, none⟩ = some (.int .i64 x.o.id0) ∧ W.cell? ⟨gr, p * 14 + 1, none⟩ = some (.int .i64 x.o.id1) ∧ W.cell? ⟨gr, p * 14 + 2, none⟩ = some (.int .i64 x.o.time) ∧ W.cell? ⟨gr, p * 14 + 3, none⟩ = some (.slice x.a x.n x.c) ∧ W.cell? ⟨gr, p * 14 + 4, none⟩ = some (.int .i64 x.o.kind) ∧ W.cell? ⟨gr, p * 14 + 5, none⟩ = some (.int .i64 x.o.bl0) ∧ W.cell? ⟨gr, p * 14 + 6, none⟩ = some (.int .i64 x.o.bl1) ∧ W.cell? ⟨gr, p * 14 + 7, none⟩ = some (.int .i64 x.o.at0) ∧ W.cell? ⟨gr, p * 14 + 8, none⟩ = some (.int .i64 x.o.at1) ∧ W.cell? ⟨gr, p * 14 + 9, none⟩ = some (.int .i64 x.o.side) ∧ W.cell? ⟨gr, p * 14 + 10, none⟩ = some (.int .i64 x.o.char) ∧ W.cell? ⟨gr, p * 14 + 11, none⟩ = some (.int .i64 x.o.pa0) ∧ W.cell? ⟨gr, p * 14 + 12, none⟩ = some (.int .i64 x.o.pa1) ∧ W.cell? ⟨gr, p * 14 + 13, none⟩ = some (.string x.o.key))) := hid (fun W hb => by
                  obtain ⟨go, oo, e, _, hat⟩ := (hdeps_os HTJ.out.rest (fun y hy => hdeps y (HTJ.out.perm.mem_iff.1 (List.mem_append_right O hy)) _ HTJ.out.bel) HRL.out).at hrlp
                  cases e
                  have h1 := (hat p hpR).under hb
                  rw [← hx, Nat.zero_add] at h1
                  exact ⟨h1.c0, h1.c1, h1.c2, h1.c3, h1.c4, h1.c5, h1.c6, h1.c7, h1.c8, h1.c9, h1.c10, h1.c11, h1.c12, h1.c13⟩)
                have HVer : Hid (∀ W, Below wr.heap.size wr W → Calls Try.prog 46 #[vo] W fun e w' => ∃ v, e = .returned v ∧ FD (verv (O.map Mo.m)) v w' ∧ Hid (Below wr.heap.size wr w')) := hid (fun W hb => by
                  rw [hvo]
                  refine (rversion_any oa O.length oc O W (hosO.below hb) (fun y hy => (chk_head (HA.out.may y.m (List.mem_map.2 ⟨y, hOL y hy, rfl⟩))).1) (by omega)).mono (fun e w' hg => ?_)
                  obtain ⟨a1, c1, he, hp1, hb1⟩ := hg.ans
                  exact ⟨_, he, ⟨a1, c1, rfl, hp1⟩, hid (hb.trans (hb1.mono hb.size))⟩)
                have hvl : (verv (O.map Mo.m)).length ≤ 1000 := Nat.le_trans (verv_len _) (by rw [List.length_map]; omega)
                have HRdy : Hid (∀ W a1 c1, Below wr.heap.size wr W → PS W a1 (verv (O.map Mo.m)).length c1 (verv (O.map Mo.m)) → Calls Try.prog 45 #[.slice a1 (verv (O.map Mo.m)).length c1, .agg #[.int .i64 x.o.id0, .int .i64 x.o.id1, .int .i64 x.o.time, .slice x.a x.n x.c, .int .i64 x.o.kind, .int .i64 x.o.bl0, .int .i64 x.o.bl1, .int .i64 x.o.at0, .int .i64 x.o.at1, .int .i64 x.o.side, .int .i64 x.o.char, .int .i64 x.o.pa0, .int .i64 x.o.pa1, .string x.o.key]] W fun e w' => e = .returned (.int .i64 (rdyE (verv (O.map Mo.m)) x.o x.V)) ∧ Hid (Below wr.heap.size wr w')) := hid (fun W a1 c1 hb hp1 => (rready_any a1 _ c1 (verv (O.map Mo.m)) x.o x.a x.n x.c x.V W hp1 (by omega) (hdeps x hxL W (HTJ.out.bel.trans (hb.mono HTJ.out.bel.size))) hfx.2.2 hfx.1.key).mono (fun e w' ⟨h1, h2⟩ => ⟨h1, hid (hb.trans (h2.below.mono hb.size))⟩))
                have hq1 : (q : Int) < (rl : Int) := by omega
                have hq0 : (0 : Int) ≤ (q : Int) := by omega
                have hK1 : (K : Int) < (rl : Int) := by omega
                have hK0 : (0 : Int) ≤ (K : Int) := by omega
                have hp1 : (p : Int) < (rl : Int) := by omega
                have hp0 : (0 : Int) ≤ (p : Int) := by omega
                have hrl60 : (rl : Int) ≤ 60 := by omega
                clear hx hpR hfx hosO hvo hdeps hOL hxL
                obtain ⟨rd, hrd⟩ : ∃ rd, rd = rdyE (verv (O.map Mo.m)) x.o x.V := ⟨_, rfl⟩
                rw [← hrd] at HRdy
                have HRDe := hid hrd
                clear hrd
                go_wp2_with fail
                have HU2 : Hid (Below wr.heap.size wr wr.drew) := hid ((Far.refl wr).drewN 1).below
                have hS2 := HSx.out _ HU2.out
                go_cut [11] from 40 to 78 (fun s wc => s = .int .i64 rd ∧ Hid (Below wr.heap.size wr wc))
                case first =>
                  refine wp_region_held_drew (S := fun w' => w'.cell? ⟨gr, p * 14, none⟩ = some (.int .i64 x.o.id0) ∧ w'.cell? ⟨gr, p * 14 + 1, none⟩ = some (.int .i64 x.o.id1) ∧ w'.cell? ⟨gr, p * 14 + 2, none⟩ = some (.int .i64 x.o.time) ∧ w'.cell? ⟨gr, p * 14 + 3, none⟩ = some (.slice x.a x.n x.c) ∧ w'.cell? ⟨gr, p * 14 + 4, none⟩ = some (.int .i64 x.o.kind) ∧ w'.cell? ⟨gr, p * 14 + 5, none⟩ = some (.int .i64 x.o.bl0) ∧ w'.cell? ⟨gr, p * 14 + 6, none⟩ = some (.int .i64 x.o.bl1) ∧ w'.cell? ⟨gr, p * 14 + 7, none⟩ = some (.int .i64 x.o.at0) ∧ w'.cell? ⟨gr, p * 14 + 8, none⟩ = some (.int .i64 x.o.at1) ∧ w'.cell? ⟨gr, p * 14 + 9, none⟩ = some (.int .i64 x.o.side) ∧ w'.cell? ⟨gr, p * 14 + 10, none⟩ = some (.int .i64 x.o.char) ∧ w'.cell? ⟨gr, p * 14 + 11, none⟩ = some (.int .i64 x.o.pa0) ∧ w'.cell? ⟨gr, p * 14 + 12, none⟩ = some (.int .i64 x.o.pa1) ∧ w'.cell? ⟨gr, p * 14 + 13, none⟩ = some (.string x.o.key)) hmxo hS2 ?_
                  intro _
                  refine wpAnyH_take (i := 0) (v := vo) rfl (by kernel_rfl) (by kernel_rfl) (by kernel_rfl) (fun _ _ _ h => h) (Or.inl ⟨by kernel_rfl, fun w hSw => ?_⟩) hS2 ?_
                  · obtain ⟨d0, d1, d2, d3, d4, d5, d6, d7, d8, d9, d10, d11, d12, d13⟩ := hSw; go_simp
                  simp only [Act.put, List.getElem_toArray, List.getElem_cons_succ, List.getElem_cons_zero, List.setIfInBounds_toArray, List.set_cons_zero, List.set_cons_succ]
                  refine wpAnyH_take (i := 2) (v := .slice (some ⟨gr, 0, none⟩) rl cr) rfl (by kernel_rfl) (by kernel_rfl) (by kernel_rfl) (fun _ _ _ h => h) (Or.inl ⟨by kernel_rfl, fun w hSw => ?_⟩) hS2 ?_
                  · obtain ⟨d0, d1, d2, d3, d4, d5, d6, d7, d8, d9, d10, d11, d12, d13⟩ := hSw; go_simp
                  simp only [Act.put, List.getElem_toArray, List.getElem_cons_succ, List.getElem_cons_zero, List.setIfInBounds_toArray, List.set_cons_zero, List.set_cons_succ]
                  refine wpAnyH_take (i := 3) (v := .int .i64 (p : Int)) rfl (by kernel_rfl) (by kernel_rfl) (by kernel_rfl) (fun _ _ _ h => h) (Or.inl ⟨by kernel_rfl, fun w hSw => ?_⟩) hS2 ?_
                  · obtain ⟨d0, d1, d2, d3, d4, d5, d6, d7, d8, d9, d10, d11, d12, d13⟩ := hSw; go_simp
                  simp only [Act.put, List.getElem_toArray, List.getElem_cons_succ, List.getElem_cons_zero, List.setIfInBounds_toArray, List.set_cons_zero, List.set_cons_succ]
                  refine wpAnyH_take (i := 4) (v := .pointer (some ⟨gr, p * 14, none⟩)) rfl (by kernel_rfl) (by kernel_rfl) (by kernel_rfl) (fun _ _ _ h => h) (Or.inl ⟨by kernel_rfl, fun w hSw => ?_⟩) hS2 ?_
                  · obtain ⟨d0, d1, d2, d3, d4, d5, d6, d7, d8, d9, d10, d11, d12, d13⟩ := hSw; go_simp
                  simp only [Act.put, List.getElem_toArray, List.getElem_cons_succ, List.getElem_cons_zero, List.setIfInBounds_toArray, List.set_cons_zero, List.set_cons_succ]
                  refine wpAnyH_take (i := 5) (v := .agg #[.int .i64 x.o.id0, .int .i64 x.o.id1, .int .i64 x.o.time, .slice x.a x.n x.c, .int .i64 x.o.kind, .int .i64 x.o.bl0, .int .i64 x.o.bl1, .int .i64 x.o.at0, .int .i64 x.o.at1, .int .i64 x.o.side, .int .i64 x.o.char, .int .i64 x.o.pa0, .int .i64 x.o.pa1, .string x.o.key]) rfl (by kernel_rfl) (by kernel_rfl) (by kernel_rfl) (fun _ _ _ h => h) (Or.inl ⟨by kernel_rfl, fun w hSw => ?_⟩) hS2 ?_
                  · obtain ⟨d0, d1, d2, d3, d4, d5, d6, d7, d8, d9, d10, d11, d12, d13⟩ := hSw; go_simp
                  simp only [Act.put, List.getElem_toArray, List.getElem_cons_succ, List.getElem_cons_zero, List.setIfInBounds_toArray, List.set_cons_zero, List.set_cons_succ]
                  refine wpAnyH_ready (rs := [1]) (by kernel_rfl) (by simp) ?_
                  refine AllReadyH.cons rfl (fun K hK => ?_) AllReadyH.nil
                  go_simp
                  refine (HVer.out _ HU2.out).mono ?_
                  rintro e U3 ⟨v3, rfl, ⟨a1, c1, rfl, hps⟩, hU3⟩
                  have hS3 := HSx.out _ hU3.out
                  refine hK.out _ _ hS3 (fun _ => ?_)
                  clear hK K
                  refine wpAnyH_ready (rs := [6]) (by kernel_rfl) (by simp) ?_
                  refine AllReadyH.cons rfl (fun K hK => ?_) AllReadyH.nil
                  go_simp
                  refine (HRdy.out _ a1 c1 hU3.out hps).mono ?_
                  rintro e U4 ⟨rfl, hU4⟩
                  have hS4 := HSx.out _ hU4.out
                  refine hK.out _ _ hS4 (fun _ => ?_)
                  clear hK K
                  refine wpAnyH_take (i := 7) (v := .int .i64 rd) rfl (by kernel_rfl) (by kernel_rfl) (by kernel_rfl) (fun _ _ _ h => h) (Or.inl ⟨by kernel_rfl, fun w hSw => ?_⟩) hS4 ?_
                  · obtain ⟨d0, d1, d2, d3, d4, d5, d6, d7, d8, d9, d10, d11, d12, d13⟩ := hSw; go_simp
                  simp only [Act.put, List.getElem_toArray, List.getElem_cons_succ, List.getElem_cons_zero, List.setIfInBounds_toArray, List.set_cons_zero, List.set_cons_succ]
                  refine wpAnyH_done (by kernel_rfl) ?_ _
                  go_wp2_with fail
                  go_meet
                  case rel => exact ⟨rfl, hU4⟩
                case rest =>
                  obtain ⟨rfl, HB6⟩ := hcut
                  generalize wc = U6 at *
                  have HT6 : Hid (TU w L U6 vo (.slice (some ⟨gr, 0, none⟩) rl cr) O R) := hid (HTJ.out.below HB6.out)
                  by_cases hz : rd = 0
                  · subst hz
                    have HRD : Hid (rdyE (verv (O.map Mo.m)) x.o x.V = 0) := hid HRDe.out.symm
                    obtain ⟨s0, s1, s2, s3, s4, s5, s6, s7, s8, s9, s10, s11, s12, s13⟩ := HSx.out _ HB6.out
                    clear HVer HRdy hS2 HU2
                    by_cases hpc : p + 1 < cr
                    · go_wp2_with (first
                        | (at_builtin; have hq := hG2; refine wpList_append_ops rfl _ _ rfl w1'.heap.size v2 (R.take p) rfl hO2 (some ⟨gr, (p + 1) * 14, none⟩) (rl - (p + 1)) (cr - (p + 1)) (R.drop (p + 1)) rfl ((by have h := HR2.out.drop (k := p + 1) (by omega); rw [Nat.zero_add] at h; exact h)) (by first | (simp; done) | (simp; omega)) (by have := hG2.size; omega) ?_; intro v3 w3 hO3 hG3)
                        | (at_builtin; have hq := hG1; refine wpList_append_ops rfl _ _ rfl w1'.heap.size (.slice none 0 0) [] rfl (World.ownsRow_nil _ _ _ _) (some ⟨gr, 0, none⟩) p cr (R.take p) rfl (HR1.out.take (by omega)) (by first | (simp; done) | (simp; omega)) (Nat.le_refl _) ?_; intro v2 w2 hO2 hG2; have HR2 := hid (HR1.out.of_grown hG2 (by simp [Value.ownBlock])))
                        | (at_builtin; refine wpList_append_ops rfl _ _ rfl w.heap.size vo O rfl (HT6.out.out.alloc _) (some ⟨U6.heap.size, 0, none⟩) 1 1 [x] rfl (rs_one U6 x) (by first | (simp; done) | (simp; omega)) (by rw [World.size_alloc]; have := HT6.out.bel.size; omega) ?_; intro v1' w1' hO1 hG1; have HR1 := hid (rs_at (HT6.out.rest1 _ hG1) HRL.out)))
                      have HF := hid (HT6.out.step HXp.out HCH.out HRD.out _ hG1 hO1 hG2 hO2 hG3 (hO3))
                      clear hO1 hG1 hO2 hG2 hO3 hG3
                      go_roundw
                      case rel => exact ⟨k + 1, _, _, _, _, rfl, rfl, by go_num, by omega, hid ⟨by rw [List.length_append, HT.out.1]; rfl, HF.out⟩⟩
                      case measure => simp [intOf]; omega
                    · obtain rfl : p + 1 = cr := by omega
                      obtain rfl : p + 1 = rl := by omega
                      have hdn : Hid (R.drop (p + 1) = []) := hid (List.drop_of_length_le (by rw [← HRL.out]; exact Nat.le_refl _))
                      go_wp2_with (first
                        | (at_builtin; have hq := hG2; refine wpList_append_ops rfl _ _ rfl w1'.heap.size v2 (R.take p) rfl hO2 (some ⟨gr, 0, none⟩) 0 0 [] rfl (⟨rfl, Nat.le_refl _, Nat.zero_le _, (fun e => by cases e), fun _ _ _ _ hj => (by simp [flo] at hj)⟩) (by first | (simp; done) | (simp; omega)) (by have := hG2.size; omega) ?_; intro v3 w3 hO3 hG3)
                        | (at_builtin; have hq := hG1; refine wpList_append_ops rfl _ _ rfl w1'.heap.size (.slice none 0 0) [] rfl (World.ownsRow_nil _ _ _ _) (some ⟨gr, 0, none⟩) p (p + 1) (R.take p) rfl (HR1.out.take (by omega)) (by first | (simp; done) | (simp; omega)) (Nat.le_refl _) ?_; intro v2 w2 hO2 hG2; have HR2 := hid (HR1.out.of_grown hG2 (by simp [Value.ownBlock])))
                        | (at_builtin; refine wpList_append_ops rfl _ _ rfl w.heap.size vo O rfl (HT6.out.out.alloc _) (some ⟨U6.heap.size, 0, none⟩) 1 1 [x] rfl (rs_one U6 x) (by first | (simp; done) | (simp; omega)) (by rw [World.size_alloc]; have := HT6.out.bel.size; omega) ?_; intro v1' w1' hO1 hG1; have HR1 := hid (rs_at (HT6.out.rest1 _ hG1) HRL.out)))
                      have HF := hid (HT6.out.step HXp.out HCH.out HRD.out _ hG1 hO1 hG2 hO2 hG3 ((by rw [hdn.out]; exact hO3)))
                      clear hO1 hG1 hO2 hG2 hO3 hG3
                      go_roundw
                      case rel => exact ⟨k + 1, _, _, _, _, rfl, rfl, by go_num, by omega, hid ⟨by rw [List.length_append, HT.out.1]; rfl, HF.out⟩⟩
                      case measure => simp [intOf]; omega
                  · have hzb : (rd == 0) = false := by simpa using hz
                    clear HVer HRdy hS2 HU2
                    have HNX : Hid (∀ j', j' < q + 1 → ∀ y, R[(K + j') % rl]? = some y → rdyE (verv (O.map Mo.m)) y.o y.V ≠ 0) := hid (fun j' hj y hy => by
                      rcases Nat.lt_or_ge j' q with h1 | h1
                      · exact HNO.out j' h1 y hy
                      · have : j' = q := by omega
                        subst this
                        rw [← HPE.out, HXp.out] at hy
                        cases hy
                        rw [← HRDe.out]
                        exact hz)
                    clear hz
                    go_wp2
                    go_roundw
                    case rel => exact ⟨q + 1, rfl, rfl, by omega, by go_num, HT6, HNX⟩
                    case measure => simp [intOf]; omega
              · exfalso
                have hqr : q = rl := by omega
                subst hqr
                have hp : ((O.map Mo.m) ++ (R.map Mo.m)).Perm (L.map Mo.m) := by rw [← List.map_append]; exact HTJ.out.perm.map _
                obtain ⟨x', hx', hrd⟩ := ready_some HA.out hp HTJ.out.cl (fun e => by have h1 := congrArg List.length e; rw [List.length_map, ← HRL.out] at h1; simp at h1; omega)
                obtain ⟨x, hx, rfl⟩ := List.mem_map.1 hx'
                obtain ⟨i, hi⟩ := List.mem_iff_getElem?.1 hx
                have hil := (List.getElem?_eq_some_iff.1 hi).1
                rw [← HRL.out] at hil
                obtain ⟨j, hj, e⟩ := turn_all hrlp hK hil
                exact HNO.out j hj x (by rw [e]; exact hi) hrd
end Go.Proofs.Ytbpepmajpojacaa
