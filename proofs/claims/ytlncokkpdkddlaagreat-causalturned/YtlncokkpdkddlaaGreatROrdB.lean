/- The reference's Order. -/
import Derived.Test.YtlncokkpdkddlaaGreatRPut
import Derived.Test.YtlncokkpdkddlaaGreatCReady
import Derived.Lib.SmallJoins
namespace Go.Proofs.YtlncokkpdkddlaaGreat
section
open Go.RowKit
open Go.Sort (grow)

def slen : Value → Nat
  | .slice _ n _ => n
  | _ => 0

set_option maxRecDepth 100000 in
set_option maxHeartbeats 4000000 in
theorem counted_any (a : Option Addr) (n c : Nat) (L : List Mo) (w : World) (hs : OS w a n c L) (hF : ∀ x ∈ L, x.o.Fits ∧ Dws x.V ∧ x.n ≤ 1000000) (hn : n ≤ 1000) :
    Calls Tryz.prog 24 #[.slice a n c] w fun e w' => ∃ v, e = .returned v ∧ OwnO w' w.heap.size v (cntO L) ∧ RowKit.Below w.heap.size w w' := by
  have hlen := hs.len
  go_enter Tryz.func24, Tryz.ntmps24
  go_wp2
  go_loopw [4, 3] (fun i v wr => ∃ k : Nat, k ≤ n ∧ i = .int .i64 k ∧ Hid (OwnO wr w.heap.size v (cntO (L.take k))) ∧ Hid (RowKit.Below w.heap.size w wr)) (fun i _ _ => n - (intOf i).toNat)
  case atStart => exact ⟨0, by omega, rfl, hid (World.ownsRow_nil _ _ _ _), hid (Below.refl _ _)⟩
  case round =>
    obtain ⟨k, hk, rfl, hO, hBr⟩ := hrel
    by_cases hlt : k < n
    · have hkl : k < L.length := by omega
      have hsr := hs.below hBr.out
      obtain ⟨g, o, rfl, hg, hcell⟩ := hsr.at (by omega)
      obtain ⟨c0, c1, c2, c3, c4, c5, c6, c7, c8, c9, c10, c11, c12, c13⟩ := hcell k hkl
      have hX := hid (hcell k hkl)
      have hdep := hsr.deps _ (List.getElem_mem hkl)
      obtain ⟨hfx, hdx, hnx⟩ := hF _ (List.getElem_mem hkl)
      have hst := hid (show cntO (L.take (k + 1)) = cntO1 (cntO (L.take k)) L[k] by rw [List.take_succ_eq_append_getElem hkl, cntO_snoc])
      have hcl : (cntO (L.take k)).length ≤ k := by
        have := cntO_len (L.take k)
        rw [List.length_take] at this
        omega
      generalize L[k] = x at *
      generalize cntO (L.take k) = C at *
      have hCk := rcheck_any x.o x.a x.n x.c x.V wr hdep (by omega) hfx.key
      have HO := hO
      obtain ⟨av, cv, rfl, hrs⟩ := owned_rs hO.out
      have hKn := fun W (h : RowKit.Below wr.heap.size wr W) => known_any av C.length cv C x.o.id W (hrs.below h) (by omega)
      have hPt := fun W (h : RowKit.Below wr.heap.size wr W) => put_any (.slice av C.length cv) w.heap.size C x W (own_kept hO.out h) (by omega)
      have hc1 : Hid (cntO1 C x = if chk x.o x.V = true ∧ hasId (C.map Mo.m) x.o.id = false then putO C x else C) := hid rfl
      have hsz := hBr.out.size
      clear hcell hsr hdep hrs hdx hO
      generalize chk x.o x.V = r1 at hCk hc1
      generalize hasId (C.map Mo.m) x.o.id = r2 at hKn hc1
      cases r1
      · go_wp2_with (first
          | (go_at_call 33; refine hCk.mono ?_; rintro e w1 ⟨rfl, hF1⟩))
        go_roundw
        case rel =>
          refine ⟨k + 1, by omega, by go_num, hid ?_, hid (below2 hBr.out hF1.below)⟩
          rw [hst.out, hc1.out]
          exact own_kept HO.out hF1.below
        case measure => simp [intOf]; omega
      · cases r2
        · go_wp2_with (first
            | (go_at_call 48; have hq := B2; refine (hPt _ B2).mono ?_; rintro e w3 ⟨v3, rfl, hO3, hB3⟩)
            | (go_at_call 47; have hq := hF1; refine (hKn _ hF1.below).mono ?_; rintro e w2 ⟨rfl, hB2⟩; have B2 := below2 hF1.below hB2; have hY := (hX.out.below B2 hg); obtain ⟨d0, d1, d2, d3, d4, d5, d6, d7, d8, d9, d10, d11, d12, d13⟩ := hY)
            | (go_at_call 33; refine hCk.mono ?_; rintro e w1 ⟨rfl, hF1⟩; have hY := (hX.out.below hF1.below hg); have y0 := hY.c0; have y1 := hY.c1))
          go_roundw
          case rel =>
            refine ⟨k + 1, by omega, by go_num, hid ?_, hid (below2 hBr.out (below2 B2 hB3))⟩
            rw [hst.out, hc1.out]
            exact Go.Joins.ownsRow_le hO3 (Nat.le_trans hsz B2.size)
          case measure => simp [intOf]; omega
        · go_wp2_with (first
            | (go_at_call 47; have hq := hF1; refine (hKn _ hF1.below).mono ?_; rintro e w2 ⟨rfl, hB2⟩; have B2 := below2 hF1.below hB2)
            | (go_at_call 33; refine hCk.mono ?_; rintro e w1 ⟨rfl, hF1⟩; have hY := (hX.out.below hF1.below hg); have y0 := hY.c0; have y1 := hY.c1))
          go_roundw
          case rel =>
            refine ⟨k + 1, by omega, by go_num, hid ?_, hid (below2 hBr.out B2)⟩
            rw [hst.out, hc1.out]
            exact own_kept HO.out B2
          case measure => simp [intOf]; omega
    · obtain rfl : k = n := by omega
      have HO := hO.out
      rw [← hlen, List.take_length] at HO
      have HO' := hid HO
      clear HO
      go_wp2
      go_ret
      exact ⟨_, rfl, HO'.out, hBr.out⟩
end

section
open Go.RowKit
open Go.Sort (grow)

/-- With one that may be: in new memory. -/
theorem rwith_own {a : Option Addr} {n c : Nat} {A : List Dt} {w : World} (d : Dt) (hd : mayd d = true) (hs : PS w a n c A) (hn : n ≤ 1000000) (hA : VM A) : Calls Tryz.prog 26 #[.slice a n c, dv d] w (Gives w (vwith A d)) := by
  obtain ⟨d1, d2⟩ := d
  have b0 : RowKit.Below w.heap.size w (w.alloc (.cells #[.int .i64 d1, .int .i64 d2] 32)) := (Below.refl _ w).alloc (Nat.le_refl _) _
  have hM := rmay_any (d1, d2) (w.alloc (.cells #[.int .i64 d1, .int .i64 d2] 32))
  have k0 : (w.alloc (.cells #[.int .i64 d1, .int .i64 d2] 32)).cell? ⟨w.heap.size, 0, none⟩ = some (.int .i64 d1) := by go_simp
  have k1 : (w.alloc (.cells #[.int .i64 d1, .int .i64 d2] 32)).cell? ⟨w.heap.size, 1, none⟩ = some (.int .i64 d2) := by go_simp
  have hk : w.heap.size < (w.alloc (.cells #[.int .i64 d1, .int .i64 d2] 32)).heap.size := by simp
  have hv : Hid (vwith A (d1, d2) = vjoin A [(d1, d2)]) := hid (by unfold vwith; rw [if_pos hd])
  have hone := hid (vm_one hd)
  rw [hd] at hM
  go_enter Tryz.func26, Tryz.ntmps26
  go_wp2_with (first
    | (go_at_call 50; have hq := f0; refine (rjoin_any (A := A) (B := [(d1, d2)]) (hsW.below ((Below.refl _ w1).alloc (Nat.le_refl _) _)) hn (ps_one w1 (d1, d2)) (by omega) hA hone.out).mono ?_; rintro e w2 ⟨v2, rfl, ho2, hb2⟩)
    | (go_at_call 49; refine hM.mono ?_; rintro e w1 ⟨rfl, hF1⟩; have f0 := (hF1.below.cell (p := ⟨w.heap.size, 0, none⟩) hk).trans k0; have f1 := (hF1.below.cell (p := ⟨w.heap.size, 1, none⟩) hk).trans k1; have hbw := below2 b0 hF1.below; have hsW := hs.below hbw))
  go_ret
  rw [hv.out]
  have hbb : RowKit.Below w.heap.size w w2 := below2 hbw (below2 ((Below.refl _ w1).alloc (Nat.le_refl _) _) hb2)
  exact ⟨v2, rfl, sbase ho2 (by have := hbw.size; simp; omega), hbb⟩

theorem apart_lt {w w' : World} {b e z b' e' z' : Nat} {v v' : Value} {n n' : Nat} {xs xs' : List Value} (h : w.ownsRow b e z v n xs) (h' : w'.ownsRow b' e' z' v' n' xs') (hlt : w.heap.size ≤ b') : v.ownBlock = none ∨ v.ownBlock ≠ v'.ownBlock := by
  cases hv : v.ownBlock with
  | none => exact Or.inl rfl
  | some k =>
    refine Or.inr fun e => ?_
    have h1 := (h.lt k hv).2
    have h2 := (h'.lt k e.symm).1
    omega
theorem apart_gt {w w' : World} {b e z b' e' z' : Nat} {v v' : Value} {n n' : Nat} {xs xs' : List Value} (h : w.ownsRow b e z v n xs) (h' : w'.ownsRow b' e' z' v' n' xs') (hlt : w'.heap.size ≤ b) : v.ownBlock = none ∨ v.ownBlock ≠ v'.ownBlock := by
  cases hv : v.ownBlock with
  | none => exact Or.inl rfl
  | some k =>
    refine Or.inr fun e => ?_
    have h1 := (h.lt k hv).1
    have h2 := (h'.lt k e.symm).2
    omega

theorem own_rs_at {w : World} {base g o c : Nat} {L : List Mo} {n : Nat} (h : OwnO w base (.slice (some ⟨g, o, none⟩) n c) L) (hl : L.length = n) : RS w (some ⟨g, o, none⟩) n c L := by
  obtain ⟨a, c', e, hr⟩ := owned_rs h
  simp only [Value.slice.injEq] at e
  obtain ⟨rfl, rfl, rfl⟩ := e
  exact hr

theorem rs_kept {w w' : World} {g o n c : Nat} {L : List Mo} {r : Option Nat} (h : RS w (some ⟨g, o, none⟩) n c L) (hg : w.grownBy w' r) (hne : some g ≠ r) : RS w' (some ⟨g, o, none⟩) n c L :=
  ⟨h.len, h.cap, h.max, h.nil, fun ad ha j u hj => by
    have h1 := h.cells ad ha j u hj
    cases ha
    have hb := hg.block g (by have := cell_in h1; rw [add_none] at this; exact this) hne
    rw [add_none] at h1 ⊢
    simp only [World.cell?] at h1 ⊢
    rw [hb]
    exact h1⟩

theorem own_ps_at {w : World} {base c : Nat} {a : Option Addr} {L : List Dt} {n : Nat} (h : w.ownsRow base 32 2 (.slice a n c) L.length (flat L)) : PS w a n c L := by
  obtain ⟨a', c', e, hp⟩ := owned_ps h rfl
  simp only [Value.slice.injEq] at e
  obtain ⟨rfl, rfl, rfl⟩ := e
  exact hp

theorem rs_id {w : World} {g o n c : Nat} {L : List Mo} (h : RS w (some ⟨g, o, none⟩) n c L) {q : Nat} {x : Mo} (hx : L[q]? = some x) : w.cell? ⟨g, o + q * 14, none⟩ = some (.int .i64 x.o.id0) ∧ w.cell? ⟨g, o + q * 14 + 1, none⟩ = some (.int .i64 x.o.id1) := by
  obtain ⟨hq, e⟩ := List.getElem?_eq_some_iff.1 hx
  obtain ⟨g', o', e', _, hc⟩ := h.at (by rw [← h.len]; omega)
  cases e'
  have := hc q hq
  rw [e] at this
  exact ⟨this.c0, this.c1⟩

theorem verv_snoc (l : List Mop) (x : Mop) : verv (l ++ [x]) = vwith (verv l) x.1.id := by
  unfold verv
  rw [List.map_append, List.foldl_append]
  rfl

theorem verv_length (l : List Mop) : (verv l).length ≤ l.length := by
  have h := foldl_length (l.map (fun x => x.1.id)) []
  simp at h
  exact h

theorem lf_nil (R : List Mo) : lf R [] = R := by
  unfold lf
  rw [thT_nil]
  exact List.filter_eq_self.2 (fun _ _ => rfl)

theorem lf_len (R : List Mo) (T : List Nat) : (lf R T).length ≤ R.length := List.length_filter_le _ _

/-- Is the one at this place ready? -/
def rdq (R : List Mo) (T : List Nat) (q : Nat) : Bool := match (lf R T)[q]? with | some x => rdyb R T x | none => false

theorem rdq_at {R : List Mo} {T : List Nat} {q : Nat} {x : Mo} (h : (lf R T)[q]? = some x) : rdq R T q = rdyb R T x := by
  unfold rdq
  rw [h]

set_option maxRecDepth 100000 in
set_option maxHeartbeats 8000000 in
theorem rorder_any (a : Option Addr) (n c : Nat) (L : List Mo) (w : World) (hs : OS w a n c L) (hF : ∀ x ∈ L, x.o.Fits ∧ Dws x.V ∧ x.n ≤ 1000000) (hn : n ≤ 1000) :
    Calls Tryz.prog 9 #[.slice a n c] w fun e w' => ∃ (R : List Mo) (T : List Nat) (a1 : Option Addr) (c1 : Nat) (a2 : Option Addr) (c2 : Nat), e = .returned (.tuple #[.slice a1 (inL R T).length c1, .slice a2 (lf R T).length c2]) ∧ Taken (L.map Mo.m) R T ∧ RS w' a1 (inL R T).length c1 (inL R T) ∧ RS w' a2 (lf R T).length c2 (lf R T) ∧ (∀ x ∈ R, x ∈ L) ∧ RowKit.Below w.heap.size w w' := by
  have hCt := counted_any a n c L w hs hF hn
  obtain ⟨hperm, hup⟩ := cntO_says L
  have hRO : RO (L.map Mo.m) (cntO L) [] := ⟨hup, hperm, fun x hx => ⟨(hF x (cntO_sub hx)).1, (hF x (cntO_sub hx)).2.1⟩, Ch.nil _ _⟩
  have hsub : Hid (∀ x ∈ cntO L, x ∈ L) := hid (fun x hx => cntO_sub hx)
  have hFR : Hid (∀ x ∈ cntO L, x.o.Fits ∧ x.n ≤ 1000000 ∧ PS w x.a x.n x.c x.V) := hid (fun x hx => ⟨(hF x (cntO_sub hx)).1, (hF x (cntO_sub hx)).2.2, hs.deps x (cntO_sub hx)⟩)
  have hlR : (cntO L).length ≤ 1000 := by
    have := cntO_len L
    have := hs.len
    omega
  have HRO := hid hRO
  clear hperm hup hRO hF hs
  generalize cntO L = R at *
  go_enter Tryz.func9, Tryz.ntmps9
  go_wp2_with (first
    | (go_at_call 24; refine hCt.mono ?_; rintro e w1 ⟨v1, rfl, hO1, hB1⟩))
  have HO1 := hid hO1
  have HB1 := hid hB1
  clear hCt hO1 hB1
  go_loopw [4, 5, 6] (fun v4 v5 v6 wr => ∃ T : List Nat, Hid (RO (L.map Mo.m) R T) ∧ Hid (OwnO wr w.heap.size v4 (lf R T)) ∧ Hid (OwnO wr w.heap.size v5 (inL R T)) ∧ Hid (OwnV wr w.heap.size v6 (verv ((inL R T).map Mo.m))) ∧ Hid (v4.ownBlock = none ∨ v4.ownBlock ≠ v5.ownBlock) ∧ Hid (RowKit.Below w.heap.size w wr)) (fun v4 _ _ _ => slen v4)
  case atStart => exact ⟨[], HRO, hid (by rw [lf_nil]; exact HO1.out), hid (World.ownsRow_nil _ _ _ _), hid (World.ownsRow_nil _ _ _ _), hid none_or, HB1⟩
  case round =>
    obtain ⟨T, hRO, hO4, hO5, hO6, hap, hBr⟩ := hrel
    obtain ⟨a4, c4, rfl, hr4⟩ := owned_rs hO4.out
    obtain ⟨a6, c6, rfl, hp6⟩ := owned_ps hO6.out rfl
    have hm : (lf R T).length ≤ 1000 := Nat.le_trans (lf_len R T) hlR
    have hTl : (inL R T).length ≤ 1000 := by
      have h1 := inL_length hRO.out.lt
      have h2 : T.length ≤ R.length := by
        have := List.Nodup.length_le_of_subset hRO.out.ch.nodup (fun x hx => List.mem_range.2 (hRO.out.ch.lt hx))
        simpa using this
      omega
    have hvl : (verv ((inL R T).map Mo.m)).length ≤ 1000 := by
      have := verv_length ((inL R T).map Mo.m)
      rw [List.length_map] at this
      omega
    have Hr4 := hid hr4
    have Hp6 := hid hp6
    clear hr4 hp6
    generalize wr = wo at *
    generalize hmm : (lf R T).length = m at *
    go_wp2
    go_loopw [8, 7] (fun i kk wk => ∃ (j : Nat) (z : Int), j ≤ m ∧ i = .int .i64 ((j : Int) - 1) ∧ kk = .int .i64 z ∧ Hid (Fr (rdq R T) m j z) ∧ Hid (Far wo wk)) (fun i _ _ => (intOf i + 1).toNat)
    case atStart => exact ⟨m, -1, Nat.le_refl _, by go_num, rfl, hid (Fr.start _ _), hid (Far.refl _)⟩
    case round =>
      obtain ⟨j, z, hj, rfl, rfl, hFr, hFk⟩ := hrel
      cases j with
      | succ j =>
        have hjl : j < (lf R T).length := by omega
        have hx? : (lf R T)[j]? = some (lf R T)[j] := List.getElem?_eq_getElem hjl
        have hxR : (lf R T)[j] ∈ R := (List.mem_filter.1 (List.getElem_mem hjl)).1
        obtain ⟨hfx, hnx, hdx⟩ := hFR.out _ hxR
        obtain ⟨g, o, rfl, hg, hcell⟩ := (Hr4.out.below hFk.out.below).at (by omega)
        obtain ⟨z0, z1, z2, z3, z4, z5, z6, z7, z8, z9, z10, z11, z12, z13⟩ := hcell j hjl
        have hrd := hRO.out.ready (List.mem_of_getElem? hx?)
        have hrq := rdq_at hx?
        have kRe := rready_any a6 _ c6 (verv ((inL R T).map Mo.m)) (lf R T)[j].o (lf R T)[j].a (lf R T)[j].n (lf R T)[j].c (lf R T)[j].V wr (Hp6.out.below hFk.out.below) (by omega) (hdx.below (below2 hBr.out hFk.out.below)) hnx hfx.key
        rw [hrd, ← hrq] at kRe
        generalize (lf R T)[j] = x at *
        have hj1 : ((j + 1 : Nat) : Int) - 1 = (j : Int) := by omega
        rw [hj1]
        clear hcell hrd hrq hdx hx? hxR hfx
        cases hb : rdq R T j
        · rw [hb] at kRe
          have hno := hid (hFr.out.no hb)
          clear hb
          go_wp2_with (first
            | (go_at_call 25; refine kRe.mono ?_; rintro e w7 ⟨rfl, hF7⟩))
          go_roundw
          case rel => exact ⟨j, z, by omega, by go_num, rfl, hno, hid (hFk.out.trans hF7)⟩
          case measure => first | (simp [intOf]; done) | (simp [intOf]; omega)
        · rw [hb] at kRe
          have hyes := hid (hFr.out.yes (by omega) hb)
          clear hb
          go_wp2_with (first
            | (go_at_call 25; refine kRe.mono ?_; rintro e w7 ⟨rfl, hF7⟩))
          go_roundw
          case rel => exact ⟨j, (j : Int), by omega, by go_num, rfl, hyes, hid (hFk.out.trans hF7)⟩
          case measure => first | (simp [intOf]; done) | (simp [intOf]; omega)
      | zero =>
        have hB0 := hid (below2 hBr.out hFk.out.below)
        rcases hFr.out with ⟨rfl, hnone⟩ | ⟨q, rfl, _, hqm, hyes, hless⟩
        · have hT : Hid (Taken (L.map Mo.m) R T) := hid (hRO.out.done fun x hx => by
            obtain ⟨q, hq⟩ := List.mem_iff_getElem?.1 hx
            have := hnone q (Nat.zero_le _) (by rw [← hmm]; exact (List.getElem?_eq_some_iff.1 hq).1)
            rw [rdq_at hq] at this
            exact this)
          obtain ⟨a5, c5, rfl, hr5⟩ := owned_rs (own_kept hO5.out hFk.out.below)
          have Hr5 := hid hr5
          have H4 := hid (Hr4.out.below hFk.out.below)
          clear hnone hr5
          go_wp2
          go_ret2
          refine ⟨R, T, a5, c5, a4, c4, ?_, hT.out, Hr5.out, ?_, hsub.out, hB0.out⟩
          · rw [hmm]; rfl
          · rw [hmm]; exact H4.out
        · have hql : q < (lf R T).length := by omega
          have hx? : (lf R T)[q]? = some (lf R T)[q] := List.getElem?_eq_getElem hql
          have hyes' : rdyb R T (lf R T)[q] = true := by rw [← rdq_at hx?]; exact hyes
          obtain ⟨p, hp, hRO', hin, hlf⟩ := hRO.out.next hx? hyes' (fun i y hi hy => by
            have := hless i (Nat.zero_le _) hi
            rw [rdq_at hy] at this
            exact this)
          have hxR : (lf R T)[q] ∈ R := (List.mem_filter.1 (List.getElem_mem hql)).1
          have hmay := (chk_head (hRO.out.may hxR)).1
          have hxx : (lf R T)[q]? = some (lf R T)[q] := hx?
          have hv := verv_snoc ((inL R T).map Mo.m) ((lf R T)[q]).m
          have hO4w := hid (own_kept hO4.out hFk.out.below)
          obtain ⟨a5, c5, rfl, hr5⟩ := owned_rs hO5.out
          have hO5w := hid (own_kept hO5.out hFk.out.below)
          have hO6w := hid (own_far' hO6.out hFk.out)
          obtain ⟨g, o, rfl, hg, hcell⟩ := (Hr4.out.below hFk.out.below).at (by omega)
          obtain ⟨z0, z1, z2, z3, z4, z5, z6, z7, z8, z9, z10, z11, z12, z13⟩ := hcell q hql
          generalize (lf R T)[q] = x at *
          have Hp := hid hp
          have HRO' := hid hRO'
          have Hin := hid hin
          have Hlf := hid hlf
          have Hv := hid hv
          have hszw := hB0.out.size
          have hc4 := Hr4.out.cap
          have hmx := Hr4.out.max
          unfold maxLen at hmx
          clear hyes hyes' hless hcell hr5 hp hRO' hin hlf hv hxR hO4 hO5 hO6
          by_cases hqc : q + 1 < c4
          · go_wp2_with (first
              | (at_builtin; have hq := hG9; refine wpList_append_ops rfl _ _ rfl w8.heap.size v9 ((lf R T).take q) rfl hO9 (some ⟨g, o + (q + 1) * 14, none⟩) (m - (q + 1)) (c4 - (q + 1)) ((lf R T).drop (q + 1)) rfl (hr9.drop (by omega)) (by simp; omega) (by omega) ?_; intro v10 w10 hO10 hG10)
              | (at_builtin; have hq := hB8; refine wpList_append_ops rfl _ _ rfl w8.heap.size (.slice none 0 0) [] rfl (World.ownsRow_nil _ _ _ _) (some ⟨g, o, none⟩) q c4 ((lf R T).take q) rfl (hr8.take (by omega)) (by simp; omega) (Nat.le_refl _) ?_; intro v9 w9 hO9 hG9; have hr9 := rs_kept hr8 hG9 (fun h => by cases h); have hs9 := hG9.size)
              | (go_at_call 26; have hq := hlt7; refine (rwith_own x.o.id hmay hp7 (by omega) (verv_vm _)).mono ?_; rintro e w8 ⟨v8, rfl, hO8, hB8⟩; have hr8 := hr7.below hB8; have hs8 := hB8.size)
              | (at_builtin; refine wpList_append_op rfl _ _ rfl w.heap.size (.slice a5 (inL R T).length c5) (inL R T).length (inL R T) rfl rfl (hO5w.out.alloc _) wr.heap.size x rfl (mo_cells _ _ _ (opAt_alloc wr x.o x.dep 36)) (by omega) (by simp; omega) ?_; intro g7 c7 w7 hO7 hG7 hat7 hlt7; have hO4' := (hO4w.out.alloc (.cells (x.o.cells x.dep) 36)).kept hG7 hap.out; have hr7 := own_rs_at hO4' hmm; have hO6' := (hO6w.out.alloc (.cells (x.o.cells x.dep) 36)).kept hG7 (rows_apart (hO6w.out.alloc (.cells (x.o.cells x.dep) 36)) (hO5w.out.alloc (.cells (x.o.cells x.dep) 36)) (by decide)); have hp7 := own_ps_at hO6'; have hs7 := hG7.size; have hc7 := rs_id hr7 hx?; have f0 := hc7.1; have f1 := hc7.2))
            go_roundw
            case rel =>
              have B7 := (hB0.out.alloc (by omega) (.cells (x.o.cells x.dep) 36)).grown hG7 (by simp; omega) (fun j hj => ((hO5w.out.alloc (.cells (x.o.cells x.dep) 36)).lt j hj).1)
              have B8 := below2 B7 hB8
              have sz7 := B7.size
              have sz8 := B8.size
              have B9 := B8.grown hG9 (by omega) (fun j hj => by cases hj)
              have sz9 := B9.size
              have B10 := B9.grown hG10 (by omega) (fun j hj => by have := (hO9.lt j hj).1; omega)
              have hO7' := (own_kept hO7 hB8).kept hG9 none_or
              have hO7w := hO7'.kept hG10 (apart_lt (own_kept hO7 hB8) hO9 (Nat.le_refl _))
              have hO8w := (hO8.kept hG9 none_or).kept hG10 (apart_lt hO8 hO9 (Nat.le_refl _))
              refine ⟨T ++ [p], HRO', hid ?_, hid ?_, hid ?_, hid (apart_gt hO10 (own_kept hO7 hB8) (Nat.le_refl _)), hid B10⟩
              · rw [Hlf.out]
                exact Go.Joins.ownsRow_le hO10 (by omega)
              · rw [Hin.out]
                have : (inL R T ++ [x]).length = (inL R T).length + 1 := by simp
                show World.ownsRow _ _ _ _ _ (List.length _) _
                exact hO7w
              · rw [Hin.out, List.map_append]
                show World.ownsRow _ _ _ _ _ (List.length _) _
                have e : verv ((inL R T).map Mo.m ++ [x].map Mo.m) = vwith (verv ((inL R T).map Mo.m)) x.o.id := Hv.out
                rw [e]
                exact Go.Joins.ownsRow_le hO8w (by omega)
            case measure =>
              obtain ⟨a10, c10, e10, _⟩ := owned_rs hO10
              rw [e10]
              first | (simp [slen, hmm]; done) | (simp [slen, hmm]; omega)
          · obtain rfl : c4 = q + 1 := by omega
            obtain rfl : m = q + 1 := by omega
            have hdn : Hid ((lf R T).drop (q + 1) = []) := hid (List.drop_of_length_le (by rw [hmm]; exact Nat.le_refl _))
            have Hlf2 : Hid (lf R (T ++ [p]) = (lf R T).take q ++ []) := hid (by rw [Hlf.out, hdn.out])
            clear Hlf
            have Hlf := Hlf2
            clear Hlf2
            go_wp2_with (first
              | (at_builtin; have hq := hG9; refine wpList_append_ops rfl _ _ rfl w8.heap.size v9 ((lf R T).take q) rfl hO9 (some ⟨g, o, none⟩) 0 0 [] rfl (⟨rfl, Nat.le_refl _, Nat.zero_le _, (fun e => by cases e), fun _ _ _ _ hj => (by simp [flo] at hj)⟩) (by simp; omega) (by omega) ?_; intro v10 w10 hO10 hG10)
              | (at_builtin; have hq := hB8; refine wpList_append_ops rfl _ _ rfl w8.heap.size (.slice none 0 0) [] rfl (World.ownsRow_nil _ _ _ _) (some ⟨g, o, none⟩) q (q + 1) ((lf R T).take q) rfl (hr8.take (by omega)) (by simp; omega) (Nat.le_refl _) ?_; intro v9 w9 hO9 hG9; have hr9 := rs_kept hr8 hG9 (fun h => by cases h); have hs9 := hG9.size)
              | (go_at_call 26; have hq := hlt7; refine (rwith_own x.o.id hmay hp7 (by omega) (verv_vm _)).mono ?_; rintro e w8 ⟨v8, rfl, hO8, hB8⟩; have hr8 := hr7.below hB8; have hs8 := hB8.size)
              | (at_builtin; refine wpList_append_op rfl _ _ rfl w.heap.size (.slice a5 (inL R T).length c5) (inL R T).length (inL R T) rfl rfl (hO5w.out.alloc _) wr.heap.size x rfl (mo_cells _ _ _ (opAt_alloc wr x.o x.dep 36)) (by omega) (by simp; omega) ?_; intro g7 c7 w7 hO7 hG7 hat7 hlt7; have hO4' := (hO4w.out.alloc (.cells (x.o.cells x.dep) 36)).kept hG7 hap.out; have hr7 := own_rs_at hO4' hmm; have hO6' := (hO6w.out.alloc (.cells (x.o.cells x.dep) 36)).kept hG7 (rows_apart (hO6w.out.alloc (.cells (x.o.cells x.dep) 36)) (hO5w.out.alloc (.cells (x.o.cells x.dep) 36)) (by decide)); have hp7 := own_ps_at hO6'; have hs7 := hG7.size; have hc7 := rs_id hr7 hx?; have f0 := hc7.1; have f1 := hc7.2))
            go_roundw
            case rel =>
              have B7 := (hB0.out.alloc (by omega) (.cells (x.o.cells x.dep) 36)).grown hG7 (by simp; omega) (fun j hj => ((hO5w.out.alloc (.cells (x.o.cells x.dep) 36)).lt j hj).1)
              have B8 := below2 B7 hB8
              have sz7 := B7.size
              have sz8 := B8.size
              have B9 := B8.grown hG9 (by omega) (fun j hj => by cases hj)
              have sz9 := B9.size
              have B10 := B9.grown hG10 (by omega) (fun j hj => by have := (hO9.lt j hj).1; omega)
              have hO7' := (own_kept hO7 hB8).kept hG9 none_or
              have hO7w := hO7'.kept hG10 (apart_lt (own_kept hO7 hB8) hO9 (Nat.le_refl _))
              have hO8w := (hO8.kept hG9 none_or).kept hG10 (apart_lt hO8 hO9 (Nat.le_refl _))
              refine ⟨T ++ [p], HRO', hid ?_, hid ?_, hid ?_, hid (apart_gt hO10 (own_kept hO7 hB8) (Nat.le_refl _)), hid B10⟩
              · rw [Hlf.out]
                exact Go.Joins.ownsRow_le hO10 (by omega)
              · rw [Hin.out]
                have : (inL R T ++ [x]).length = (inL R T).length + 1 := by simp
                show World.ownsRow _ _ _ _ _ (List.length _) _
                exact hO7w
              · rw [Hin.out, List.map_append]
                show World.ownsRow _ _ _ _ _ (List.length _) _
                have e : verv ((inL R T).map Mo.m ++ [x].map Mo.m) = vwith (verv ((inL R T).map Mo.m)) x.o.id := Hv.out
                rw [e]
                exact Go.Joins.ownsRow_le hO8w (by omega)
            case measure =>
              obtain ⟨a10, c10, e10, _⟩ := owned_rs hO10
              rw [e10]
              first | (simp [slen, hmm]; done) | (simp [slen, hmm]; omega)
end
end Go.Proofs.YtlncokkpdkddlaaGreat
