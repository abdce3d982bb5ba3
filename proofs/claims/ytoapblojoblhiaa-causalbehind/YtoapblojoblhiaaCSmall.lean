/- small: are operations few enough to be asked about? -/
import Derived.Test.YtoapblojoblhiaaCArg
import Derived.Laws.OwnMore
namespace Go.Proofs.Ytoapblojoblhiaa
section
open Go.RowKit Go.Maps
open Go.Sort (grow)

theorem gt_snoc_ne (u : List Dt) (d : Dt) (a : Int) (h : a ≠ d.1) : gt (u ++ [d]) a = gt u a := by
  induction u with
  | nil => show (if d.1 = a then d.2 else 0) = 0; rw [if_neg (fun e => h e.symm)]
  | cons x r ih => show (if x.1 = a then x.2 else gt (r ++ [d]) a) = (if x.1 = a then x.2 else gt r a); rw [ih]

theorem gt_snoc_eq (u : List Dt) (d : Dt) (h : ∀ x ∈ u, x.1 ≠ d.1) : gt (u ++ [d]) d.1 = d.2 := by
  rw [gt_append u [d] d.1 h]
  show (if d.1 = d.1 then d.2 else 0) = d.2
  rw [if_pos rfl]

theorem vm_snoc {u : List Dt} {d : Dt} (h : VM u) (hd : mayd d = true) (hu : ∀ x ∈ u, x.1 < d.1) : VM (u ++ [d]) :=
  ⟨List.pairwise_append.2 ⟨h.ac, List.pairwise_singleton _ _, fun x hx y hy => by simp at hy; rw [hy]; exact hu x hx⟩, fun x hx => by
    rcases List.mem_append.1 hx with hx | hx
    · exact h.may x hx
    · simp at hx; rw [hx]; exact hd⟩

theorem vm_init {u : List Dt} {e : Dt} (h : VM (u ++ [e])) : VM u ∧ ∀ x ∈ u, x.1 < e.1 :=
  ⟨⟨(List.pairwise_append.1 h.ac).1, fun x hx => h.may x (List.mem_append_left _ hx)⟩, fun x hx => (List.pairwise_append.1 h.ac).2.2 x hx e (by simp)⟩

theorem vwith_no {v : List Dt} {d : Dt} (h : mayd d = false) : vwith v d = v := by
  unfold vwith
  rw [if_neg (by rw [h]; exact Bool.false_ne_true)]

theorem vwith_new {v : List Dt} {d : Dt} (hv : VM v) (hd : mayd d = true) (hu : ∀ x ∈ v, x.1 < d.1) : vwith v d = v ++ [d] := by
  refine vm_ext (vwith_vm hv d) (vm_snoc hv hd hu) fun a => ?_
  rw [vwith_gt hv hd]
  by_cases e : d.1 = a
  · subst e
    rw [if_pos rfl, gt_snoc_eq v d (fun x hx => Int.ne_of_lt (hu x hx)), gt_none (fun x hx => Int.ne_of_lt (hu x hx))]
    have := ((mayd_iff d).1 hd).2.2.1
    omega
  · rw [if_neg e, gt_snoc_ne v d a (fun h => e h.symm)]

theorem vwith_last {u : List Dt} {e d : Dt} (hv : VM (u ++ [e])) (hd : mayd d = true) (he : e.1 = d.1) (hl : e.2 ≤ d.2) : vwith (u ++ [e]) d = u ++ [d] := by
  obtain ⟨h1, h2⟩ := vm_init hv
  have h2' : ∀ x ∈ u, x.1 < d.1 := fun x hx => he ▸ h2 x hx
  refine vm_ext (vwith_vm hv d) (vm_snoc h1 hd h2') fun a => ?_
  rw [vwith_gt hv hd]
  by_cases ea : d.1 = a
  · subst ea
    rw [if_pos rfl, gt_snoc_eq u d (fun x hx => Int.ne_of_lt (h2' x hx)), ← he, gt_snoc_eq u e (fun x hx => Int.ne_of_lt (h2 x hx))]
    omega
  · rw [if_neg ea, gt_snoc_ne u d a (fun h => ea h.symm), gt_snoc_ne u e a (fun h => ea (he ▸ h.symm))]

theorem fold_mem {P : List Dt} {e : Dt} (h : e ∈ P.foldl vwith []) : e ∈ P := by
  have hv := foldl_vm P [] vm_nil
  have hg := gt_some hv.ac h
  have hm := (mayd_iff e).1 (hv.may e h)
  have h1 := (foldl_gt P [] vm_nil e.1 e.2).1 (by rw [hg]; exact Int.le_refl _)
  rcases h1 with h0 | ⟨d, hd, hmd, h2, h3⟩
  · have : gt [] e.1 = 0 := rfl
    omega
  · have h4 := (foldl_gt P [] vm_nil d.1 d.2).2 (Or.inr ⟨d, hd, hmd, rfl, Int.le_refl _⟩)
    rw [h2, hg] at h4
    have : d = e := Prod.ext h2 (by omega)
    exact this ▸ hd

theorem fold_rise (l : List Dt) : (rise l).foldl vwith [] = l.foldl vwith [] := by
  refine vm_ext (foldl_vm _ [] vm_nil) (foldl_vm _ [] vm_nil) fun a => ?_
  have key : ∀ s, s ≤ gt ((rise l).foldl vwith []) a ↔ s ≤ gt (l.foldl vwith []) a := by
    intro s
    rw [foldl_gt _ [] vm_nil, foldl_gt _ [] vm_nil]
    constructor
    · rintro (h | ⟨d, hd, h⟩)
      · exact Or.inl h
      · exact Or.inr ⟨d, (mem_rise d l).1 hd, h⟩
    · rintro (h | ⟨d, hd, h⟩)
      · exact Or.inl h
      · exact Or.inr ⟨d, (mem_rise d l).2 hd, h⟩
  have h1 := (key _).1 (Int.le_refl _)
  have h2 := (key _).2 (Int.le_refl _)
  omega

theorem dl_le {e d : Dt} (h : dl e d = true) : e.1 < d.1 ∨ (e.1 = d.1 ∧ e.2 ≤ d.2) := by
  rw [dl_iff] at h
  omega

/-- What one more dot of a rising row makes of the vector. -/
theorem fold_step {P : List Dt} {d : Dt} (hP : ∀ e ∈ P, dl e d = true) : (∀ u e, P.foldl vwith [] = u ++ [e] → e.1 ≠ d.1 → e.1 < d.1) ∧ (mayd d = true → P.foldl vwith [] = [] → vwith (P.foldl vwith []) d = [d]) ∧ (∀ u e, mayd d = true → P.foldl vwith [] = u ++ [e] → e.1 = d.1 → vwith (P.foldl vwith []) d = u ++ [d]) ∧ (∀ u e, mayd d = true → P.foldl vwith [] = u ++ [e] → e.1 ≠ d.1 → vwith (P.foldl vwith []) d = P.foldl vwith [] ++ [d]) := by
  have hv := foldl_vm P [] vm_nil
  have hm := fun e (he : e ∈ P.foldl vwith []) => dl_le (hP e (fold_mem he))
  refine ⟨fun u e h hne => ?_, fun hd h => ?_, fun u e hd h he => ?_, fun u e hd h hne => ?_⟩
  · have := hm e (by rw [h]; simp)
    omega
  · rw [h]
    exact vwith_new vm_nil hd (fun x hx => by simp at hx)
  · rw [h] at hv ⊢
    refine vwith_last hv hd he ?_
    have := hm e (by rw [h]; simp)
    omega
  · have h1 : e.1 < d.1 := by
      have := hm e (by rw [h]; simp)
      omega
    refine vwith_new hv hd fun x hx => ?_
    rw [h] at hx hv
    rcases List.mem_append.1 hx with hx | hx
    · exact Int.lt_trans ((vm_init hv).2 x hx) h1
    · simp at hx
      rw [hx]
      exact h1

theorem flat_snoc_set (u : List Dt) (e d : Dt) : ((flat (u ++ [e])).set (u.length * 2) (.int .i64 d.1)).set (u.length * 2 + 1) (.int .i64 d.2) = flat (u ++ [d]) := by
  rw [flat_append, flat_append]
  have hl := flat_length u
  rw [List.set_append_right _ _ (by omega), List.set_append_right _ _ (by omega)]
  have e0 : u.length * 2 - (flat u).length = 0 := by omega
  have e1 : u.length * 2 + 1 - (flat u).length = 1 := by omega
  rw [e0, e1]
  rfl

theorem list_last (v : List Dt) : v = [] ∨ ∃ u e, v = u ++ [e] := by
  rcases List.eq_nil_or_concat v with h | ⟨u, e, h⟩
  · exact Or.inl h
  · exact Or.inr ⟨u, e, by simpa using h⟩

set_option maxRecDepth 100000 in
set_option maxHeartbeats 4000000 in
theorem version_any (a : Option Addr) (n c : Nat) (L : List Mo) (w : World) (hs : OS w a n c L) (hF : ∀ x ∈ L, x.o.Fits ∧ Dws x.V ∧ x.n ≤ 1000000) (hn : n ≤ 1000) :
    Calls Try.prog 13 #[.slice a n c] w (Gives w (verv (L.map Mo.m))) := by
  have hlen := hs.len
  have hidl : (L.map (fun x => x.o.id)).length = L.length := by simp
  have hidd : Dws (L.map (fun x => x.o.id)) := fun d hd => by
    obtain ⟨x, hx, rfl⟩ := List.mem_map.1 hd
    exact ⟨(hF x hx).1.id0, (hF x hx).1.id1⟩
  have hver : Hid (verv (L.map Mo.m) = (rise (L.map (fun x => x.o.id))).foldl vwith []) := hid (by
    rw [fold_rise]
    unfold verv
    rw [List.map_map]
    rfl)
  have hI := ids_any a n c L w hs (by omega)
  generalize verv (L.map Mo.m) = VR at *
  generalize L.map (fun x => x.o.id) = IL at *
  have hil : IL.length ≤ 1000 := by omega
  clear hidl hlen hF hs
  go_enter Try.func13, Try.ntmps13
  go_wp2_with (first
    | (go_at_call 30; refine hI.mono ?_; rintro e w2 ⟨v2, rfl, hO2, hB2⟩; obtain ⟨a2, c2, rfl, hp2⟩ := owned_ps hO2 rfl; have hs2 := hB2.size; have HB2 := hid hB2; have HO2 := hid hO2; clear hB2 hO2)
    | (go_at_call 29; refine (rising_any a2 IL.length c2 IL w2 hp2 hidd (by omega)).mono ?_; rintro e w3 ⟨g3, c3, rfl, hO3, hB3⟩))
  have hps3 := hO3.ps rfl
  have hrl : (rise IL).length ≤ 1000 := by
    have h1 : (rise IL).length ≤ IL.length := rise_length_le IL
    omega
  have hBw := hid (below2 HB2.out hB3)
  have hs3 := hBw.out.size
  have hup := hid (up_rise IL)
  generalize rise IL = RL at *
  clear hO3 hB3 hI hidd HB2 HO2 hp2
  have HP3 := hid hps3
  have hpc := hps3.cap
  have hpm := hps3.max
  clear hps3
  go_loopw [11, 3] (fun i v wr => ∃ q : Nat, q ≤ RL.length ∧ i = .int .i64 q ∧ Hid (OwnV wr w3.heap.size v ((RL.take q).foldl vwith [])) ∧ Hid (RowKit.Below w3.heap.size w3 wr)) (fun i _ _ => RL.length - (intOf i).toNat)
  case atStart => exact ⟨0, by omega, rfl, hid (World.ownsRow_nil _ _ _ _), hid (Below.refl _ _)⟩
  case round =>
    obtain ⟨q, hq, rfl, hO, hBr⟩ := hrel
    by_cases hql : q < RL.length
    · obtain ⟨g', o', hga, hg', hcell'⟩ := (HP3.out.below hBr.out).at (by omega)
      obtain ⟨rfl, rfl⟩ : g3 = g' ∧ 0 = o' := by simpa using hga
      obtain ⟨d0, d1⟩ := hcell' q hql
      rw [Nat.zero_add] at d0 d1
      have hst := hid (show (RL.take (q + 1)).foldl vwith [] = vwith ((RL.take q).foldl vwith []) RL[q] by rw [List.take_succ_eq_append_getElem hql, List.foldl_append]; rfl)
      have hle : ∀ e ∈ RL.take q, dl e RL[q] = true := fun e he => by
        obtain ⟨j, hj, rfl⟩ := List.mem_take_iff_getElem.1 he
        exact List.pairwise_iff_getElem.1 hup.out j q _ hql (by omega)
      obtain ⟨S0, S1, S2, S3⟩ := fold_step hle
      have hvl : ((RL.take q).foldl vwith []).length ≤ q := by
        have := foldl_length (RL.take q) []
        rw [List.length_take] at this
        simp at this
        omega
      have hS1 := hid S1
      have hS2 := hid S2
      have hS3 := hid S3
      clear hle S0 S1 S2 S3
      generalize RL[q] = d at *
      generalize (RL.take q).foldl vwith [] = V at *
      have hF5 : Far wr (wr.alloc (.cells #[.int .i64 d.1, .int .i64 d.2] 24)) := (Far.refl wr).alloc _
      have hszr := hBr.out.size
      have k0 : (wr.alloc (.cells #[.int .i64 d.1, .int .i64 d.2] 24)).cell? ⟨wr.heap.size, 0, none⟩ = some (.int .i64 d.1) := by go_simp
      have k1 : (wr.alloc (.cells #[.int .i64 d.1, .int .i64 d.2] 24)).cell? ⟨wr.heap.size, 1, none⟩ = some (.int .i64 d.2) := by go_simp
      have hO5 := hid (hO.out.alloc (.cells #[.int .i64 d.1, .int .i64 d.2] 24))
      have hB5 := hid (below2 hBr.out hF5.below)
      have hs5 := hF5.below.size
      have hM := may_any d (wr.alloc (.cells #[.int .i64 d.1, .int .i64 d.2] 24))
      have hqs : Hid (wr.heap.size < (wr.alloc (.cells #[.int .i64 d.1, .int .i64 d.2] 24)).heap.size) := hid (by simp)
      obtain ⟨d1', d2'⟩ := d
      clear hcell'
      cases hmd : mayd (d1', d2')
      · rw [hmd] at hM
        have hno := hid (vwith_no (v := V) hmd)
        clear hmd hS1 hS2 hS3
        go_wp2_with (first
          | (go_at_call 31; refine hM.mono ?_; rintro e w6 ⟨rfl, hF6⟩))
        go_roundw
        case rel =>
          refine ⟨q + 1, by omega, by go_num, hid ?_, hid (below2 hB5.out hF6.below)⟩
          rw [hst.out, hno.out]
          exact own_far' hO5.out hF6
        case measure => simp [intOf]; omega
      · rw [hmd] at hM
        have hmd' := hid hmd
        clear hmd
        rcases list_last V with hV | ⟨u, e, hV⟩
        · obtain ⟨av, cv, rfl, hpv⟩ := owned_ps hO.out rfl
          have heq := hid (hS1.out hmd'.out hV)
          subst hV
          clear hS1 hS2 hS3 hpv hO
          go_upto_region 7 with (first
            | (go_at_call 31; refine hM.mono ?_; rintro e w6 ⟨rfl, hF6⟩; have j0 := (hF6.below.cell (p := ⟨wr.heap.size, 0, none⟩) hqs.out).trans k0; have j1 := (hF6.below.cell (p := ⟨wr.heap.size, 1, none⟩) hqs.out).trans k1))
          have hs6 := hF6.below.size
          have HB6 := hid (below2 hB5.out hF6.below)
          have hO6 := own_far' hO5.out hF6
          haveI : Nonempty (Wb w6) := ⟨⟨w6, Below.refl _ _⟩⟩
          have K0 : ∀ p : Wb w6, p.u.cell? ⟨wr.heap.size, 0, none⟩ = some (.int .i64 d1') := fun p => (p.h.cell (cell_in j0)).trans j0
          have K1 : ∀ p : Wb w6, p.u.cell? ⟨wr.heap.size, 1, none⟩ = some (.int .i64 d2') := fun p => (p.h.cell (cell_in j1)).trans j1
          refine wp_region_below mixed (by kernel_rfl) ?_
          repeat (go_big_quiet_step (fail))
          refine wpQuiet_nil ?_
          intro _ hw'
          obtain ⟨p, hw''⟩ := hw'
          subst hw''
          have y0 := K0 p
          have y1 := K1 p
          have hB7 := p.h
          have hs7 := hB7.size
          have hO7 := hO6.kept (below_grown hB7) none_or
          generalize p.u = w7 at *
          clear K0 K1
          have hO7' : World.ownsRow w7 w3.heap.size 24 2 (.slice av 0 cv) 0 [] := hO7
          have HO7 := hid hO7'
          clear hO7 hO7' hO6
          go_wp2_with (first
            | (at_builtin; refine wpList_append_dots rfl _ _ 25 Try.underlying25 rfl w3.heap.size _ 0 [] rfl (HO7.out.alloc _) (some ⟨w7.heap.size, 0, none⟩) 1 1 [(d1', d2')] rfl (ps_one w7 (d1', d2')) (by omega) (by simp; omega) ?_; intro v8 w8 ho8 hg8))
          go_roundw
          case rel =>
            have hb7 := below2 HB6.out hB7
            refine ⟨q + 1, by omega, by go_num, hid ?_, hid ((hb7.alloc (by omega) _).grown hg8 (by simp; omega) (fun j hj => (HO7.out.lt j hj).1))⟩
            rw [hst.out, heq.out]
            exact ho8
          case measure => simp [intOf]; omega
        · by_cases he : e.1 = d1'
          · have hvl' : u.length + 1 ≤ q := by rw [hV] at hvl; simpa using hvl
            have hlV : V.length = u.length + 1 := by rw [hV]; simp
            obtain ⟨gv, cv, rfl, hgb, hgl⟩ := (hO.out : World.ownsRow _ _ _ _ _ _ _).form (by omega)
            rw [hlV] at hO hO5
            have HV := hid hV
            have HlV := hid hlV
            obtain ⟨m, hm⟩ : ∃ m, u.length = m := ⟨_, rfl⟩
            rw [hlV, hm]
            rw [hm] at hO hO5 hvl'
            have Hm := hid hm
            obtain ⟨f0, f1⟩ := flat_get V u.length (by omega)
            have eL : V[u.length]'(by omega) = e := by simp [hV]
            rw [eL, hm] at f0 f1
            clear hS1 hO hlV hm eL hvl hV
            have heq := hid (hS2.out u e hmd'.out HV.out he)
            have hb : (e.1 == d1') = true := by simp [he]
            clear hS2 hS3 he
            go_upto_region 7 with (first
              | (go_at_call 31; refine hM.mono ?_; rintro e w6 ⟨rfl, hF6⟩; have j0 := (hF6.below.cell (p := ⟨wr.heap.size, 0, none⟩) hqs.out).trans k0; have j1 := (hF6.below.cell (p := ⟨wr.heap.size, 1, none⟩) hqs.out).trans k1))
            have hs6 := hF6.below.size
            have HB6 := hid (below2 hB5.out hF6.below)
            have hO6 := own_far' hO5.out hF6
            haveI : Nonempty (Wb w6) := ⟨⟨w6, Below.refl _ _⟩⟩
            have K0 : ∀ p : Wb w6, p.u.cell? ⟨wr.heap.size, 0, none⟩ = some (.int .i64 d1') := fun p => (p.h.cell (cell_in j0)).trans j0
            have K1 : ∀ p : Wb w6, p.u.cell? ⟨wr.heap.size, 1, none⟩ = some (.int .i64 d2') := fun p => (p.h.cell (cell_in j1)).trans j1
            have c0 : w6.cell? ⟨gv, m * 2, none⟩ = some (.int .i64 e.1) := by rw [hO6.cellAt (m * 2) (by omega)]; exact f0
            have C0 : ∀ p : Wb w6, p.u.cell? ⟨gv, m * 2, none⟩ = some (.int .i64 e.1) := fun p => (p.h.cell (cell_in c0)).trans c0
            refine wp_region_below mixed (by kernel_rfl) ?_
            repeat (go_big_quiet_step (fail))
            refine wpQuiet_nil ?_
            intro _ hw'
            obtain ⟨p, hw''⟩ := hw'
            subst hw''
            have y0 := K0 p
            have y1 := K1 p
            have hB7 := p.h
            have hs7 := hB7.size
            have hO7 := hO6.kept (below_grown hB7) none_or
            generalize p.u = w7 at *
            clear K0 K1
            have z0 := hO7.frozenAt (m * 2)
            have z1 := hO7.frozenAt (m * 2 + 1)
            have hne : gv ≠ wr.heap.size := by omega
            have t0 := (hO7.cellAt (m * 2) (by omega)).trans f0
            have t1 := (hO7.cellAt (m * 2 + 1) (by omega)).trans f1
            obtain ⟨hP1, hG1⟩ := hO7.stored (m * 2) (.int .i64 d1')
            obtain ⟨hP2, hG2⟩ := hP1.stored (m * 2 + 1) (.int .i64 d2')
            have HP2 := hid hP2
            have HG := hid (And.intro hG1 hG2)
            clear hP1 hP2 hG1 hG2 hO7 hO6
            go_wp2
            go_roundw
            case rel =>
              have hb7 := below2 HB6.out hB7
              have hG := HG.out
              refine ⟨q + 1, by omega, by go_num, hid ?_, hid ((hb7.grown hG.1 (by omega) (fun j hj => by cases hj; exact hgb)).grown hG.2 (by simp; omega) (fun j hj => by cases hj; exact hgb))⟩
              rw [hst.out, heq.out]
              have hp := HP2.out
              rw [HV.out, ← Hm.out, flat_snoc_set u e (d1', d2')] at hp
              show World.ownsRow _ _ _ _ _ (List.length _) _
              rw [List.length_append, ← Hm.out]
              exact hp
            case measure => simp [intOf]; omega
          · have hvl' : u.length + 1 ≤ q := by rw [hV] at hvl; simpa using hvl
            have hlV : V.length = u.length + 1 := by rw [hV]; simp
            obtain ⟨gv, cv, rfl, hgb, hgl⟩ := (hO.out : World.ownsRow _ _ _ _ _ _ _).form (by omega)
            rw [hlV] at hO hO5
            have HV := hid hV
            have HlV := hid hlV
            obtain ⟨m, hm⟩ : ∃ m, u.length = m := ⟨_, rfl⟩
            rw [hlV, hm]
            rw [hm] at hO hO5 hvl'
            have Hm := hid hm
            obtain ⟨f0, f1⟩ := flat_get V u.length (by omega)
            have eL : V[u.length]'(by omega) = e := by simp [hV]
            rw [eL, hm] at f0 f1
            clear hS1 hO hlV hm eL hvl hV
            have heq := hid (hS3.out u e hmd'.out HV.out he)
            have hb : (e.1 == d1') = false := by simp [he]
            clear hS2 hS3 he
            go_upto_region 7 with (first
              | (go_at_call 31; refine hM.mono ?_; rintro e w6 ⟨rfl, hF6⟩; have j0 := (hF6.below.cell (p := ⟨wr.heap.size, 0, none⟩) hqs.out).trans k0; have j1 := (hF6.below.cell (p := ⟨wr.heap.size, 1, none⟩) hqs.out).trans k1))
            have hs6 := hF6.below.size
            have HB6 := hid (below2 hB5.out hF6.below)
            have hO6 := own_far' hO5.out hF6
            haveI : Nonempty (Wb w6) := ⟨⟨w6, Below.refl _ _⟩⟩
            have K0 : ∀ p : Wb w6, p.u.cell? ⟨wr.heap.size, 0, none⟩ = some (.int .i64 d1') := fun p => (p.h.cell (cell_in j0)).trans j0
            have K1 : ∀ p : Wb w6, p.u.cell? ⟨wr.heap.size, 1, none⟩ = some (.int .i64 d2') := fun p => (p.h.cell (cell_in j1)).trans j1
            have c0 : w6.cell? ⟨gv, m * 2, none⟩ = some (.int .i64 e.1) := by rw [hO6.cellAt (m * 2) (by omega)]; exact f0
            have C0 : ∀ p : Wb w6, p.u.cell? ⟨gv, m * 2, none⟩ = some (.int .i64 e.1) := fun p => (p.h.cell (cell_in c0)).trans c0
            refine wp_region_below mixed (by kernel_rfl) ?_
            repeat (go_big_quiet_step (fail))
            refine wpQuiet_nil ?_
            intro _ hw'
            obtain ⟨p, hw''⟩ := hw'
            subst hw''
            have y0 := K0 p
            have y1 := K1 p
            have hB7 := p.h
            have hs7 := hB7.size
            have hO7 := hO6.kept (below_grown hB7) none_or
            generalize p.u = w7 at *
            clear K0 K1
            have HO7 := hid hO7
            clear hO7 hO6
            go_wp2_with (first
              | (at_builtin; refine wpList_append_dots rfl _ _ 25 Try.underlying25 rfl w3.heap.size _ (m + 1) _ rfl (HO7.out.alloc _) (some ⟨w7.heap.size, 0, none⟩) 1 1 [(d1', d2')] rfl (ps_one w7 (d1', d2')) (by omega) (by simp; omega) ?_; intro v8 w8 ho8 hg8))
            go_roundw
            case rel =>
              have hb7 := below2 HB6.out hB7
              refine ⟨q + 1, by omega, by go_num, hid ?_, hid ((hb7.alloc (by omega) _).grown hg8 (by simp; omega) (fun j hj => (HO7.out.lt j hj).1))⟩
              rw [hst.out, heq.out]
              show World.ownsRow _ _ _ _ _ (List.length _) _
              rw [List.length_append, flat_append, HlV.out, Hm.out]
              exact ho8
            case measure => simp [intOf]; omega
    · obtain rfl : q = RL.length := by omega
      go_wp2
      go_ret
      refine ⟨_, rfl, ?_, below2 hBw.out hBr.out⟩
      have := hO.out
      rw [List.take_length, ← hver.out] at this
      exact sbase this hs3
end

section
open Go.RowKit
open Go.Sort (grow)

/-- Few enough. -/
def smb (n : Nat) (L : List Mo) : Bool := L.all (fun x => decide (x.n ≤ 50)) && decide (n ≤ 100)

theorem smb_iff {n : Nat} {L : List Mo} : smb n L = true ↔ (∀ x ∈ L, x.n ≤ 50) ∧ n ≤ 100 := by
  unfold smb
  simp

set_option maxRecDepth 100000 in
set_option maxHeartbeats 2000000 in
theorem small_any (a : Option Addr) (n c : Nat) (L : List Mo) (w : World) (hs : OS w a n c L) : Tells 9 #[.slice a n c] w (.bool (smb n L)) := by
  have hlen := hs.len
  have hmx : n ≤ maxLen := Nat.le_trans hs.cap hs.max
  unfold maxLen at hmx
  go_enter Try.func9, Try.ntmps9
  go_wp2
  go_loopw [3] (fun i wr => ∃ k : Nat, k ≤ n ∧ i = .int .i64 k ∧ Hid (∀ x ∈ L.take k, x.n ≤ 50) ∧ Hid (Far w wr)) (fun i _ => n - (intOf i).toNat)
  case atStart => exact ⟨0, by omega, rfl, hid (by simp), hid (Far.refl _)⟩
  case round =>
    obtain ⟨k, hk, rfl, hall, hFr⟩ := hrel
    by_cases hlt : k < n
    · have hkl : k < L.length := by omega
      obtain ⟨g, o, rfl, hg, hcell⟩ := (hs.far hFr.out).at (by omega)
      have c3 := (hcell k hkl).c3
      have hxm : L[k].n ≤ maxLen := Nat.le_trans (hs.deps _ (List.getElem_mem hkl)).cap (hs.deps _ (List.getElem_mem hkl)).max
      unfold maxLen at hxm
      clear hcell
      have hst : Hid (∀ x ∈ L.take (k + 1), x ∈ L.take k ∨ x = L[k]) := hid (fun x hx => by
        rw [List.take_succ_eq_append_getElem hkl] at hx
        rcases List.mem_append.1 hx with h | h
        · exact Or.inl h
        · exact Or.inr (List.mem_singleton.1 h))
      have hin : Hid (L[k] ∈ L) := hid (List.getElem_mem hkl)
      generalize L[k] = x at *
      by_cases h50 : x.n ≤ 50
      · have hb : decide ((50 : Int) < (x.n : Int)) = false := by simp; omega
        go_wp2
        go_roundw
        case rel =>
          refine ⟨k + 1, by omega, by go_num, hid (fun y hy => ?_), hFr⟩
          rcases hst.out y hy with h | h
          · exact hall.out y h
          · rw [h]; exact h50
        case measure => simp [intOf]; omega
      · have hb : decide ((50 : Int) < (x.n : Int)) = true := by simp; omega
        have hno : Hid (smb n L = false) := hid (by
          cases h : smb n L with
          | false => rfl
          | true => exact absurd ((smb_iff.1 h).1 x hin.out) h50)
        go_wp2
        go_ret
        exact ⟨by rw [hno.out]; rfl, hFr.out⟩
    · obtain rfl : k = n := by omega
      have hall' : Hid (smb k L = decide (k ≤ 100)) := hid (by
        have h := hall.out
        rw [← hlen, List.take_length] at h
        unfold smb
        rw [List.all_eq_true.2 (fun x hx => by simpa using h x hx), Bool.true_and])
      by_cases hn : k ≤ 100
      · have hb : decide ((k : Int) ≤ (100 : Int)) = true := by simp; omega
        have hd : decide (k ≤ 100) = true := by simpa using hn
        rw [hd] at hall'
        clear hd
        go_wp2
        go_ret
        exact ⟨by rw [hall'.out]; rfl, hFr.out⟩
      · have hb : decide ((k : Int) ≤ (100 : Int)) = false := by simp; omega
        have hd : decide (k ≤ 100) = false := by simpa using hn
        rw [hd] at hall'
        clear hd
        go_wp2
        go_ret
        exact ⟨by rw [hall'.out]; rfl, hFr.out⟩
end
end Go.Proofs.Ytoapblojoblhiaa
