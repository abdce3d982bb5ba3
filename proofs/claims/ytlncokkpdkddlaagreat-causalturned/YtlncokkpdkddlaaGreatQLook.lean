/- look: of each of these places whether it is ready now, or for which dot it waits. -/
import Derived.Test.YtlncokkpdkddlaaGreatGLook
import Derived.Test.YtlncokkpdkddlaaGreatGLook
import Derived.Deep.RegionLaw
import Derived.Deep.CutRange
namespace Go.Proofs.YtlncokkpdkddlaaGreat
open Go.RowKit Go.Maps Go.WideElems Go.MapKept
open Go.ChangeMaps (setBlock heap_setBlock_same heap_setBlock_other)

section
variable {w1 : World} {ra : Option Addr} {rc : Nat} {R : List Mo} {th : Dt → Bool} {kt : Nat} {K : Option Value} {v0 : Value} {No : Nat → Prop}

set_option maxRecDepth 100000 in
set_option maxHeartbeats 4000000 in
theorem look_any {w : World} {s : Sq} {v : Value} {zs : List Int} {kw : Nat} (h : TK w1 ra rc R w th s v zs kt kw K v0 No) (hR : OS w1 ra R.length rc R) (hF : ∀ x ∈ R, Dws x.V ∧ x.n ≤ 1000000) (hn : R.length ≤ 100000)
    (ps : List Nat) (pa : Option Addr) (pc : Nat) (hpa : ps ≠ [] → ∃ pb, pa = some ⟨pb, 0, none⟩ ∧ No pb ∧ ∀ k (hk : k < ps.length), w.cell? ⟨pb, k, none⟩ = some (.int .i64 ((ps[k] : Nat) : Int))) (hpl : ∀ p ∈ ps, p < R.length) (hpn : ps.length ≤ pc ∧ pc ≤ maxLen)
    (hOk : Sq.Ok (R.map Mo.V) s) (hK : ∀ d, K = some (dv d) → th d = true) (hno : ∀ i, No i → i < w.heap.size) (hkw : kw + ps.length ≤ 100000000) (hzs : zs.length + ps.length ≤ 900000) :
    Calls Tryz.prog 21 #[.pointer (some ⟨w1.heap.size + 2, 0, none⟩), .slice pa ps.length pc] w fun e w' => e = .returned (.tuple #[]) ∧
      ∃ v' zs' kw', TK w1 ra rc R w' th (ps.foldl (Sq.one (R.map Mo.V) th) s) v' zs' kt kw' K v0 No ∧ kw' ≤ kw + ps.length ∧ zs'.length ≤ zs.length + ps.length ∧ (∀ i, No i → i < w.heap.size → w'.heap[i]? = w.heap[i]?) := by
  go_enter Tryz.func21, Tryz.ntmps21
  go_wp2_with fail
  go_step3
  go_wp2
  go_step3
  go_wp2
  go_loopw [12] (fun i wr => ∃ (k : Nat) (v' : Value) (zs' : List Int) (kw' : Nat), k ≤ ps.length ∧ i = .int .i64 k ∧ kw' ≤ kw + k ∧ zs'.length ≤ zs.length + k ∧ Hid (TK w1 ra rc R wr th ((ps.take k).foldl (Sq.one (R.map Mo.V) th) s) v' zs' kt kw' K v0 No) ∧ Hid ((∀ i, No i → i < w.heap.size → wr.heap[i]? = w.heap[i]?) ∧ w.heap.size ≤ wr.heap.size)) (fun i _ => ps.length - (intOf i).toNat)
  case atStart => exact ⟨0, v, zs, kw, by omega, rfl, by omega, by omega, hid h, hid ⟨fun _ _ _ => rfl, Nat.le_refl _⟩⟩
  case round =>
    obtain ⟨k, v', zs', kw', hk, rfl, hkw', hzs', hT, hN⟩ := hrel
    have hpn1 := hpn.1
    have hpn2 := hpn.2
    by_cases hlt : k < ps.length
    · obtain ⟨pb, rfl, hpb, hpc⟩ := hpa (fun e => by rw [e] at hlt; simp at hlt)
      have hp0 := hpc k hlt
      have hpR : ps[k] < R.length := hpl _ (List.getElem_mem hlt)
      have e0 : wr.cell? ⟨pb, k, none⟩ = some (.int .i64 ((ps[k] : Nat) : Int)) := (World.cell?_of_block (hN.out.1 pb hpb (hno pb hpb))).trans hp0
      have hst := hid (show (ps.take (k + 1)).foldl (Sq.one (R.map Mo.V) th) s = Sq.one (R.map Mo.V) th ((ps.take k).foldl (Sq.one (R.map Mo.V) th) s) ps[k] by rw [List.take_succ_eq_append_getElem hlt, List.foldl_append]; rfl)
      generalize ps[k] = p at *
      have HOk := hid (hOk.fold (th := th) (ps.take k))
      generalize (ps.take k).foldl (Sq.one (R.map Mo.V) th) s = sk at *
      have hRw := hR.below hT.out.below
      obtain ⟨rg, ro, rfl, hrg, hrc⟩ := hRw.at (by omega)
      have r3 := (hrc p hpR).c3
      have hps3 := hRw.deps _ (List.getElem_mem hpR)
      have hR1 := hR.deps _ (List.getElem_mem hpR)
      have hOk' : Sq.Ok (R.map Mo.V) sk := HOk.out
      have hFx := hF _ (List.getElem_mem hpR)
      have hVV := hid (show (R.map Mo.V).getD p [] = (R[p]).V by simp [List.getD_eq_getElem?_getD, hpR])
      generalize R[p] = x at *
      obtain ⟨op, xa, xn, xc, xV⟩ := x
      have hTK := hT.out
      have hnp : p < sk.nx.length := by rw [hTK.nlen]; exact hpR
      have ht0 : wr.cell? ⟨w1.heap.size + 2, 0, none⟩ = some (.slice (some ⟨rg, ro, none⟩) R.length rc) := by simp [World.cell?, hTK.tk]
      have ht2 : wr.cell? ⟨w1.heap.size + 2, 2, none⟩ = some (.slice (some ⟨w1.heap.size + 3, 0, none⟩) R.length R.length) := by simp [World.cell?, hTK.tk]
      have hx0 : wr.cell? ⟨w1.heap.size + 3, p, none⟩ = some (.int .i64 ((sk.nx[p] : Nat) : Int)) := by simp [World.cell?, hTK.next, nxc, hnp]
      obtain ⟨i, hi⟩ : ∃ i, i = sk.nx[p] := ⟨_, rfl⟩
      rw [← hi] at hx0
      have hig := hid (show sk.nx.getD p 0 = i by rw [hi]; simp [List.getD_eq_getElem?_getD, hnp])
      have hokp : i ≤ xn := by
        have h1 := hOk' p
        rw [hVV.out, hig.out] at h1
        have h2 := hps3.len
        simp only at h1 h2
        omega
      have hxl := hps3.len
      have hxc := hps3.cap
      have hxm := hps3.max
      have hP1 := hR1
      have hxm' : xn ≤ 1000000 := hFx.2
      clear hrc hpc hpa hF hR hRw hps3 hpl
      go_wp2_with fail
      go_cut [31, 32, 33] from 16 to 30 (fun s31 s32 s33 wc => ∃ (a' : Option Addr) (nd : Nat), s31 = .slice a' (xn - i) (xc - i) ∧ s32 = .int .i64 ((xn - i : Nat) : Int) ∧ s33 = .int .i64 0 ∧ Hid (PS w1 a' (xn - i) (xc - i) (xV.drop i)) ∧ wc = wr.drewN nd)
      case first =>
        have HP := hid hR1
        clear hT hTK hN hst hVV hig HOk hOk' hR1 hP1 hi
        by_cases h0 : i = 0
        · subst h0
          go_quiet (fail)
          go_wp2
          go_meet
          exact ⟨xa, _, by simp, by simp, rfl, hid (by simpa using HP.out), rfl⟩
        · obtain ⟨g, o, rfl, hg, _⟩ := HP.out.at (by omega)
          by_cases h1 : i < xc
          · go_quiet (fail)
            go_wp2
            go_meet
            exact ⟨some ⟨g, o + i * 2, none⟩, _, rfl, rfl, rfl, hid (HP.out.drop i hokp), rfl⟩
          · go_quiet (fail)
            go_wp2
            go_meet
            refine ⟨some ⟨g, o, none⟩, _, rfl, rfl, rfl, hid ?_, rfl⟩
            have q1 : xn - i = 0 := by omega
            have q2 : xc - i = 0 := by omega
            have q3 : xV.drop i = [] := List.drop_eq_nil_of_le (by omega)
            rw [q1, q2, q3]
            exact PS.no _ _ _ (by simp) (by omega)
      obtain ⟨a', nd, rfl, rfl, rfl, hPd, rfl⟩ := hcut
      have hdl : (xV.drop i).length = xn - i := by rw [List.length_drop]; omega
      have hsi := hid (And.intro hi hig.out)
      obtain ⟨ln, hln⟩ : ∃ ln, ln = xn - i := ⟨_, rfl⟩
      obtain ⟨cn, hcn⟩ : ∃ cn, cn = xc - i := ⟨_, rfl⟩
      rw [← hln, ← hcn] at hPd
      rw [← hln, ← hcn]
      have hlc : ln ≤ cn ∧ cn ≤ maxLen ∧ ln ≤ 1000000 := by omega
      obtain ⟨hl1, hl2, hl3⟩ := hlc
      have hLN := hid (And.intro hln (And.intro hdl (And.intro hokp hxl)))
      have hT1 := hid (hTK.far ((Far.refl wr).drewN nd))
      have hset : Hid (sk.nx.set p i = sk.nx) := hid (by rw [hi]; exact List.set_getElem_self hnp)
      clear hT hTK ht0 ht2 hx0 r3 hi hln hcn hdl hxl hxc hxm hR1 hP1 hokp
      go_wp2
      go_loopw [33] (fun qv w2 => ∃ q : Nat, q ≤ ln ∧ qv = .int .i64 q ∧ Hid (TK w1 (some ⟨rg, ro, none⟩) rc R w2 th ⟨sk.nx.set p (i + q), sk.W, sk.Z⟩ v' zs' kt kw' K v0 No) ∧ Hid (∀ d ∈ (xV.drop i).take q, th d = true) ∧ Hid ((∀ i, No i → i < w.heap.size → w2.heap[i]? = w.heap[i]?) ∧ w.heap.size ≤ w2.heap.size)) (fun qv _ => ln - (intOf qv).toNat)
      case atStart =>
        refine ⟨0, by omega, rfl, hid ?_, hid (by simp), hN⟩
        rw [Nat.add_zero, hset.out]
        exact hT1.out
      case round =>
        obtain ⟨q, hq, rfl, hT2, hA2, hN2⟩ := hrel
        by_cases hql : q < ln
        · have hTK := hT2.out
          obtain ⟨g, o, rfl, hg, hcell⟩ := (hPd.out.below hTK.below).at (by omega)
          have hqd : q < (xV.drop i).length := by have := hLN.out; omega
          obtain ⟨c0, c1⟩ := hcell q hqd
          have hdw : Dw (xV.drop i)[q] := hFx.1 _ (List.mem_of_mem_drop (List.getElem_mem hqd))
          have hone := hid (fun h2 => one_wait (R := R.map Mo.V) (th := th) (s := sk) hVV.out hsi.out.2 hqd hA2.out h2)
          have htk := hid (show (xV.drop i).take (q + 1) = (xV.drop i).take q ++ [(xV.drop i)[q]] from List.take_succ_eq_append_getElem hqd)
          generalize (xV.drop i)[q] = d at *
          obtain ⟨gm, hDM, hgm⟩ := hTK.there
          obtain ⟨cc, _, _, hlook⟩ := dm_look hDM hdw
          have hlk : ∀ n, (Instr.lookup 46 (.map (some w1.heap.size)) (dv d) true).run Tryz.prog ((wr.alloc (.cells #[.int .i64 d.1, .int .i64 d.2] 32)).drewN n) = .ok (.tuple #[.int .i64 cc, .bool (th d)]) ((wr.alloc (.cells #[.int .i64 d.1, .int .i64 d.2] 32)).drewN n) := fun n => by
            have := (hlook ((wr.alloc (.cells #[.int .i64 d.1, .int .i64 d.2] 32)).drewN n) (((Far.refl wr).alloc _).drewN n |>.below.block _ hDM.lt)).1
            rw [hgm] at this
            exact this
          have hF5 : Far wr (wr.alloc (.cells #[.int .i64 d.1, .int .i64 d.2] 32)) := (Far.refl wr).alloc _
          have hT5 := hTK.far hF5
          have k0 : (wr.alloc (.cells #[.int .i64 d.1, .int .i64 d.2] 32)).cell? ⟨wr.heap.size, 0, none⟩ = some (.int .i64 d.1) := by go_simp
          have k1 : (wr.alloc (.cells #[.int .i64 d.1, .int .i64 d.2] 32)).cell? ⟨wr.heap.size, 1, none⟩ = some (.int .i64 d.2) := by go_simp
          obtain ⟨d1, d2⟩ := d
          have hsz5 : wr.heap.size ≤ (wr.alloc (.cells #[.int .i64 d1, .int .i64 d2] 32)).heap.size := hF5.below.size
          have hN5 : Hid ((∀ i, No i → i < w.heap.size → (wr.alloc (.cells #[.int .i64 d1, .int .i64 d2] 32)).heap[i]? = w.heap[i]?) ∧ w.heap.size ≤ (wr.alloc (.cells #[.int .i64 d1, .int .i64 d2] 32)).heap.size) := hid ⟨fun i hi hl => (hF5.below.block i (Nat.lt_of_lt_of_le hl hN2.out.2)).trans (hN2.out.1 i hi hl), Nat.le_trans hN2.out.2 hsz5⟩
          clear hcell hlook hDM hgm hTK
          go_wp2_with fail
          generalize wr.alloc (.cells #[.int .i64 d1, .int .i64 d2] 32) = w5 at *
          generalize wr.heap.size = qb at *
          have ht1 : w5.cell? ⟨w1.heap.size + 2, 1, none⟩ = some (.map (some w1.heap.size)) := by simp [World.cell?, hT5.tk]
          go_quiet (fail)
          have hT6 := hT5.far ((Far.refl w5).drewN nq)
          have hN6 : Hid ((∀ i, No i → i < w.heap.size → (w5.drewN nq).heap[i]? = w.heap[i]?) ∧ w.heap.size ≤ (w5.drewN nq).heap.size) := hN5
          have k0' : (w5.drewN nq).cell? ⟨qb, 0, none⟩ = some (.int .i64 d1) := k0
          have k1' : (w5.drewN nq).cell? ⟨qb, 1, none⟩ = some (.int .i64 d2) := k1
          clear k0 k1 ht1 hlk hN5 hT5 hsz5
          generalize w5.drewN nq = w6 at *
          have ht2 : w6.cell? ⟨w1.heap.size + 2, 2, none⟩ = some (.slice (some ⟨w1.heap.size + 3, 0, none⟩) R.length R.length) := by simp [World.cell?, hT6.tk]
          have ht3 : w6.cell? ⟨w1.heap.size + 2, 3, none⟩ = some (.map (some (w1.heap.size + 1))) := by simp [World.cell?, hT6.tk]
          have hx6 : w6.cell? ⟨w1.heap.size + 3, p, none⟩ = some (.int .i64 ((i + q : Nat) : Int)) := by simp [World.cell?, hT6.next, nxc, hnp]
          have hf6 := frozen_of_block hT6.next p
          have hiq : i + q ≤ 1000000 := by have := hLN.out; omega
          have HT6 := hid hT6
          cases hth : th (d1, d2)
          · have hth2 := hth
            obtain ⟨D, hD, hMW⟩ := hT6.wait
            obtain ⟨u, zu, st, es, clock, es1, clock1, f, way⟩ := way_open hD (by unfold maxLen; omega) hdw
            clear hT6 hx6 hf6 ht2
            obtain ⟨i0, hin, hz0, hz1, hz2⟩ := info_parts Tryz.info3
            have hwb : w1.heap.size + 1 < w6.heap.size := by have := HT6.out.size; omega
            have hb6 := way.at0
            obtain ⟨wA, hwA⟩ : ∃ wA, wA = setBlock (w6.alloc (.cells #[.int .i64 (p : Int)] 3)).drew (w1.heap.size + 1) (.map es1 clock1) := ⟨_, rfl⟩
            have hb7 : (w6.alloc (.cells #[.int .i64 (p : Int)] 3)).drew.heap[w1.heap.size + 1]? = some (.map es clock) := ((World.grownBy_alloc w6 (.cells #[.int .i64 (p : Int)] 3) none).block _ hwb (by simp)).trans hb6
            have hE1 := way.entry _ hb7
            rw [← hwA] at hE1
            have hbA : wA.heap[w1.heap.size + 1]? = some (.map es1 clock1) := by rw [hwA]; exact heap_setBlock_same hb7 _
            have hoA : ∀ j, j ≠ w1.heap.size + 1 → wA.heap[j]? = (w6.alloc (.cells #[.int .i64 (p : Int)] 3)).heap[j]? := fun j hj => by rw [hwA]; exact heap_setBlock_other hb7 _ hj
            have hsA : wA.heap.size = w6.heap.size + 1 := by rw [hwA]; simp [setBlock]
            have hrA : OI wA (w1.heap.size + 4) u zu := oi_same (World.ownsInts.alloc way.row (.cells #[.int .i64 (p : Int)] 3)) (fun g hg => hoA g (by have := (way.row.1.lt g hg).1; omega))
            have hnA : ∀ j y, ([.int .i64 (p : Int)] : List Value)[j]? = some y → wA.cell? ((⟨w6.heap.size, 0, none⟩ : Addr).add j) = some y := fun j y hy => by
              have := cell_one_new w6 (.int .i64 (p : Int)) 3 j y hy
              rw [← this]
              have hb8 : ((⟨w6.heap.size, 0, none⟩ : Addr).add j).block = w6.heap.size := by rw [add_none]
              exact World.cell?_of_block (by rw [hb8]; exact hoA _ (by omega))
            have hub : ∀ g, u.ownBlock = some g → w1.heap.size + 4 ≤ g ∧ g < w6.heap.size := fun g hg => way.row.1.lt g hg
            have HE := hid (And.intro hwA hoA)
            have kA0 : (w6.alloc (.cells #[.int .i64 (p : Int)] 3)).cell? ⟨qb, 0, none⟩ = some (.int .i64 d1) := (World.cell?_alloc_lt _ _ _ (cell_in k0')).trans k0'
            have kA1 : (w6.alloc (.cells #[.int .i64 (p : Int)] 3)).cell? ⟨qb, 1, none⟩ = some (.int .i64 d2) := (World.cell?_alloc_lt _ _ _ (cell_in k1')).trans k1'
            have kA3 : (w6.alloc (.cells #[.int .i64 (p : Int)] 3)).cell? ⟨w1.heap.size + 2, 3, none⟩ = some (.map (some (w1.heap.size + 1))) := (World.cell?_alloc_lt _ _ _ (cell_in ht3)).trans ht3
            have hzl : zu.length ≤ 100000000 := by have := way.len; omega
            have hsz6 := HT6.out.size
            clear hwA hoA
            go_wp2_with fail
            go_region_law (first | (refine step_append_lies _ rfl _ _ 29 rfl (w1.heap.size + 4) 3 i0 _ 1 8 Tryz.underlying29 hin hz0 hz1 hz2 rfl (by decide) u zu.length (ints zu) rfl hrA.1 _ 1 1 [.int .i64 (p : Int)] rfl rfl hnA (by simp [Value.oneCell']) (by decide) (by unfold maxLen; omega) (by omega) (by rw [hsA]; omega) _ rfl ?_; intro g7 cap7 w7 hown7 hG7 hat7 hlt7; have hb7' : w7.heap[w1.heap.size + 1]? = some (.map es1 clock1) := (hG7.block _ (by rw [hsA]; omega) (fun e => by have := (hub _ e.symm).1; omega)).trans hbA; obtain ⟨wE, hwE⟩ : ∃ wE, wE = setBlock w7 (w1.heap.size + 1) (f (.slice (some ⟨g7, 0, none⟩) (zu.length + 1) cap7)) := ⟨_, rfl⟩; have hS7 : (Instr.entryStore 47 (.map (some (w1.heap.size + 1))) (.int .i64 (st : Int)) (.slice (some ⟨g7, 0, none⟩) (zu.length + 1) cap7)).run Tryz.prog w7 = .ok () wE := (by rw [hwE]; exact way.store w7 _ hb7'); have HWE := hid hwE; clear hwE))
            all_goals go_wp2
            all_goals go_roundw
            all_goals (try (show _ < _; simp [intOf]; omega))
            all_goals
              have hIM : IsMap D := by
                obtain ⟨es', clock', _, _, _, hDD, _⟩ := hD
                exact ⟨_, hDD⟩
              have hwE := HWE.out
              obtain ⟨hwA, hoA⟩ := HE.out
              obtain ⟨t1, t2⟩ := HT6.out.more (W := w7) (v' := .slice (some ⟨g7, 0, none⟩) (zu.length + 1) cap7) (x := (p : Int)) hMW hIM way hdw (fun e => by have := hK (d1, d2) e.symm; rw [hth2] at this; cases this) (by rw [hG7.os, hwA]; rfl) (by rw [hG7.tape, hwA]; rfl) (by rw [hG7.output, hwA]; rfl) (by have := hG7.size; omega) (fun j hj h1 h2 => by
                rw [hG7.block j (by omega) h2, hoA j h1]
                exact (World.grownBy_alloc w6 (.cells #[.int .i64 (p : Int)] 3) none).block j hj (by simp)) hb7' (World.ownsInts.appended hrA (by simpa using hown7) (WalkArith.wf_i64 (by omega))) (by
                rcases hat7 with hat | hat
                · exact .inl hat.symm
                · exact .inr ⟨g7, rfl, by rw [hat, hsA]; omega⟩) (fun j hj => Nat.lt_of_lt_of_le (hno j hj) hN6.out.2)
              rw [← hwE] at t1 t2
              refine ⟨k + 1, v', zs', kw' + 1, by omega, by go_num, by omega, by omega, hid ?_, hid ⟨fun j hj hl => (t2 j hj (Nat.lt_of_lt_of_le hl hN6.out.2)).trans (hN6.out.1 j hj hl), ?_⟩⟩
              · rw [hst.out, hone.out hth2]
                exact t1
              · have h7 := hG7.size
                have h8 : wE.heap.size = w7.heap.size := by rw [hwE]; simp [setBlock]
                have := hN6.out.2
                omega
          · have hth2 := hth
            clear hT6 ht3
            obtain ⟨iq, hiqe⟩ : ∃ iq, iq = i + q := ⟨_, rfl⟩
            rw [← hiqe] at hx6 hiq
            have HI := hid hiqe
            clear hiqe
            go_wp2
            go_roundw
            case rel =>
              refine ⟨q + 1, by omega, by go_num, hid ?_, hid (fun d hd => ?_), hid ⟨fun j hj hl => ?_, ?_⟩⟩
              · have := HT6.out.step p (iq + 1)
                simp only [List.set_set] at this
                rw [show i + (q + 1) = iq + 1 by have := HI.out; omega]
                rw [show ((iq : Int) + 1) = ((iq + 1 : Nat) : Int) by omega]
                exact this
              · rw [htk.out] at hd
                rcases List.mem_append.1 hd with hd | hd
                · exact hA2.out d hd
                · simp at hd; rw [hd]; exact hth
              · rw [(grownBy_setCell w6 (w1.heap.size + 3) p _).block j (Nat.lt_of_lt_of_le hl hN6.out.2) (by have := HT6.out.nob j hj; simp; omega)]
                exact hN6.out.1 j hj hl
              · have := (grownBy_setCell w6 (w1.heap.size + 3) p (.int .i64 ((iq : Int) + 1))).size
                exact Nat.le_trans hN6.out.2 this
            case measure => simp [intOf]; omega
        · obtain rfl : q = ln := by omega
          have hTK := hT2.out
          have hPu := push_any (w1.heap.size + 2) 4 wr (w1.heap.size + 4) v' zs' (p : Int) hTK.rdy (WalkArith.wf_i64 (by omega)) (by omega) hTK.size (by simp [World.cell?, hTK.tk]) (frozen_of_block hTK.tk 4) (by omega) hTK.hp
          clear hTK
          go_wp2_with (first
            | (go_at_call 45; refine hPu.mono ?_; rintro e w3 ⟨rfl, v3, ys, hO3, hc3, hp3, hH3, hT3, hv3⟩))
          go_roundw
          case rel =>
            obtain ⟨t1, t2⟩ := hT2.out.push hO3 hp3 hH3 hT3 hv3 (fun i hi => Nat.lt_of_lt_of_le (hno i hi) hN2.out.2)
            have hyl := hp3.length_eq
            refine ⟨k + 1, v3, ys, kw', by omega, by go_num, by omega, by simp at hyl; omega, hid ?_, hid ⟨fun i hi hlt => (t2 i hi (Nat.lt_of_lt_of_le hlt hN2.out.2)).trans (hN2.out.1 i hi hlt), Nat.le_trans hN2.out.2 hT3.size⟩⟩
            rw [hst.out, one_ready hVV.out hsi.out.2 (by have := hLN.out; omega) (fun d hd => hA2.out d (by rw [List.take_of_length_le (by have := hLN.out; omega)]; exact hd))]
            have e : xV.length = i + q := by have := hLN.out; omega
            rw [e]
            exact t1
          case measure => simp [intOf]; omega
    · obtain rfl : k = ps.length := by omega
      rw [List.take_length] at hT
      clear hpa
      go_wp2
      rw [Exit.noGoto_normal]
      go_end0
      exact ⟨rfl, v', zs', kw', hT.out, hkw', hzs', hN.out.1⟩
end
end Go.Proofs.YtlncokkpdkddlaaGreat
