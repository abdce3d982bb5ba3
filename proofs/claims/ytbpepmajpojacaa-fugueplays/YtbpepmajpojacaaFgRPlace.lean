/- The reference: Place. -/
import Derived.Test.YtbpepmajpojacaaFgRPlaceN
import Derived.Test.YtbpepmajpojacaaFgRIndex
set_option linter.unusedVariables false
set_option linter.unusedSimpArgs false
namespace Go.Proofs.Ytbpepmajpojacaa
open Go.RowKit

/-- A dot's box. -/
def DB (w : World) (b : Nat) (x y : Int) : Prop := w.heap[b]? = some (.cells #[.int .i64 x, .int .i64 y] 24 (0, 0))

theorem DB.facts {w : World} {b : Nat} {x y : Int} (h : DB w b x y) : w.cell? ⟨b, 0, none⟩ = some (.int .i64 x) ∧ w.cell? ⟨b, 1, none⟩ = some (.int .i64 y) ∧ w.frozen? ⟨b, 0, none⟩ = false ∧ w.frozen? ⟨b, 1, none⟩ = false ∧ b < w.heap.size := by
  unfold DB at h
  exact ⟨by simp [World.cell?, h], by simp [World.cell?, h], by simp [World.frozen?, h], by simp [World.frozen?, h], (Array.getElem?_eq_some_iff.1 h).1⟩

theorem DB.below {w w' : World} {b : Nat} {x y : Int} (h : DB w b x y) (hb : Below w.heap.size w w') : DB w' b x y := (hb.block _ (Array.getElem?_eq_some_iff.1 h).1).trans h

theorem DB.set {w : World} {b : Nat} {x y : Int} (h : DB w b x y) (u v : Int) : DB ((w.setCell ⟨b, 0, none⟩ (.int .i64 u)).setCell ⟨b, 1, none⟩ (.int .i64 v)) b u v := by
  have h1 : (w.setCell ⟨b, 0, none⟩ (.int .i64 u)).heap[b]? = some (.cells #[.int .i64 u, .int .i64 y] 24 (0, 0)) := by rw [fset_block h]; simp
  show ((w.setCell ⟨b, 0, none⟩ (.int .i64 u)).setCell ⟨b, 1, none⟩ (.int .i64 v)).heap[b]? = _
  rw [fset_block h1]; simp

set_option maxRecDepth 100000 in
set_option maxHeartbeats 4000000 in
theorem rplace_yes (a : Option Addr) (n c : Nat) (T : List Cr) (hT : WT T) (hn : n ≤ 100000) (i : Int) (l : Dt) (hl : leftOf (seenC T) i = some l) (w : World) (h : RT w a n c T) :
    Calls Try.prog 38 #[.agg #[.slice a n c], .int .i64 i] w fun e w' => e = .returned (.tuple #[dv (plcI T i).1, .int .i64 (plcI T i).2.1, .int .i64 (plcI T i).2.2]) ∧ Below w.heap.size w w' := by
  have mixed := mixed
  have hpl : plcI T i = ((plc T l).1, if (plc T l).2 then 1 else 0, 0) := by unfold plcI; rw [hl]
  have hno := leftOf_node hl
  rw [hpl]
  obtain ⟨l1, l2⟩ := l
  obtain ⟨pd, hpd⟩ : ∃ pd, pd = (plc T (l1, l2)).1 := ⟨_, rfl⟩
  obtain ⟨sd, hsd⟩ : ∃ sd : Int, sd = if (plc T (l1, l2)).2 then 1 else 0 := ⟨_, rfl⟩
  rw [← hpd, ← hsd]
  have HPD : Hid (pd = (plc T (l1, l2)).1 ∧ sd = if (plc T (l1, l2)).2 then 1 else 0) := hid ⟨hpd, hsd⟩
  clear hpd hsd
  obtain ⟨W0, hW0⟩ : ∃ W0, W0 = (w.alloc (.cells #[.slice a n c] 30)).alloc (.cells #[.int .i64 0, .int .i64 0] 24) := ⟨_, rfl⟩
  have hB0 : Below w.heap.size w W0 := by rw [hW0]; exact ((Below.refl _ w).alloc (Nat.le_refl _) _).alloc (by simp) _
  have hb1 : W0.heap[w.heap.size]? = some (.cells #[.slice a n c] 30 (0, 0)) := by rw [hW0]; exact (Below.heap_alloc _ _ _ (by simp)).trans (World.alloc_heap_new w _)
  have hb2 : DB W0 (w.heap.size + 1) 0 0 := by
    show W0.heap[w.heap.size + 1]? = _
    rw [hW0]
    have := World.alloc_heap_new (w.alloc (.cells #[.slice a n c] 30)) (.cells #[.int .i64 0, .int .i64 0] 24)
    rwa [World.size_alloc] at this
  have hl1 := (Array.getElem?_eq_some_iff.1 hb1).1
  have hl2 := (Array.getElem?_eq_some_iff.1 hb2).1
  have HC : Hid (∀ W, Below W0.heap.size W0 W → W.cell? ⟨w.heap.size, 0, none⟩ = some (.slice a n c)) := hid (fun W hb => by
    have g1 := (hb.block _ hl1).trans hb1
    simp [World.cell?, g1])
  have HB2 : Hid (∀ W, Below W0.heap.size W0 W → DB W (w.heap.size + 1) 0 0) := hid (fun W hb => hb2.below hb)
  have HRT : Hid (∀ W, Below W0.heap.size W0 W → RT W a n c T) := hid (fun W hb => h.below (hB0.trans (hb.mono hB0.size)))
  have hd := rdots_any a n c T hT hn W0 (h.below hB0)
  obtain ⟨m, hm⟩ : ∃ m, m = (seenC T).length := ⟨_, rfl⟩
  have hcall : Calls Try.prog 35 #[.agg #[.slice a n c]] W0 fun e w1 => ∃ a1 c1, e = .returned (.slice a1 m c1) ∧ Hid (PS w1 a1 m c1 ((seenC T).map Cr.id)) ∧ Hid (Below W0.heap.size W0 w1) := hd.mono (fun e w1 hg => by
    obtain ⟨a1, c1, he, hp, hb⟩ := hg.ans
    rw [List.length_map, ← hm] at he hp
    exact ⟨a1, c1, he, hid hp, hid hb⟩)
  have hmN : m ≤ 100000 := by
    rw [hm]
    refine Nat.le_trans (List.length_filter_le _ _) ?_
    rw [allC_len hT, h.len]
    exact hn
  have hLC : (i = 0 ∧ l1 = 0 ∧ l2 = 0) ∨ ∃ k : Nat, i = (k : Int) + 1 ∧ k < m ∧ ((seenC T).map Cr.id)[k]? = some (l1, l2) := by
    unfold leftOf at hl
    by_cases h0 : i = 0
    · rw [if_pos h0] at hl; cases hl; exact Or.inl ⟨h0, rfl, rfl⟩
    · rw [if_neg h0] at hl
      by_cases h1 : 1 ≤ i
      · rw [if_pos h1] at hl
        refine Or.inr ⟨(i - 1).toNat, by omega, ?_, by rw [List.getElem?_map]; exact hl⟩
        obtain ⟨x, hx, _⟩ := Option.map_eq_some_iff.1 hl
        rw [hm]; exact (List.getElem?_eq_some_iff.1 hx).1
      · rw [if_neg h1] at hl; cases hl
  have hi0 : 0 ≤ i ∧ i ≤ (m : Int) := by
    rcases hLC with ⟨e, _, _⟩ | ⟨k, e, hk, _⟩ <;> omega
  obtain ⟨hi0, him⟩ := hi0
  have b1 : decide (i < 0) = false := by simp; omega
  have b2 : decide ((m : Int) < i) = false := by simp; omega
  have HLC := hid hLC
  have HNO := hid hno
  have HWT := hid hT
  have HLT : Hid (T.length = n) := hid h.len
  have HW := hid hW0
  clear hLC hno hl hd hb1 hb2 hl1 hl2 hW0 hm h hT hpl
  go_enter Try.func38, Try.ntmps38
  go_upto_if 26 with (go_at_call 35; rw [← HW.out]; refine hcall.mono ?_; rintro e w1 ⟨a1, c1, rfl, hp1, hw1⟩)
  go_cut [8] from 27 to 31 (fun s wc => s = .pointer (some ⟨w1.heap.size, 0, none⟩) ∧ Hid (DB wc w1.heap.size l1 l2) ∧ Hid (Below w1.heap.size w1 wc))
  case first =>
    have hz : DB (w1.alloc (.cells #[.int .i64 0, .int .i64 0] 24)) w1.heap.size 0 0 := World.alloc_heap_new _ _
    have hzb : Below w1.heap.size w1 (w1.alloc (.cells #[.int .i64 0, .int .i64 0] 24)) := (Below.refl _ w1).alloc (Nat.le_refl _) _
    rcases HLC.out with ⟨rfl, rfl, rfl⟩ | ⟨k, rfl, hk, hlk⟩
    · go_wp2_with fail
      go_meet
      case rel => exact ⟨rfl, hid hz, hid hzb⟩
    · have HZ := hid hz
      have HZB := hid hzb
      obtain ⟨f0, f1, f2, f3, f4⟩ := hz.facts
      obtain ⟨g, o, rfl, hg, hat⟩ := (hp1.out.below hzb).at (by omega)
      have hkl : k < ((seenC T).map Cr.id).length := (List.getElem?_eq_some_iff.1 hlk).1
      obtain ⟨hc0, hc1⟩ := hat k hkl
      rw [(List.getElem?_eq_some_iff.1 hlk).2] at hc0 hc1
      simp only at hc0 hc1
      have hcap := hp1.out.cap
      have hmax := hp1.out.max
      unfold maxLen at hmax
      have hk1 : (k : Int) < (m : Int) := by omega
      have hk0 : (0 : Int) ≤ (k : Int) := by omega
      have hk2 : (0 : Int) < (k : Int) + 1 := by omega
      have hbk : decide ((0 : Int) < (k : Int) + 1) = true := decide_eq_true (by omega)
      have HS : Hid (DB (((w1.alloc (.cells #[.int .i64 0, .int .i64 0] 24)).setCell ⟨w1.heap.size, 0, none⟩ (.int .i64 l1)).setCell ⟨w1.heap.size, 1, none⟩ (.int .i64 l2)) w1.heap.size l1 l2) := hid (hz.set l1 l2)
      have HSB : Hid (Below w1.heap.size w1 (((w1.alloc (.cells #[.int .i64 0, .int .i64 0] 24)).setCell ⟨w1.heap.size, 0, none⟩ (.int .i64 l1)).setCell ⟨w1.heap.size, 1, none⟩ (.int .i64 l2))) := hid ((hzb.setCell (p := ⟨w1.heap.size, 0, none⟩) (Nat.le_refl _) _).setCell (p := ⟨w1.heap.size, 1, none⟩) (Nat.le_refl _) _)
      have hkk : (k : Int) + 1 - 1 = (k : Int) := by omega
      clear hlk hat hz hzb hkl
      generalize (w1.alloc (.cells #[.int .i64 0, .int .i64 0] 24)) = Wz at *
      go_wp2_with fail
      go_meet
      case rel => exact ⟨rfl, HS, HSB⟩
  case rest =>
    obtain ⟨rfl, hq, hbc⟩ := hcut
    have HBc : Hid (Below W0.heap.size W0 wc) := hid (hw1.out.trans (hbc.out.mono hw1.out.size))
    have hkid := rkids_any a n c T (l1, l2) 1 wc (HRT.out wc HBc.out) (by omega)
    rw [kidI_right] at hkid
    have hcall2 : Calls Try.prog 57 #[.agg #[.slice a n c], .agg #[.int .i64 l1, .int .i64 l2], .int .i64 1] wc fun e w2 => ∃ a2 n2 c2, e = .returned (.slice a2 n2 c2) ∧ Hid (PS w2 a2 n2 c2 (kids T (l1, l2) true)) ∧ Hid (Below W0.heap.size W0 w2) ∧ Hid (DB w2 w1.heap.size l1 l2) := hkid.mono (fun e w2 ⟨a2, n2, c2, he, hp, hb, _⟩ => ⟨a2, n2, c2, he, hid hp, hid (HBc.out.trans (hb.mono HBc.out.size)), hid (hq.out.below hb)⟩)
    have t0 := HC.out wc HBc.out
    obtain ⟨e0, e1, e2, e3, e4⟩ := hq.out.facts
    have hlw : w.heap.size + 1 < w1.heap.size := by
      have h1 := (HB2.out W0 (Below.refl _ _)).facts.2.2.2.2
      have h2 := hw1.out.size
      omega
    clear hkid hcall
    go_upto_if 37 with (go_at_call 57; refine hcall2.mono ?_; rintro e w2 ⟨a2, n2, c2, rfl, hp2, hw2, hq2⟩; have t2 := HC.out w2 hw2.out; obtain ⟨g0, g1, g2, g3, g4⟩ := hq2.out.facts; obtain ⟨r0, r1, r2, r3, r4⟩ := (HB2.out w2 hw2.out).facts; have hne : ¬ (w1.heap.size = w.heap.size + 1) := (by omega); have hne' : ¬ (w.heap.size + 1 = w1.heap.size) := (by omega); clear t0 e0 e1 e2 e3 e4)
    have hlen2 := hp2.out.len
    cases hks : kids T (l1, l2) true with
    | nil =>
      rw [hks] at hlen2
      have hn2 : n2 = 0 := by simpa using hlen2.symm
      subst hn2
      have hpc : plc T (l1, l2) = ((l1, l2), true) := by unfold plc; rw [hks]
      have hpd : pd = (l1, l2) ∧ sd = 1 := by rw [HPD.out.1, HPD.out.2, hpc]; exact ⟨rfl, rfl⟩
      obtain ⟨rfl, rfl⟩ := hpd
      have Q1 : Hid (DB ((w2.setCell ⟨w.heap.size + 1, 0, none⟩ (.int .i64 l1)).setCell ⟨w.heap.size + 1, 1, none⟩ (.int .i64 l2)) (w.heap.size + 1) l1 l2 ∧ Below w.heap.size w ((w2.setCell ⟨w.heap.size + 1, 0, none⟩ (.int .i64 l1)).setCell ⟨w.heap.size + 1, 1, none⟩ (.int .i64 l2))) := hid ⟨(HB2.out w2 hw2.out).set l1 l2, ((hB0.trans (hw2.out.mono hB0.size)).setCell (p := ⟨w.heap.size + 1, 0, none⟩) (by show w.heap.size ≤ w.heap.size + 1; omega) _).setCell (p := ⟨w.heap.size + 1, 1, none⟩) (by show w.heap.size ≤ w.heap.size + 1; omega) _⟩
      clear hks hlen2 hpc
      go_wp2_with fail
      obtain ⟨q0, q1, _, _, _⟩ := Q1.out.1.facts
      exact bodyPost_ret (v := .tuple #[.agg #[.int .i64 l1, .int .i64 l2], .int .i64 1, .int .i64 0]) (by simp [results, Try.results38, go_sem, q0, q1]) rfl ⟨rfl, Q1.out.2⟩
    | cons k0 ks =>
      rw [hks] at hlen2
      have hn2 : 0 < n2 := by rw [← hlen2]; simp
      have hbn : ((n2 : Int) == 0) = false := by simp; omega
      have hpc : plc T (l1, l2) = (frst T T.length k0, false) := by unfold plc; rw [hks]
      have hpa := place_all HWT.out HNO.out hks
      have hpd : pd = frst T T.length k0 ∧ sd = 0 := by rw [HPD.out.1, HPD.out.2, hpc]; exact ⟨rfl, rfl⟩
      obtain ⟨hpd, rfl⟩ := hpd
      rw [← hpd] at hpa
      obtain ⟨x1, x2⟩ := pd
      obtain ⟨L, hL⟩ : ∃ L, L = allT T := ⟨_, rfl⟩
      rw [← hL] at hpa
      have HPA := hid hpa
      have hall := rall_any a n c T HWT.out hn w2 (HRT.out w2 hw2.out)
      rw [← hL] at hall
      have hLn : L.length ≤ 100000 := by rw [hL, allT_len HWT.out, HLT.out]; exact hn
      have hcall3 : Calls Try.prog 34 #[.agg #[.slice a n c]] w2 fun e w3 => ∃ a3 c3, e = .returned (.slice a3 L.length c3) ∧ Hid (PS w3 a3 L.length c3 L) ∧ Hid (Below W0.heap.size W0 w3) ∧ Hid (DB w3 w1.heap.size l1 l2) := hall.mono (fun e w3 hg => by
        obtain ⟨a3, c3, he, hp, hb⟩ := hg.ans
        exact ⟨a3, c3, he, hid hp, hid (hw2.out.trans (hb.mono hw2.out.size)), hid (hq2.out.below hb)⟩)
      have hkl : Hid (rkN L (l1, l2) L.length < L.length) := hid ((List.getElem?_eq_some_iff.1 hpa).1)
      clear hall hpa hks hlen2 hpc hpd hL hn2
      go_wp2_with (go_at_call 34; refine hcall3.mono ?_; rintro e w3 ⟨a3, c3, rfl, hp3, hw3, hq3⟩; clear t2 g0 g1 g2 g3 g4 r0 r1 r2 r3 r4)
      have hcap := hp3.out.cap
      have hmax := hp3.out.max
      unfold maxLen at hmax
      have hL0 : 0 < L.length := by have := hkl.out; omega
      obtain ⟨gk, ok, rfl, hgk, hatk⟩ := hp3.out.at hL0
      have HAT := hid hatk
      clear hatk
      go_loopw [11, 12] (fun u i wr => ∃ (k r : Nat), k ≤ L.length ∧ i = .int .i64 k ∧ u = .int .i64 r ∧ r ≤ k ∧ Hid (r = rkN L (l1, l2) k) ∧ Hid (Below w3.heap.size w3 wr)) (fun _ i _ => L.length - (intOf i).toNat)
      case atStart => exact ⟨0, 0, by omega, rfl, rfl, by omega, hid rfl, hid (Below.refl _ _)⟩
      case round =>
        obtain ⟨k, r, hk, rfl, rfl, hrk, hr, hbw⟩ := hrel
        by_cases hlt : k < L.length
        · obtain ⟨hc0, hc1⟩ := HAT.out k hlt
          obtain ⟨y1, hy1⟩ : ∃ y1, y1 = (L[k]'hlt).1 := ⟨_, rfl⟩
          obtain ⟨y2, hy2⟩ : ∃ y2, y2 = (L[k]'hlt).2 := ⟨_, rfl⟩
          have HY : Hid (L[k]? = some (y1, y2)) := hid (by rw [List.getElem?_eq_getElem hlt, hy1, hy2])
          rw [← hy1] at hc0
          rw [← hy2] at hc1
          have HD : Hid (∀ q, Below w3.heap.size w3 (wr.drewN q)) := hid (fun q => hbw.out.trans (((Far.refl wr).drewN q).below.mono hbw.out.size))
          have E2 : ∀ q, (wr.drewN q).cell? ⟨w1.heap.size, 0, none⟩ = some (.int .i64 l1) := fun q => (hq3.out.below (HD.out q)).facts.1
          have E3 : ∀ q, (wr.drewN q).cell? ⟨w1.heap.size, 1, none⟩ = some (.int .i64 l2) := fun q => (hq3.out.below (HD.out q)).facts.2.1
          have C0 : ∀ q, (wr.drewN q).cell? ⟨gk, ok + k * 2, none⟩ = some (.int .i64 y1) := fun q => bel_cell (n := 0) (HD.out q) hc0
          have C1 : ∀ q, (wr.drewN q).cell? ⟨gk, ok + k * 2 + 1, none⟩ = some (.int .i64 y2) := fun q => bel_cell (n := 0) (HD.out q) hc1
          have hk1 : (k : Int) < (L.length : Int) := by omega
          have hk0' : (0 : Int) ≤ (k : Int) := by omega
          clear hc0 hc1 hy1 hy2
          by_cases hyes : y1 = l1 ∧ y2 = l2
          · obtain ⟨rfl, rfl⟩ := hyes
            have hrn : Hid (k + 1 = rkN L (y1, y2) (k + 1)) := hid (by unfold rkN; rw [if_pos HY.out])
            go_wp2_with fail
            go_quiet (fail)
            have HDq := hid (HD.out nq)
            clear E2 E3 C0 C1
            go_wp2
            go_roundw
            case rel => exact ⟨k + 1, k + 1, by omega, by go_num, by go_num, by omega, hrn, HDq⟩
            case measure => simp [intOf]; omega
          · have hrn : Hid (r = rkN L (l1, l2) (k + 1)) := hid (by
              unfold rkN
              rw [if_neg (fun e => hyes (by rw [HY.out] at e; cases e; exact ⟨rfl, rfl⟩))]
              exact hr.out)
            have hcmp : (y1 = l1 ∧ ¬ y2 = l2) ∨ ¬ y1 = l1 := by
              by_cases h : y1 = l1
              · exact .inl ⟨h, fun e => hyes ⟨h, e⟩⟩
              · exact .inr h
            clear hyes
            rcases hcmp with ⟨rfl, hne⟩ | hne
            · go_wp2_with fail
              go_quiet (fail)
              have HDq := hid (HD.out nq)
              clear E2 E3 C0 C1
              go_wp2
              go_roundw
              case rel => exact ⟨k + 1, r, by omega, by go_num, rfl, by omega, hrn, HDq⟩
              case measure => simp [intOf]; omega
            · go_wp2_with fail
              go_quiet (fail)
              have HDq := hid (HD.out nq)
              clear E2 E3 C0 C1
              go_wp2
              go_roundw
              case rel => exact ⟨k + 1, r, by omega, by go_num, rfl, by omega, hrn, HDq⟩
              case measure => simp [intOf]; omega
        · have hkL : k = L.length := by omega
          subst hkL
          have hkr := hkl.out
          rw [← hr.out] at hkr
          have hat : L[r]? = some (x1, x2) := by rw [hr.out]; exact HPA.out
          obtain ⟨hc0, hc1⟩ := HAT.out r hkr
          rw [(List.getElem?_eq_some_iff.1 hat).2] at hc0 hc1
          simp only at hc0 hc1
          have hc0 := bel_cell (n := 0) hbw.out hc0
          have hc1 := bel_cell (n := 0) hbw.out hc1
          have hww : Below W0.heap.size W0 wr := hw3.out.trans (hbw.out.mono hw3.out.size)
          have hdb := HB2.out wr hww
          obtain ⟨r0, r1, r2, r3, r4⟩ := hdb.facts
          have Q1 : Hid (DB ((wr.setCell ⟨w.heap.size + 1, 0, none⟩ (.int .i64 x1)).setCell ⟨w.heap.size + 1, 1, none⟩ (.int .i64 x2)) (w.heap.size + 1) x1 x2 ∧ Below w.heap.size w ((wr.setCell ⟨w.heap.size + 1, 0, none⟩ (.int .i64 x1)).setCell ⟨w.heap.size + 1, 1, none⟩ (.int .i64 x2))) := hid ⟨hdb.set x1 x2, ((hB0.trans (hww.mono hB0.size)).setCell (p := ⟨w.heap.size + 1, 0, none⟩) (by show w.heap.size ≤ w.heap.size + 1; omega) _).setCell (p := ⟨w.heap.size + 1, 1, none⟩) (by show w.heap.size ≤ w.heap.size + 1; omega) _⟩
          have hr1 : (r : Int) < (L.length : Int) := by omega
          have hr0 : (0 : Int) ≤ (r : Int) := by omega
          clear hat hdb
          go_wp2
          obtain ⟨q0, q1, _, _, _⟩ := Q1.out.1.facts
          exact bodyPost_ret (v := .tuple #[.agg #[.int .i64 x1, .int .i64 x2], .int .i64 0, .int .i64 0]) (by simp [results, Try.results38, go_sem, q0, q1]) rfl ⟨rfl, Q1.out.2⟩

theorem rplace_any (a : Option Addr) (n c : Nat) (T : List Cr) (hT : WT T) (hn : n ≤ 100000) (i : Int) (w : World) (h : RT w a n c T) :
    Calls Try.prog 38 #[.agg #[.slice a n c], .int .i64 i] w fun e w' => e = .returned (.tuple #[dv (plcI T i).1, .int .i64 (plcI T i).2.1, .int .i64 (plcI T i).2.2]) ∧ Below w.heap.size w w' := by
  by_cases hi : i < 0 ∨ ((seenC T).length : Int) < i
  · exact rplace_no a n c T hT hn i hi w h
  · have hl : ∃ l, leftOf (seenC T) i = some l := by
      unfold leftOf
      by_cases h0 : i = 0
      · exact ⟨_, if_pos h0⟩
      · rw [if_neg h0, if_pos (by omega), List.getElem?_eq_getElem (by omega)]
        exact ⟨_, rfl⟩
    obtain ⟨l, hl⟩ := hl
    exact rplace_yes a n c T hT hn i l hl w h
end Go.Proofs.Ytbpepmajpojacaa
