/- Stories: one, what it is told by. -/
import Derived.Test.YtplcohjpchfkkaaTrNone
import Derived.Test.YtplcohjpchfkkaaTrNoneP
import Derived.Test.YtplcohjpchfkkaaSBase
import Derived.Test.YtplcohjpchfkkaaSStory
import Derived.Deep.CutRange
import Derived.Deep.CutBlock
import Derived.BigQuiet
import Derived.Test.YtplcohjpchfkkaaTrAwk
import Derived.ProofKit
import Derived.OpenShut
import Derived.Test.YtplcohjpchfkkaaRows
import Derived.Test.YtplcohjpchfkkaaROrdB
import Derived.Deep.RegionHeld
namespace Go.Proofs.Ytplcohjpchfkkaa
section
set_option linter.unusedVariables false
set_option linter.unusedSimpArgs false
open Go.RowKit

/-- What stays while the tree that is nil is asked: what was there, and a box. -/
structure KyN (w : World) (db : Nat) (V : World) : Prop where
  bel : Below w.heap.size w V
  box : V.heap[db]? = some (.cells #[.int .i64 0, .int .i64 0] 24 (0, 0))

theorem KyN.below {w : World} {db : Nat} {V V' : World} (h : KyN w db V) (hb : Below V.heap.size V V') : KyN w db V' :=
  ⟨h.bel.trans (hb.mono h.bel.size), (hb.block db (Array.getElem?_eq_some_iff.1 h.box).1).trans h.box⟩
theorem KyN.c0 {w : World} {db : Nat} {V : World} (h : KyN w db V) : V.cell? ⟨db, 0, none⟩ = some (.int .i64 0) := by simp [World.cell?, h.box]
theorem KyN.c1 {w : World} {db : Nat} {V : World} (h : KyN w db V) : V.cell? ⟨db, 1, none⟩ = some (.int .i64 0) := by simp [World.cell?, h.box]

set_option maxRecDepth 100000 in
set_option maxHeartbeats 8000000 in
theorem tstories_walk (a : Option Addr) (n0 c : Nat) (ml : List Md) (w : World) (hs : MS w a n0 c ml) (hm : ∀ m ∈ ml, m.Fits) (hSt : StorySays) :
    Calls Try.prog 7 #[.slice a n0 c] w fun e w' => e = .returned (.bool true) ∧ Below w.heap.size w w' := by
  have hmxo : Try.prog.follows .mixedOrders = true := by kernel_rfl
  have mixed := mixed
  have haw := tawake_any w
  have HSt : Hid (∀ W, Below w.heap.size w W → _) := hid (fun W h => hSt a n0 c ml W (hs.below h) hm)
  have HR0 : Hid (∀ V, Below w.heap.size w V → Calls Try.prog 19 #[] V fun e V' => e = .returned (.agg #[.int .i64 0, .int .i64 (-1)]) ∧ Hid (Below w.heap.size w V')) := hid (fun V hV => (root_any V).mono (fun e V' h => ⟨h.1, hid (hV.trans (h.2.below.mono hV.size))⟩))
  have HPa : Hid (∀ V, Below w.heap.size w V → Calls Try.prog 16 #[.pointer none, .agg #[.int .i64 0, .int .i64 (-1)]] V fun e V' => e = .returned (.tuple #[.agg #[.int .i64 0, .int .i64 0], .string ⟨#[]⟩, .bool false]) ∧ Hid (Below w.heap.size w V')) := hid (fun V hV => (parent_none (0, -1) V ⟨rfl, rfl⟩).mono (fun e V' h => ⟨h.1, hid (hV.trans (h.2.mono hV.size))⟩))
  clear hs hm hSt
  go_enter Try.func7, Try.ntmps7
  go_upto_region 6 with (first
    | (go_at_call 9; refine haw.mono ?_; rintro e w1 ⟨rfl, h1⟩)
    | (go_at_call 19; refine (HR0.out _ h1).mono ?_; rintro e w2 ⟨rfl, h2⟩)
    | (go_at_call 16; refine (HPa.out _ h2.out).mono ?_; rintro e w3 ⟨rfl, h3⟩))
  clear haw HR0 HPa h1 h2
  obtain ⟨X1, hX1⟩ : ∃ X1, X1 = w3.alloc (.cells #[.int .i64 0, .int .i64 0] 24) := ⟨_, rfl⟩
  rw [← hX1]
  obtain ⟨db, hdb⟩ : ∃ db, db = w3.heap.size := ⟨_, rfl⟩
  have hK1 : KyN w db X1 := ⟨by rw [hX1]; exact h3.out.alloc h3.out.size _, by rw [hX1, hdb]; exact World.alloc_heap_new w3 _⟩
  rw [← hdb]
  clear hX1 hdb h3
  have q0 := hK1.c0
  have q1 := hK1.c1
  have HRo : Hid (∀ V, KyN w db V → Calls Try.prog 19 #[] V fun e V' => e = .returned (.agg #[.int .i64 0, .int .i64 (-1)]) ∧ KyN w db V') := hid (fun V hV => (root_any V).mono (fun e V' h => ⟨h.1, hV.below h.2.below⟩))
  have HMo : Hid (∀ V, KyN w db V → Calls Try.prog 12 #[.pointer none, .agg #[.int .i64 1, .int .i64 1], .int .i64 1, .agg #[.int .i64 1, .int .i64 1], .agg #[.int .i64 0, .int .i64 (-1)], .string ⟨#[110]⟩] V fun e V' => e = .returned (.int .i64 1) ∧ KyN w db V') := hid (fun V hV => (move_none ⟨(1, 1), 1, (1, 1), (0, -1), ⟨#[110]⟩⟩ V).mono (fun e V' h => ⟨h.1, hV.below h.2⟩))
  have HTh : Hid (∀ V, KyN w db V → Calls Try.prog 25 #[.pointer none, .agg #[.int .i64 0, .int .i64 (-1)]] V fun e V' => e = .returned (.bool false) ∧ KyN w db V') := hid (fun V hV => (there_none (0, -1) ⟨rfl, rfl⟩ V).mono (fun e V' h => ⟨h.1, hV.below h.2⟩))
  have HKi : Hid (∀ V, KyN w db V → Calls Try.prog 17 #[.pointer none, .agg #[.int .i64 0, .int .i64 (-1)]] V fun e V' => ∃ a1 c1, e = .returned (.slice a1 0 c1) ∧ KyN w db V') := hid (fun V hV => (kids_none (0, -1) ⟨rfl, rfl⟩ V).mono (fun e V' h => by obtain ⟨v, e1, ho, h2⟩ := h; obtain ⟨a1, c1, e2⟩ := slice_formN ho; exact ⟨a1, c1, by rw [e1, e2]; rfl, hV.below h2⟩))
  have HPt : Hid (∀ V, KyN w db V → Calls Try.prog 20 #[.pointer none, .agg #[.int .i64 0, .int .i64 (-1)]] V fun e V' => ∃ a1 c1, e = .returned (.slice a1 0 c1) ∧ KyN w db V') := hid (fun V hV => (path_none (0, -1) V ⟨rfl, rfl⟩).mono (fun e V' h => by obtain ⟨a1, c1, e1, h2⟩ := h; exact ⟨a1, c1, e1, hV.below h2⟩))
  have HTo : Hid (∀ V, KyN w db V → Calls Try.prog 18 #[.pointer none, .agg #[.int .i64 0, .int .i64 0]] V fun e V' => e = .returned (.bool false) ∧ KyN w db V') := hid (fun V hV => (took_none (0, 0) V).mono (fun e V' h => ⟨h.1, hV.below h.2.below⟩))
  have HBl : Hid (∀ V, KyN w db V → Calls Try.prog 14 #[.pointer none] V fun e V' => ∃ a1 c1, e = .returned (.slice a1 0 c1) ∧ KyN w db V') := hid (fun V hV => (blocks_none V).mono (fun e V' h => by obtain ⟨a1, c1, e1, h2⟩ := h; exact ⟨a1, c1, e1, hV.below ⟨h2.2.2.1, h2.2.2.2.1, h2.2.2.2.2, h2.1, h2.2.1⟩⟩))
  go_upto_region 8 with (first
    | (go_at_call 19; refine (HRo.out _ (by assumption)).mono ?_; rintro e V ⟨rfl, hK⟩; have q0 := hK.c0; have q1 := hK.c1)
    | (go_at_call 12; refine (HMo.out _ (by assumption)).mono ?_; rintro e V ⟨rfl, hK⟩; have q0 := hK.c0; have q1 := hK.c1)
    | (go_at_call 25; refine (HTh.out _ (by assumption)).mono ?_; rintro e V ⟨rfl, hK⟩; have q0 := hK.c0; have q1 := hK.c1)
    | (go_at_call 17; refine (HKi.out _ (by assumption)).mono ?_; rintro e V ⟨a1, c1, rfl, hK⟩; have q0 := hK.c0; have q1 := hK.c1)
    | (go_at_call 20; refine (HPt.out _ (by assumption)).mono ?_; rintro e V ⟨a2, c2, rfl, hK⟩; have q0 := hK.c0; have q1 := hK.c1)
    | (go_at_call 18; refine (HTo.out _ (by assumption)).mono ?_; rintro e V ⟨rfl, hK⟩; have q0 := hK.c0; have q1 := hK.c1)
    | (go_at_call 14; refine (HBl.out _ (by assumption)).mono ?_; rintro e V ⟨a3, c3, rfl, hK⟩; have q0 := hK.c0; have q1 := hK.c1))
  have HBW := hid hK.bel
  obtain ⟨W1, hW1⟩ : ∃ W1, W1 = V := ⟨_, rfl⟩
  rw [← hW1] at HBW ⊢
  clear hW1
  go_upto_region 9 with (go_at_call 26; refine (HSt.out _ HBW.out).mono ?_; rintro e W2 ⟨v2, L, K, rfl, hH, hP, h60⟩; obtain ⟨oa, oc, rfl, hos⟩ := hH.os)
  have HB2 : Hid (Below w.heap.size w W2) := hid (below2 HBW.out hH.bel)
  have HFI : Hid (∀ x ∈ L, x.o.Fits) := hid (fun x hx => (hP.fit x hx).1)
  have HST := hid hP.st
  have HOS := hid hos
  have hoc := hos.cap
  have hom := hos.max
  unfold maxLen at hom
  obtain ⟨n, hn⟩ : ∃ n, n = L.length := ⟨_, rfl⟩
  rw [← hn] at h60 hoc HOS ⊢
  have HN := hid hn
  obtain ⟨A, hA⟩ : ∃ A, A = L.map Mo.m := ⟨_, rfl⟩
  rw [← hA] at HST
  have HA := hid hA
  obtain ⟨P, hP'⟩ : ∃ P : Nat → Prop, P = (fun j => j < W2.heap.size) := ⟨_, rfl⟩
  have HP := hid hP'
  have HNew := (new_tp W2).mono (R' := fun e V => ∃ t, e = .returned (.pointer (some ⟨t, 0, none⟩)) ∧ Hid (TP V t [] P ∧ Below W2.heap.size W2 V)) (fun e V h => ⟨_, h.1, hid ⟨by rw [hP']; exact h.2.1, h.2.2⟩⟩)
  clear HSt HBW hH hP hos hn hA hP'
  go_wp2_with (go_at_call 10; refine HNew.mono ?_; rintro e W3 ⟨t, rfl, H3⟩)
  clear HNew
  go_loopw [10, 11] (fun nv i wr => ∃ (k cn : Nat), k ≤ n ∧ cn ≤ k ∧ nv = .int .i64 cn ∧ i = .int .i64 k ∧ Hid (cn = madeN (A.take k)) ∧ Hid (TP wr t (tr (mvsA (A.take k))) P ∧ Below W2.heap.size W2 wr)) (fun _ i _ => n - (intOf i).toNat)
  case atStart => exact ⟨0, 0, by omega, by omega, rfl, rfl, hid (by simp [madeN, mvsA]), hid (by simpa [tr, mvsA] using H3.out)⟩
  case round =>
    clear H3
    obtain ⟨k, cn, hk, hck, rfl, rfl, HC, S3⟩ := hrel
    by_cases hkn : k < n
    · have hb1 : decide ((k : Int) < (n : Int)) = true := by simp [hkn]
      have hkL : k < L.length := by rw [← HN.out]; exact hkn
      obtain ⟨g, o, rfl, hg, hat⟩ := HOS.out.at (by omega)
      obtain ⟨x, hx⟩ : ∃ x, x = L[k] := ⟨_, rfl⟩
      have hxA : A[k]? = some x.m := by rw [HA.out, List.getElem?_map, List.getElem?_eq_getElem hkL, hx]; rfl
      have hxf := HFI.out x (by rw [hx]; exact List.getElem_mem hkL)
      have hAt : ∀ V, Below W2.heap.size W2 V → OpAtO V g (o + k * 14) x := fun V hV => by
        obtain ⟨g', o', e', _, h'⟩ := (HOS.out.below hV).at (by omega)
        cases e'
        rw [hx]
        exact h' k hkL
      clear hx hat
      obtain ⟨i1, hi1⟩ : ∃ v, v = x.o.id0 := ⟨_, rfl⟩
      obtain ⟨i2, hi2⟩ : ∃ v, v = x.o.id1 := ⟨_, rfl⟩
      obtain ⟨tm, htm⟩ : ∃ v, v = x.o.time := ⟨_, rfl⟩
      obtain ⟨kd, hkd⟩ : ∃ v, v = x.o.kind := ⟨_, rfl⟩
      obtain ⟨b1, hb1'⟩ : ∃ v, v = x.o.bl0 := ⟨_, rfl⟩
      obtain ⟨b2, hb2'⟩ : ∃ v, v = x.o.bl1 := ⟨_, rfl⟩
      obtain ⟨p1, hp1⟩ : ∃ v, v = x.o.pa0 := ⟨_, rfl⟩
      obtain ⟨p2, hp2⟩ : ∃ v, v = x.o.pa1 := ⟨_, rfl⟩
      obtain ⟨ky, hky⟩ : ∃ v, v = x.o.key := ⟨_, rfl⟩
      have HCS : Hid (∀ V, Below W2.heap.size W2 V → V.cell? ⟨g, o + k * 14, none⟩ = some (.int .i64 i1) ∧ V.cell? ⟨g, o + k * 14 + 1, none⟩ = some (.int .i64 i2) ∧ V.cell? ⟨g, o + k * 14 + 2, none⟩ = some (.int .i64 tm) ∧ V.cell? ⟨g, o + k * 14 + 4, none⟩ = some (.int .i64 kd) ∧ V.cell? ⟨g, o + k * 14 + 5, none⟩ = some (.int .i64 b1) ∧ V.cell? ⟨g, o + k * 14 + 6, none⟩ = some (.int .i64 b2) ∧ V.cell? ⟨g, o + k * 14 + 11, none⟩ = some (.int .i64 p1) ∧ V.cell? ⟨g, o + k * 14 + 12, none⟩ = some (.int .i64 p2) ∧ V.cell? ⟨g, o + k * 14 + 13, none⟩ = some (.string ky)) := hid (fun V hV => by
        have h := hAt V hV
        rw [hi1, hi2, htm, hkd, hb1', hb2', hp1, hp2, hky]
        exact ⟨h.c0, h.c1, h.c2, h.c4, h.c5, h.c6, h.c11, h.c12, h.c13⟩)
      have hmv : mvO x.m = (⟨(i1, i2), tm, (b1, b2), (p1, p2), ky⟩ : Mv) := by rw [hi1, hi2, htm, hb1', hb2', hp1, hp2, hky]; rfl
      have hMD : Dw (i1, i2) ∧ Dw (b1, b2) ∧ Dw (p1, p2) := by rw [hi1, hi2, hb1', hb2', hp1, hp2]; exact ⟨⟨hxf.id0, hxf.id1⟩, ⟨hxf.bl0, hxf.bl1⟩, ⟨hxf.pa0, hxf.pa1⟩⟩
      have HXA := hid hxA
      by_cases hk3 : kd = 3
      · have hnx := HST.out.next hxA (by show x.o.kind = 3; rw [← hkd]; exact hk3)
        have hcnt := HST.out.count (k + 1)
        have hml := madeN_le (A.take (k + 1))
        rw [hmv] at hnx
        obtain ⟨hn1, hn2, hn3⟩ := hnx
        have hn3' : madeN (A.take (k + 1)) = madeN (A.take k) + (if b1 = i1 ∧ b2 = i2 then 1 else 0) := by rw [hi1, hi2, hb1', hb2']; exact hn3
        obtain ⟨c4', c4⟩ : True ∧ wr.cell? ⟨g, o + k * 14 + 4, none⟩ = some (.int .i64 kd) := ⟨trivial, (HCS.out wr S3.out.2).2.2.2.1⟩
        have hS1 : wr.drew.cell? ⟨g, o + k * 14, none⟩ = some (.int .i64 i1) ∧ wr.drew.cell? ⟨g, o + k * 14 + 1, none⟩ = some (.int .i64 i2) ∧ wr.drew.cell? ⟨g, o + k * 14 + 2, none⟩ = some (.int .i64 tm) ∧ wr.drew.cell? ⟨g, o + k * 14 + 5, none⟩ = some (.int .i64 b1) ∧ wr.drew.cell? ⟨g, o + k * 14 + 6, none⟩ = some (.int .i64 b2) ∧ wr.drew.cell? ⟨g, o + k * 14 + 11, none⟩ = some (.int .i64 p1) ∧ wr.drew.cell? ⟨g, o + k * 14 + 12, none⟩ = some (.int .i64 p2) ∧ wr.drew.cell? ⟨g, o + k * 14 + 13, none⟩ = some (.string ky) := by
          obtain ⟨y0, y1, y2, y4, y5, y6, y11, y12, y13⟩ := HCS.out wr.drew S3.out.2.drew
          exact ⟨y0, y1, y2, y5, y6, y11, y12, y13⟩
        have hlen1 : ((tr (mvsA (A.take k)))).length + 1 ≤ 1000 := by
          have h1 := tr_len (mvsA (A.take k))
          have h2 : (mvsA (A.take k)).length ≤ (A.take k).length := by unfold mvsA; rw [List.length_map]; exact List.length_filter_le _ _
          rw [List.length_take] at h2
          omega
        have HMv : Calls Try.prog 12 #[.pointer (some ⟨t, 0, none⟩), .agg #[.int .i64 i1, .int .i64 i2], .int .i64 tm, .agg #[.int .i64 b1, .int .i64 b2], .agg #[.int .i64 p1, .int .i64 p2], .string ky] wr.drew fun e V => e = .returned (.int .i64 0) ∧ (V.cell? ⟨g, o + k * 14, none⟩ = some (.int .i64 i1) ∧ V.cell? ⟨g, o + k * 14 + 1, none⟩ = some (.int .i64 i2) ∧ V.cell? ⟨g, o + k * 14 + 2, none⟩ = some (.int .i64 tm) ∧ V.cell? ⟨g, o + k * 14 + 5, none⟩ = some (.int .i64 b1) ∧ V.cell? ⟨g, o + k * 14 + 6, none⟩ = some (.int .i64 b2) ∧ V.cell? ⟨g, o + k * 14 + 11, none⟩ = some (.int .i64 p1) ∧ V.cell? ⟨g, o + k * 14 + 12, none⟩ = some (.int .i64 p2) ∧ V.cell? ⟨g, o + k * 14 + 13, none⟩ = some (.string ky)) ∧ Hid (TP V t (tr (mvsA (A.take (k + 1)))) P ∧ Below W2.heap.size W2 V) := (move_tp (⟨(i1, i2), tm, (b1, b2), (p1, p2), ky⟩ : Mv) S3.out.1.drew hMD hlen1).mono (fun e V h => by
          have hb : Below W2.heap.size W2 V := S3.out.2.drew.trans (KP.bel (by rw [HP.out] at h; exact h.2.2))
          obtain ⟨y0, y1, y2, y4, y5, y6, y11, y12, y13⟩ := HCS.out V hb
          exact ⟨by rw [h.1, hn2], ⟨y0, y1, y2, y5, y6, y11, y12, y13⟩, hid ⟨by rw [hn1]; exact h.2.1, hb⟩⟩)
        subst hk3
        have HN3 := hid hn3'
        have HCN := hid hcnt
        have hck2 : madeN (A.take (k + 1)) ≤ k + 1 := Nat.le_trans hml (by rw [List.length_take]; omega)
        have HCK := hid hck2
        clear hn1 hn2 hn3 hn3' hcnt hml hck2 hlen1 hxA hxf hAt hMD hmv hi1 hi2 htm hkd hb1' hb2' hp1 hp2 hky c4'
        go_wp2_with fail
        refine wp_region_held_drew (S := fun w' => w'.cell? ⟨g, o + k * 14, none⟩ = some (.int .i64 i1) ∧ w'.cell? ⟨g, o + k * 14 + 1, none⟩ = some (.int .i64 i2) ∧ w'.cell? ⟨g, o + k * 14 + 2, none⟩ = some (.int .i64 tm) ∧ w'.cell? ⟨g, o + k * 14 + 5, none⟩ = some (.int .i64 b1) ∧ w'.cell? ⟨g, o + k * 14 + 6, none⟩ = some (.int .i64 b2) ∧ w'.cell? ⟨g, o + k * 14 + 11, none⟩ = some (.int .i64 p1) ∧ w'.cell? ⟨g, o + k * 14 + 12, none⟩ = some (.int .i64 p2) ∧ w'.cell? ⟨g, o + k * 14 + 13, none⟩ = some (.string ky)) hmxo hS1 ?_
        intro _
        refine wpAnyH_take (i := 0) (v := .pointer (some ⟨t, 0, none⟩)) rfl (by kernel_rfl) (by kernel_rfl) (by kernel_rfl) (fun _ _ _ h => h) (Or.inl ⟨by kernel_rfl, fun w hSw => ?_⟩) hS1 ?_
        · obtain ⟨e1, e2, e3, e4, e5, e6, e7, e8⟩ := hSw; go_simp
        simp only [Act.put, List.getElem_toArray, List.getElem_cons_succ, List.getElem_cons_zero, List.setIfInBounds_toArray, List.set_cons_zero, List.set_cons_succ]
        refine wpAnyH_take (i := 1) (v := .slice (some ⟨g, o, none⟩) n oc) rfl (by kernel_rfl) (by kernel_rfl) (by kernel_rfl) (fun _ _ _ h => h) (Or.inl ⟨by kernel_rfl, fun w hSw => ?_⟩) hS1 ?_
        · obtain ⟨e1, e2, e3, e4, e5, e6, e7, e8⟩ := hSw; go_simp
        simp only [Act.put, List.getElem_toArray, List.getElem_cons_succ, List.getElem_cons_zero, List.setIfInBounds_toArray, List.set_cons_zero, List.set_cons_succ]
        refine wpAnyH_take (i := 2) (v := .int .i64 (k : Int)) rfl (by kernel_rfl) (by kernel_rfl) (by kernel_rfl) (fun _ _ _ h => h) (Or.inl ⟨by kernel_rfl, fun w hSw => ?_⟩) hS1 ?_
        · obtain ⟨e1, e2, e3, e4, e5, e6, e7, e8⟩ := hSw; go_simp
        simp only [Act.put, List.getElem_toArray, List.getElem_cons_succ, List.getElem_cons_zero, List.setIfInBounds_toArray, List.set_cons_zero, List.set_cons_succ]
        refine wpAnyH_take (i := 3) (v := .pointer (some ⟨g, o + k * 14, none⟩)) rfl (by kernel_rfl) (by kernel_rfl) (by kernel_rfl) (fun _ _ _ h => h) (Or.inl ⟨by kernel_rfl, fun w hSw => ?_⟩) hS1 ?_
        · obtain ⟨e1, e2, e3, e4, e5, e6, e7, e8⟩ := hSw; go_simp
        simp only [Act.put, List.getElem_toArray, List.getElem_cons_succ, List.getElem_cons_zero, List.setIfInBounds_toArray, List.set_cons_zero, List.set_cons_succ]
        refine wpAnyH_take (i := 4) (v := .pointer (some ⟨g, o + k * 14, none⟩)) rfl (by kernel_rfl) (by kernel_rfl) (by kernel_rfl) (fun _ _ _ h => h) (Or.inl ⟨by kernel_rfl, fun w hSw => ?_⟩) hS1 ?_
        · obtain ⟨e1, e2, e3, e4, e5, e6, e7, e8⟩ := hSw; go_simp
        simp only [Act.put, List.getElem_toArray, List.getElem_cons_succ, List.getElem_cons_zero, List.setIfInBounds_toArray, List.set_cons_zero, List.set_cons_succ]
        refine wpAnyH_take (i := 5) (v := .agg #[.int .i64 i1, .int .i64 i2]) rfl (by kernel_rfl) (by kernel_rfl) (by kernel_rfl) (fun _ _ _ h => h) (Or.inl ⟨by kernel_rfl, fun w hSw => ?_⟩) hS1 ?_
        · obtain ⟨e1, e2, e3, e4, e5, e6, e7, e8⟩ := hSw; go_simp
        simp only [Act.put, List.getElem_toArray, List.getElem_cons_succ, List.getElem_cons_zero, List.setIfInBounds_toArray, List.set_cons_zero, List.set_cons_succ]
        refine wpAnyH_take (i := 6) (v := .slice (some ⟨g, o, none⟩) n oc) rfl (by kernel_rfl) (by kernel_rfl) (by kernel_rfl) (fun _ _ _ h => h) (Or.inl ⟨by kernel_rfl, fun w hSw => ?_⟩) hS1 ?_
        · obtain ⟨e1, e2, e3, e4, e5, e6, e7, e8⟩ := hSw; go_simp
        simp only [Act.put, List.getElem_toArray, List.getElem_cons_succ, List.getElem_cons_zero, List.setIfInBounds_toArray, List.set_cons_zero, List.set_cons_succ]
        refine wpAnyH_take (i := 7) (v := .int .i64 (k : Int)) rfl (by kernel_rfl) (by kernel_rfl) (by kernel_rfl) (fun _ _ _ h => h) (Or.inl ⟨by kernel_rfl, fun w hSw => ?_⟩) hS1 ?_
        · obtain ⟨e1, e2, e3, e4, e5, e6, e7, e8⟩ := hSw; go_simp
        simp only [Act.put, List.getElem_toArray, List.getElem_cons_succ, List.getElem_cons_zero, List.setIfInBounds_toArray, List.set_cons_zero, List.set_cons_succ]
        refine wpAnyH_take (i := 8) (v := .pointer (some ⟨g, o + k * 14, none⟩)) rfl (by kernel_rfl) (by kernel_rfl) (by kernel_rfl) (fun _ _ _ h => h) (Or.inl ⟨by kernel_rfl, fun w hSw => ?_⟩) hS1 ?_
        · obtain ⟨e1, e2, e3, e4, e5, e6, e7, e8⟩ := hSw; go_simp
        simp only [Act.put, List.getElem_toArray, List.getElem_cons_succ, List.getElem_cons_zero, List.setIfInBounds_toArray, List.set_cons_zero, List.set_cons_succ]
        refine wpAnyH_take (i := 9) (v := .pointer (some ⟨g, o + k * 14 + 2, none⟩)) rfl (by kernel_rfl) (by kernel_rfl) (by kernel_rfl) (fun _ _ _ h => h) (Or.inl ⟨by kernel_rfl, fun w hSw => ?_⟩) hS1 ?_
        · obtain ⟨e1, e2, e3, e4, e5, e6, e7, e8⟩ := hSw; go_simp
        simp only [Act.put, List.getElem_toArray, List.getElem_cons_succ, List.getElem_cons_zero, List.setIfInBounds_toArray, List.set_cons_zero, List.set_cons_succ]
        refine wpAnyH_take (i := 10) (v := .int .i64 tm) rfl (by kernel_rfl) (by kernel_rfl) (by kernel_rfl) (fun _ _ _ h => h) (Or.inl ⟨by kernel_rfl, fun w hSw => ?_⟩) hS1 ?_
        · obtain ⟨e1, e2, e3, e4, e5, e6, e7, e8⟩ := hSw; go_simp
        simp only [Act.put, List.getElem_toArray, List.getElem_cons_succ, List.getElem_cons_zero, List.setIfInBounds_toArray, List.set_cons_zero, List.set_cons_succ]
        refine wpAnyH_take (i := 11) (v := .slice (some ⟨g, o, none⟩) n oc) rfl (by kernel_rfl) (by kernel_rfl) (by kernel_rfl) (fun _ _ _ h => h) (Or.inl ⟨by kernel_rfl, fun w hSw => ?_⟩) hS1 ?_
        · obtain ⟨e1, e2, e3, e4, e5, e6, e7, e8⟩ := hSw; go_simp
        simp only [Act.put, List.getElem_toArray, List.getElem_cons_succ, List.getElem_cons_zero, List.setIfInBounds_toArray, List.set_cons_zero, List.set_cons_succ]
        refine wpAnyH_take (i := 12) (v := .int .i64 (k : Int)) rfl (by kernel_rfl) (by kernel_rfl) (by kernel_rfl) (fun _ _ _ h => h) (Or.inl ⟨by kernel_rfl, fun w hSw => ?_⟩) hS1 ?_
        · obtain ⟨e1, e2, e3, e4, e5, e6, e7, e8⟩ := hSw; go_simp
        simp only [Act.put, List.getElem_toArray, List.getElem_cons_succ, List.getElem_cons_zero, List.setIfInBounds_toArray, List.set_cons_zero, List.set_cons_succ]
        refine wpAnyH_take (i := 13) (v := .pointer (some ⟨g, o + k * 14, none⟩)) rfl (by kernel_rfl) (by kernel_rfl) (by kernel_rfl) (fun _ _ _ h => h) (Or.inl ⟨by kernel_rfl, fun w hSw => ?_⟩) hS1 ?_
        · obtain ⟨e1, e2, e3, e4, e5, e6, e7, e8⟩ := hSw; go_simp
        simp only [Act.put, List.getElem_toArray, List.getElem_cons_succ, List.getElem_cons_zero, List.setIfInBounds_toArray, List.set_cons_zero, List.set_cons_succ]
        refine wpAnyH_take (i := 14) (v := .pointer (some ⟨g, o + k * 14 + 5, none⟩)) rfl (by kernel_rfl) (by kernel_rfl) (by kernel_rfl) (fun _ _ _ h => h) (Or.inl ⟨by kernel_rfl, fun w hSw => ?_⟩) hS1 ?_
        · obtain ⟨e1, e2, e3, e4, e5, e6, e7, e8⟩ := hSw; go_simp
        simp only [Act.put, List.getElem_toArray, List.getElem_cons_succ, List.getElem_cons_zero, List.setIfInBounds_toArray, List.set_cons_zero, List.set_cons_succ]
        refine wpAnyH_take (i := 15) (v := .agg #[.int .i64 b1, .int .i64 b2]) rfl (by kernel_rfl) (by kernel_rfl) (by kernel_rfl) (fun _ _ _ h => h) (Or.inl ⟨by kernel_rfl, fun w hSw => ?_⟩) hS1 ?_
        · obtain ⟨e1, e2, e3, e4, e5, e6, e7, e8⟩ := hSw; go_simp
        simp only [Act.put, List.getElem_toArray, List.getElem_cons_succ, List.getElem_cons_zero, List.setIfInBounds_toArray, List.set_cons_zero, List.set_cons_succ]
        refine wpAnyH_take (i := 16) (v := .slice (some ⟨g, o, none⟩) n oc) rfl (by kernel_rfl) (by kernel_rfl) (by kernel_rfl) (fun _ _ _ h => h) (Or.inl ⟨by kernel_rfl, fun w hSw => ?_⟩) hS1 ?_
        · obtain ⟨e1, e2, e3, e4, e5, e6, e7, e8⟩ := hSw; go_simp
        simp only [Act.put, List.getElem_toArray, List.getElem_cons_succ, List.getElem_cons_zero, List.setIfInBounds_toArray, List.set_cons_zero, List.set_cons_succ]
        refine wpAnyH_take (i := 17) (v := .int .i64 (k : Int)) rfl (by kernel_rfl) (by kernel_rfl) (by kernel_rfl) (fun _ _ _ h => h) (Or.inl ⟨by kernel_rfl, fun w hSw => ?_⟩) hS1 ?_
        · obtain ⟨e1, e2, e3, e4, e5, e6, e7, e8⟩ := hSw; go_simp
        simp only [Act.put, List.getElem_toArray, List.getElem_cons_succ, List.getElem_cons_zero, List.setIfInBounds_toArray, List.set_cons_zero, List.set_cons_succ]
        refine wpAnyH_take (i := 18) (v := .pointer (some ⟨g, o + k * 14, none⟩)) rfl (by kernel_rfl) (by kernel_rfl) (by kernel_rfl) (fun _ _ _ h => h) (Or.inl ⟨by kernel_rfl, fun w hSw => ?_⟩) hS1 ?_
        · obtain ⟨e1, e2, e3, e4, e5, e6, e7, e8⟩ := hSw; go_simp
        simp only [Act.put, List.getElem_toArray, List.getElem_cons_succ, List.getElem_cons_zero, List.setIfInBounds_toArray, List.set_cons_zero, List.set_cons_succ]
        refine wpAnyH_take (i := 19) (v := .pointer (some ⟨g, o + k * 14 + 11, none⟩)) rfl (by kernel_rfl) (by kernel_rfl) (by kernel_rfl) (fun _ _ _ h => h) (Or.inl ⟨by kernel_rfl, fun w hSw => ?_⟩) hS1 ?_
        · obtain ⟨e1, e2, e3, e4, e5, e6, e7, e8⟩ := hSw; go_simp
        simp only [Act.put, List.getElem_toArray, List.getElem_cons_succ, List.getElem_cons_zero, List.setIfInBounds_toArray, List.set_cons_zero, List.set_cons_succ]
        refine wpAnyH_take (i := 20) (v := .agg #[.int .i64 p1, .int .i64 p2]) rfl (by kernel_rfl) (by kernel_rfl) (by kernel_rfl) (fun _ _ _ h => h) (Or.inl ⟨by kernel_rfl, fun w hSw => ?_⟩) hS1 ?_
        · obtain ⟨e1, e2, e3, e4, e5, e6, e7, e8⟩ := hSw; go_simp
        simp only [Act.put, List.getElem_toArray, List.getElem_cons_succ, List.getElem_cons_zero, List.setIfInBounds_toArray, List.set_cons_zero, List.set_cons_succ]
        refine wpAnyH_take (i := 21) (v := .slice (some ⟨g, o, none⟩) n oc) rfl (by kernel_rfl) (by kernel_rfl) (by kernel_rfl) (fun _ _ _ h => h) (Or.inl ⟨by kernel_rfl, fun w hSw => ?_⟩) hS1 ?_
        · obtain ⟨e1, e2, e3, e4, e5, e6, e7, e8⟩ := hSw; go_simp
        simp only [Act.put, List.getElem_toArray, List.getElem_cons_succ, List.getElem_cons_zero, List.setIfInBounds_toArray, List.set_cons_zero, List.set_cons_succ]
        refine wpAnyH_take (i := 22) (v := .int .i64 (k : Int)) rfl (by kernel_rfl) (by kernel_rfl) (by kernel_rfl) (fun _ _ _ h => h) (Or.inl ⟨by kernel_rfl, fun w hSw => ?_⟩) hS1 ?_
        · obtain ⟨e1, e2, e3, e4, e5, e6, e7, e8⟩ := hSw; go_simp
        simp only [Act.put, List.getElem_toArray, List.getElem_cons_succ, List.getElem_cons_zero, List.setIfInBounds_toArray, List.set_cons_zero, List.set_cons_succ]
        refine wpAnyH_take (i := 23) (v := .pointer (some ⟨g, o + k * 14, none⟩)) rfl (by kernel_rfl) (by kernel_rfl) (by kernel_rfl) (fun _ _ _ h => h) (Or.inl ⟨by kernel_rfl, fun w hSw => ?_⟩) hS1 ?_
        · obtain ⟨e1, e2, e3, e4, e5, e6, e7, e8⟩ := hSw; go_simp
        simp only [Act.put, List.getElem_toArray, List.getElem_cons_succ, List.getElem_cons_zero, List.setIfInBounds_toArray, List.set_cons_zero, List.set_cons_succ]
        refine wpAnyH_take (i := 24) (v := .pointer (some ⟨g, o + k * 14 + 13, none⟩)) rfl (by kernel_rfl) (by kernel_rfl) (by kernel_rfl) (fun _ _ _ h => h) (Or.inl ⟨by kernel_rfl, fun w hSw => ?_⟩) hS1 ?_
        · obtain ⟨e1, e2, e3, e4, e5, e6, e7, e8⟩ := hSw; go_simp
        simp only [Act.put, List.getElem_toArray, List.getElem_cons_succ, List.getElem_cons_zero, List.setIfInBounds_toArray, List.set_cons_zero, List.set_cons_succ]
        refine wpAnyH_take (i := 25) (v := .string ky) rfl (by kernel_rfl) (by kernel_rfl) (by kernel_rfl) (fun _ _ _ h => h) (Or.inl ⟨by kernel_rfl, fun w hSw => ?_⟩) hS1 ?_
        · obtain ⟨e1, e2, e3, e4, e5, e6, e7, e8⟩ := hSw; go_simp
        simp only [Act.put, List.getElem_toArray, List.getElem_cons_succ, List.getElem_cons_zero, List.setIfInBounds_toArray, List.set_cons_zero, List.set_cons_succ]
        refine wpAnyH_ready (rs := [26]) (by kernel_rfl) (by simp) ?_
        refine AllReadyH.cons rfl (fun K hK => ?_) AllReadyH.nil
        go_simp
        refine HMv.mono ?_
        rintro e V1 ⟨rfl, SV, S4⟩
        refine hK.out _ _ SV (fun _ => ?_)
        clear hK K
        refine wpAnyH_take (i := 27) (v := .int .i64 0) rfl (by kernel_rfl) (by kernel_rfl) (by kernel_rfl) (fun _ _ _ h => h) (Or.inl ⟨by kernel_rfl, fun w hSw => ?_⟩) SV ?_
        · obtain ⟨e1, e2, e3, e4, e5, e6, e7, e8⟩ := hSw; go_simp
        simp only [Act.put, List.getElem_toArray, List.getElem_cons_succ, List.getElem_cons_zero, List.setIfInBounds_toArray, List.set_cons_zero, List.set_cons_succ]
        refine wpAnyH_done (by kernel_rfl) ?_ _
        clear HMv hS1 SV c4
        have C0 : ∀ m, (V1.drewN m).cell? ⟨g, o + k * 14, none⟩ = some (.int .i64 i1) := fun m => (HCS.out V1 S4.out.2).1
        have C1 : ∀ m, (V1.drewN m).cell? ⟨g, o + k * 14 + 1, none⟩ = some (.int .i64 i2) := fun m => (HCS.out V1 S4.out.2).2.1
        have E0 : ∀ m, (V1.drewN m).cell? ⟨g, o + k * 14 + 5, none⟩ = some (.int .i64 b1) := fun m => (HCS.out V1 S4.out.2).2.2.2.2.1
        have E1 : ∀ m, (V1.drewN m).cell? ⟨g, o + k * 14 + 6, none⟩ = some (.int .i64 b2) := fun m => (HCS.out V1 S4.out.2).2.2.2.2.2.1
        obtain ⟨N1, hN1⟩ : ∃ N1, N1 = madeN (A.take (k + 1)) := ⟨_, rfl⟩
        have HBl : Hid (∀ m, Calls Try.prog 14 #[.pointer (some ⟨t, 0, none⟩)] (V1.drewN m) fun e V' => ∃ a1 c1, e = .returned (.slice a1 N1 c1) ∧ Hid (TP V' t (tr (mvsA (A.take (k + 1)))) P ∧ Below W2.heap.size W2 V')) := hid (fun m => by
          have hd : TP (V1.drewN m) t (tr (mvsA (A.take (k + 1)))) P := S4.out.1.below ((Far.refl V1).drewN m).below
          refine (blocks_tp hd).mono (fun e V' h => ?_)
          obtain ⟨a', c', h1, h2, h3, h4⟩ := h
          rw [HCN.out, ← hN1] at h1
          exact ⟨a', c', h1, hid ⟨h3.mono (fun j hj => Or.inl hj), (S4.out.2.trans (((Far.refl V1).drewN m).below.mono S4.out.2.size)).trans (KP.bel (by rw [HP.out] at h4; exact h4))⟩⟩)
        have HN1 := hid hN1
        clear hN1
        have hkq : (k : Int) < (n : Int) := by omega
        have hkq0 : (0 : Int) ≤ (k : Int) := by omega
        by_cases e1 : b1 = i1
        · by_cases e2 : b2 = i2
          · have hN : N1 = cn + 1 := by rw [HN1.out, HN3.out, if_pos ⟨e1, e2⟩, ← HC.out]
            subst hN
            have f1 : (b1 == i1) = true := by simpa using e1
            have f2 : (b2 == i2) = true := by simpa using e2
            clear e1 e2
            go_wp2_with fail
            go_quiet (fail)
            go_wp2_with (go_at_call 14; refine (HBl.out _).mono ?_; rintro e V3 ⟨a1, c1, rfl, S5⟩)
            go_roundw
            case rel => exact ⟨k + 1, cn + 1, by omega, by omega, by go_num, by go_num, HN1, S5⟩
            case measure => simp [intOf]; omega
          · have hN : N1 = cn := by rw [HN1.out, HN3.out, if_neg (fun h => e2 h.2), ← HC.out]; rfl
            subst hN
            have f1 : (b1 == i1) = true := by simpa using e1
            have f2 : (b2 == i2) = false := by simpa using e2
            clear e1 e2
            go_wp2_with fail
            go_quiet (fail)
            go_wp2_with (go_at_call 14; refine (HBl.out _).mono ?_; rintro e V3 ⟨a1, c1, rfl, S5⟩)
            go_roundw
            case rel => exact ⟨k + 1, N1, by omega, by omega, rfl, by go_num, HN1, S5⟩
            case measure => simp [intOf]; omega
        · have hN : N1 = cn := by rw [HN1.out, HN3.out, if_neg (fun h => e1 h.1), ← HC.out]; rfl
          subst hN
          have f1 : (b1 == i1) = false := by simpa using e1
          clear e1
          go_wp2_with fail
          go_quiet (fail)
          go_wp2_with (go_at_call 14; refine (HBl.out _).mono ?_; rintro e V3 ⟨a1, c1, rfl, S5⟩)
          go_roundw
          case rel => exact ⟨k + 1, N1, by omega, by omega, rfl, by go_num, HN1, S5⟩
          case measure => simp [intOf]; omega
      · have hel := story_else hxA (by show x.o.kind ≠ 3; rw [← hkd]; exact hk3)
        have c4 := (HCS.out wr S3.out.2).2.2.2.1
        have f1 : (kd == 3) = false := by simpa using hk3
        have HEL := hid hel
        clear hel hxA hxf hAt hMD hmv hi1 hi2 htm hkd hb1' hb2' hp1 hp2 hky
        go_wp2
        go_roundw
        case rel => exact ⟨k + 1, cn, by omega, by omega, rfl, by go_num, hid (by rw [HEL.out.2]; exact HC.out), hid (by rw [HEL.out.1]; exact S3.out)⟩
        case measure => simp [intOf]; omega
    · have hb1 : decide ((k : Int) < (n : Int)) = false := by simp; omega
      go_wp2
      go_ret
      exact ⟨rfl, HB2.out.trans (S3.out.2.mono HB2.out.size)⟩
end

section
open Go.RowKit

theorem f64_wf {n : Int} (h : (Lit.int .i64 n).wf = true) : F64 n := f64_of h

section
open Go.ChangeShapes Go.WideShapes
variable {H : Type} {enc : TypeId × Value → H} {P : Program} {w : World} {base : Nat} {spare : Nat → Bool} {held : Bool}

theorem open_madel {tM tInt tStr : TypeId} {fs : Array Field} {L : List Value} {fuel : Nat} {x : DataW H × List MemPlace}
    (hO : P.underlying tM = some (.struct fs)) (hF : fs.toList.map (fun f => (f.type, f.offset)) = [(tInt, 0), (tInt, 1), (tInt, 2), (tInt, 3), (tInt, 4), (tStr, 5)])
    (hI : P.underlying tInt = some (.int .i64)) (hS : P.underlying tStr = some .string) (cO : P.cellsOf tM = 6) (cI : P.cellsOf tInt = 1) (cS : P.cellsOf tStr = 1)
    (hf : DataW.trod enc P w base spare held fuel tM L = some x) :
    ∃ m : Md, L = m.cells.toList ∧ m.Fits := by
  obtain ⟨xs, n, _, hx, hl, hlen, hq⟩ := DataW.trod_struct hO hf
  have F := fun i t o hi => fld (enc := enc) (w := w) (base := base) (spare := spare) (held := held) hF hlen hq i (t := t) (o := o) hi
  obtain ⟨y0, f0, _⟩ := F 0 _ _ rfl
  obtain ⟨y1, f1, _⟩ := F 1 _ _ rfl
  obtain ⟨y2, f2, _⟩ := F 2 _ _ rfl
  obtain ⟨y3, f3, _⟩ := F 3 _ _ rfl
  obtain ⟨y4, f4, _⟩ := F 4 _ _ rfl
  obtain ⟨y5, f5, _⟩ := F 5 _ _ rfl
  rw [cI] at f0 f1 f2 f3 f4
  rw [cS] at f5
  obtain ⟨z0, e0, _, u0⟩ := DataW.trod_int hI f0
  obtain ⟨z1, e1, _, u1⟩ := DataW.trod_int hI f1
  obtain ⟨z2, e2, _, u2⟩ := DataW.trod_int hI f2
  obtain ⟨z3, e3, _, u3⟩ := DataW.trod_int hI f3
  obtain ⟨z4, e4, _, u4⟩ := DataW.trod_int hI f4
  obtain ⟨k, e5, _, u5⟩ := DataW.trod_string hS f5
  refine ⟨⟨z0, z1, z2, z3, z4, k⟩, ?_, ⟨f64_wf u0, f64_wf u1, f64_wf u2, f64_wf u3, f64_wf u4, u5⟩⟩
  have p0 := part_one e0
  have p1 := part_one e1
  have p2 := part_one e2
  have p3 := part_one e3
  have p4 := part_one e4
  have p5 := part_one e5
  rw [cO] at hl
  apply List.ext_getElem?
  intro i
  match i with
  | 0 => exact p0
  | 1 => exact p1
  | 2 => exact p2
  | 3 => exact p3
  | 4 => exact p4
  | 5 => exact p5
  | i + 6 => rw [List.getElem?_eq_none (by omega), List.getElem?_eq_none (by simp [Md.cells])]
end

theorem cells9 : Try.prog.cellsOf 9 = 1 := by kernel_rfl

theorem cellsMade : Try.prog.cellsOf 93 = 6 := by kernel_rfl

theorem open_mades {H : Type} {enc : TypeId × Value → H} {W : World} {a : Option Addr} {len cap : Nat} {d : DataW H} {p : List MemPlace} (h : DataW.Trod enc Try.prog W 0 (fun _ => true) true 53 (.slice a len cap) d p) :
    ∃ L, MS W a len cap L ∧ ∀ m ∈ L, m.Fits := by
  obtain ⟨fuel, hf⟩ := h
  rcases Go.Deep.open_slice Try.underlying53 hf with ⟨hcs, _⟩ | ⟨x, l, c, m, n, D, Pl, hcs, _, hl, hm, hmm, _, hx⟩
  · simp [Value.cells] at hcs
    obtain ⟨rfl, rfl, rfl⟩ := hcs
    exact ⟨[], ⟨rfl, Nat.le_refl _, Nat.zero_le _, fun h => absurd h (by omega)⟩, fun x hx => by simp at hx⟩
  · simp [Value.cells] at hcs
    obtain ⟨rfl, rfl, rfl⟩ := hcs
    have hlm : len ≤ m := by rw [hmm]; split <;> omega
    have each : ∀ i, i < m → ∃ y : Md, (∀ j u, y.cells.toList[j]? = some u → W.cell? ((x.add (i * 6)).add j) = some u) ∧ y.Fits := by
      intro i hi
      obtain ⟨cs, h1, h2⟩ := hx i hi
      rw [cellsMade] at h1
      obtain ⟨_, hlen, hcell⟩ := World.cells?_some h1
      obtain ⟨y, rfl, hfit⟩ := open_madel Try.underlying93 rfl Try.underlying3 Try.underlying9 cellsMade intCells cells9 h2
      refine ⟨y, fun j u hj => ?_, hfit⟩
      have hj6 : j < 6 := by
        rcases Nat.lt_or_ge j 6 with h' | h'
        · exact h'
        · rw [List.getElem?_eq_none (by simpa [Md.cells] using h')] at hj; cases hj
      have := hcell j hj6
      rw [this]
      exact hj
    haveI : Inhabited Md := ⟨⟨0, 0, 0, 0, 0, ByteArray.empty⟩⟩
    obtain ⟨q, hq⟩ := Go.Deep.choose_lt each
    refine ⟨(List.range len).map q, ⟨by simp, hl, hm, fun hp => ?_⟩, fun y hy => ?_⟩
    · obtain ⟨g, o, sp⟩ := x
      have h0 := (hq 0 (by omega)).1 0 (.int .i64 (q 0).act) rfl
      have hs : sp = none := by simpa [Addr.add] using World.cell?_spot h0
      subst hs
      refine ⟨g, o, rfl, by have := cell_in h0; simpa [Addr.add] using this, fun i hi => ?_⟩
      have hil : i < len := by simpa using hi
      have hi' := (hq i (by omega)).1
      rw [List.getElem_map, List.getElem_range]
      have key : ∀ j u, (q i).cells.toList[j]? = some u → W.cell? ⟨g, o + i * 6 + j, none⟩ = some u := fun j u hj => by
        have := hi' j u hj
        rw [add_none, add_none] at this
        exact this
      exact ⟨key 0 _ rfl, key 1 _ rfl, key 2 _ rfl, key 3 _ rfl, key 4 _ rfl, key 5 _ rfl⟩
    · obtain ⟨i, hi, rfl⟩ := List.mem_map.1 hy
      exact (hq i (by have := List.mem_range.1 hi; omega)).2
end

section
open Go.RowKit
open Go.Sort (grow)

/-- The blocks that are had, in the order of the operations; the characters of one. -/
def blkL (V : List Dt) (l : List Mo) : List Dt := (l.filter (fun x => hasv V x.o.id && (x.o.kind == 3) && ((x.o.bl0 == x.o.id0) && (x.o.bl1 == x.o.id1)))).map (fun x => x.o.id)
def chrL (V : List Dt) (b0 b1 : Int) (l : List Mo) : List Dt := (l.filter (fun x => hasv V x.o.id && (x.o.kind == 1) && ((x.o.bl0 == b0) && (x.o.bl1 == b1)))).map (fun x => x.o.id)

/-- The first form of an operation. -/
def oneI (act s t kd : Int) : OpIn := ⟨act, s, t, kd, 0, 0, 0, 0, 0, 0, 0, 0, { data := #[] }⟩

/-- The blocks of a call of one. -/
structure OV (w W : World) (qo : Nat) (o : OpIn) (dep : Value) (m : Md) : Prop where
  h0 : W.heap[w.heap.size]? = some (.cells m.cells 93)
  h1 : W.heap[w.heap.size + 1]? = some (.cells (zop.cells (.slice none 0 0)) 58)
  h2 : W.heap[qo]? = some (.cells (o.cells dep) 58)
  hq : w.heap.size + 2 ≤ qo
  hB : RowKit.Below w.heap.size w W

theorem wrap_same {x : Int} (h0 : -9223372036854775808 ≤ x) (h1 : x ≤ 9223372036854775807) : IntKind.i64.wrap x = x := by
  rw [IntKind.wrap_i64]
  omega

theorem mvd_fits {act s t : Int} {Bs : List Dt} {key : ByteArray} {o' : OpIn} (h : Mvd (oneI act s t 3) Bs key o') (ha : F64 act) (hs : F64 s) (ht : F64 t) (hB : ∀ b ∈ Bs, Dw b) (hk : key.size ≤ maxLen) : o'.Fits := by
  have w0 : (Lit.int .i64 0).wf = true := by decide
  have hbl : (Lit.int .i64 o'.bl0).wf = true ∧ (Lit.int .i64 o'.bl1).wf = true := by
    rcases h.bl with ⟨e0, e1⟩ | hb
    · rw [e0, e1]; exact ⟨wf_i64 ha.1 ha.2, wf_i64 hs.1 hs.2⟩
    · exact hB _ hb
  have hpa : (Lit.int .i64 o'.pa0).wf = true ∧ (Lit.int .i64 o'.pa1).wf = true := by
    rcases List.mem_append.1 h.par with hp | hp
    · simp only [List.mem_cons, Prod.mk.injEq, List.not_mem_nil, or_false] at hp
      rcases hp with ⟨e0, e1⟩ | ⟨e0, e1⟩ <;> rw [e0, e1] <;> exact ⟨by decide, by decide⟩
    · exact hB _ hp
  exact ⟨by rw [h.id0]; exact wf_i64 ha.1 ha.2, by rw [h.id1]; exact wf_i64 hs.1 hs.2, by rw [h.time]; exact wf_i64 ht.1 ht.2, by rw [h.kind]; show (Lit.int .i64 3).wf = true; decide, hbl.1, hbl.2, by rw [h.at0]; exact w0, by rw [h.at1]; exact w0, by rw [h.side]; exact w0, by rw [h.char]; exact w0, hpa.1, hpa.2, by rw [h.key]; exact hk⟩

theorem mvd_kd {A : List Mop} {V : List Dt} {act s t : Int} {Bs : List Dt} {key : ByteArray} {o' : OpIn} (h : Mvd (oneI act s t 3) Bs key o') (hB : ∀ b ∈ Bs, isBlk A V b) : KD A o' V := by
  refine Or.inl ⟨h.kind, ?_, ?_⟩
  · rcases h.bl with ⟨e0, e1⟩ | hb
    · exact Or.inl ⟨e0.trans h.id0.symm, e1.trans h.id1.symm⟩
    · exact Or.inr (hB _ hb)
  · rcases List.mem_append.1 h.par with hp | hp
    · simp only [List.mem_cons, List.not_mem_nil, or_false] at hp
      rcases hp with e | e
      · exact Or.inl e
      · exact Or.inr (Or.inl e)
    · exact Or.inr (Or.inr (hB _ hp))

theorem OV.grown {w W W' : World} {qo : Nat} {o : OpIn} {dep : Value} {m : Md} {r : Option Nat} (h : OV w W qo o dep m) (hg : W.grownBy W' r) (hr : ∀ j, r = some j → W.heap.size ≤ j) : OV w W' qo o dep m := by
  have s0 := (Array.getElem?_eq_some_iff.1 h.h0).1
  have s1 := (Array.getElem?_eq_some_iff.1 h.h1).1
  have s2 := (Array.getElem?_eq_some_iff.1 h.h2).1
  have hne : ∀ k, k < W.heap.size → some k ≠ r := fun k hk e => by have := hr k e.symm; omega
  exact ⟨(hg.block _ s0 (hne _ s0)).trans h.h0, (hg.block _ s1 (hne _ s1)).trans h.h1, (hg.block _ s2 (hne _ s2)).trans h.h2, h.hq, h.hB.grown hg (by omega) (fun j hj => by have := hr j hj; omega)⟩

theorem OV.below {w W W' : World} {qo : Nat} {o : OpIn} {dep : Value} {m : Md} (h : OV w W qo o dep m) (hb : RowKit.Below W.heap.size W W') : OV w W' qo o dep m := h.grown (obelow_grown hb) (fun j hj => by cases hj)

theorem OV.set {w W : World} {qo : Nat} {o o' : OpIn} {dep : Value} {m : Md} (h : OV w W qo o dep m) (j : Nat) (v : Value) (he : (o.cells dep).setIfInBounds j v = o'.cells dep) : OV w (W.setCell ⟨qo, j, none⟩ v) qo o' dep m := by
  have hq := h.hq
  have s2 := (Array.getElem?_eq_some_iff.1 h.h2).1
  refine ⟨(set_other (by omega) v).trans h.h0, (set_other (by omega) v).trans h.h1, ?_, h.hq, below_set h.hB (by omega) (by omega) j v⟩
  rw [set_block h.h2 v, he]

theorem blkL_is {V : List Dt} {L : List Mo} {b : Dt} (h : b ∈ blkL V L) : isBlk (L.map Mo.m) V b ∧ ∃ x ∈ L, x.o.id = b := by
  obtain ⟨x, hx, rfl⟩ := List.mem_map.1 h
  obtain ⟨hL, hc⟩ := List.mem_filter.1 hx
  simp only [Bool.and_eq_true, beq_iff_eq] at hc
  exact ⟨⟨x.m, List.mem_map.2 ⟨x, hL, rfl⟩, hc.1.1, hc.1.2, hc.2.1, hc.2.2, rfl⟩, x, hL, rfl⟩
theorem chrL_is {V : List Dt} {b0 b1 : Int} {L : List Mo} {d : Dt} (h : d ∈ chrL V b0 b1 L) : isChr (L.map Mo.m) V b0 b1 d ∧ ∃ x ∈ L, x.o.id = d ∧ hasv V x.o.id = true := by
  obtain ⟨x, hx, rfl⟩ := List.mem_map.1 h
  obtain ⟨hL, hc⟩ := List.mem_filter.1 hx
  simp only [Bool.and_eq_true, beq_iff_eq] at hc
  exact ⟨⟨x.m, List.mem_map.2 ⟨x, hL, rfl⟩, hc.1.1, hc.1.2, hc.2.1, hc.2.2, rfl⟩, x, hL, rfl, hc.1.1⟩

theorem fits_all {i0 i1 t k b0 b1 a0 a1 s c : Int} (h0 : (Lit.int .i64 i0).wf = true) (h1 : (Lit.int .i64 i1).wf = true) (h2 : (Lit.int .i64 t).wf = true) (h3 : (Lit.int .i64 k).wf = true) (h4 : (Lit.int .i64 b0).wf = true) (h5 : (Lit.int .i64 b1).wf = true) (h6 : (Lit.int .i64 a0).wf = true) (h7 : (Lit.int .i64 a1).wf = true) (h8 : (Lit.int .i64 s).wf = true) (h9 : (Lit.int .i64 c).wf = true) : (⟨i0, i1, t, k, b0, b1, a0, a1, s, c, 0, 0, { data := #[] }⟩ : OpIn).Fits :=
  ⟨h0, h1, h2, h3, h4, h5, h6, h7, h8, h9, show (Lit.int .i64 0).wf = true by decide, show (Lit.int .i64 0).wf = true by decide, Nat.zero_le _⟩

theorem wf_of {n : Int} (h : F64 n) : (Lit.int .i64 n).wf = true := wf_i64 h.1 h.2
theorem wf_b {n : Int} (h0 : -10000000000000 ≤ n) (h1 : n ≤ 10000000000000) : (Lit.int .i64 n).wf = true := wf_i64 (by omega) (by omega)

theorem own_kept_v {w w' : World} {base : Nat} {v : Value} {L : List Dt} (h : OwnV w base v L) (hb : RowKit.Below w.heap.size w w') : OwnV w' base v L := World.ownsRow.kept h (obelow_grown hb) none_or

theorem blkL_snoc (V : List Dt) (l : List Mo) (x : Mo) : blkL V (l ++ [x]) = blkL V l ++ (if (hasv V x.o.id && (x.o.kind == 3) && ((x.o.bl0 == x.o.id0) && (x.o.bl1 == x.o.id1))) = true then [x.o.id] else []) := by
  unfold blkL
  rw [List.filter_append, List.map_append]
  congr 1
  split
  · rename_i h; rw [List.filter_cons_of_pos (by exact h)]; rfl
  · rename_i h; rw [List.filter_cons_of_neg (by exact h)]; rfl

theorem chrL_snoc (V : List Dt) (b0 b1 : Int) (l : List Mo) (x : Mo) : chrL V b0 b1 (l ++ [x]) = chrL V b0 b1 l ++ (if (hasv V x.o.id && (x.o.kind == 1) && ((x.o.bl0 == b0) && (x.o.bl1 == b1))) = true then [x.o.id] else []) := by
  unfold chrL
  rw [List.filter_append, List.map_append]
  congr 1
  split
  · rename_i h; rw [List.filter_cons_of_pos (by exact h)]; rfl
  · rename_i h; rw [List.filter_cons_of_neg (by exact h)]; rfl

theorem blkL_len (V : List Dt) (l : List Mo) : (blkL V l).length ≤ l.length := by
  unfold blkL
  rw [List.length_map]
  exact List.length_filter_le _ _
theorem chrL_len (V : List Dt) (b0 b1 : Int) (l : List Mo) : (chrL V b0 b1 l).length ≤ l.length := by
  unfold chrL
  rw [List.length_map]
  exact List.length_filter_le _ _

theorem two_new (w : World) (A B : Obj) : ((w.alloc A).alloc B).heap[w.heap.size]? = some A ∧ ((w.alloc A).alloc B).heap[w.heap.size + 1]? = some B ∧ ((w.alloc A).alloc B).heap.size = w.heap.size + 2 ∧ RowKit.Below w.heap.size w ((w.alloc A).alloc B) := by
  refine ⟨((World.grownBy_alloc (w.alloc A) B none).block w.heap.size (by simp) (by simp)).trans (MapKept.heap_alloc w A).1, ?_, by simp, (((Far.refl w).alloc A).alloc B).below⟩
  have := (MapKept.heap_alloc (w.alloc A) B).1
  rw [World.size_alloc] at this
  exact this

theorem one_a {W w1 : World} (h : Far W w1) (C : Obj) : (w1.alloc C).heap[w1.heap.size]? = some C ∧ W.heap.size ≤ w1.heap.size ∧ RowKit.Below W.heap.size W (w1.alloc C) := ⟨(MapKept.heap_alloc w1 C).1, h.below.size, (h.alloc C).below⟩

theorem one_b {W w1 : World} {Y : Obj} (h : Far (W.alloc Y).drew w1) (hY : Y = .cells (zop.cells (.slice none 0 0)) 58) (o : OpIn) (v : Value) : (put14 w1 W.heap.size o v).heap[W.heap.size]? = some (.cells (o.cells v) 58) ∧ RowKit.Below W.heap.size W (put14 w1 W.heap.size o v) := by
  have h0 : W.heap.size < (W.alloc Y).drew.heap.size := by show W.heap.size < (W.alloc Y).heap.size; simp
  have h1 := (h.below.block _ h0).trans (MapKept.heap_alloc W Y).1
  rw [hY] at h1
  have hF : Far W w1 := (((Far.refl W).alloc Y).drew).trans h
  have G := put14_grown w1 W.heap.size o v
  exact ⟨put14_block h1, hF.below.grown G hF.below.size (fun j hj => by cases hj; exact Nat.le_refl _)⟩
end
end Go.Proofs.Ytplcohjpchfkkaa
