/- Lines that came in; a text that came in; the wrap of this layer's statements. -/
import Derived.Test.YtnmdcdphpcpojaaGreatDoorTrTP
import Derived.Test.YtnmdcdphpcpojaaGreatDoorOlAwake
import Derived.BigQuiet
import Derived.Deep.RegionHeld
import Derived.Deep.CutRange
import Derived.Deep.CutBlock
import Derived.Test.YtnmdcdphpcpojaaGreatDoorTrMath
import Derived.ProofKit
import Derived.OpenShut
import Derived.Deep.SlicePairs
import Derived.Lib.SmallJoins
import Derived.Test.YtnmdcdphpcpojaaGreatDoorRows
import Derived.HandedShaped
namespace Go.Proofs.YtnmdcdphpcpojaaGreatDoor
section
set_option linter.unusedVariables false
set_option linter.unusedSimpArgs false
open Go.RowKit Go.Shelf

set_option maxRecDepth 100000 in
set_option maxHeartbeats 8000000 in
theorem back_walk (a : Option Addr) (n c : Nat) (L : List Ln) (x : ByteArray) (m : Int) (w : World) (h : LnS w a n c L) (hf : ∀ y ∈ L, y.Fits) (hm : w.cell? ⟨0, 0, none⟩ = some (.int .i64 m)) (h0 : 0 < w.heap.size) :
    Calls Tryz.prog 6 #[.slice a n c, .string x] w fun e w' => e = .returned (.bool true) ∧ Below w.heap.size w w' := by
  obtain ⟨s, rfl⟩ : ∃ s, x = sB s := ⟨x.data.toList, by simp [sB]⟩
  have hmxo : Tryz.prog.follows .mixedOrders = true := by kernel_rfl
  have mixed := mixed
  have hcap := h.cap
  have hmax := h.max
  unfold maxLen at hmax
  have HL := hid h.len
  have HS := hid h
  have HF := hid hf
  have HAW := hid (olawake_any m w hm h0)
  have HM := hid hm
  clear h hf
  go_enter Tryz.func6, Tryz.ntmps6
  go_upto_region 4 with (go_at_call 9; refine HAW.out.mono ?_; rintro e W1 ⟨rfl, hB1⟩)
  have HB1 := hid hB1
  have HSH := hid (shallow_any a n c L W1 (HS.out.below hB1) HF.out)
  clear hB1
  obtain ⟨ok, hok⟩ : ∃ ok, ok = shB L := ⟨_, rfl⟩
  rw [← hok] at HSH
  have HOK := hid hok
  clear hok
  go_upto_region 5 with (go_at_call 17; refine HSH.out.mono ?_; rintro e W1 ⟨rfl, rfl⟩)
  have hss : s.length < 9223372036854775808 → (sB s).size = s.length := fun _ => sB_size s
  cases ok with
  | false =>
    go_wp2
    go_ret
    exact ⟨rfl, HB1.out⟩
  | true =>
    by_cases hlong : 2000 < s.length
    · obtain ⟨sz, hsz⟩ : ∃ sz, sz = (sB s).size := ⟨_, rfl⟩
      have hb : decide (2000 < (((sB s).size : Nat) : Int)) = true := by rw [sB_size]; simp; omega
      have hb2 : decide (2000 < ((s.length : Nat) : Int)) = true := by simp; omega
      go_wp2
      go_ret
      exact ⟨rfl, HB1.out⟩
    · have hb : decide (2000 < (((sB s).size : Nat) : Int)) = false := by rw [sB_size]; simp; omega
      have hb2 : decide (2000 < ((s.length : Nat) : Int)) = false := by simp; omega
      clear hss
      obtain ⟨hall, hn100⟩ := shB_yes HOK.out.symm
      have HALL := hid hall
      have hn : n ≤ 100 := by rw [← HL.out]; exact hn100
      have HSL := hid hlong
      clear hall hn100 hlong HAW HSH
      have hm1 : W1.cell? ⟨0, 0, none⟩ = some (.int .i64 m) := by rw [HB1.out.cell (by simpa using h0)]; exact hm
      have HM1 := hid hm1
      clear hm hm1
      have HS1 := hid (HS.out.below HB1.out)
      go_wp2_with fail
      go_loopw [7, 8, 9, 10] (fun v may i most wr => ∃ (k : Nat) (B : Bool), k ≤ n ∧ i = .int .i64 k ∧ may = .bool B ∧ Hid (B = mayP L k) ∧ Hid (wr.ownsRow W1.heap.size 54 4 v k (flLn ((L.take k).map strip)) ∧ Below W1.heap.size W1 wr)) (fun _ _ i _ _ => n - (intOf i).toNat)
      case atStart => exact ⟨0, true, by omega, rfl, rfl, hid rfl, hid ⟨World.ownsRow_nil _ _ _ _, Below.refl _ _⟩⟩
      case round =>
        obtain ⟨k, B, hk, rfl, rfl, HB, HO⟩ := hrel
        by_cases hlt : k < n
        · have hSr := HS1.out.below HO.out.2
          obtain ⟨g, o, x, rfl, hx, hg, c0, c1, c2, c3⟩ := hSr.look hlt
          have hxm := List.mem_of_getElem? hx
          obtain ⟨hxt, hxd⟩ := HALL.out x hxm
          have hxd0 := (HF.out x hxm).d.1
          have HX := hid hx
          obtain ⟨M, hM⟩ : ∃ M, M = mostI L k := ⟨_, rfl⟩
          have hk1 : (k : Int) < (n : Int) := by omega
          have hk0 : (0 : Int) ≤ (k : Int) := by omega
          have hMb : -9223372036854775808 ≤ M ∧ M ≤ 1001 := by
            rw [hM]
            cases k with
            | zero => simp [mostI]
            | succ j =>
              show -9223372036854775808 ≤ (match L[j]? with | some x => x.d + 1 | none => 0) ∧ (match L[j]? with | some x => x.d + 1 | none => 0) ≤ 1001
              cases e : L[j]? with
              | none => simp
              | some y =>
                have h1 := (HALL.out y (List.mem_of_getElem? e)).2
                have h2 := (HF.out y (List.mem_of_getElem? e)).d.1
                show -9223372036854775808 ≤ y.d + 1 ∧ y.d + 1 ≤ 1001
                omega
          have HMd := hid hM
          have HMP : Hid (mayP L (k + 1) = (B && (decide (0 ≤ x.d) && decide (x.d ≤ M)))) := hid (by rw [mayP_step hx, HB.out, hM])
          have HPREV : Hid (k ≠ 0 → ∃ y : Ln, wr.cell? ⟨g, o + (k - 1) * 4 + 2, none⟩ = some (.int .i64 y.d) ∧ y.d ≤ 1000 ∧ -9223372036854775808 ≤ y.d ∧ M = y.d + 1) := hid (fun hk0 => by
            obtain ⟨g', o', y, e, hy, _, _, _, d2, _⟩ := hSr.look (show k - 1 < n by omega)
            cases e
            refine ⟨y, d2, (HALL.out y (List.mem_of_getElem? hy)).2, (HF.out y (List.mem_of_getElem? hy)).d.1, ?_⟩
            obtain ⟨j, rfl⟩ : ∃ j, k = j + 1 := ⟨k - 1, by omega⟩
            rw [hM]
            show (match L[j]? with | some x => x.d + 1 | none => 0) = _
            have hy' : L[j]? = some y := hy
            rw [hy'])
          clear hM hx hxm hSr
          obtain ⟨⟨x1, x2⟩, xd, xt⟩ := x
          simp only at c0 c1 c2 c3 hxt hxd hxd0
          go_upto_if 34 with fail
          go_cut [10] from 27 to 73 (fun s wc => s = .int .i64 M ∧ wr = wc)
          case first =>
            by_cases hz : k = 0
            · have HMZ : Hid (M = 0) := hid (by rw [HMd.out, hz]; rfl)
              clear HPREV HMd HMP HX HB HO c0 c1 c2 c3 hk1 hk0 hMb
              subst hz
              go_wp2_with fail
              go_meet
              case rel => exact ⟨by rw [HMZ.out], rfl⟩
            · obtain ⟨y, d2, hy1, hy2, hMy⟩ := HPREV.out hz
              obtain ⟨yd, hyd⟩ : ∃ yd, yd = y.d := ⟨_, rfl⟩
              rw [← hyd] at d2 hy1 hy2 hMy
              have HMY := hid hMy
              have hb3 : decide ((0 : Int) < (k : Int)) = true := by simp; omega
              have hkp : (0 : Int) < (k : Int) := by omega
              have hj3 : (k : Int) - 1 < (n : Int) := by omega
              have hj4 : (0 : Int) ≤ (k : Int) - 1 := by omega
              clear hyd hMy HPREV HMd HMP HX HB HO c0 c1 c2 c3
              go_wp2_with fail
              go_meet
              case rel => exact ⟨by rw [HMY.out], rfl⟩
          case rest =>
            obtain ⟨rfl, rfl⟩ := hcut
            obtain ⟨B2, hB2⟩ : ∃ B2, B2 = (B && (decide (0 ≤ xd) && decide (xd ≤ M))) := ⟨_, rfl⟩
            go_upto_region 15 with fail
            go_cut [8] from 27 to 73 (fun s wc => s = .bool B2 ∧ wr = wc)
            case first =>
              have HB2 := hid hB2
              clear hB2
              cases B with
              | false =>
                go_wp2_with fail
                go_meet
                case rel => exact ⟨by rw [HB2.out]; rfl, rfl⟩
              | true =>
                by_cases h1 : 0 ≤ xd
                · have b1 : decide ((0 : Int) ≤ xd) = true := by simp [h1]
                  by_cases h2 : xd ≤ M
                  · have b2 : decide (xd ≤ M) = true := by simp [h2]
                    have HR : Hid (B2 = true) := hid (by rw [HB2.out, b1, b2]; rfl)
                    go_wp2_with fail
                    go_meet
                    case rel => exact ⟨by rw [HR.out], rfl⟩
                  · have b2 : decide (xd ≤ M) = false := by simp; omega
                    have HR : Hid (B2 = false) := hid (by rw [HB2.out, b1, b2]; rfl)
                    go_wp2_with fail
                    go_meet
                    case rel => exact ⟨by rw [HR.out], rfl⟩
                · have b1 : decide ((0 : Int) ≤ xd) = false := by simp; omega
                  have HR : Hid (B2 = false) := hid (by rw [HB2.out, b1]; rfl)
                  go_wp2_with fail
                  go_meet
                  case rel => exact ⟨by rw [HR.out], rfl⟩
            case rest =>
              obtain ⟨rfl, rfl⟩ := hcut
              have HB2 := hid (HMP.out.trans hB2.symm)
              clear hB2
              go_upto_region 16 with fail
              have hgW : g < W1.heap.size := by
                obtain ⟨g', o', e, hg', _⟩ := HS1.out.at_ (by omega)
                cases e
                exact hg'
              have hbl : Below wr.heap.size wr (wr.drew.alloc (.cells #[.int .i64 0, .int .i64 0, .int .i64 xd, .string ⟨xt.toArray⟩] 54)) := (((Far.refl wr).drewN 1).below).alloc (Nat.le_refl _) _
              obtain ⟨a5, c5, w5, hrun, ho5, hb5⟩ := lns_app (w := wr.drew) (HO.out.1.drew) ⟨(0, 0), xd, xt⟩ (by omega) HO.out.2.size
              have hS0 : wr.drew.cell? ⟨g, o + k * 4 + 2, none⟩ = some (.int .i64 xd) ∧ wr.drew.cell? ⟨g, o + k * 4 + 3, none⟩ = some (.string ⟨xt.toArray⟩) := ⟨c2, c3⟩
              have hS1 : (wr.drew.alloc (.cells #[.int .i64 0, .int .i64 0, .int .i64 xd, .string ⟨xt.toArray⟩] 54)).cell? ⟨g, o + k * 4 + 2, none⟩ = some (.int .i64 xd) ∧ (wr.drew.alloc (.cells #[.int .i64 0, .int .i64 0, .int .i64 xd, .string ⟨xt.toArray⟩] 54)).cell? ⟨g, o + k * 4 + 3, none⟩ = some (.string ⟨xt.toArray⟩) := ⟨by rw [hbl.cell (p := ⟨g, o + k * 4 + 2, none⟩) hg]; exact c2, by rw [hbl.cell (p := ⟨g, o + k * 4 + 3, none⟩) hg]; exact c3⟩
              have hS2 : w5.cell? ⟨g, o + k * 4 + 2, none⟩ = some (.int .i64 xd) ∧ w5.cell? ⟨g, o + k * 4 + 3, none⟩ = some (.string ⟨xt.toArray⟩) := ⟨by rw [hb5.cell (p := ⟨g, o + k * 4 + 2, none⟩) hgW]; exact c2, by rw [hb5.cell (p := ⟨g, o + k * 4 + 3, none⟩) hgW]; exact c3⟩
              have HO5 := hid ho5
              have HB5 : Hid (Below W1.heap.size W1 w5) := hid (HO.out.2.trans ((((Far.refl wr).drewN 1).below.mono HO.out.2.size).trans hb5))
              have HTK : Hid ((L.take (k + 1)).map strip = (L.take k).map strip ++ [(⟨(0, 0), xd, xt⟩ : Ln)]) := hid (by
                obtain ⟨h1, h2⟩ := List.getElem?_eq_some_iff.1 HX.out
                rw [List.take_succ_eq_append_getElem h1, h2, List.map_append]
                rfl)
              clear ho5 hb5 hbl hgW hg HPREV c0 c1
              refine wp_region_held_drew (S := fun w' => w'.cell? ⟨g, o + k * 4 + 2, none⟩ = some (.int .i64 xd) ∧ w'.cell? ⟨g, o + k * 4 + 3, none⟩ = some (.string ⟨xt.toArray⟩)) hmxo hS0 ?_
              intro _
              refine wpAnyH_take (i := 0) (v := u7) rfl (by kernel_rfl) (by kernel_rfl) (by kernel_rfl) (fun _ _ _ h => h) (Or.inl ⟨by kernel_rfl, fun w hSw => ?_⟩) hS0 ?_
              · obtain ⟨e1, e2⟩ := hSw; go_simp
              simp only [Act.put, List.getElem_toArray, List.getElem_cons_succ, List.getElem_cons_zero, List.setIfInBounds_toArray, List.set_cons_zero, List.set_cons_succ]
              refine wpAnyH_take (i := 1) (v := .slice (some ⟨g, o, none⟩) n c) rfl (by kernel_rfl) (by kernel_rfl) (by kernel_rfl) (fun _ _ _ h => h) (Or.inl ⟨by kernel_rfl, fun w hSw => ?_⟩) hS0 ?_
              · obtain ⟨e1, e2⟩ := hSw; go_simp
              simp only [Act.put, List.getElem_toArray, List.getElem_cons_succ, List.getElem_cons_zero, List.setIfInBounds_toArray, List.set_cons_zero, List.set_cons_succ]
              refine wpAnyH_take (i := 2) (v := .int .i64 k) rfl (by kernel_rfl) (by kernel_rfl) (by kernel_rfl) (fun _ _ _ h => h) (Or.inl ⟨by kernel_rfl, fun w hSw => ?_⟩) hS0 ?_
              · obtain ⟨e1, e2⟩ := hSw; go_simp
              simp only [Act.put, List.getElem_toArray, List.getElem_cons_succ, List.getElem_cons_zero, List.setIfInBounds_toArray, List.set_cons_zero, List.set_cons_succ]
              refine wpAnyH_take (i := 3) (v := .pointer (some ⟨g, o + k * 4, none⟩)) rfl (by kernel_rfl) (by kernel_rfl) (by kernel_rfl) (fun _ _ _ h => h) (Or.inl ⟨by kernel_rfl, fun w hSw => ?_⟩) hS0 ?_
              · obtain ⟨e1, e2⟩ := hSw; go_simp
              simp only [Act.put, List.getElem_toArray, List.getElem_cons_succ, List.getElem_cons_zero, List.setIfInBounds_toArray, List.set_cons_zero, List.set_cons_succ]
              refine wpAnyH_take (i := 4) (v := .pointer (some ⟨g, o + k * 4 + 2, none⟩)) rfl (by kernel_rfl) (by kernel_rfl) (by kernel_rfl) (fun _ _ _ h => h) (Or.inl ⟨by kernel_rfl, fun w hSw => ?_⟩) hS0 ?_
              · obtain ⟨e1, e2⟩ := hSw; go_simp
              simp only [Act.put, List.getElem_toArray, List.getElem_cons_succ, List.getElem_cons_zero, List.setIfInBounds_toArray, List.set_cons_zero, List.set_cons_succ]
              refine wpAnyH_take (i := 5) (v := .int .i64 xd) rfl (by kernel_rfl) (by kernel_rfl) (by kernel_rfl) (fun _ _ _ h => h) (Or.inl ⟨by kernel_rfl, fun w hSw => ?_⟩) hS0 ?_
              · obtain ⟨e1, e2⟩ := hSw; go_simp
              simp only [Act.put, List.getElem_toArray, List.getElem_cons_succ, List.getElem_cons_zero, List.setIfInBounds_toArray, List.set_cons_zero, List.set_cons_succ]
              refine wpAnyH_take (i := 6) (v := .slice (some ⟨g, o, none⟩) n c) rfl (by kernel_rfl) (by kernel_rfl) (by kernel_rfl) (fun _ _ _ h => h) (Or.inl ⟨by kernel_rfl, fun w hSw => ?_⟩) hS0 ?_
              · obtain ⟨e1, e2⟩ := hSw; go_simp
              simp only [Act.put, List.getElem_toArray, List.getElem_cons_succ, List.getElem_cons_zero, List.setIfInBounds_toArray, List.set_cons_zero, List.set_cons_succ]
              refine wpAnyH_take (i := 7) (v := .int .i64 k) rfl (by kernel_rfl) (by kernel_rfl) (by kernel_rfl) (fun _ _ _ h => h) (Or.inl ⟨by kernel_rfl, fun w hSw => ?_⟩) hS0 ?_
              · obtain ⟨e1, e2⟩ := hSw; go_simp
              simp only [Act.put, List.getElem_toArray, List.getElem_cons_succ, List.getElem_cons_zero, List.setIfInBounds_toArray, List.set_cons_zero, List.set_cons_succ]
              refine wpAnyH_take (i := 8) (v := .pointer (some ⟨g, o + k * 4, none⟩)) rfl (by kernel_rfl) (by kernel_rfl) (by kernel_rfl) (fun _ _ _ h => h) (Or.inl ⟨by kernel_rfl, fun w hSw => ?_⟩) hS0 ?_
              · obtain ⟨e1, e2⟩ := hSw; go_simp
              simp only [Act.put, List.getElem_toArray, List.getElem_cons_succ, List.getElem_cons_zero, List.setIfInBounds_toArray, List.set_cons_zero, List.set_cons_succ]
              refine wpAnyH_take (i := 9) (v := .pointer (some ⟨g, o + k * 4 + 3, none⟩)) rfl (by kernel_rfl) (by kernel_rfl) (by kernel_rfl) (fun _ _ _ h => h) (Or.inl ⟨by kernel_rfl, fun w hSw => ?_⟩) hS0 ?_
              · obtain ⟨e1, e2⟩ := hSw; go_simp
              simp only [Act.put, List.getElem_toArray, List.getElem_cons_succ, List.getElem_cons_zero, List.setIfInBounds_toArray, List.set_cons_zero, List.set_cons_succ]
              refine wpAnyH_take (i := 10) (v := .string ⟨xt.toArray⟩) rfl (by kernel_rfl) (by kernel_rfl) (by kernel_rfl) (fun _ _ _ h => h) (Or.inl ⟨by kernel_rfl, fun w hSw => ?_⟩) hS0 ?_
              · obtain ⟨e1, e2⟩ := hSw; go_simp
              simp only [Act.put, List.getElem_toArray, List.getElem_cons_succ, List.getElem_cons_zero, List.setIfInBounds_toArray, List.set_cons_zero, List.set_cons_succ]
              refine wpAnyH_take (i := 11) (v := .agg #[.int .i64 0, .int .i64 0, .int .i64 xd, .string ⟨xt.toArray⟩]) rfl (by kernel_rfl) (by kernel_rfl) (by kernel_rfl) (fun _ _ _ h => h) (Or.inl ⟨by kernel_rfl, fun w hSw => ?_⟩) hS0 ?_
              · obtain ⟨e1, e2⟩ := hSw; go_simp
              simp only [Act.put, List.getElem_toArray, List.getElem_cons_succ, List.getElem_cons_zero, List.setIfInBounds_toArray, List.set_cons_zero, List.set_cons_succ]
              refine wpAnyH_ready (rs := [12]) (by kernel_rfl) (by simp) ?_
              refine AllReadyH.cons rfl (fun K hK => ?_) AllReadyH.nil
              go_simp
              refine hK.out _ _ hS1 (fun _ => ?_)
              clear hK K
              refine wpAnyH_ready (rs := [13]) (by kernel_rfl) (by simp) ?_
              refine AllReadyH.cons rfl (fun K hK => ?_) AllReadyH.nil
              refine olappend_step _ _ 43 u7 _ _ w5 rfl rfl rfl rfl hrun ?_
              refine hK.out _ _ hS2 (fun _ => ?_)
              clear hK K
              simp only [Act.put, List.getElem_toArray, List.getElem_cons_succ, List.getElem_cons_zero, List.setIfInBounds_toArray, List.set_cons_zero, List.set_cons_succ]
              refine wpAnyH_take (i := 14) (v := .slice a5 (k + 1) c5) rfl (by kernel_rfl) (by kernel_rfl) (by kernel_rfl) (fun _ _ _ h => h) (Or.inl ⟨by kernel_rfl, fun w hSw => ?_⟩) hS2 ?_
              · obtain ⟨e1, e2⟩ := hSw; go_simp
              simp only [Act.put, List.getElem_toArray, List.getElem_cons_succ, List.getElem_cons_zero, List.setIfInBounds_toArray, List.set_cons_zero, List.set_cons_succ]
              refine wpAnyH_done (by kernel_rfl) ?_ _
              go_wp2
              go_roundw
              case rel => exact ⟨k + 1, B2, by omega, by go_num, rfl, hid HB2.out.symm, hid ⟨by rw [HTK.out]; exact HO5.out, HB5.out⟩⟩
              case measure => simp [intOf]; omega
        · obtain rfl : k = n := by omega
          have hN : (L.take k).map strip = L.map strip := by rw [List.take_of_length_le (by rw [HL.out]; exact Nat.le_refl _)]
          obtain ⟨a7, c7, hv7, hL7⟩ := own_lns HO.out.1
          subst hv7
          rw [hN] at hL7
          have HL7 := hid hL7
          have HBr := hid HO.out.2
          have hmr : wr.cell? ⟨0, 0, none⟩ = some (.int .i64 m) := by rw [HBr.out.cell (by have := HB1.out.size; show 0 < W1.heap.size; omega)]; exact HM1.out
          have hzr : 0 < wr.heap.size := by have := HBr.out.size; have := HB1.out.size; omega
          have HMV : Hid (∀ V, Below wr.heap.size wr V → V.cell? ⟨0, 0, none⟩ = some (.int .i64 m) ∧ 0 < V.heap.size) := hid (fun V hV => ⟨by rw [hV.cell (by simpa using hzr)]; exact hmr, by have := hV.size; omega⟩)
          have hfb : ∀ y ∈ L, -9223372036854775808 ≤ y.d ∧ y.d ≤ 100000 ∧ y.t.length ≤ 100000 := fun y hy => ⟨(HF.out y hy).d.1, by have := (HALL.out y hy).2; omega, by have := (HALL.out y hy).1; omega⟩
          obtain ⟨st, hst⟩ : ∃ st, st = sB (showL L) := ⟨_, rfl⟩
          have HSHW := hid (show_any a k c L m wr (HS1.out.below HBr.out) hfb (by omega) hmr hzr)
          rw [← hst] at HSHW
          have hlen : (showL L).length < 1000000 := by
            have := showL_len2 L HALL.out
            rw [HL.out] at this
            omega
          obtain ⟨q2, hq2⟩ : ∃ q2, q2 = (rdM (showL L)).length := ⟨_, rfl⟩
          obtain ⟨E1, hE1⟩ : ∃ E1, E1 = rdE (showL L) := ⟨_, rfl⟩
          have HRD1 : Hid (∀ V, Below wr.heap.size wr V → Calls Tryz.prog 20 #[.string st] V fun e V' => ∃ a2 c2, e = .returned (.tuple #[.slice a2 q2 c2, .int .i64 E1]) ∧ Hid (LnS V' a2 q2 c2 (rdM (showL L)) ∧ Below wr.heap.size wr V')) := hid (fun V hV => by
            have := read_any (showL L) m V hlen (HMV.out V hV).1 (HMV.out V hV).2
            rw [← hst, ← hE1] at this
            refine this.mono ?_
            rintro e V' ⟨v, rfl, ho, hb⟩
            obtain ⟨a2, c2, rfl, hL2⟩ := own_lns ho
            rw [← hq2] at hL2 ⊢
            exact ⟨a2, c2, rfl, hid ⟨hL2, hV.trans (hb.mono hV.size)⟩⟩)
          have HBK : Hid (B = true → rdM (showL L) = L.map strip ∧ E1 = 0) := hid (fun h => by
            rw [hE1]
            exact back_read (by rw [HL.out, ← HB.out]; exact h))
          clear hst hq2 hE1 hlen hL7 hN hmr hzr hfb
          go_upto_region 18 with (first
            | (go_at_call 18; refine HSHW.out.mono ?_; rintro e W2 ⟨rfl, hB2⟩; have HB2 := hid hB2; clear hB2)
            | (go_at_call 20; refine (HRD1.out _ HB2.out).mono ?_; rintro e W3 ⟨a2, c2, rfl, S3⟩))
          go_cut [90] from 80 to 90 (fun s wc => s = .bool false ∧ Hid (Below wr.heap.size wr wc))
          case first =>
            cases B with
            | false =>
              go_wp2_with fail
              go_meet
              case rel => exact ⟨rfl, hid S3.out.2⟩
            | true =>
              obtain ⟨e1, e2⟩ := HBK.out rfl
              have hLS := S3.out.1
              rw [e1] at hLS
              have HSA := hid (lsame_any a2 q2 c2 (L.map strip) a7 k c7 (L.map strip) W3 hLS (HL7.out.below S3.out.2))
              rw [lnsB_iff.2 rfl] at HSA
              clear hLS e1
              subst e2
              go_wp2_with (go_at_call 14; refine HSA.out.mono ?_; rintro e W4 ⟨rfl, qq, rfl⟩)
              go_meet
              case rel => exact ⟨rfl, hid (S3.out.2.trans ((((Far.refl W3).drewN qq).below).mono S3.out.2.size))⟩
          case rest =>
            obtain ⟨rfl, HBc⟩ := hcut
            obtain ⟨q3, hq3⟩ : ∃ q3, q3 = (rdM s).length := ⟨_, rfl⟩
            obtain ⟨E3, hE3⟩ : ∃ E3, E3 = rdE s := ⟨_, rfl⟩
            have HE3 := hid hE3
            have HRD2 : Hid (Calls Tryz.prog 20 #[.string (sB s)] wc fun e V' => ∃ a3 c3, e = .returned (.tuple #[.slice a3 q3 c3, .int .i64 E3]) ∧ Hid (LnS V' a3 q3 c3 (rdM s) ∧ Below wr.heap.size wr V')) := hid (by
              have := read_any s m wc (by have := HSL.out; omega) (HMV.out wc HBc.out).1 (HMV.out wc HBc.out).2
              rw [← hE3] at this
              refine this.mono ?_
              rintro e V' ⟨v, rfl, ho, hb⟩
              obtain ⟨a3, c3, rfl, hL3⟩ := own_lns ho
              rw [← hq3] at hL3 ⊢
              exact ⟨a3, c3, rfl, hid ⟨hL3, HBc.out.trans (hb.mono HBc.out.size)⟩⟩)
            have HQ3 := hid hq3
            clear hq3 hE3
            go_upto_region 21 with (go_at_call 20; refine HRD2.out.mono ?_; rintro e W5 ⟨a3, c3, rfl, S5⟩)
            have HEND : Hid (∀ V, Below wr.heap.size wr V → Below w.heap.size w V) := hid (fun V hV => by
              have h1 := HBr.out.trans (hV.mono HBr.out.size)
              exact HB1.out.trans (h1.mono HB1.out.size))
            by_cases hE : E3 = 0
            · have hbs := back_show (s := s) (by rw [← HE3.out]; exact hE)
              obtain ⟨k1, k2, k3⟩ := hbs
              have hs2 := HSL.out
              have HSW := hid (show_any a3 q3 c3 (rdM s) m W5 S5.out.1 (fun y hy => ⟨by have := (k3 y hy).1; omega, by have := (k3 y hy).2.1; omega, by have := (k3 y hy).2.2; omega⟩) (by rw [HQ3.out]; omega) (HMV.out W5 S5.out.2).1 (HMV.out W5 S5.out.2).2)
              rw [k1] at HSW
              clear k1 k2 k3
              subst hE
              go_wp2_with (go_at_call 18; refine HSW.out.mono ?_; rintro e W6 ⟨rfl, hB6⟩; have HB6 := hid (HEND.out _ (S5.out.2.trans (hB6.mono S5.out.2.size))); clear hB6)
              go_ret
              exact ⟨rfl, HB6.out⟩
            · have hb9 : (E3 == 0) = false := by simpa using hE
              have hb8 : (E3 != 0) = true := by simpa using hE
              have HB5' := hid (HEND.out _ S5.out.2)
              clear hE
              go_wp2
              go_ret
              exact ⟨rfl, HB5'.out⟩
end

section
set_option linter.unusedVariables false
open Go.RowKit

def Mv.cells (x : Mv) : List Value := [.int .i64 x.id.1, .int .i64 x.id.2, .int .i64 x.time, .int .i64 x.block.1, .int .i64 x.block.2, .int .i64 x.parent.1, .int .i64 x.parent.2, .string x.key]

def T64 (n : Int) : Prop := -9223372036854775808 ≤ n ∧ n ≤ 9223372036854775807
theorem t64_wf {n : Int} (h : (Lit.int .i64 n).wf = true) : T64 n := by
  simp [Lit.wf] at h
  unfold T64
  exact h

structure Mv.Fits (x : Mv) : Prop where
  id : Dw x.id
  time : T64 x.time
  block : Dw x.block
  parent : Dw x.parent
  key : x.key.data.size ≤ maxLen

theorem tadd_none (g o k : Nat) : (⟨g, o, none⟩ : Addr).add k = ⟨g, o + k, none⟩ := by unfold Addr.add; split <;> simp_all

section
open Go.ChangeShapes Go.WideShapes
variable {H : Type} {enc : TypeId × Value → H} {P : Program} {w : World} {base : Nat} {spare : Nat → Bool} {held : Bool}

end
end

section
set_option linter.unusedVariables false
open Go.RowKit

section
open Go.ChangeShapes Go.WideShapes
variable {H : Type} {enc : TypeId × Value → H} {P : Program} {w : World} {base : Nat} {spare : Nat → Bool} {held : Bool}

theorem open_lnl {tM tDot tInt tStr : TypeId} {fs : Array Field} {g0 g1 : Field} {L : List Value} {fuel : Nat} {x : DataW H × List MemPlace}
    (hO : P.underlying tM = some (.struct fs)) (hF : fs.toList.map (fun f => (f.type, f.offset)) = [(tDot, 0), (tInt, 2), (tStr, 3)])
    (hD : P.underlying tDot = some (.struct #[g0, g1])) (hg : g0.type = tInt ∧ g0.offset = 0 ∧ g1.type = tInt ∧ g1.offset = 1)
    (hI : P.underlying tInt = some (.int .i64)) (hS : P.underlying tStr = some .string) (cO : P.cellsOf tM = 4) (cD : P.cellsOf tDot = 2) (cI : P.cellsOf tInt = 1) (cS : P.cellsOf tStr = 1)
    (hf : DataW.trod enc P w base spare held fuel tM L = some x) :
    ∃ m : Ln, L = m.cells ∧ m.Fits := by
  obtain ⟨xs, n, _, hx, hl, hlen, hq⟩ := DataW.trod_struct hO hf
  have F := fun i t o hi => fld (enc := enc) (w := w) (base := base) (spare := spare) (held := held) hF hlen hq i (t := t) (o := o) hi
  obtain ⟨y0, f0, _⟩ := F 0 _ _ rfl
  obtain ⟨y1, f1, _⟩ := F 1 _ _ rfl
  obtain ⟨y4, f4, _⟩ := F 2 _ _ rfl
  rw [cI] at f1
  rw [cD] at f0
  rw [cS] at f4
  obtain ⟨a0, s0, e0, u0, v0, _⟩ := dot_part hD hg hI cI f0
  obtain ⟨z1, e1, _, u1⟩ := DataW.trod_int hI f1
  obtain ⟨k, e4, _, u4⟩ := DataW.trod_string hS f4
  refine ⟨⟨(a0, s0), z1, k.data.toList⟩, ?_, ⟨⟨u0, v0⟩, t64_wf u1, by simpa [maxLen] using u4⟩⟩
  have p0 := part_two e0
  have p1 := part_one e1
  have p4 := part_one e4
  rw [cO] at hl
  apply List.ext_getElem?
  intro i
  match i with
  | 0 => exact p0.1
  | 1 => exact p0.2
  | 2 => exact p1
  | 3 => exact p4
  | i + 4 => rw [List.getElem?_eq_none (by omega), List.getElem?_eq_none (by simp [Ln.cells])]
end

theorem cellsLn : Tryz.prog.cellsOf 54 = 4 := by kernel_rfl
theorem olcells9 : Tryz.prog.cellsOf 9 = 1 := by kernel_rfl

set_option maxRecDepth 100000 in
theorem open_lns {H : Type} {enc : TypeId × Value → H} {W : World} {a : Option Addr} {len cap : Nat} {d : DataW H} {p : List MemPlace} (h : DataW.Trod enc Tryz.prog W 0 (fun _ => true) true 43 (.slice a len cap) d p) :
    ∃ L, LnS W a len cap L ∧ ∀ m ∈ L, m.Fits := by
  obtain ⟨fuel, hf⟩ := h
  rcases Go.Deep.open_slice Tryz.underlying43 hf with ⟨hcs, _⟩ | ⟨x, l, c, m, n, D, Pl, hcs, _, hl, hm, hmm, _, hx⟩
  · simp [Value.cells] at hcs
    obtain ⟨rfl, rfl, rfl⟩ := hcs
    exact ⟨[], ⟨rfl, Nat.le_refl _, Nat.zero_le _, fun _ => ⟨rfl, rfl⟩, fun h => absurd h (by omega)⟩, fun x hx => by simp at hx⟩
  · simp [Value.cells] at hcs
    obtain ⟨rfl, rfl, rfl⟩ := hcs
    have hlm : len ≤ m := by rw [hmm]; split <;> omega
    have each : ∀ i, i < m → ∃ y : Ln, (∀ j u, y.cells[j]? = some u → W.cell? ((x.add (i * 4)).add j) = some u) ∧ y.Fits := by
      intro i hi
      obtain ⟨cs, h1, h2⟩ := hx i hi
      rw [cellsLn] at h1
      obtain ⟨_, hlen, hcell⟩ := World.cells?_some h1
      obtain ⟨y, rfl, hfit⟩ := open_lnl Tryz.underlying54 rfl Tryz.underlying24 ⟨rfl, rfl, rfl, rfl⟩ Tryz.underlying3 Tryz.underlying9 cellsLn dotCells intCells olcells9 h2
      refine ⟨y, fun j u hj => ?_, hfit⟩
      have hj8 : j < 4 := by
        rcases Nat.lt_or_ge j 4 with h' | h'
        · exact h'
        · rw [List.getElem?_eq_none (by simpa [Ln.cells] using h')] at hj; cases hj
      have := hcell j hj8
      rw [this]
      exact hj
    haveI : Inhabited Ln := ⟨⟨(0, 0), 0, []⟩⟩
    obtain ⟨q, hq⟩ := Go.Deep.choose_lt each
    refine ⟨(List.range len).map q, ⟨by simp, hl, hm, (fun e => by cases e), fun hp => ?_⟩, fun y hy => ?_⟩
    · obtain ⟨g, o, sp⟩ := x
      have h0 := (hq 0 (by omega)).1 0 (.int .i64 (q 0).b.1) rfl
      have hs : sp = none := by simpa [Addr.add] using World.cell?_spot h0
      subst hs
      refine ⟨g, o, rfl, by have := cell_in h0; simpa [Addr.add] using this, fun i hi j u hj => ?_⟩
      have hil : i < len := by simpa using hi
      have hi' := (hq i (by omega)).1
      rw [List.getElem_map, List.getElem_range] at hj
      have := hi' j u hj
      rw [tadd_none, tadd_none] at this
      exact this
    · obtain ⟨i, hi, rfl⟩ := List.mem_map.1 hy
      exact (hq i (by have := List.mem_range.1 hi; omega)).2

/-- The plain wrap, with the listed variables and the world's shape. -/
theorem ol_wrap {H : Type} {enc : TypeId × Value → H} {C : Checked} {os : Os} {f : FuncId} {fn : Func} {s : ChangeSpec} {laid : List (String × DataW Unit)}
    (own : ownKnob C.prog.godebug = Option.none) (started : os.Started) (noInit : C.prog.inits.idxOf? f = Option.none) (hfn : C.prog.funcs[f]? = some fn)
    (witness : ∃ (w : World) (tape : Tape) (i : Input), w.os = os ∧ (w.forCall tape i).Shaped C.prog ∧ i.vars = [] ∧ Input.okWide C.prog (w.forCall tape i) .any w.heap.size f i ∧
      ((s.pre enc C.prog fn [] false (w.forCall tape i).memory i.args ∧ laidMetH C.prog laid (w.forCall tape i).memory) ∧ sizedMet enc C.prog fn (OpenSpec.ofChange s) false (w.forCall tape i).memory i.args) ∧ ({} : Assume).holds C.prog (lone (Frame.enter C.prog f i.args .normal) [] (w.forCall tape i)))
    (contract : ∀ (W : World) (base : Nat) (args : Array Value) (ds gs : List (DataW H)) (before : List MemPlace),
      (∀ (j : Nat) t v, fn.params[j]? = some t → args[j]? = some v → Value.okWide C.prog W .any base t v) →
      DataW.Whole enc C.prog fn.params.toList s.vars false W args.toList ds gs before → W.ShapedOpen C.prog →
      Calls C.prog f args W fun e W' => ∃ v, e = .returned v ∧ s.post enc C.prog fn false true false false W args v W') :
    ReturnsInHanded {} C os f .any (fun w args => (s.pre enc C.prog fn [] false w args ∧ laidMetH C.prog laid w) ∧ sizedMet enc C.prog fn (OpenSpec.ofChange s) false w args) (s.post enc C.prog fn false true false false) := by
  refine returnsInHanded_of_calls own started noInit witness ?_
  rintro w tape i _ hsh _ ⟨_, _, _, fn', hfn', _, _, _, _, hval⟩ ⟨⟨⟨ds, gs, before, hw, _⟩, _⟩, _⟩ _
  obtain rfl : fn' = fn := Option.some.inj (hfn'.symm.trans hfn)
  exact (contract (w.forCall tape i) w.heap.size i.args ds gs before hval (DataW.Whole.of_heap (w' := w.forCall tape i) (by rfl) hw) hsh).mono fun e W' ⟨v, he, hp⟩ => by
    subst he
    exact ChangeSpec.post_blind hp
end
end Go.Proofs.YtnmdcdphpcpojaaGreatDoor
