/- For any bodies and any bytes behind them FrameBack answers true: frames one behind the other are split into their bodies. No condition. -/
import Derived.Test.YtajopapcknnfoaaFAwake
import Derived.Test.YtajopapcknnfoaaFRefC
import Derived.Test.YtajopapcknnfoaaFrameReads
import Derived.Deep.Matrix
import Derived.WalkKit
import Derived.ProofKit
import Derived.OpenShut
import Derived.ShutString
import Derived.ChangeOld
import Derived.Below
namespace Go.Proofs.Ytajopapcknnfoaa
open Go.RowKit

theorem rows_src {W : World} {x : Addr} {len cap : Nat} {A : Nat → Option Addr} {Ln C : Nat → Nat} {Z : Nat → List Int} (hl : len ≤ cap) (hm : cap ≤ maxLen)
    (h : ∀ r, r < cap → W.cell? (x.add r) = some (.slice (A r) (Ln r) (C r)) ∧ Ln r ≤ C r ∧ C r ≤ maxLen ∧ (Z r).length = C r ∧ (∀ n ∈ Z r, (Lit.int .u8 n).wf = true) ∧ (A r = none → C r = 0) ∧
        ∀ a', A r = some a' → 0 ≤ a'.block ∧ ∀ c, c < C r → W.cell? (a'.add c) = some (.int .u8 ((Z r).getD c 0))) :
    BSrc W (some x) len ((List.range len).map fun r => (Z r).take (Ln r)) ∧ (∀ B ∈ (List.range len).map fun r => (Z r).take (Ln r), Bts B) ∧ (∀ B ∈ (List.range len).map fun r => (Z r).take (Ln r), B.length ≤ 9223372036854775807) ∧ len ≤ 9223372036854775807 := by
  have hmm : maxLen ≤ 9223372036854775807 := by unfold maxLen; omega
  have hget : ∀ i, i < len → ((List.range len).map fun r => (Z r).take (Ln r))[i]?.getD [] = (Z i).take (Ln i) := by
    intro i hi
    rw [List.getElem?_map, List.getElem?_range hi]; rfl
  have hlen : ∀ i, i < len → ((Z i).take (Ln i)).length = Ln i := by
    intro i hi
    obtain ⟨_, h1, _, h2, _⟩ := h i (by omega)
    rw [List.length_take, h2]; omega
  refine ⟨⟨by simp, fun hp => ?_⟩, ?_, ?_, by omega⟩
  · obtain ⟨g, off, rfl, _, hc⟩ := flat_addr (n := len) (f := fun i => .slice (A i) (Ln i) (C i)) hp (fun i hi => (h i (by omega)).1)
    refine ⟨g, off, rfl, fun i hi => ?_⟩
    obtain ⟨_, h1, h2, h3, h4, h5, h6⟩ := h i (by omega)
    rw [hget i hi, hlen i hi]
    refine ⟨A i, C i, hc i hi, ?_, h1, fun hn => ⟨by have := h5 hn; omega, h5 hn⟩⟩
    have hrow : IsRow .u8 W (A i) (Ln i) (C i) (Z i) := by
      cases hA : A i with
      | none =>
        have hc0 := h5 hA
        exact .inl ⟨rfl, by omega, hc0, List.eq_nil_of_length_eq_zero (by omega)⟩
      | some y => exact .inr ⟨y, rfl, h1, h2, h3, fun j hj => (h6 y hA).2 j (by omega), h4⟩
    exact hrow.src.1
  · intro B hB
    obtain ⟨i, hi, rfl⟩ := List.mem_map.1 hB
    have hi' := List.mem_range.1 hi
    obtain ⟨_, _, _, _, h4, _⟩ := h i (by omega)
    intro n hn
    have := bounds_u8 (h4 n (List.mem_of_mem_take hn))
    omega
  · intro B hB
    obtain ⟨i, hi, rfl⟩ := List.mem_map.1 hB
    have hi' := List.mem_range.1 hi
    obtain ⟨_, h1, h2, _⟩ := h i (by omega)
    simp only [hlen i hi']
    omega
theorem frs_len (R : List (List Int)) (h : ∀ B ∈ R, B.length ≤ 1000) : (frs R).length ≤ R.length * 1008 := by
  induction R with
  | nil => simp [frs]
  | cons B R ih =>
    have h1 := h B (by simp)
    have h2 := ih (fun C hC => h C (by simp [hC]))
    simp only [frs, List.length_append, fr_length, List.length_cons]
    omega
theorem frs_take {R : List (List Int)} {k : Nat} (hk : k < R.length) : frs (R.take (k + 1)) = frs (R.take k) ++ fr (R[k]?.getD []) := by
  rw [List.take_add_one, List.getElem?_eq_getElem hk, frs_append]
  simp [frs]

set_option maxHeartbeats 4000000 in
theorem frameBack_walk (a : Option Addr) (n cap : Nat) (R : List (List Int)) (a1 : Option Addr) (lm cm : Nat) (zs : List Int) (w : World) (hR : BSrc w a n R ∧ (∀ B ∈ R, Bts B) ∧ (∀ B ∈ R, B.length ≤ 9223372036854775807) ∧ n ≤ 9223372036854775807) (h : IsRow .u8 w a1 lm cm zs) :
    Calls Try.prog 6 #[.slice a n cap, .slice a1 lm cm] w fun e w' => e = .returned (.bool true) ∧ Below w.heap.size w w' := by
  obtain ⟨hs, hb, hlc, hcm⟩ := h.src
  have hnil := h.nil0
  obtain ⟨hr, hrb, hrl, hnm⟩ := hR
  obtain ⟨i0, hi, hz0, hz1, hz2⟩ := info_parts Try.info5
  generalize zs.take lm = M at hs hb
  clear h
  by_cases hn : 20 < n
  · go_enter Try.func6, Try.ntmps6
    go_wp2_with (go_at_call 9; refine (awake_any w).mono ?_; rintro e w1 ⟨rfl, b1⟩)
    go_ret
    exact ⟨rfl, b1⟩
  · by_cases hl : 1000 < lm
    · go_enter Try.func6, Try.ntmps6
      go_wp2_with (go_at_call 9; refine (awake_any w).mono ?_; rintro e w1 ⟨rfl, b1⟩)
      go_ret
      exact ⟨rfl, b1⟩
    · go_enter Try.func6, Try.ntmps6
      go_wp2_with (go_at_call 9; refine (awake_any w).mono ?_; rintro e w1 ⟨rfl, b1⟩)
      go_loopw [6, 7] (fun v i wr => ∃ (k : Nat) (aa : Option Addr) (la ca : Nat), k ≤ n ∧ i = .int .i64 k ∧ v = .slice aa la ca ∧ la = (frs (R.take k)).length ∧ wr.ownsRow w.heap.size 5 1 (.slice aa la ca) la ((frs (R.take k)).map (Value.int .u8)) ∧ (∀ B ∈ R.take k, B.length ≤ 1000) ∧ Below w.heap.size w wr) (fun _ i _ => n - (intOf i).toNat)
      case atStart => exact ⟨0, none, 0, 0, by omega, rfl, rfl, rfl, World.ownsRow_nil _ _ _ _, fun B hB => absurd hB (by simp), b1⟩
      case round =>
        obtain ⟨k, aa, la, ca, hk, rfl, rfl, hla, hown, hsh, hbr⟩ := hrel
        have hbs := hbr.size
        have hrn := hr.1
        have hln := frs_len (R.take k) hsh
        rw [List.length_take] at hln
        have hlb : la ≤ 20160 := by omega
        clear hln
        by_cases hlt : k < n
        · obtain ⟨g, off, rfl, hc⟩ := hr.2 (by omega)
          obtain ⟨xa, xc, ek, sk, hxc, hxn⟩ := hc k hlt
          have ek' : wr.cell? ⟨g, off + k, none⟩ = some (.slice xa (R[k]?.getD []).length xc) := by rw [hbr.cell (cell_block ek)]; exact ek
          have hBm : R[k]?.getD [] ∈ R := by rw [List.getElem?_eq_getElem (by omega)]; exact List.getElem_mem _
          have hBb := hrb _ hBm
          have hBl := hrl _ hBm
          have hft := frs_take (R := R) (k := k) (by omega)
          have htk : R.take (k + 1) = R.take k ++ [R[k]?.getD []] := by rw [List.take_add_one, List.getElem?_eq_getElem (by omega)]; rfl
          clear hc ek
          generalize R[k]?.getD [] = B at *
          obtain ⟨m, hm⟩ : ∃ m, m = B.length := ⟨_, rfl⟩
          rw [← hm] at ek' sk hxc hxn hBl
          by_cases hbig : 1000 < m
          · clear hft htk hla hm
            go_wp2_with fail
            go_ret
            exact ⟨rfl, hbr⟩
          · have hF := frame_any xa m xc B wr (sk.below hbr) hBb hxn (by omega)
            have hfl : ((fr B).map (Value.int .u8)).length = (m + 8) * 1 := by rw [List.length_map, fr_length, hm]; omega
            have hfin := hid (show (la + (m + 8) = (frs (R.take (k + 1))).length) ∧ (∀ C ∈ R.take (k + 1), C.length ≤ 1000) from ⟨by rw [hft, List.length_append, fr_length, hla, hm], by
              intro C hC
              rw [htk] at hC
              rcases List.mem_append.1 hC with h1 | h1
              · exact hsh C h1
              · simp at h1; subst h1; omega⟩)
            have hft' := hid hft
            have hfr : (fr B).length = m + 8 := by rw [fr_length, hm]
            clear hft htk hla hm
            go_wp2_with (first
              | (go_at_call 12; refine hF.mono ?_; rintro e w2 ⟨rfl, r2, b2⟩; have b2s := b2.size; have ho2 := owns_below hown b2; have hc2 := src_cells (r2.src (m + 8) hfr) (Below.refl _ w2))
              | (at_builtin; refine wpList_append_own _ rfl _ _ 22 rfl w.heap.size 5 i0 (.int .u8 0) 1 1 Try.underlying22 hi hz0 hz1 hz2 rfl (by decide) _ _ _ rfl ho2 ⟨wr.heap.size, 0, none⟩ (m + 8) (m + 8) ((fr B).map (Value.int .u8)) rfl hfl hc2 (ones_int _) (by unfold maxLen; omega) (by omega) (by omega) ?_; intro v3 w3 hown3 hgrow3 _))
            have b3 : Below w.heap.size w w3 := (bnext hbr b2).grown hgrow3 (by omega) (fun j hj => (ho2.lt j hj).1)
            rw [← List.map_append, ← hft'.out] at hown3
            obtain ⟨a3, c3, rfl, _⟩ := owns_any hown3
            clear ho2 hc2 hgrow3 hfl r2 hF
            go_roundw
            case rel => exact ⟨k + 1, a3, _, c3, by omega, by go_num, rfl, hfin.out.1, hown3, hfin.out.2, b3⟩
            case measure => simp [intOf]; omega
        · obtain rfl : k = n := by omega
          rw [List.take_of_length_le (by omega)] at hla hown hsh
          have hbM : Bts (frs R ++ M) := (frs_bts hrb).app hb
          have hspl := spl_frs R M (fun B hB => ⟨hrb B hB, by have := hsh B hB; omega⟩) hb
          rw [← hla] at hspl
          clear hla
          have hMl : (M.map (Value.int .u8)).length = lm * 1 := by rw [List.length_map, hs.1]; omega
          cases a1 with
          | none =>
            obtain ⟨rfl, rfl⟩ := hnil rfl
            obtain rfl : M = [] := List.eq_nil_of_length_eq_zero hs.1
            have h0 : (nx []).1 ≠ 0 := by rw [nx_short (by simp)]; simp
            rw [spl_bad h0, List.append_nil, List.append_nil, Nat.add_zero] at hspl
            go_wp2_with (at_builtin; refine wpList_append_own_none rfl _ _ 22 rfl w.heap.size 5 i0 1 Try.underlying22 hi _ la _ rfl hown rfl ?_)
            obtain ⟨a4, c4, e4, h4c, _, _, s4⟩ := owns_any hown
            obtain ⟨rfl, rfl⟩ : aa = a4 ∧ ca = c4 := by simpa using e4
            have b4 := hbr
            rw [List.append_nil] at hbM
            clear e4 hown hMl
            have hN := next_any none 0 0 [] wr (hs.below b4) hb hlc (by omega) (fun _ => rfl)
            have hd0 : ((nx []).1 == 0) = false := by simp [h0]
            have h0' := hid h0
            have hS := fun w5 (b5 : Below wr.heap.size wr w5) => split_any aa la ca (frs R) w5 (s4.below b5) hbM h4c (by omega)
            rw [hspl] at hS
            go_wp2_with fail
            refine hN.mono ?_
            rintro e w5 ⟨v5, u5, rfl, b5, hbb, _⟩
            obtain ⟨rfl, rfl⟩ := hbb h0'.out
            have hS5 := hS w5 b5
            have b5' := bnext b4 b5
            clear hN hbb hS h0
            generalize (nx []).1 = E at *
            go_wp2_with fail
            refine hS5.mono ?_
            rintro e w6 ⟨a6, c6, rfl, s6, b6⟩
            have b6' := bnext b5' b6
            have hr6 := hr.below b6'
            rw [← hrn] at hr6
            have hM6 := same_any a6 a R.length c6 cap R w6 s6 hr6 (by omega)
            clear hS5 s6 hr6
            have hrn' : (R.length : Int) = (k : Int) := by omega
            rw [hrn] at hM6 ⊢
            go_wp2_with fail
            refine hM6.mono ?_
            rintro e w7 ⟨rfl, q7, rfl⟩
            clear hM6
            go_wp2_with fail
            go_ret
            exact ⟨rfl, below_drewN b6' q7⟩
          | some ad =>
            have hcM := src_cells hs hbr
            go_wp2_with (at_builtin; refine wpList_append_own _ rfl _ _ 22 rfl w.heap.size 5 i0 (.int .u8 0) 1 1 Try.underlying22 hi hz0 hz1 hz2 rfl (by decide) _ _ _ rfl hown ad lm cm (M.map (Value.int .u8)) rfl hMl hcM (ones_int M) (by unfold maxLen; omega) (by omega) hbs ?_; intro v4 w4 hown4 hgrow4 _)
            have b4 : Below w.heap.size w w4 := hbr.grown hgrow4 hbs (fun j hj => (hown.lt j hj).1)
            rw [← List.map_append] at hown4
            obtain ⟨a4, c4, rfl, h4c, _, _, s4⟩ := owns_any hown4
            clear hown4 hgrow4 hown hcM hMl
            by_cases h0 : (nx M).1 = 0
            · have hN := next_any (some ad) lm cm M w4 (hs.below b4) hb hlc (by omega) (fun h => (hnil h).1)
              rw [h0] at hN
              have hS := fun w5 (b5 : Below w4.heap.size w4 w5) => split_any a4 (la + lm) c4 (frs R ++ M) w5 (s4.below b5) hbM h4c (by omega)
              rw [hspl] at hS
              have hX : 8 ≤ (spl M).2 := by
                have hok := nx_ok hb h0
                rw [spl_ok hb h0]
                simp only
                omega
              have hX2 := spl_le lm M (by rw [hs.1]; exact Nat.le_refl _) hb
              rw [hs.1] at hX2
              generalize (spl M).2 = X at *
              generalize (spl M).1 = Y at *
              go_wp2_with fail
              refine hN.mono ?_
              rintro e w5 ⟨v5, u5, rfl, b5, _, hok⟩
              obtain ⟨⟨a5, c5, rfl, _⟩, a7, c7, rfl, _⟩ := hok trivial
              have hS5 := hS w5 b5
              have b5' := bnext b4 b5
              clear hN hok hS h0
              go_wp2_with fail
              refine hS5.mono ?_
              rintro e w6 ⟨a6, c6, rfl, s6, b6⟩
              have b6' := bnext b5' b6
              clear hS5 s6
              go_wp2_with fail
              go_ret
              exact ⟨by simp; omega, b6'⟩
            · rw [spl_bad h0, List.append_nil, Nat.add_zero] at hspl
              have hN := next_any (some ad) lm cm M w4 (hs.below b4) hb hlc (by omega) (fun h => (hnil h).1)
              have hd0 : ((nx M).1 == 0) = false := by simp [h0]
              have h0' := hid h0
              have hS := fun w5 (b5 : Below w4.heap.size w4 w5) => split_any a4 (la + lm) c4 (frs R ++ M) w5 (s4.below b5) hbM h4c (by omega)
              rw [hspl] at hS
              go_wp2_with fail
              refine hN.mono ?_
              rintro e w5 ⟨v5, u5, rfl, b5, hbb, _⟩
              obtain ⟨rfl, rfl⟩ := hbb h0'.out
              have hS5 := hS w5 b5
              have b5' := bnext b4 b5
              clear hN hbb hS h0
              generalize (nx M).1 = E at *
              go_wp2_with fail
              refine hS5.mono ?_
              rintro e w6 ⟨a6, c6, rfl, s6, b6⟩
              have b6' := bnext b5' b6
              have hr6 := hr.below b6'
              rw [← hrn] at hr6
              have hM6 := same_any a6 a R.length c6 cap R w6 s6 hr6 (by omega)
              clear hS5 s6 hr6
              have hrn' : (R.length : Int) = (k : Int) := by omega
              rw [hrn] at hM6 ⊢
              go_wp2_with fail
              refine hM6.mono ?_
              rintro e w7 ⟨rfl, q7, rfl⟩
              clear hM6
              go_wp2_with fail
              go_ret
              exact ⟨rfl, below_drewN b6' q7⟩

namespace frameBack
open Go.ChangeShapes Go.WideShapes Go.ChangeAt Go.RowKit
open Go.ChangeMaps (open_string shut_string)
set_option linter.unusedVariables false

theorem own : ownKnob Try.prog.godebug = none := by kernel_rfl
theorem laidOut : laidOutB Try.prog = true := by kernel_rfl

set_option maxRecDepth 100000 in
theorem lifted (os : Os) (started : os.Started) (H : Type) (enc : TypeId × Value → H) :
    ReturnsInHanded {} Try.checked os 6 .any (Rows.frameBackSpec.pre6 enc Try.prog Try.f6 Rows.frameBackRow.domain false) (Rows.frameBackSpec.post enc Try.prog Try.f6 false true false false) := by
  refine returnsInHanded_of_change (C := Try.checked) own started (by kernel_rfl) Try.func6
    (ChangeSpec.witness6 (enc := enc) (C := Try.checked) false ⟨#[], #[.slice none 0 0, .slice none 0 0], []⟩ 8 (by kernel_rfl) (by kernel_rfl) (by kernel_rfl) (by kernel_rfl)) ?_
  intro W base args ds gs before hval0 hW hcnd _
  have hval : ∀ (j : Nat) t v, Try.f6.params[j]? = some t → args[j]? = some v → Value.okWide Try.prog W .any base t v := hval0
  have hW' := hW
  obtain ⟨p, q, hA0, hV, rfl, hfz, hnd⟩ := hW
  have hA : DataW.TrodAll enc Try.prog W 0 (fun _ => true) true Try.f6.params.toList args.toList ds p := hA0
  rw [Try.params6] at hA hval
  obtain ⟨v0, vs0, d0, ds0, p0, q0, hargs, rfl, rfl, h0, r0⟩ := trodAll_cons hA
  obtain ⟨v1, vs1, d1, ds1, p1, q1, rfl, rfl, rfl, h1, r1⟩ := trodAll_cons r0
  obtain ⟨rfl, rfl, rfl⟩ := trodAll_nil r1
  obtain rfl : args = #[v0, v1] := by cases args; simp_all
  obtain ⟨rfl, rfl⟩ := trodVars_none hV
  obtain ⟨a0, len0, cap0, rfl⟩ := okWide_slice Try.underlying34 (hval 0 34 v0 rfl rfl)
  obtain ⟨a1, len1, cap1, rfl⟩ := okWide_slice Try.underlying22 (hval 1 22 v1 rfl rfl)
  have k0 := h0
  have k1 := h1
  have lt0 : ∀ x ∈ p0, x.block < W.heap.size := by obtain ⟨m, hm⟩ := k0; exact DataW.trod_lt m _ _ _ hm
  have lt1 : ∀ x ∈ p1, x.block < W.heap.size := by obtain ⟨m, hm⟩ := k1; exact DataW.trod_lt m _ _ _ hm
  obtain ⟨z1, w1⟩ : ∃ zs, IsRow .u8 W a1 len1 cap1 zs := by
    obtain ⟨fuel, hf⟩ := h1
    rcases open_ints Try.underlying22 Try.underlying5 (by kernel_rfl) hf with ⟨hcs, _⟩ | ⟨x, l, c, zs, hcs, _, hl, hm, hz, _, hcell, hwz⟩
    · simp [Value.cells] at hcs
      obtain ⟨rfl, rfl, rfl⟩ := hcs
      exact ⟨[], .inl ⟨rfl, rfl, rfl, rfl⟩⟩
    · simp [Value.cells] at hcs
      obtain ⟨rfl, rfl, rfl⟩ := hcs
      exact ⟨zs, .inr ⟨_, rfl, hl, hm, by simpa using hz, hcell, hwz⟩⟩
  obtain ⟨R0, hR0⟩ : ∃ R, BSrc W a0 len0 R ∧ (∀ B ∈ R, Bts B) ∧ (∀ B ∈ R, B.length ≤ 9223372036854775807) ∧ len0 ≤ 9223372036854775807 := by
    obtain ⟨fuel, hf⟩ := h0
    rcases Go.Deep.open_int_rows Try.underlying34 Try.underlying22 Try.underlying5 (by kernel_rfl) (by kernel_rfl) hf with ⟨hcs, _⟩ | ⟨x, l, c, A, Ln, C, Z, hcs, _, hl, hm, _, hrows⟩
    · simp [Value.cells] at hcs
      obtain ⟨rfl, rfl, rfl⟩ := hcs
      exact ⟨[], ⟨rfl, fun h => absurd h (by omega)⟩, fun _ h => absurd h (by simp), fun _ h => absurd h (by simp), by omega⟩
    · simp [Value.cells] at hcs
      obtain ⟨rfl, rfl, rfl⟩ := hcs
      exact ⟨_, rows_src hl hm hrows⟩
  clear hA0 hval0
  refine (frameBack_walk a0 len0 cap0 R0 a1 len1 cap1 z1 W hR0 w1).mono fun e W' ⟨he, bel⟩ => ?_
  subst he
  exact ⟨_, rfl, _, _, _, [], _, [], hW', trodAll_mk1 (shut_bool Try.underlying4 _),
    (trodAll_cons_mk (Below.trod laidOut (by kernel_rfl) (of_decide_eq_true (by kernel_rfl)) k0 bel lt0) (trodAll_cons_mk (Below.trod laidOut (by kernel_rfl) (of_decide_eq_true (by kernel_rfl)) k1 bel lt1) trodAll_mk0)), rfl, bel.frame _, fun h => by cases h⟩

theorem over : Rows.frameBackRow.holds Try.pinned (OpenSpec.ofChange Rows.frameBackSpec) :=
  OpenClaim.holds_of_wide 6 Try.f6 rfl rfl rfl rfl rfl rfl rfl ⟨rfl, rfl, rfl, rfl, rfl⟩ rfl rfl rfl rfl rfl (by kernel_rfl) Try.func6 (by kernel_rfl)
    (of_decide_eq_true (by kernel_rfl)) (by unfold Func.isWrapper; first | (rw [if_pos (by decide +kernel)]; kernel_rfl) | (rw [if_neg (by decide +kernel)]; exact ⟨rfl, rfl⟩))
    (fun os started H enc _ => lifted os started H enc)

end frameBack

/-- The statement. -/
theorem frameBack_holds : Rows.FrameBackSaid := frameBack.over
#print axioms frameBack_holds
end Go.Proofs.Ytajopapcknnfoaa
