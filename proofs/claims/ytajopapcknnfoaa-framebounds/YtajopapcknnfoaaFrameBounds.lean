/- For any number and any byte FrameBounds answers true: a body greater than the bound is refused, one of the bound's length is framed and read back, and a length greater than the bound is refused as a form. No condition. -/
import Derived.Test.YtajopapcknnfoaaFAwake
import Derived.Test.YtajopapcknnfoaaFrameTurned
import Derived.WalkKit
import Derived.ProofKit
import Derived.OpenShut
import Derived.ShutString
import Derived.ChangeOld
import Derived.Below
namespace Go.Proofs.Ytajopapcknnfoaa
open Go.RowKit

theorem five_nx (f : Int) : nx [1, 0, 64, 0, f] = (11, [], 0) := nx_great (by simp) (by unfold num4; simp)
theorem five_bts {f : Int} (h : 0 ≤ f ∧ f < 256) : Bts [1, 0, 64, 0, f] := by
  intro x hx
  simp at hx
  omega
theorem first_bts {f : Int} (h : 0 ≤ f ∧ f < 256) (n m : Nat) : Bts (((List.replicate n (0 : Int)).set 0 f).take m) := by
  intro x hx
  rcases List.mem_or_eq_of_mem_set (List.mem_of_mem_take hx) with h1 | h1
  · have := List.eq_of_mem_replicate h1
    omega
  · omega
theorem first_len (f : Int) (n m : Nat) (h : m ≤ n) : (((List.replicate n (0 : Int)).set 0 f).take m).length = m := by
  rw [List.length_take, List.length_set, List.length_replicate]; omega
theorem first_get (f : Int) (n m : Nat) (h : m ≤ n) (h0 : 0 < m) : (((List.replicate n (0 : Int)).set 0 f).take m)[0]? = some f := by
  rw [List.getElem?_take, if_pos h0, List.getElem?_set]
  simp
  omega

set_option maxHeartbeats 2000000 in
theorem frameBounds_walk (A f : Int) (w : World) (hA : (Lit.int .i64 A).wf = true) (hf : (Lit.int .u8 f).wf = true) :
    Calls Try.prog 8 #[.int .i64 A, .int .u8 f] w fun e w' => e = .returned (.bool true) ∧ Below w.heap.size w w' := by
  obtain ⟨i0, hi, hz0, hz1, hz2⟩ := info_parts Try.info5
  have bA := bounds_i64 hA
  have bf := bounds_u8 hf
  clear hA hf
  go_enter Try.func8, Try.ntmps8
  by_cases nA : A < 0
  · obtain ⟨r, hr3, hre⟩ := tmod_nat (-(A + 1)) 3 (by omega) (by omega)
    rw [Int.neg_tmod] at hre
    have hre' : -((A + 1).tmod 3) = (r : Int) := by rw [← hre]; rfl
    clear hre
    obtain ⟨n, hn⟩ : ∃ n : Nat, n = 4194305 + r := ⟨_, rfl⟩
    have hmk : (4194305 : Int) + (r : Int) = (n : Int) := by omega
    have hn1 : 4194304 < n := by omega
    have hn2 : n < 4194310 := by omega
    clear hn hr3
    go_wp2_with (first
      | (go_at_call 9; refine (awake_any w).mono ?_; rintro e w1 ⟨rfl, b1⟩)
      | (at_make; refine wpList_make_full _ rfl _ _ 22 rfl w1.heap.size 5 i0 (.int .u8 0) 1 Try.underlying22 hi hz0 hz1 .i64 .i64 _ _ n rfl rfl rfl rfl (by rw [hz2]; omega) (by unfold maxLen; omega) (Nat.le_refl _) ?_; intro w2 hown2 hgrow2; have r2 := row_made hown2; have b2 : Below w1.heap.size w1 w2 := (Below.refl _ _).grown hgrow2 (Nat.le_refl _) (by simp); have hc2 := r2.cellq 0 0 (by rw [List.getElem?_replicate]; simp; omega); have hf2 := r2.frozen 0; clear hown2 hgrow2))
    obtain ⟨g, hg⟩ : ∃ g, g = w1.heap.size := ⟨_, rfl⟩
    have hgw : w.heap.size ≤ g := by rw [hg]; exact b1.size
    have b2' := bnext b1 b2
    rw [← hg] at r2 hc2 hf2 ⊢
    clear hg b2 b1
    have b3 : Below w.heap.size w (w2.setCell ⟨g, 0, none⟩ (.int .u8 f)) := b2'.setCell (p := ⟨g, 0, none⟩) hgw _
    have r3 := r2.set 0 f
    obtain ⟨w3, hw3⟩ : ∃ w3, w3 = w2.setCell ⟨g, 0, none⟩ (.int .u8 f) := ⟨_, rfl⟩
    rw [← hw3] at b3 r3 ⊢
    clear hw3 hc2 hf2 r2 b2' hgw
    refine (frame_great _ _ _ _ hn1 (by omega)).mono ?_
    rintro e w3' ⟨rfl, hw⟩
    obtain rfl := hw
    have hLb := first_bts (f := f) ⟨bf.1, by omega⟩ n 4194304
    have hLl := first_len f n 4194304 (by omega)
    have hL0 := first_get f n 4194304 (by omega) (by omega)
    have hLs := src_take (r3.src n (by rw [List.length_set, List.length_replicate])) 4194304 (by rw [List.length_set, List.length_replicate]; omega)
    clear r3
    generalize ((List.replicate n (0 : Int)).set 0 f).take 4194304 = L at hLb hLl hL0 hLs
    have hfl : (fr L).length = 4194312 := by rw [fr_length, hLl]
    have hnx := nx_fr L [] (by omega)
    rw [List.append_nil] at hnx
    have hLl' := hid hLl
    clear hLl
    go_wp2_with fail
    refine (frame_any (some ⟨g, 0, none⟩) 4194304 n L _ hLs hLb (by simp) (Nat.le_refl _)).mono ?_
    rintro e w4 ⟨rfl, r4, b4⟩
    have b4' := bnext b3 b4
    have r4s := r4.src 4194312 hfl
    generalize w3.heap.size = h at r4 r4s b4 ⊢
    clear r4 b4 b3 hLs hfl
    go_wp2_with fail
    refine (next_any (some ⟨h, 0, none⟩) 4194312 4194312 (fr L) _ r4s (fr_bts hLb) (by omega) (by omega) (by simp)).mono ?_
    rw [hnx]
    rintro e w5 ⟨v5, u5, rfl, b5, _, hok⟩
    obtain ⟨⟨a5, c5, rfl, _, _, s5⟩, a6, c6, rfl, _⟩ := hok rfl
    have b5' := bnext b4' b5
    rw [hLl'.out] at s5 ⊢
    obtain ⟨gd, od, rfl, hc5⟩ := s5.flat (by omega)
    have hcf := hc5 0 (by omega)
    rw [hL0, Nat.add_zero] at hcf
    clear hok s5 hc5 b4' b5 r4s hnx
    go_wp2_with fail
    have b6 := new_below w5 (.cells #[.int .u8 1, .int .u8 0, .int .u8 64, .int .u8 0, .int .u8 f] 5)
    have r6 := row_lit w5 #[.int .u8 1, .int .u8 0, .int .u8 64, .int .u8 0, .int .u8 f] [1, 0, 64, 0, f] rfl
    have s6 := r6.src 5 rfl
    have hN := next_any (some ⟨w5.heap.size, 0, none⟩) 5 5 [1, 0, 64, 0, f] _ s6 (five_bts ⟨bf.1, by omega⟩) (by omega) (by omega) (by simp)
    rw [five_nx] at hN
    refine hN.mono ?_
    rintro e w7 ⟨v7, u7, rfl, b7, hbad, _⟩
    obtain ⟨rfl, rfl⟩ := hbad (by simp)
    have b57 := bnext b6 b7
    have hc7 : w7.cell? ⟨gd, od, none⟩ = some (.int .u8 f) := by
      rw [b57.cell (cell_block hcf)]; exact hcf
    clear hN hbad b6 r6 s6 b7 hcf
    go_wp2_with fail
    go_ret
    exact ⟨rfl, bnext b5' b57⟩
  · obtain ⟨r, hr3, hre⟩ := tmod_nat A 3 (by omega) (by omega)
    have hre' : A.tmod 3 = (r : Int) := by rw [← hre]; rfl
    clear hre
    obtain ⟨n, hn⟩ : ∃ n : Nat, n = 4194305 + r := ⟨_, rfl⟩
    have hmk : (4194305 : Int) + (r : Int) = (n : Int) := by omega
    have hn1 : 4194304 < n := by omega
    have hn2 : n < 4194310 := by omega
    clear hn hr3
    go_wp2_with (first
      | (go_at_call 9; refine (awake_any w).mono ?_; rintro e w1 ⟨rfl, b1⟩)
      | (at_make; refine wpList_make_full _ rfl _ _ 22 rfl w1.heap.size 5 i0 (.int .u8 0) 1 Try.underlying22 hi hz0 hz1 .i64 .i64 _ _ n rfl rfl rfl rfl (by rw [hz2]; omega) (by unfold maxLen; omega) (Nat.le_refl _) ?_; intro w2 hown2 hgrow2; have r2 := row_made hown2; have b2 : Below w1.heap.size w1 w2 := (Below.refl _ _).grown hgrow2 (Nat.le_refl _) (by simp); have hc2 := r2.cellq 0 0 (by rw [List.getElem?_replicate]; simp; omega); have hf2 := r2.frozen 0; clear hown2 hgrow2))
    obtain ⟨g, hg⟩ : ∃ g, g = w1.heap.size := ⟨_, rfl⟩
    have hgw : w.heap.size ≤ g := by rw [hg]; exact b1.size
    have b2' := bnext b1 b2
    rw [← hg] at r2 hc2 hf2 ⊢
    clear hg b2 b1
    have b3 : Below w.heap.size w (w2.setCell ⟨g, 0, none⟩ (.int .u8 f)) := b2'.setCell (p := ⟨g, 0, none⟩) hgw _
    have r3 := r2.set 0 f
    obtain ⟨w3, hw3⟩ : ∃ w3, w3 = w2.setCell ⟨g, 0, none⟩ (.int .u8 f) := ⟨_, rfl⟩
    rw [← hw3] at b3 r3 ⊢
    clear hw3 hc2 hf2 r2 b2' hgw
    refine (frame_great _ _ _ _ hn1 (by omega)).mono ?_
    rintro e w3' ⟨rfl, hw⟩
    obtain rfl := hw
    have hLb := first_bts (f := f) ⟨bf.1, by omega⟩ n 4194304
    have hLl := first_len f n 4194304 (by omega)
    have hL0 := first_get f n 4194304 (by omega) (by omega)
    have hLs := src_take (r3.src n (by rw [List.length_set, List.length_replicate])) 4194304 (by rw [List.length_set, List.length_replicate]; omega)
    clear r3
    generalize ((List.replicate n (0 : Int)).set 0 f).take 4194304 = L at hLb hLl hL0 hLs
    have hfl : (fr L).length = 4194312 := by rw [fr_length, hLl]
    have hnx := nx_fr L [] (by omega)
    rw [List.append_nil] at hnx
    have hLl' := hid hLl
    clear hLl
    go_wp2_with fail
    refine (frame_any (some ⟨g, 0, none⟩) 4194304 n L _ hLs hLb (by simp) (Nat.le_refl _)).mono ?_
    rintro e w4 ⟨rfl, r4, b4⟩
    have b4' := bnext b3 b4
    have r4s := r4.src 4194312 hfl
    generalize w3.heap.size = h at r4 r4s b4 ⊢
    clear r4 b4 b3 hLs hfl
    go_wp2_with fail
    refine (next_any (some ⟨h, 0, none⟩) 4194312 4194312 (fr L) _ r4s (fr_bts hLb) (by omega) (by omega) (by simp)).mono ?_
    rw [hnx]
    rintro e w5 ⟨v5, u5, rfl, b5, _, hok⟩
    obtain ⟨⟨a5, c5, rfl, _, _, s5⟩, a6, c6, rfl, _⟩ := hok rfl
    have b5' := bnext b4' b5
    rw [hLl'.out] at s5 ⊢
    obtain ⟨gd, od, rfl, hc5⟩ := s5.flat (by omega)
    have hcf := hc5 0 (by omega)
    rw [hL0, Nat.add_zero] at hcf
    clear hok s5 hc5 b4' b5 r4s hnx
    go_wp2_with fail
    have b6 := new_below w5 (.cells #[.int .u8 1, .int .u8 0, .int .u8 64, .int .u8 0, .int .u8 f] 5)
    have r6 := row_lit w5 #[.int .u8 1, .int .u8 0, .int .u8 64, .int .u8 0, .int .u8 f] [1, 0, 64, 0, f] rfl
    have s6 := r6.src 5 rfl
    have hN := next_any (some ⟨w5.heap.size, 0, none⟩) 5 5 [1, 0, 64, 0, f] _ s6 (five_bts ⟨bf.1, by omega⟩) (by omega) (by omega) (by simp)
    rw [five_nx] at hN
    refine hN.mono ?_
    rintro e w7 ⟨v7, u7, rfl, b7, hbad, _⟩
    obtain ⟨rfl, rfl⟩ := hbad (by simp)
    have b57 := bnext b6 b7
    have hc7 : w7.cell? ⟨gd, od, none⟩ = some (.int .u8 f) := by
      rw [b57.cell (cell_block hcf)]; exact hcf
    clear hN hbad b6 r6 s6 b7 hcf
    go_wp2_with fail
    go_ret
    exact ⟨rfl, bnext b5' b57⟩

namespace frameBounds
open Go.ChangeShapes Go.WideShapes Go.ChangeAt Go.RowKit
open Go.ChangeMaps (open_string shut_string)
set_option linter.unusedVariables false

theorem own : ownKnob Try.prog.godebug = none := by kernel_rfl
theorem laidOut : laidOutB Try.prog = true := by kernel_rfl

set_option maxRecDepth 100000 in
theorem lifted (os : Os) (started : os.Started) (H : Type) (enc : TypeId × Value → H) :
    ReturnsInHanded {} Try.checked os 8 .any (Rows.frameBoundsSpec.pre6 enc Try.prog Try.f8 Rows.frameBoundsRow.domain false) (Rows.frameBoundsSpec.post enc Try.prog Try.f8 false true false false) := by
  refine returnsInHanded_of_change (C := Try.checked) own started (by kernel_rfl) Try.func8
    (ChangeSpec.witness6 (enc := enc) (C := Try.checked) false ⟨#[], #[.int .i64 0, .int .u8 0], []⟩ 8 (by kernel_rfl) (by kernel_rfl) (by kernel_rfl) (by kernel_rfl)) ?_
  intro W base args ds gs before hval0 hW hcnd _
  have hval : ∀ (j : Nat) t v, Try.f8.params[j]? = some t → args[j]? = some v → Value.okWide Try.prog W .any base t v := hval0
  have hW' := hW
  obtain ⟨p, q, hA0, hV, rfl, hfz, hnd⟩ := hW
  have hA : DataW.TrodAll enc Try.prog W 0 (fun _ => true) true Try.f8.params.toList args.toList ds p := hA0
  rw [Try.params8] at hA hval
  obtain ⟨v0, vs0, d0, ds0, p0, q0, hargs, rfl, rfl, h0, r0⟩ := trodAll_cons hA
  obtain ⟨v1, vs1, d1, ds1, p1, q1, rfl, rfl, rfl, h1, r1⟩ := trodAll_cons r0
  obtain ⟨rfl, rfl, rfl⟩ := trodAll_nil r1
  obtain rfl : args = #[v0, v1] := by cases args; simp_all
  obtain ⟨rfl, rfl⟩ := trodVars_none hV
  obtain ⟨x0, rfl, w0⟩ : ∃ n, v0 = .int .i64 n ∧ (Lit.int .i64 n).wf = true := by
    obtain ⟨n, e, _, _, h⟩ := open_int Try.underlying3 (hval 0 3 v0 rfl rfl) h0
    exact ⟨n, e, h⟩
  obtain ⟨x1, rfl, w1⟩ : ∃ n, v1 = .int .u8 n ∧ (Lit.int .u8 n).wf = true := by
    obtain ⟨n, e, _, _, h⟩ := open_int Try.underlying5 (hval 1 5 v1 rfl rfl) h1
    exact ⟨n, e, h⟩
  have k0 := h0
  have k1 := h1
  have lt0 : ∀ x ∈ p0, x.block < W.heap.size := by obtain ⟨m, hm⟩ := k0; exact DataW.trod_lt m _ _ _ hm
  have lt1 : ∀ x ∈ p1, x.block < W.heap.size := by obtain ⟨m, hm⟩ := k1; exact DataW.trod_lt m _ _ _ hm
  clear hA0 hval0
  refine (frameBounds_walk x0 x1 W w0 w1).mono fun e W' ⟨he, bel⟩ => ?_
  subst he
  exact ⟨_, rfl, _, _, _, [], _, [], hW', trodAll_mk1 (shut_bool Try.underlying4 _),
    (trodAll_cons_mk (Below.trod laidOut (by kernel_rfl) (of_decide_eq_true (by kernel_rfl)) k0 bel lt0) (trodAll_cons_mk (Below.trod laidOut (by kernel_rfl) (of_decide_eq_true (by kernel_rfl)) k1 bel lt1) trodAll_mk0)), rfl, bel.frame _, fun h => by cases h⟩

theorem over : Rows.frameBoundsRow.holds Try.pinned (OpenSpec.ofChange Rows.frameBoundsSpec) :=
  OpenClaim.holds_of_wide 8 Try.f8 rfl rfl rfl rfl rfl rfl rfl ⟨rfl, rfl, rfl, rfl, rfl⟩ rfl rfl rfl rfl rfl (by kernel_rfl) Try.func8 (by kernel_rfl)
    (of_decide_eq_true (by kernel_rfl)) (by unfold Func.isWrapper; first | (rw [if_pos (by decide +kernel)]; kernel_rfl) | (rw [if_neg (by decide +kernel)]; exact ⟨rfl, rfl⟩))
    (fun os started H enc _ => lifted os started H enc)

end frameBounds

/-- The statement. -/
theorem frameBounds_holds : Rows.FrameBoundsSaid := frameBounds.over
#print axioms frameBounds_holds
end Go.Proofs.Ytajopapcknnfoaa
