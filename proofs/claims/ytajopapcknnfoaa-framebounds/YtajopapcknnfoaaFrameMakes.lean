/- For any body FrameMakes answers true: the program's frame is the reference's, in new memory, and the body stays. No condition. -/
import Derived.Test.YtajopapcknnfoaaFAwake
import Derived.Test.YtajopapcknnfoaaFRefA
import Derived.WalkKit
import Derived.ProofKit
import Derived.OpenShut
import Derived.ShutString
import Derived.ChangeOld
import Derived.Below
namespace Go.Proofs.Ytajopapcknnfoaa
open Go.RowKit

theorem IsRow.nil0 {k : IntKind} {w : World} {a : Option Addr} {len cap : Nat} {zs : List Int} (h : IsRow k w a len cap zs) : a = none → len = 0 ∧ cap = 0 := by
  rcases h with ⟨_, h1, h2, _⟩ | ⟨x, rfl, _⟩
  · exact fun _ => ⟨h1, h2⟩
  · exact fun h => absurd h (by simp)

set_option maxHeartbeats 1000000 in
theorem frameMakes_walk (a : Option Addr) (len cap : Nat) (zs : List Int) (w : World) (h : IsRow .u8 w a len cap zs) :
    Calls Try.prog 4 #[.slice a len cap] w fun e w' => e = .returned (.bool true) ∧ Below w.heap.size w w' := by
  obtain ⟨hs, hb, hlc, hcm⟩ := h.src
  have hnil := h.nil0
  generalize zs.take len = L at hs hb
  clear h
  by_cases hl : 5000 < len
  · go_enter Try.func4, Try.ntmps4
    go_wp2_with (go_at_call 9; refine (awake_any w).mono ?_; rintro e w1 ⟨rfl, b1⟩)
    go_ret
    exact ⟨rfl, b1⟩
  · go_enter Try.func4, Try.ntmps4
    go_wp2_with (first
      | (go_at_call 9; refine (awake_any w).mono ?_; rintro e w1 ⟨rfl, b1⟩; have hk1 := conv_src (hs.below b1) cap)
      | (go_at_call 12; refine (frame_any a len cap L _ (hs.below b1) hb hnil (by omega)).mono ?_; rintro e w2 ⟨rfl, r2, b2⟩; have b2' := bnext b1 b2)
      | (go_at_call 13; refine (rframe_any a len cap L _ (hs.below b2') hb hnil (by omega)).mono ?_; rintro e w3 ⟨a3, c3, rfl, s3, b3⟩; have b3' := bnext b2' b3; have hk2 := conv_src s3 c3; have r3 := r2.below b3; have hfl : (fr L).length = len + 8 := (by rw [fr_length, hs.1]); have hk3 := conv_row r3 (len + 8) (len + 8) hfl))
    have hbs := b1.size
    obtain ⟨g, hg⟩ : ∃ g, g = w1.heap.size := ⟨_, rfl⟩
    rw [← hg] at r2 r3 hk3 hbs ⊢
    have hkf := fun wr (h : Below w.heap.size w wr) => hid (conv_src (hs.below h) cap)
    clear hg hk1 hk2 hk3 s3 b2 b3 b2' r2
    go_loopw [10] (fun i wr => ∃ (k : Nat) (M : List Int), k ≤ len + 8 ∧ i = .int .i64 k ∧ Row wr g M ∧ M.length = len + 8 ∧ Below w.heap.size w wr) (fun i _ => len + 8 - (intOf i).toNat)
    case atStart => exact ⟨0, fr L, by omega, rfl, r3, hfl, b3'⟩
    case round =>
      obtain ⟨k, M, hk, rfl, hr, hM, hbr⟩ := hrel
      by_cases hlt : k < len + 8
      · have hc := hr.cell k (by omega)
        have hf := hr.frozen k
        go_wp2
        go_roundw
        case rel => exact ⟨k + 1, _, by omega, by go_num, hr.set k _, by rw [List.length_set]; exact hM, (hbr.setCell (p := ⟨g, k, none⟩) hbs _)⟩
        case measure => simp [intOf]; omega
      · obtain rfl : k = len + 8 := by omega
        have hkr := (hkf wr hbr).out
        go_wp2
        go_ret
        exact ⟨rfl, hbr⟩

namespace frameMakes
open Go.ChangeShapes Go.WideShapes Go.ChangeAt Go.RowKit
open Go.ChangeMaps (open_string shut_string)
set_option linter.unusedVariables false

theorem own : ownKnob Try.prog.godebug = none := by kernel_rfl
theorem laidOut : laidOutB Try.prog = true := by kernel_rfl

set_option maxRecDepth 100000 in
theorem lifted (os : Os) (started : os.Started) (H : Type) (enc : TypeId × Value → H) :
    ReturnsInHanded {} Try.checked os 4 .any (Rows.frameMakesSpec.pre6 enc Try.prog Try.f4 Rows.frameMakesRow.domain false) (Rows.frameMakesSpec.post enc Try.prog Try.f4 false true false false) := by
  refine returnsInHanded_of_change (C := Try.checked) own started (by kernel_rfl) Try.func4
    (ChangeSpec.witness6 (enc := enc) (C := Try.checked) false ⟨#[], #[.slice none 0 0], []⟩ 8 (by kernel_rfl) (by kernel_rfl) (by kernel_rfl) (by kernel_rfl)) ?_
  intro W base args ds gs before hval0 hW hcnd _
  have hval : ∀ (j : Nat) t v, Try.f4.params[j]? = some t → args[j]? = some v → Value.okWide Try.prog W .any base t v := hval0
  have hW' := hW
  obtain ⟨p, q, hA0, hV, rfl, hfz, hnd⟩ := hW
  have hA : DataW.TrodAll enc Try.prog W 0 (fun _ => true) true Try.f4.params.toList args.toList ds p := hA0
  rw [Try.params4] at hA hval
  obtain ⟨v0, vs0, d0, ds0, p0, q0, hargs, rfl, rfl, h0, r0⟩ := trodAll_cons hA
  obtain ⟨rfl, rfl, rfl⟩ := trodAll_nil r0
  obtain rfl : args = #[v0] := by cases args; simp_all
  obtain ⟨rfl, rfl⟩ := trodVars_none hV
  obtain ⟨a0, len0, cap0, rfl⟩ := okWide_slice Try.underlying22 (hval 0 22 v0 rfl rfl)
  have k0 := h0
  have lt0 : ∀ x ∈ p0, x.block < W.heap.size := by obtain ⟨m, hm⟩ := k0; exact DataW.trod_lt m _ _ _ hm
  obtain ⟨z0, w0⟩ : ∃ zs, IsRow .u8 W a0 len0 cap0 zs := by
    obtain ⟨fuel, hf⟩ := h0
    rcases open_ints Try.underlying22 Try.underlying5 (by kernel_rfl) hf with ⟨hcs, _⟩ | ⟨x, l, c, zs, hcs, _, hl, hm, hz, _, hcell, hwz⟩
    · simp [Value.cells] at hcs
      obtain ⟨rfl, rfl, rfl⟩ := hcs
      exact ⟨[], .inl ⟨rfl, rfl, rfl, rfl⟩⟩
    · simp [Value.cells] at hcs
      obtain ⟨rfl, rfl, rfl⟩ := hcs
      exact ⟨zs, .inr ⟨_, rfl, hl, hm, by simpa using hz, hcell, hwz⟩⟩
  clear hA0 hval0
  refine (frameMakes_walk a0 len0 cap0 z0 W w0).mono fun e W' ⟨he, bel⟩ => ?_
  subst he
  exact ⟨_, rfl, _, _, _, [], _, [], hW', trodAll_mk1 (shut_bool Try.underlying4 _),
    (trodAll_cons_mk (Below.trod laidOut (by kernel_rfl) (of_decide_eq_true (by kernel_rfl)) k0 bel lt0) trodAll_mk0), rfl, bel.frame _, fun h => by cases h⟩

theorem over : Rows.frameMakesRow.holds Try.pinned (OpenSpec.ofChange Rows.frameMakesSpec) :=
  OpenClaim.holds_of_wide 4 Try.f4 rfl rfl rfl rfl rfl rfl rfl ⟨rfl, rfl, rfl, rfl, rfl⟩ rfl rfl rfl rfl rfl (by kernel_rfl) Try.func4 (by kernel_rfl)
    (of_decide_eq_true (by kernel_rfl)) (by unfold Func.isWrapper; first | (rw [if_pos (by decide +kernel)]; kernel_rfl) | (rw [if_neg (by decide +kernel)]; exact ⟨rfl, rfl⟩))
    (fun os started H enc _ => lifted os started H enc)

end frameMakes

/-- The statement. -/
theorem frameMakes_holds : Rows.FrameMakesSaid := frameMakes.over
#print axioms frameMakes_holds
end Go.Proofs.Ytajopapcknnfoaa
