/- For any bytes NumOne answers true: bytes that are read whole as numbers are what is written of them. No condition. -/
import Derived.Test.YtbhfnhciadhgmaaArgs
import Derived.WalkKit
import Derived.ProofKit
import Derived.OpenShut
import Derived.ShutString
import Derived.ChangeOld
import Derived.Below
namespace Go.Proofs.Ytbhfnhciadhgmaa
open Go.RowKit

theorem rerr_any (w : World) (b z : Nat) (L : List Int) (e : Int) (h : Rdr w b z L e) :
    Calls Try.prog 28 #[.pointer (some ⟨b, 0, none⟩)] w fun r w' => r = .returned (.int .i64 e) ∧ w = w' := by
  obtain ⟨a, len, cap, hr, _⟩ := h
  exact err_any w b _ e hr

/-- What the loop keeps: 'all' holds the bytes A; the reader has the rest. -/
def OneRel (w : World) (rb z : Nat) (B : List Int) (v i : Value) (wr : World) : Prop :=
  ∃ (k : Nat) (A L : List Int) (a : Option Addr) (n cap : Nat), k ≤ 200 ∧ i = .int .i64 k ∧ v = .slice a n cap ∧ n ≤ 9 * k ∧ A ++ L = B ∧ Rdr wr rb z L 0 ∧ Src wr a n A ∧ (∀ ad, 0 < n → a = some ad → ad.block ≠ rb) ∧ Below w.heap.size w wr

set_option maxRecDepth 20000 in
set_option maxHeartbeats 1000000 in
theorem numOne_walk (a0 : Option Addr) (len0 cap0 : Nat) (z0 : List Int) (w : World) (w0 : IsRow .u8 w a0 len0 cap0 z0) :
    Calls Try.prog 6 #[.slice a0 len0 cap0] w fun e w' => e = .returned (.bool true) ∧ Below w.heap.size w w' := by
  obtain ⟨hs, hB, hlc, hcap⟩ := w0.src
  have hblk := src_block hs
  generalize hBe : z0.take len0 = B at *
  clear hBe w0
  go_enter Try.func6, Try.ntmps6
  go_wp2_with (first
    | (go_at_call 9; refine (awake_any _).mono ?_; rintro e w1 ⟨rfl, hb1⟩)
    | (go_at_call 16; refine (read_any _ _ _ _ _ rfl).mono ?_; rintro e w2 ⟨rfl, hr2, hb2⟩))
  obtain ⟨z, hR⟩ := rdr_of hr2 ((hs.below hb1).below hb2) hlc hcap hB (fun ad hp ha => Nat.lt_of_lt_of_le (hblk ad hp ha) hb1.size)
  have hbb := bnext hb1 hb2
  clear hr2 hb2
  go_loopw [5, 6] (fun v i wr => OneRel w w1.heap.size z B v i wr) (fun _ i _ => 200 - (intOf i).toNat)
  case atStart => exact ⟨0, [], B, none, 0, 0, by omega, rfl, rfl, by omega, rfl, hR, src_nil _, by simp, hbb⟩
  case round =>
    obtain ⟨k, A, L, a, n, cap, hk, rfl, rfl, hn, hAL, hRd, hA, hne, hbw⟩ := hrel
    have hALH : Hid (A ++ L = B) := hAL
    clear hAL
    have hLl := rleft_any _ _ _ _ _ hRd
    by_cases hL : L = []
    · subst hL
      have hAB : A = B := by simpa using hALH.out
      subst hAB
      have cA := conv_src hA cap
      have cB := conv_src (hs.below hbw) cap0
      have hE := end_nil _ _ _ _ hRd
      simp only [List.length_nil] at hLl
      clear hALH hs hB hblk hRd hA hne hlc hcap hbb hR hn
      by_cases hlt : k < 200
      · go_wp2_with (first
          | (go_at_call 27; refine hLl.mono ?_; rintro e w' ⟨rfl, rfl⟩)
          | (go_at_call 29; refine hE.mono ?_; rintro e w' ⟨rfl, rfl⟩))
        go_ret
        exact ⟨rfl, hbw⟩
      · obtain rfl : k = 200 := by omega
        clear hk hlt
        go_wp2_with (first
          | (go_at_call 27; refine hLl.mono ?_; rintro e w' ⟨rfl, rfl⟩)
          | (go_at_call 29; refine hE.mono ?_; rintro e w' ⟨rfl, rfl⟩))
        go_ret
        exact ⟨rfl, hbw⟩
    · have hpos : 0 < L.length := List.length_pos_iff.2 hL
      by_cases hlt : k < 200
      · have hU := ruint_any _ _ _ _ _ hRd
        have hBL : Bts L := by have := hB; rw [← hALH.out] at this; exact this.right
        have hu := dec_u64 L 0 hBL
        have hparts : (dec L 0).2.2 = 0 → Hid (A ++ enc (dec L 0).1 ++ (dec L 0).2.1 = B) := fun h => by
          show _ = _
          rw [← hALH.out, List.append_assoc, ← (dec_parts L hBL h).1]
        have hfail := dec_fails L
        generalize dec L 0 = d at *
        obtain ⟨m, L', e'⟩ := d
        simp only at *
        by_cases he : e' = 0
        · subst he
          have hAL' := hparts rfl
          clear hparts hfail hALH hBL hB hRd hblk hlc hcap hbb hR
          go_wp2_with (first
            | (go_at_call 27; refine hLl.mono ?_; rintro e w' ⟨rfl, rfl⟩)
            | (go_at_call 17; refine hU.mono ?_; rintro e w3 ⟨rfl, hR3, ho3⟩)
            | (go_at_call 28; refine (rerr_any _ _ _ _ _ hR3).mono ?_; rintro e w' ⟨rfl, rfl⟩)
            | (go_at_call 10; refine (uint_any _ _ _ _ A _ (hA.only ho3 hne) (by omega) hu.1 hu.2).mono ?_; rintro e w4 ⟨rfl, hr4, hb4⟩))
          have hz9 := sz_le m
          have hlen : (A ++ enc m).length = n + sz m := by rw [List.length_append, enc_length, hA.1]
          have hlt3 := hR3.lt
          have hbel : Below w.heap.size w w4 := bnext (hbw.trans (ho3.below hb1.size)) hb4
          go_roundw
          case rel => exact ⟨k + 1, A ++ enc m, L', _, _, _, by omega, by go_num, rfl, by omega, hAL'.out, hR3.below hb4, hr4.src _ hlen, fun ad _ h => by simp at h; subst h; simp; omega, hbel⟩
          case measure => simp [intOf]; omega
        · obtain ⟨rfl, rfl⟩ := hfail he
          have he' : (e' == 0) = false := by simpa using he
          clear hparts hfail hALH hBL hB hblk hlc hcap hbb hR
          go_wp2_with (first
            | (go_at_call 17; refine hU.mono ?_; rintro e w3 ⟨rfl, hR3, ho3⟩)
            | (go_at_call 28; refine (rerr_any _ _ _ _ _ hR3).mono ?_; rintro e w' ⟨rfl, rfl⟩)
            | (go_at_call 27; have hq := hR3; refine (rleft_any _ _ _ _ _ hR3).mono ?_; rintro e w' ⟨rfl, rfl⟩)
            | (go_at_call 27; refine hLl.mono ?_; rintro e w' ⟨rfl, rfl⟩))
          go_ret
          exact ⟨rfl, hbw.trans (ho3.below hb1.size)⟩
      · obtain rfl : k = 200 := by omega
        clear hk hlt hn
        go_wp2_with (go_at_call 27; refine hLl.mono ?_; rintro e w' ⟨rfl, rfl⟩)
        go_ret
        exact ⟨rfl, hbw⟩

namespace numOne
open Go.ChangeShapes Go.WideShapes Go.ChangeAt Go.RowKit
open Go.ChangeMaps (open_string shut_string)
set_option linter.unusedVariables false

theorem own : ownKnob Try.prog.godebug = none := by kernel_rfl
theorem laidOut : laidOutB Try.prog = true := by kernel_rfl

set_option maxRecDepth 100000 in
theorem lifted (os : Os) (started : os.Started) (H : Type) (enc : TypeId × Value → H) :
    ReturnsInHanded {} Try.checked os 6 .any (Rows.numOneSpec.pre6 enc Try.prog Try.f6 Rows.numOneRow.domain false) (Rows.numOneSpec.post enc Try.prog Try.f6 false true false false) := by
  refine returnsInHanded_of_change (C := Try.checked) own started (by kernel_rfl) Try.func6
    (ChangeSpec.witness6 (enc := enc) (C := Try.checked) false ⟨#[], #[.slice none 0 0], []⟩ 8 (by kernel_rfl) (by kernel_rfl) (by kernel_rfl) (by kernel_rfl)) ?_
  intro W base args ds gs before hval0 hW hcnd _
  have hval : ∀ (j : Nat) t v, Try.f6.params[j]? = some t → args[j]? = some v → Value.okWide Try.prog W .any base t v := hval0
  have hW' := hW
  obtain ⟨p, q, hA0, hV, rfl, hfz, hnd⟩ := hW
  have hA : DataW.TrodAll enc Try.prog W 0 (fun _ => true) true Try.f6.params.toList args.toList ds p := hA0
  rw [Try.params6] at hA hval
  obtain ⟨v0, vs0, d0, ds0, p0, q0, hargs, rfl, rfl, h0, r0⟩ := trodAll_cons hA
  obtain ⟨rfl, rfl, rfl⟩ := trodAll_nil r0
  obtain rfl : args = #[v0] := by cases args; simp_all
  obtain ⟨rfl, rfl⟩ := trodVars_none hV
  obtain ⟨a0, len0, cap0, rfl⟩ := okWide_slice Try.underlying22 (hval 0 22 v0 rfl rfl)
  have k0 := h0
  have lt0 : ∀ x ∈ p0, x.block < W.heap.size := by obtain ⟨m, hm⟩ := k0; exact DataW.trod_lt m _ _ _ hm
  obtain ⟨z0, w0⟩ : ∃ zs, IsRow .u8 W a0 len0 cap0 zs := by
    obtain ⟨fuel, hf⟩ := h0
    rcases open_ints Try.underlying22 Try.underlying5 (by kernel_rfl) hf with ⟨hcs, _⟩ | ⟨x, l, c, zs, hcs, _, hl, hm, hz, _, hcell, hwz⟩
    · simp [Value.cells] at hcs
      obtain ⟨rfl, rfl, rfl⟩ := hcs
      exact ⟨[], .inl ⟨rfl, rfl, rfl, rfl⟩⟩
    · simp [Value.cells] at hcs
      obtain ⟨rfl, rfl, rfl⟩ := hcs
      exact ⟨zs, .inr ⟨_, rfl, hl, hm, by simpa using hz, hcell, hwz⟩⟩
  clear hA0 hval0
  refine (numOne_walk a0 len0 cap0 z0 W w0).mono fun e W' ⟨he, bel⟩ => ?_
  subst he
  exact ⟨_, rfl, _, _, _, [], _, [], hW', trodAll_mk1 (shut_bool Try.underlying4 _), (trodAll_cons_mk (Below.trod laidOut (by kernel_rfl) (of_decide_eq_true (by kernel_rfl)) k0 bel lt0) trodAll_mk0), rfl, bel.frame _, fun h => by cases h⟩

theorem over : Rows.numOneRow.holds Try.pinned (OpenSpec.ofChange Rows.numOneSpec) :=
  OpenClaim.holds_of_wide 6 Try.f6 rfl rfl rfl rfl rfl rfl rfl ⟨rfl, rfl, rfl, rfl, rfl⟩ rfl rfl rfl rfl rfl (by kernel_rfl) Try.func6 (by kernel_rfl)
    (of_decide_eq_true (by kernel_rfl)) (by unfold Func.isWrapper; first | (rw [if_pos (by decide +kernel)]; kernel_rfl) | (rw [if_neg (by decide +kernel)]; exact ⟨rfl, rfl⟩))
    (fun os started H enc _ => lifted os started H enc)

end numOne

/-- The statement. -/
theorem numOne_holds : Rows.NumOneSaid := numOne.over
#print axioms numOne_holds
end Go.Proofs.Ytbhfnhciadhgmaa
