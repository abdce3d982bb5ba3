/- For any bytes FrameReads answers true: the first frame and all frames, as the program reads them, are the reference's, or the error, and where. No condition. -/
import Derived.Test.YtajopapcknnfoaaFAwake
import Derived.Test.YtajopapcknnfoaaFRefC
import Derived.Test.YtajopapcknnfoaaFrameMakes
import Derived.BigQuiet
import Derived.WalkKit
import Derived.ProofKit
import Derived.OpenShut
import Derived.ShutString
import Derived.ChangeOld
import Derived.Below
namespace Go.Proofs.Ytajopapcknnfoaa
open Go.RowKit

theorem spl_count (m : Nat) (L : List Int) (hn : L.length ≤ m) (hb : Bts L) : (spl L).1.length ≤ (spl L).2 := by
  induction m generalizing L with
  | zero =>
    obtain rfl : L = [] := List.eq_nil_of_length_eq_zero (by omega)
    rw [spl_bad (by rw [nx_short (by simp)]; simp)]
    exact Nat.le_refl _
  | succ m ih =>
    by_cases h : (nx L).1 = 0
    · have hk := nx_ok hb h
      rw [spl_ok hb h]
      have := ih (L.drop (nx L).2.2) (by rw [List.length_drop]; omega) (hb.drop _)
      simp only [List.length_cons]
      omega
    · rw [spl_bad h]; exact Nat.le_refl _

set_option maxHeartbeats 2000000 in
theorem frameReads_walk (a : Option Addr) (len cap : Nat) (zs : List Int) (w : World) (h : IsRow .u8 w a len cap zs) :
    Calls Try.prog 5 #[.slice a len cap] w fun e w' => e = .returned (.bool true) ∧ Below w.heap.size w w' := by
  obtain ⟨hs, hb, hlc, hcm⟩ := h.src
  have hnil := h.nil0
  generalize zs.take len = L at hs hb
  clear h
  by_cases hl : 5000 < len
  · go_enter Try.func5, Try.ntmps5
    go_wp2_with (go_at_call 9; refine (awake_any w).mono ?_; rintro e w1 ⟨rfl, b1⟩)
    go_ret
    exact ⟨rfl, b1⟩
  · have hsl := spl_le len L (by rw [hs.1]; exact Nat.le_refl _) hb
    have hsc := spl_count len L (by rw [hs.1]; exact Nat.le_refl _) hb
    rw [hs.1] at hsl
    by_cases h0 : (nx L).1 = 0
    · have hok := nx_ok hb h0
      rw [hs.1] at hok
      obtain ⟨g, off, rfl, _⟩ := hs.flat (by omega)
      have hpc : pc (some ⟨g, off, none⟩) cap L = .slice (some ⟨g, off + 4, none⟩) (nx L).2.1.length (cap - 4) := by unfold pc; rw [if_pos h0, Option.map_some, Addr.add_lit]
      have hp := (src_pc hs hb h0).1
      rw [Option.map_some, Addr.add_lit] at hp
      have hN := fun w1 (b : Below w.heap.size w w1) => next_any (some ⟨g, off, none⟩) len cap L w1 (hs.below b) hb hlc (by omega) (by simp)
      have hR := fun w1 (b : Below w.heap.size w w1) => rnext_any (some ⟨g, off, none⟩) len cap L w1 (hs.below b) hb hlc (by omega)
      simp only [hpc, h0, hok.1] at hN hR
      have hcut := src_cut hs cap ((nx L).2.1.length + 8) hlc
      have hcA : cutA (some ⟨g, off, none⟩) cap ((nx L).2.1.length + 8) = if cap = (nx L).2.1.length + 8 then some ⟨g, off, none⟩ else some ⟨g, off + ((nx L).2.1.length + 8), none⟩ := by unfold cutA; rw [Option.map_some, Addr.add_lit]
      rw [hcA] at hcut
      have hle : (nx L).2.1.length + 8 ≤ len := by omega
      clear hpc hcA h0 hok
      generalize (nx L).2.1 = M at *
      obtain ⟨n, hn⟩ : ∃ n, n = M.length := ⟨_, rfl⟩
      rw [← hn] at hle hcut hp
      simp only [← hn] at hN hR
      clear hn
      go_enter Try.func5, Try.ntmps5
      go_wp2_with (first
        | (go_at_call 9; refine (awake_any w).mono ?_; rintro e w1 ⟨rfl, b1⟩)
        | (go_at_call 14; refine (hN _ b1).mono ?_; rintro e w2 ⟨v, u, rfl, b2, _, hokk⟩; obtain ⟨⟨a2, c2, rfl, _, _, s2⟩, a3, c3, rfl, _, _, s3⟩ := hokk trivial; have b2' := bnext b1 b2)
        | (go_at_call 15; refine (hR _ b2').mono ?_; rintro e w3 ⟨rfl, q, rfl⟩))
      obtain ⟨W, hW⟩ : ∃ W, W = w2.drewN q := ⟨_, rfl⟩
      have bW : Below w.heap.size w W := by rw [hW]; exact below_drewN b2' q
      have s2W : Src W a2 n M := by rw [hW]; exact s2.drewN q
      have s3W : Src W a3 (len - (n + 8)) (L.drop (n + 8)) := by rw [hW]; exact s3.drewN q
      rw [← hW]
      clear hW s2 s3 b2 hN hR hokk b1 b2'
      have k1 := fun p => conv_src (s2W.drewN p) c2
      have k2 := fun p => conv_src ((hp.below bW).drewN p) (cap - 4)
      have k3 := fun p => conv_src (s3W.drewN p) c3
      have k4 := fun p => conv_src ((hcut.below bW).drewN p) (cap - (n + 8))
      have hni : (n : Int) + 8 ≤ (len : Int) := by omega
      clear s2W s3W hp hcut
      by_cases hcap : cap = n + 8
      · subst hcap
        simp only [if_true, Nat.sub_self] at k4
        have e84 : n + 8 - 4 = n + 4 := by omega
        simp only [e84] at k2
        clear e84
        obtain rfl : len = n + 8 := by omega
        simp only [Nat.sub_self] at k3 k4
        go_quiet (fail)
        clear k1 k2 k3 k4
        have hbq : Below w.heap.size w (W.drewN nq) := below_drewN bW nq
        have hS := split_any (some ⟨g, off, none⟩) (n + 8) (n + 8) L (W.drewN nq) (hs.below hbq) hb hlc (by omega)
        go_wp2_with fail
        refine hS.mono ?_
        rintro e w4 ⟨a4, c4, rfl, s4, b4⟩
        have b4' := bnext hbq b4
        clear hS
        have hT := rsplit_any (some ⟨g, off, none⟩) (n + 8) (n + 8) L w4 (hs.below b4') hb hlc (by omega)
        go_wp2_with fail
        refine hT.mono ?_
        rintro e w5 ⟨a5, c5, rfl, s5, b5⟩
        have b5' := bnext b4' b5
        clear hT
        have hM := same_any a4 a5 (spl L).1.length c4 c5 (spl L).1 w5 (s4.below b5) s5 (by omega)
        go_wp2_with fail
        refine hM.mono ?_
        rintro e w6 ⟨rfl, q6, rfl⟩
        clear hM
        go_wp2_with fail
        go_ret
        exact ⟨rfl, below_drewN b5' q6⟩
      · simp only [if_neg hcap] at k4
        go_quiet (fail)
        clear k1 k2 k3 k4
        have hbq : Below w.heap.size w (W.drewN nq) := below_drewN bW nq
        have hS := split_any (some ⟨g, off, none⟩) len cap L (W.drewN nq) (hs.below hbq) hb hlc (by omega)
        go_wp2_with fail
        refine hS.mono ?_
        rintro e w4 ⟨a4, c4, rfl, s4, b4⟩
        have b4' := bnext hbq b4
        clear hS
        have hT := rsplit_any (some ⟨g, off, none⟩) len cap L w4 (hs.below b4') hb hlc (by omega)
        go_wp2_with fail
        refine hT.mono ?_
        rintro e w5 ⟨a5, c5, rfl, s5, b5⟩
        have b5' := bnext b4' b5
        clear hT
        have hM := same_any a4 a5 (spl L).1.length c4 c5 (spl L).1 w5 (s4.below b5) s5 (by omega)
        go_wp2_with fail
        refine hM.mono ?_
        rintro e w6 ⟨rfl, q6, rfl⟩
        clear hM
        go_wp2_with fail
        go_ret
        exact ⟨rfl, below_drewN b5' q6⟩
    · have hpc : pc a cap L = .slice none 0 0 := by unfold pc; rw [if_neg h0]
      have hbad := nx_bad h0
      have hN := fun w1 (b : Below w.heap.size w w1) => next_any a len cap L w1 (hs.below b) hb hlc (by omega) (fun h => (hnil h).1)
      have hR := fun w1 (b : Below w.heap.size w w1) => rnext_any a len cap L w1 (hs.below b) hb hlc (by omega)
      simp only [hpc, hbad] at hN hR
      have hd0 : ((nx L).1 == 0) = false := by simp [h0]
      have hd1 : ((nx L).1 != 0) = true := by simp [h0]
      have h0' := hid h0
      clear hpc hbad h0
      generalize (nx L).1 = E at *
      go_enter Try.func5, Try.ntmps5
      go_wp2_with (first
        | (go_at_call 9; refine (awake_any w).mono ?_; rintro e w1 ⟨rfl, b1⟩)
        | (go_at_call 14; refine (hN _ b1).mono ?_; rintro e w2 ⟨v, u, rfl, b2, hbb, _⟩; obtain ⟨rfl, rfl⟩ := hbb h0'.out; have b2' := bnext b1 b2)
        | (go_at_call 15; refine (hR _ b2').mono ?_; rintro e w3 ⟨rfl, q, rfl⟩))
      obtain ⟨W, hW⟩ : ∃ W, W = w2.drewN q := ⟨_, rfl⟩
      have bW : Below w.heap.size w W := by rw [hW]; exact below_drewN b2' q
      rw [← hW]
      clear hW b2 hN hR hbb b1 b2'
      go_quiet (fail)
      have hbq : Below w.heap.size w (W.drewN nq) := below_drewN bW nq
      have hS := split_any a len cap L (W.drewN nq) (hs.below hbq) hb hlc (by omega)
      go_wp2_with fail
      refine hS.mono ?_
      rintro e w4 ⟨a4, c4, rfl, s4, b4⟩
      have b4' := bnext hbq b4
      clear hS
      have hT := rsplit_any a len cap L w4 (hs.below b4') hb hlc (by omega)
      go_wp2_with fail
      refine hT.mono ?_
      rintro e w5 ⟨a5, c5, rfl, s5, b5⟩
      have b5' := bnext b4' b5
      clear hT
      have hM := same_any a4 a5 (spl L).1.length c4 c5 (spl L).1 w5 (s4.below b5) s5 (by omega)
      go_wp2_with fail
      refine hM.mono ?_
      rintro e w6 ⟨rfl, q6, rfl⟩
      clear hM
      go_wp2_with fail
      go_ret
      exact ⟨rfl, below_drewN b5' q6⟩

namespace frameReads
open Go.ChangeShapes Go.WideShapes Go.ChangeAt Go.RowKit
open Go.ChangeMaps (open_string shut_string)
set_option linter.unusedVariables false

theorem own : ownKnob Try.prog.godebug = none := by kernel_rfl
theorem laidOut : laidOutB Try.prog = true := by kernel_rfl

set_option maxRecDepth 100000 in
theorem lifted (os : Os) (started : os.Started) (H : Type) (enc : TypeId × Value → H) :
    ReturnsInHanded {} Try.checked os 5 .any (Rows.frameReadsSpec.pre6 enc Try.prog Try.f5 Rows.frameReadsRow.domain false) (Rows.frameReadsSpec.post enc Try.prog Try.f5 false true false false) := by
  refine returnsInHanded_of_change (C := Try.checked) own started (by kernel_rfl) Try.func5
    (ChangeSpec.witness6 (enc := enc) (C := Try.checked) false ⟨#[], #[.slice none 0 0], []⟩ 8 (by kernel_rfl) (by kernel_rfl) (by kernel_rfl) (by kernel_rfl)) ?_
  intro W base args ds gs before hval0 hW hcnd _
  have hval : ∀ (j : Nat) t v, Try.f5.params[j]? = some t → args[j]? = some v → Value.okWide Try.prog W .any base t v := hval0
  have hW' := hW
  obtain ⟨p, q, hA0, hV, rfl, hfz, hnd⟩ := hW
  have hA : DataW.TrodAll enc Try.prog W 0 (fun _ => true) true Try.f5.params.toList args.toList ds p := hA0
  rw [Try.params5] at hA hval
  obtain ⟨v0, vs0, d0, ds0, p0, q0, hargs, rfl, rfl, h0, r0⟩ := trodAll_cons hA
  obtain ⟨rfl, rfl, rfl⟩ := trodAll_nil r0
  obtain rfl : args = #[v0] := by cases args; simp_all
  obtain ⟨rfl, rfl⟩ := trodVars_none hV
  obtain ⟨a0, len0, cap0, rfl⟩ := okWide_slice Try.underlying22 (hval 0 22 v0 rfl rfl)
  have k0 := h0
  have lt0 : ∀ x ∈ p0, x.block < W.heap.size := by obtain ⟨m, hm⟩ := k0; exact DataW.trod_lt m _ _ _ hm
  obtain ⟨z0, w0⟩ : ∃ zs, IsRow .u8 W a0 len0 cap0 zs := by
    obtain ⟨fuel, hf⟩ := h0
    rcases open_ints Try.underlying22 Try.underlying5 (by kernel_rfl) hf with ⟨hcs, _⟩ | ⟨x, l, c, zs, hcs, _, hl, hm, hz, _, hcell, hwz⟩
    · simp [Value.cells] at hcs
      obtain ⟨rfl, rfl, rfl⟩ := hcs
      exact ⟨[], .inl ⟨rfl, rfl, rfl, rfl⟩⟩
    · simp [Value.cells] at hcs
      obtain ⟨rfl, rfl, rfl⟩ := hcs
      exact ⟨zs, .inr ⟨_, rfl, hl, hm, by simpa using hz, hcell, hwz⟩⟩
  clear hA0 hval0
  refine (frameReads_walk a0 len0 cap0 z0 W w0).mono fun e W' ⟨he, bel⟩ => ?_
  subst he
  exact ⟨_, rfl, _, _, _, [], _, [], hW', trodAll_mk1 (shut_bool Try.underlying4 _),
    (trodAll_cons_mk (Below.trod laidOut (by kernel_rfl) (of_decide_eq_true (by kernel_rfl)) k0 bel lt0) trodAll_mk0), rfl, bel.frame _, fun h => by cases h⟩

theorem over : Rows.frameReadsRow.holds Try.pinned (OpenSpec.ofChange Rows.frameReadsSpec) :=
  OpenClaim.holds_of_wide 5 Try.f5 rfl rfl rfl rfl rfl rfl rfl ⟨rfl, rfl, rfl, rfl, rfl⟩ rfl rfl rfl rfl rfl (by kernel_rfl) Try.func5 (by kernel_rfl)
    (of_decide_eq_true (by kernel_rfl)) (by unfold Func.isWrapper; first | (rw [if_pos (by decide +kernel)]; kernel_rfl) | (rw [if_neg (by decide +kernel)]; exact ⟨rfl, rfl⟩))
    (fun os started H enc _ => lifted os started H enc)

end frameReads

/-- The statement. -/
theorem frameReads_holds : Rows.FrameReadsSaid := frameReads.over
#print axioms frameReads_holds
end Go.Proofs.Ytajopapcknnfoaa
