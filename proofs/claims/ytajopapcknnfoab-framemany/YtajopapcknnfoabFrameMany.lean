/- For any bytes FrameMany answers true: what is split is what is read one by one. No condition. -/
import Derived.Test.YtajopapcknnfoabFAwake
import Derived.BigQuiet
import Derived.WalkKit
import Derived.ProofKit
import Derived.OpenShut
import Derived.ShutString
import Derived.ChangeOld
import Derived.Below
namespace Go.Proofs.Ytajopapcknnfoab
open Go.RowKit

theorem IsRow.nil0 {k : IntKind} {w : World} {a : Option Addr} {len cap : Nat} {zs : List Int} (h : IsRow k w a len cap zs) : a = none → len = 0 ∧ cap = 0 := by
  rcases h with ⟨_, h1, h2, _⟩ | ⟨x, rfl, _⟩
  · exact fun _ => ⟨h1, h2⟩
  · exact fun h => absurd h (by simp)
theorem spl_count (m : Nat) (L : List Int) (hn : L.length ≤ m) (hb : Bts L) : (spl L).1.length ≤ (spl L).2 := by
  induction m generalizing L with
  | zero =>
    obtain rfl : L = [] := List.eq_nil_of_length_eq_zero (by omega)
    rw [spl_bad (by rw [nx_short (by simp)]; simp)]
    exact Nat.le_refl _
  | succ m ih =>
    by_cases h : (nx L).1 = 0
    · have hk := nx_ok hb h
      rw [spl_ok hb h]
      have := ih (L.drop (nx L).2.2) (by rw [List.length_drop]; omega) (hb.drop _)
      simp only [List.length_cons]
      omega
    · rw [spl_bad h]; exact Nat.le_refl _
/-- What is still to be read: the rest of the bodies, and where it begins. -/
structure Left' (L L' : List Int) (len lr k : Nat) : Prop where
  bts : Bts L'
  le : lr ≤ len
  bodies : (spl L).1.drop k = (spl L').1
  ends : (spl L).2 = (len - lr) + (spl L').2
theorem Left'.more {L L' : List Int} {len lr k : Nat} (h : Left' L L' len lr k) (hl : L'.length = lr) (hk : k < (spl L).1.length) :
    (nx L').1 = 0 ∧ (nx L').2.2 = (nx L').2.1.length + 8 ∧ (nx L').2.1.length + 8 ≤ lr ∧ (spl L).1[k]?.getD [] = (nx L').2.1 ∧ Left' L (L'.drop ((nx L').2.1.length + 8)) len (lr - ((nx L').2.1.length + 8)) (k + 1) := by
  have hd := List.drop_eq_getElem_cons hk
  have h0 : (nx L').1 = 0 := by
    rcases Classical.em ((nx L').1 = 0) with e | e
    · exact e
    · have := h.bodies
      rw [spl_bad e, hd] at this
      exact absurd this (List.cons_ne_nil _ _)
  have hok := nx_ok h.bts h0
  have hb := h.bodies
  rw [spl_ok h.bts h0, hd] at hb
  have hb' := List.cons.inj hb
  have he := h.ends
  rw [spl_ok h.bts h0] at he
  have hle := h.le
  rw [hok.1] at hb' he
  refine ⟨h0, hok.1, by omega, by rw [List.getElem?_eq_getElem hk]; exact hb'.1, ⟨h.bts.drop _, by omega, hb'.2, ?_⟩⟩
  simp only at he
  omega
theorem Left'.none {L L' : List Int} {len lr k : Nat} (h : Left' L L' len lr k) (hk : k = (spl L).1.length) : (nx L').1 ≠ 0 ∧ (spl L).2 = len - lr := by
  have h0 : (nx L').1 ≠ 0 := by
    intro e
    have := h.bodies
    rw [spl_ok h.bts e, List.drop_eq_nil_of_le (by omega)] at this
    simp at this
  refine ⟨h0, ?_⟩
  have := h.ends
  rw [spl_bad h0] at this
  exact this

set_option maxHeartbeats 2000000 in
theorem frameMany_walk (a : Option Addr) (len cap : Nat) (zs : List Int) (w : World) (h : IsRow .u8 w a len cap zs) :
    Calls Try.prog 3 #[.slice a len cap] w fun e w' => e = .returned (.bool true) ∧ Below w.heap.size w w' := by
  obtain ⟨hs, hb, hlc, hcm⟩ := h.src
  have hnil := h.nil0
  generalize zs.take len = L at hs hb
  clear h
  by_cases hl : 3000 < len
  · go_enter Try.func3, Try.ntmps3
    go_wp2_with (go_at_call 4; refine (awake_any w).mono ?_; rintro e w1 ⟨rfl, b1⟩)
    go_ret
    exact ⟨rfl, b1⟩
  · have hsl := spl_le len L (by rw [hs.1]; exact Nat.le_refl _) hb
    have hsc := spl_count len L (by rw [hs.1]; exact Nat.le_refl _) hb
    rw [hs.1] at hsl
    go_enter Try.func3, Try.ntmps3
    go_wp2_with (first
      | (go_at_call 4; refine (awake_any w).mono ?_; rintro e w1 ⟨rfl, b1⟩)
      | (go_at_call 5; refine (split_any a len cap L _ (hs.below b1) hb hlc (by omega)).mono ?_; rintro e w2 ⟨al, cl, rfl, sl, b2⟩; have b2' := bnext b1 b2))
    go_loopw [6, 7] (fun v i wr => ∃ (k : Nat) (L' : List Int) (ar : Option Addr) (lr cr : Nat), k ≤ (spl L).1.length ∧ i = .int .i64 k ∧ v = .slice ar lr cr ∧ Src wr ar lr L' ∧ lr ≤ cr ∧ (ar = none → lr = 0) ∧ Left' L L' len lr k ∧ Below w2.heap.size w2 wr) (fun _ i _ => (spl L).1.length - (intOf i).toNat)
    case atStart => exact ⟨0, L, a, len, cap, by omega, rfl, rfl, hs.below b2', hlc, fun h => (hnil h).1, ⟨hb, Nat.le_refl _, rfl, by omega⟩, Below.refl _ _⟩
    case round =>
      obtain ⟨k, L', ar, lr, cr, hk, rfl, rfl, hsr, hlr, hnr, hLf, hbr⟩ := hrel
      have hlrl := hLf.le
      by_cases hlt : k < (spl L).1.length
      · obtain ⟨h0, h22, hle, hbk, hLf'⟩ := hLf.more hsr.1 hlt
        have hN := next_any ar lr cr L' wr hsr hLf.bts hlr (by omega) hnr
        rw [h22, h0] at hN
        obtain ⟨gl, ol, rfl, hcl⟩ := sl.2 (by omega)
        obtain ⟨xa, xc, ek, sk, _⟩ := hcl k hlt
        rw [hbk] at ek sk
        have hLf'' := hid hLf'
        clear hLf' hLf hbk h22 h0 hcl
        generalize (nx L').2.1 = M at *
        obtain ⟨m, hm⟩ : ∃ m, m = M.length := ⟨_, rfl⟩
        rw [← hm] at hN ek sk hle hLf''
        clear hm
        have hlen : (((lr - (m + 8) : Nat) : Int) != (lr : Int) - (m : Int) - 8) = false := by
          have : ((lr - (m + 8) : Nat) : Int) = (lr : Int) - (m : Int) - 8 := by omega
          rw [this]; simp
        go_wp2_with (go_at_call 6; refine hN.mono ?_; rintro e w3 ⟨v, u, rfl, b3, _, hokk⟩; obtain ⟨⟨a3, c3, rfl, _, _, s3⟩, a4, c4, rfl, h4c, h4n, s4⟩ := hokk rfl)
        have bw3 : Below w2.heap.size w2 w3 := bnext hbr b3
        have ek3 : w3.cell? ⟨gl, ol + k, none⟩ = some (.slice xa m xc) := by rw [bw3.cell (cell_block ek)]; exact ek
        have k1 := fun p => conv_src (s3.drewN p) c3
        have k2 := fun p => conv_src ((sk.below bw3).drewN p) xc
        clear hN hokk ek sk s3
        go_quiet (fail)
        go_wp2_with fail
        go_roundw
        case rel => exact ⟨k + 1, _, a4, _, c4, by omega, by go_num, rfl, s4.drewN nq, h4c, h4n, hLf''.out, below_drewN bw3 nq⟩
        case measure => simp [intOf]; omega
      · obtain ⟨h0, hat⟩ := hLf.none (by omega)
        have hN := next_any ar lr cr L' wr hsr hLf.bts hlr (by omega) hnr
        have hd1 : ((nx L').1 != 0) = true := by simp [h0]
        have hae : (((spl L).2 : Int) == (len : Int) - (lr : Int)) = true := by
          have : ((spl L).2 : Int) = (len : Int) - (lr : Int) := by omega
          rw [this]; simp
        have h0' := hid h0
        obtain rfl : k = (spl L).1.length := by omega
        clear h0 hat hLf
        generalize nx L' = E at *
        go_wp2_with (go_at_call 6; refine hN.mono ?_; rintro e w3 ⟨v, u, rfl, b3, hbb, _⟩; obtain ⟨rfl, rfl⟩ := hbb h0'.out)
        go_ret
        exact ⟨rfl, b2'.trans (((hbr.trans (b3.mono hbr.size))).mono b2'.size)⟩

namespace frameMany
open Go.ChangeShapes Go.WideShapes Go.ChangeAt Go.RowKit
open Go.ChangeMaps (open_string shut_string)
set_option linter.unusedVariables false

theorem own : ownKnob Try.prog.godebug = none := by kernel_rfl
theorem laidOut : laidOutB Try.prog = true := by kernel_rfl

set_option maxRecDepth 100000 in
theorem lifted (os : Os) (started : os.Started) (H : Type) (enc : TypeId × Value → H) :
    ReturnsInHanded {} Try.checked os 3 .any (Rows.frameManySpec.pre6 enc Try.prog Try.f3 Rows.frameManyRow.domain false) (Rows.frameManySpec.post enc Try.prog Try.f3 false true false false) := by
  refine returnsInHanded_of_change (C := Try.checked) own started (by kernel_rfl) Try.func3
    (ChangeSpec.witness6 (enc := enc) (C := Try.checked) false ⟨#[], #[.slice none 0 0], []⟩ 8 (by kernel_rfl) (by kernel_rfl) (by kernel_rfl) (by kernel_rfl)) ?_
  intro W base args ds gs before hval0 hW hcnd _
  have hval : ∀ (j : Nat) t v, Try.f3.params[j]? = some t → args[j]? = some v → Value.okWide Try.prog W .any base t v := hval0
  have hW' := hW
  obtain ⟨p, q, hA0, hV, rfl, hfz, hnd⟩ := hW
  have hA : DataW.TrodAll enc Try.prog W 0 (fun _ => true) true Try.f3.params.toList args.toList ds p := hA0
  rw [Try.params3] at hA hval
  obtain ⟨v0, vs0, d0, ds0, p0, q0, hargs, rfl, rfl, h0, r0⟩ := trodAll_cons hA
  obtain ⟨rfl, rfl, rfl⟩ := trodAll_nil r0
  obtain rfl : args = #[v0] := by cases args; simp_all
  obtain ⟨rfl, rfl⟩ := trodVars_none hV
  obtain ⟨a0, len0, cap0, rfl⟩ := okWide_slice Try.underlying22 (hval 0 22 v0 rfl rfl)
  have k0 := h0
  have lt0 : ∀ x ∈ p0, x.block < W.heap.size := by obtain ⟨m, hm⟩ := k0; exact DataW.trod_lt m _ _ _ hm
  obtain ⟨z0, w0⟩ : ∃ zs, IsRow .u8 W a0 len0 cap0 zs := by
    obtain ⟨fuel, hf⟩ := h0
    rcases open_ints Try.underlying22 Try.underlying5 (by kernel_rfl) hf with ⟨hcs, _⟩ | ⟨x, l, c, zs, hcs, _, hl, hm, hz, _, hcell, hwz⟩
    · simp [Value.cells] at hcs
      obtain ⟨rfl, rfl, rfl⟩ := hcs
      exact ⟨[], .inl ⟨rfl, rfl, rfl, rfl⟩⟩
    · simp [Value.cells] at hcs
      obtain ⟨rfl, rfl, rfl⟩ := hcs
      exact ⟨zs, .inr ⟨_, rfl, hl, hm, by simpa using hz, hcell, hwz⟩⟩
  clear hA0 hval0
  refine (frameMany_walk a0 len0 cap0 z0 W w0).mono fun e W' ⟨he, bel⟩ => ?_
  subst he
  exact ⟨_, rfl, _, _, _, [], _, [], hW', trodAll_mk1 (shut_bool Try.underlying4 _),
    (trodAll_cons_mk (Below.trod laidOut (by kernel_rfl) (of_decide_eq_true (by kernel_rfl)) k0 bel lt0) trodAll_mk0), rfl, bel.frame _, fun h => by cases h⟩

theorem over : Rows.frameManyRow.holds Try.pinned (OpenSpec.ofChange Rows.frameManySpec) :=
  OpenClaim.holds_of_wide 3 Try.f3 rfl rfl rfl rfl rfl rfl rfl ⟨rfl, rfl, rfl, rfl, rfl⟩ rfl rfl rfl rfl rfl (by kernel_rfl) Try.func3 (by kernel_rfl)
    (of_decide_eq_true (by kernel_rfl)) (by unfold Func.isWrapper; first | (rw [if_pos (by decide +kernel)]; kernel_rfl) | (rw [if_neg (by decide +kernel)]; exact ⟨rfl, rfl⟩))
    (fun os started H enc _ => lifted os started H enc)

end frameMany

/-- The statement. -/
theorem frameMany_holds : Rows.FrameManySaid := frameMany.over
#print axioms frameMany_holds
end Go.Proofs.Ytajopapcknnfoab
