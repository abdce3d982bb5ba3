/- For any bytes OpsOne answers true: those that are taken whole as an operation are what is put of it. No condition. -/
import Derived.Test.YthipadnghdodlaaOOneM
import Derived.Test.YthipadnghdodlaaOArg
import Derived.WalkKit
import Derived.WalkSpells
import Derived.WalkLawsBesides
import Derived.ProofKit
import Derived.OpenShut
import Derived.ShutString
import Derived.ChangeOld
import Derived.Below
import Derived.ChangeMaps5
import Derived.Lib.SmallJoins
namespace Go.Proofs.Ythipadnghdodlaa
open Go.RowKit
open Go.Sort (grow)

/-- A block for the bytes that came in. -/
theorem src_z {w : World} {a : Option Addr} {len : Nat} {L : List Int} (hs : Src w a len L) : ∃ z, z ≤ w.heap.size ∧ ∀ ad, 0 < len → a = some ad → ad.block = z := by
  by_cases hp : 0 < len
  · obtain ⟨g0, o0, ha, _⟩ := hs.flat hp
    have := src_block hs _ hp ha
    exact ⟨g0, Nat.le_of_lt this, fun ad _ h => by rw [ha] at h; cases h; rfl⟩
  · exact ⟨w.heap.size, Nat.le_refl _, fun ad h _ => absurd h hp⟩

/-- Bytes while another block turns. -/
theorem Src.grownZ {w0 w w' : World} {a : Option Addr} {n b : Nat} {L : List Int} (h : Src w a n L) (h0 : Src w0 a n L) (hb : w0.heap.size ≤ b) (hw : w0.heap.size ≤ w.heap.size) (hg : w.grownBy w' (some b)) : Src w' a n L := by
  refine ⟨h.1, fun hp => ?_⟩
  obtain ⟨ad, h1, h2⟩ := h.2 hp
  obtain ⟨ad', h1', h2'⟩ := h0.2 hp
  rw [h1] at h1'
  cases h1'
  refine ⟨ad, h1, fun j v hj => ?_⟩
  have hl := cell_in (h2' j v hj)
  rw [World.cell?_of_block (w := w) (hg.block _ (by omega) (by simp; omega))]
  exact h2 j v hj

set_option maxRecDepth 100000 in
set_option maxHeartbeats 8000000 in
theorem one_walk (a : Option Addr) (len cap : Nat) (L : List Int) (w : World) (hs : Src w a len L) (hB : Bts L) (hlc : len ≤ cap) (hcap : cap ≤ 9223372036854775807) :
    Calls Try.prog 7 #[.slice a len cap] w fun e w' => e = .returned (.bool true) ∧ Below w.heap.size w w' := by
  by_cases hbig : 2000 < len
  · clear hs
    go_enter Try.func7, Try.ntmps7
    go_wp2_with (first | (go_at_call 9; refine (awake_any w).mono ?_; rintro e w1 ⟨rfl, b1⟩))
    go_ret
    exact ⟨rfl, b1⟩
  have HL := hid hs.1
  obtain ⟨z, hzw, hzz⟩ := src_z hs
  go_enter Try.func7, Try.ntmps7
  go_upto_region 7 with (first
    | (go_at_call 9; refine (awake_more w).mono ?_; rintro e w1 ⟨rfl, b1, g1⟩)
    | (go_at_call 18; refine (read_any w1 (.slice a len cap) a len cap rfl).mono ?_; rintro e w2 ⟨rfl, rd2, b2⟩))
  have hs2 := (hs.below b1).below b2
  have R2 : Rdr w2 w1.heap.size z L 0 := ⟨a, len, cap, rd2, hs2, hlc, hcap, ⟨hzz, by omega⟩, hB, fun h => absurd rfl h⟩
  have B2 := below2 b1 b2
  have hlt := rd2.lt
  have cT := take7_any w2 w1.heap.size z L 0 R2 (by omega) (by rw [HL.out]; omega)
  have hbk := hid (fun h => otk_back hB h)
  have hll := HL.out
  generalize otk L 0 = s at cT hbk
  obtain ⟨⟨o, V⟩, M, x⟩ := s
  unfold Takes7 at cT
  simp only at cT hbk
  have cT' : Calls Try.prog 19 #[.pointer (some ⟨w1.heap.size, 0, none⟩)] w2 fun r w' => ∃ av cv, r = .returned (.agg #[.int .i64 o.id0, .int .i64 o.id1, .int .i64 o.time, .slice av V.length cv, .int .i64 o.kind, .int .i64 o.bl0, .int .i64 o.bl1, .int .i64 o.at0, .int .i64 o.at1, .int .i64 o.side, .int .i64 o.char, .int .i64 o.pa0, .int .i64 o.pa1, .string o.key]) ∧ PS w' av V.length cv V ∧ Rdr w' w1.heap.size z M x ∧ w2.grownBy w' (some w1.heap.size) ∧ ∀ ad, av = some ad → w2.heap.size ≤ ad.block := cT
  generalize w1.heap.size = rb at cT' hlt g1 ⊢
  clear R2 rd2 b2 b1 HL cT
  go_upto_region 8 with (first
    | (go_at_call 19; refine cT'.mono ?_; rintro e w3 ⟨av, cv, rfl, P3, R3, G3, N3⟩))
  have hs3 := hs2.grownZ hs (by omega) (by omega) G3
  have B3 : Below w.heap.size w w3 := B2.grown G3 B2.size (fun j hj => by simp at hj; omega)
  have l4 := (Below.refl w3.heap.size w3).alloc (Nat.le_refl _) (.cells #[.int .i64 o.id0, .int .i64 o.id1, .int .i64 o.time, .slice av V.length cv, .int .i64 o.kind, .int .i64 o.bl0, .int .i64 o.bl1, .int .i64 o.at0, .int .i64 o.at1, .int .i64 o.side, .int .i64 o.char, .int .i64 o.pa0, .int .i64 o.pa1, .string o.key] 27)
  have hA4 : OpAt (w3.alloc (.cells #[.int .i64 o.id0, .int .i64 o.id1, .int .i64 o.time, .slice av V.length cv, .int .i64 o.kind, .int .i64 o.bl0, .int .i64 o.bl1, .int .i64 o.at0, .int .i64 o.at1, .int .i64 o.side, .int .i64 o.char, .int .i64 o.pa0, .int .i64 o.pa1, .string o.key] 27)) w3.heap.size o (.slice av V.length cv) := opAt_alloc w3 o (.slice av V.length cv) 27
  have P4 := P3.below l4
  have R4 := R3.below l4
  have hs4 := hs3.below l4
  have B4 := B3.trans (l4.mono B3.size)
  generalize w3.alloc (.cells #[.int .i64 o.id0, .int .i64 o.id1, .int .i64 o.time, .slice av V.length cv, .int .i64 o.kind, .int .i64 o.bl0, .int .i64 o.bl1, .int .i64 o.at0, .int .i64 o.at1, .int .i64 o.side, .int .i64 o.char, .int .i64 o.pa0, .int .i64 o.pa1, .string o.key] 27) = w4 at hA4 P4 R4 hs4 B4 ⊢
  generalize w3.heap.size = q at hA4 ⊢
  clear cT' P3 R3 G3 N3 hs3 B3 l4 hs2 B2 hs hzz hzw
  by_cases hM : M = []
  · subst hM
    by_cases hx : x = 0
    · subst hx
      obtain ⟨hchk, hL, hVM⟩ := hbk.out rfl
      rw [List.append_nil] at hL
      obtain ⟨hfit, _, hkd⟩ := chk_fit hchk
      have hVl : V.length ≤ 10000 := by
        have h1 := encs_ge V
        have h2 : (encs V).length ≤ L.length := by rw [hL]; unfold enco encv; simp only [List.length_append]; omega
        omega
      have hks : o.key.size ≤ maxLen := by have := hfit.key; unfold maxLen; omega
      have cC : ∀ W, PS W av V.length cv V → Tells 10 #[.agg #[.int .i64 o.id0, .int .i64 o.id1, .int .i64 o.time, .slice av V.length cv, .int .i64 o.kind, .int .i64 o.bl0, .int .i64 o.bl1, .int .i64 o.at0, .int .i64 o.at1, .int .i64 o.side, .int .i64 o.char, .int .i64 o.pa0, .int .i64 o.pa1, .string o.key]] W (.bool true) := fun W h => by have := check_any o av V.length cv V W h (by omega) hks; rw [hchk] at this; exact this
      have cP : ∀ W, PS W av V.length cv V → Calls Try.prog 16 #[.slice none 0 0, .agg #[.int .i64 o.id0, .int .i64 o.id1, .int .i64 o.time, .slice av V.length cv, .int .i64 o.kind, .int .i64 o.bl0, .int .i64 o.bl1, .int .i64 o.at0, .int .i64 o.at1, .int .i64 o.side, .int .i64 o.char, .int .i64 o.pa0, .int .i64 o.pa1, .string o.key]] W (MakesC W L len) := fun W h => oput_any none 0 0 [] o av V.length cv V L len W (src_nil W) (fun _ => ⟨rfl, rfl⟩) (by omega) h hVl hVM hfit hkd hL hll
      have hE := end_nil _ _ _ _ R4
      clear hchk hL hfit hVM hkd hbk hks
      go_upto_region 10 with (first
        | (go_at_call 20; refine hE.mono ?_; rintro e w5 ⟨rfl, rfl⟩))
      have H : Hid (∀ W, Below w4.heap.size w4 W → W.cell? ⟨q, 0, none⟩ = some (.int .i64 o.id0) ∧ W.cell? ⟨q, 1, none⟩ = some (.int .i64 o.id1) ∧ W.cell? ⟨q, 2, none⟩ = some (.int .i64 o.time) ∧ W.cell? ⟨q, 3, none⟩ = some (.slice av V.length cv) ∧ W.cell? ⟨q, 4, none⟩ = some (.int .i64 o.kind) ∧ W.cell? ⟨q, 5, none⟩ = some (.int .i64 o.bl0) ∧ W.cell? ⟨q, 6, none⟩ = some (.int .i64 o.bl1) ∧ W.cell? ⟨q, 7, none⟩ = some (.int .i64 o.at0) ∧ W.cell? ⟨q, 8, none⟩ = some (.int .i64 o.at1) ∧ W.cell? ⟨q, 9, none⟩ = some (.int .i64 o.side) ∧ W.cell? ⟨q, 10, none⟩ = some (.int .i64 o.char) ∧ W.cell? ⟨q, 11, none⟩ = some (.int .i64 o.pa0) ∧ W.cell? ⟨q, 12, none⟩ = some (.int .i64 o.pa1) ∧ W.cell? ⟨q, 13, none⟩ = some (.string o.key) ∧ (convert 32 9 (.slice a len cap)).run Try.prog W = .ok (.string (strOfNums L)) W) := hid (fun W hW => by
        have h := hA4.below hW
        exact ⟨h.c0, h.c1, h.c2, h.c3, h.c4, h.c5, h.c6, h.c7, h.c8, h.c9, h.c10, h.c11, h.c12, h.c13, conv_src (hs4.below hW) cap⟩)
      have L0 : Below w4.heap.size w4 w4 := Below.refl _ _
      have LD : Below w4.heap.size w4 w4.drew := (Below.refl _ _).drew
      have PP := hid (fun W (hW : Below w4.heap.size w4 W) => P4.below hW)
      clear hE R4 hA4 P4
      go_region_held (fun W => W.cell? ⟨q, 0, none⟩ = some (.int .i64 o.id0) ∧ W.cell? ⟨q, 1, none⟩ = some (.int .i64 o.id1) ∧ W.cell? ⟨q, 2, none⟩ = some (.int .i64 o.time) ∧ W.cell? ⟨q, 3, none⟩ = some (.slice av V.length cv) ∧ W.cell? ⟨q, 4, none⟩ = some (.int .i64 o.kind) ∧ W.cell? ⟨q, 5, none⟩ = some (.int .i64 o.bl0) ∧ W.cell? ⟨q, 6, none⟩ = some (.int .i64 o.bl1) ∧ W.cell? ⟨q, 7, none⟩ = some (.int .i64 o.at0) ∧ W.cell? ⟨q, 8, none⟩ = some (.int .i64 o.at1) ∧ W.cell? ⟨q, 9, none⟩ = some (.int .i64 o.side) ∧ W.cell? ⟨q, 10, none⟩ = some (.int .i64 o.char) ∧ W.cell? ⟨q, 11, none⟩ = some (.int .i64 o.pa0) ∧ W.cell? ⟨q, 12, none⟩ = some (.int .i64 o.pa1) ∧ W.cell? ⟨q, 13, none⟩ = some (.string o.key) ∧ (convert 32 9 (.slice a len cap)).run Try.prog W = .ok (.string (strOfNums L)) W)
        (exact H.out _ (by assumption))
        (first
          | (go_at_call 16; refine (cP _ (PP.out _ L5)).mono ?_; rintro e w6 ⟨g6, d6, rfl, hg6, s6, l6, x6, y6⟩; have L6 := below2' L5 l6; have v6 := conv_src s6 d6)
          | (go_at_call 10; refine (cC _ (PP.out _ LD)).mono ?_; rintro e w5 ⟨rfl, F5⟩; have L5 : Below w4.heap.size w4 w5 := below2' LD F5.below))
      all_goals go_wp2_with fail
      all_goals go_ret
      all_goals exact ⟨by simp, B4.trans (L6.mono B4.size)⟩
    · have hx' : (x != 0) = true := by simpa using hx
      have hE := end_nil _ _ _ _ R4
      go_wp2_with (first
        | (go_at_call 20; refine hE.mono ?_; rintro e w5 ⟨rfl, rfl⟩))
      go_ret
      exact ⟨rfl, B4⟩
  · have hE := end_left _ _ _ _ _ R4 hM
    go_wp2_with (first
      | (go_at_call 20; refine hE.mono ?_; rintro e w5 ⟨rfl, R5, O5⟩))
    go_ret
    exact ⟨rfl, B4.trans (O5.below (by omega))⟩

namespace opsOne
open Go.ChangeShapes Go.WideShapes Go.ChangeAt Go.RowKit
open Go.ChangeMaps (open_string shut_string)
set_option linter.unusedVariables false

theorem own : ownKnob Try.prog.godebug = none := by kernel_rfl
theorem laidOut : laidOutB Try.prog = true := by kernel_rfl

set_option maxRecDepth 100000 in
theorem lifted (os : Os) (started : os.Started) (H : Type) (enc : TypeId × Value → H) :
    ReturnsInHanded {} Try.checked os 7 .any (Rows.opsOneSpec.pre6 enc Try.prog Try.f7 Rows.opsOneRow.domain false) (Rows.opsOneSpec.post enc Try.prog Try.f7 false true false false) := by
  refine returnsInHanded_of_change (C := Try.checked) own started (by kernel_rfl) Try.func7
    (ChangeSpec.witness6 (enc := enc) (C := Try.checked) false ⟨#[], #[.slice none 0 0], []⟩ 8 (by kernel_rfl) (by kernel_rfl) (by kernel_rfl) (by kernel_rfl)) ?_
  intro W base args ds gs before hval0 hW hcnd _
  have hval : ∀ (j : Nat) t v, Try.f7.params[j]? = some t → args[j]? = some v → Value.okWide Try.prog W .any base t v := hval0
  have hW' := hW
  obtain ⟨p, q, hA0, hV, rfl, hfz, hnd⟩ := hW
  have hA : DataW.TrodAll enc Try.prog W 0 (fun _ => true) true Try.f7.params.toList args.toList ds p := hA0
  rw [Try.params7] at hA hval
  obtain ⟨v0, vs0, d0, ds0, p0, q0, hargs, rfl, rfl, h0, r0⟩ := trodAll_cons hA
  obtain ⟨rfl, rfl, rfl⟩ := trodAll_nil r0
  obtain rfl : args = #[v0] := by cases args; simp_all
  obtain ⟨rfl, rfl⟩ := trodVars_none hV
  obtain ⟨a0, len0, cap0, rfl⟩ := okWide_slice Try.underlying32 (hval 0 32 v0 rfl rfl)
  have k0 := h0
  have lt0 : ∀ x ∈ p0, x.block < W.heap.size := by obtain ⟨m, hm⟩ := k0; exact DataW.trod_lt m _ _ _ hm
  obtain ⟨z0, w0, u0, s0, t0, nn0⟩ := open_bytes h0
  clear hA0 hval0
  refine (one_walk a0 len0 cap0 z0 W w0 u0 s0 t0).mono fun e W' ⟨he, bel⟩ => ?_
  subst he
  exact ⟨_, rfl, _, _, _, [], _, [], hW', trodAll_mk1 (shut_bool Try.underlying4 _),
    (trodAll_cons_mk (Below.trod laidOut (by kernel_rfl) (of_decide_eq_true (by kernel_rfl)) k0 bel lt0) trodAll_mk0), rfl, bel.frame _, fun h => by cases h⟩

theorem over : Rows.opsOneRow.holds Try.pinned (OpenSpec.ofChange Rows.opsOneSpec) :=
  OpenClaim.holds_of_wide 7 Try.f7 rfl rfl rfl rfl rfl rfl rfl ⟨rfl, rfl, rfl, rfl, rfl⟩ rfl rfl rfl rfl rfl (by kernel_rfl) Try.func7 (by kernel_rfl)
    (of_decide_eq_true (by kernel_rfl)) (by unfold Func.isWrapper; first | (rw [if_pos (by decide +kernel)]; kernel_rfl) | (rw [if_neg (by decide +kernel)]; exact ⟨rfl, rfl⟩))
    (fun os started H enc _ => lifted os started H enc)

end opsOne

/-- The statement. -/
theorem opsOne_holds : Rows.OpsOneSaid := opsOne.over
#print axioms opsOne_holds
end Go.Proofs.Ythipadnghdodlaa
