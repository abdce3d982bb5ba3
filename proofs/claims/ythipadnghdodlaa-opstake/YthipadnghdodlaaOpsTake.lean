/- For any bytes OpsTake answers true: they are taken as the operations that the document says, or refused with its errors. No condition. -/
import Derived.Test.YthipadnghdodlaaORTake
import Derived.Test.YthipadnghdodlaaORSame
import Derived.Test.YthipadnghdodlaaOArg
import Derived.Deep.RegionWith
import Derived.Deep.CutRange
import Derived.WalkKit
import Derived.WalkSpells
import Derived.WalkLawsBesides
import Derived.ProofKit
import Derived.OpenShut
import Derived.ShutString
import Derived.ChangeOld
import Derived.Below
import Derived.ChangeMaps5
import Derived.Lib.SmallJoins
namespace Go.Proofs.Ythipadnghdodlaa
open Go.RowKit
open Go.Sort (grow)

theorem prt_le (k : Int) (L : List Int) (e : Int) : (prt k L e).2.1.length ≤ L.length := by
  unfold prt
  split
  · exact Nat.le_trans (dec_le _ _) (Nat.le_trans (dec_le _ _) (tk_le L e))
  · split
    · exact tk_le L e
    · split
      · refine Nat.le_trans ?_ (tk_le L e)
        unfold rtx
        simp only
        rw [List.length_drop]
        exact Nat.le_trans (Nat.sub_le _ _) (cnt_le _ _ 1)
      · exact Nat.le_refl _

theorem hd7_le (L : List Int) (e : Int) : (hd7 L e).2.1.length ≤ L.length := by
  unfold hd7 kfl
  simp only
  have h := Nat.le_trans (dec_le (vtk (dec (tk L e).2.1 (tk L e).2.2).2.1 (dec (tk L e).2.1 (tk L e).2.2).2.2).2.1 (vtk (dec (tk L e).2.1 (tk L e).2.2).2.1 (dec (tk L e).2.1 (tk L e).2.2).2.2).2.2) (Nat.le_trans (vtk_le (dec (tk L e).2.1 (tk L e).2.2).2.1 (dec (tk L e).2.1 (tk L e).2.2).2.2) (Nat.le_trans (dec_le (tk L e).2.1 (tk L e).2.2) (tk_le L e)))
  split
  · exact h
  · exact Nat.le_trans (flr_le 11 _) h

theorem otk_le (L : List Int) (e : Int) : (otk L e).2.1.length ≤ L.length := by
  unfold otk tl7 ofin
  have h := Nat.le_trans (prt_le (hd7 L e).1.2.2.2 (tk (hd7 L e).2.1 (hd7 L e).2.2).2.1 (tk (hd7 L e).2.1 (hd7 L e).2.2).2.2) (Nat.le_trans (tk_le (hd7 L e).2.1 (hd7 L e).2.2) (hd7_le L e))
  split
  · split
    · exact h
    · simp
  · exact h

theorem so_one (o : OpIn) (V : List Dt) : so o o V V = true := by simp [so]

theorem below_drew3 (w : World) : Below w.heap.size w w.drew := ((Far.refl w).drew).below

theorem PS.kept {w w' : World} {a : Option Addr} {n c b : Nat} {A : List Dt} (h : PS w a n c A) (hg : w.grownBy w' (some b)) (hne : ∀ ad, a = some ad → ad.block ≠ b) : PS w' a n c A :=
  h.other fun ad ha hl => hg.block _ hl (by simpa using hne ad ha)

/-- A block for the bytes that came in. -/
theorem src_z {w : World} {a : Option Addr} {len : Nat} {L : List Int} (hs : Src w a len L) : ∃ z, z ≤ w.heap.size ∧ ∀ ad, 0 < len → a = some ad → ad.block = z := by
  by_cases hp : 0 < len
  · obtain ⟨g0, o0, ha, _⟩ := hs.flat hp
    have := src_block hs _ hp ha
    exact ⟨g0, Nat.le_of_lt this, fun ad _ h => by rw [ha] at h; cases h; rfl⟩
  · exact ⟨w.heap.size, Nat.le_refl _, fun ad h _ => absurd h hp⟩

set_option maxRecDepth 100000 in
set_option maxHeartbeats 16000000 in
theorem take_walk (a : Option Addr) (len cap : Nat) (L : List Int) (w : World) (hs : Src w a len L) (hB : Bts L) (hlc : len ≤ cap) (hcap : cap ≤ 9223372036854775807) :
    Calls Try.prog 6 #[.slice a len cap] w fun e w' => e = .returned (.bool true) ∧ Below w.heap.size w w' := by
  by_cases hbig : 2000 < len
  · clear hs
    go_enter Try.func6, Try.ntmps6
    go_wp2_with (first | (go_at_call 9; refine (awake_any w).mono ?_; rintro e w1 ⟨rfl, b1⟩))
    go_ret
    exact ⟨rfl, b1⟩
  have HLN := hid hs.1
  obtain ⟨z, hzw, hzz⟩ := src_z hs
  go_enter Try.func6, Try.ntmps6
  go_upto_region 7 with (first
    | (go_at_call 9; refine (awake_more w).mono ?_; rintro e w1 ⟨rfl, b1, g1⟩)
    | (go_at_call 18; refine (read_any w1 (.slice a len cap) a len cap rfl).mono ?_; rintro e w5 ⟨rfl, rd5, b5⟩))
  obtain ⟨w6, hw6⟩ : ∃ w6, w6 = w5.alloc (.cells #[.slice a len cap, .int .i64 0] 43) := ⟨_, rfl⟩
  have b6 : Below w5.heap.size w5 w6 := by rw [hw6]; exact (Below.refl _ w5).alloc (Nat.le_refl _) _
  have rb6 := rd5.below b6
  have cb6 : Rd w6 w5.heap.size (.slice a len cap) 0 := by rw [hw6]; exact ⟨by go_simp, by go_simp, by go_simp, by go_simp⟩
  go_wp2_with fail
  rw [← hw6]
  clear hw6
  have h54 : w1.heap.size < w5.heap.size := rd5.lt
  have b46 := below2' b5 b6
  have hs6 := (hs.below b1).below b46
  have R1 : Rdr w6 w1.heap.size z L 0 := ⟨a, len, cap, rb6, hs6, hlc, hcap, ⟨hzz, by omega⟩, hB, fun h => absurd rfl h⟩
  have R2 : Rdr w6 w5.heap.size z L 0 := ⟨a, len, cap, cb6, hs6, hlc, hcap, ⟨hzz, by omega⟩, hB, fun h => absurd rfl h⟩
  obtain ⟨rb, hrb⟩ : ∃ rb, rb = w1.heap.size := ⟨_, rfl⟩
  obtain ⟨cb, hcb⟩ : ∃ cb, cb = w5.heap.size := ⟨_, rfl⟩
  have HG : Hid (w1.heap.size ≤ rb ∧ w1.heap.size ≤ cb ∧ rb ≠ cb ∧ z ≠ rb ∧ z ≠ cb) := hid (by refine ⟨?_, ?_, ?_, ?_, ?_⟩ <;> omega)
  have HB6 := hid b46
  have HZ : Hid (z < w1.heap.size) := hid (by omega)
  rw [← hrb] at R1 ⊢
  rw [← hcb] at R2 ⊢
  clear rb6 cb6 rd5 hs6 b5 b6 b46 h54 hrb hcb hs
  have HW := hid b1
  have HR := hid (And.intro R1 R2)
  have HLl : L.length ≤ 2000 := by rw [HLN.out]; omega
  clear R1 R2 b1 g1
  go_loopw [6] (fun i wr => ∃ (k : Nat) (M : List Int) (e : Int), k ≤ 10 ∧ i = .int .i64 k ∧ M.length ≤ 2000 ∧ Hid (Rdr wr rb z M e) ∧ Hid (Rdr wr cb z M e) ∧ Hid (Below w1.heap.size w1 wr)) (fun i _ => 10 - (intOf i).toNat)
  case atStart => exact ⟨0, L, 0, by omega, rfl, HLl, hid HR.out.1, hid HR.out.2, HB6⟩
  case round =>
    obtain ⟨k, M, e, hk, rfl, hMl, P1, P2, hbl⟩ := hrel
    obtain ⟨q1, q2, q3, q4, q5⟩ := HG.out
    have zwr : z < wr.heap.size := Nat.lt_of_lt_of_le HZ.out hbl.out.size
    by_cases hlt : k < 10
    · have c1 := take7_any wr.drew rb z M e (P1.out.below (below_drew3 wr)) zwr (by omega)
      have c2 := fun W (h : Rdr W cb z M e) (hz : z < W.heap.size) => rtake7_any W cb z M e h hz (by omega)
      have hvl := otk_le M e
      generalize otk M e = t at c1 c2 hvl
      obtain ⟨⟨o, D⟩, M', e'⟩ := t
      unfold Takes7 at c1 c2
      simp only at hvl c1 c2
      have P2d : Rdr wr.drew cb z M e := P2.out.below (below_drew3 wr)
      have HPd := hid P2d
      have hcw := hid P2d.lt
      have Hzwr := hid zwr
      have Hq := hid (And.intro q3 (And.intro q4 q5))
      have Hb0 := hid (hbl.out.trans ((below_drew3 wr).mono hbl.out.size))
      clear HR HLN hB hlc hcap hzz P1 P2 zwr P2d q3 q4 q5 hbl hzw HLl HB6 hbig
      go_upto_region 11 with fail
      go_cut [46] from 18 to 46 (fun s wc => s = .bool false ∧ Hid (Rdr wc rb z M' e') ∧ Hid (Rdr wc cb z M' e') ∧ Hid (Below w1.heap.size w1 wc))
      case first =>
        go_region_with (first
          | (go_at_call 23; refine (err_any x3 rb _ e' rd7).mono ?_; rintro r w' ⟨rfl, rfl⟩)
          | (go_at_call 22; refine (left_any x3 rb a7 M'.length c7 e' rd7).mono ?_; rintro r w' ⟨rfl, rfl⟩)
          | (go_at_call 15; refine (Calls.mono (R := fun e w' => e = .returned (.bool true) ∧ Far x2 w') (by have hsm := rsame7_any o o aa ab D.length ca D.length cb2 D D x2 (A2.kept g7.out (fun ad h => Nat.ne_of_gt (Nat.lt_of_lt_of_le hcw.out (ge1.out ad h)))) pb (by have h1 := pb.cap; have h2 := pb.max; unfold maxLen at h2; omega) (by have h1 := pb.cap; have h2 := pb.max; unfold maxLen at h2; omega); rw [so_one] at hsm; exact hsm) ?_); rintro r x3 ⟨rfl, f3⟩; have P8 := hid (P7.out.below f3.below); have Q8 := hid (Q7.out.below f3.below); have B8 := hid (B7.out.trans (f3.below.mono B7.out.size)); obtain ⟨a7, l7, c7, rd7, s7, hrest7⟩ := id P8.out; obtain ⟨s71, s72⟩ := s7; subst s71; obtain ⟨a8, l8, c8, rd8, s8, hrest8⟩ := id Q8.out; obtain ⟨s81, s82⟩ := s8; subst s81; have e80 := rd8.c0; have e81 := rd8.c1; clear s72 s82 hrest7 hrest8)
          | (go_at_call 21; refine (c2 x1 Q6.out (Nat.lt_of_lt_of_le Hzwr.out (show wr.drew.heap.size ≤ x1.heap.size from g6.out.size))).mono ?_; rintro r x2 ⟨ab, cb2, rfl, pb, Q7', g7', ge2⟩; have g7 := hid g7'; have Q7 := hid Q7'; have P7 := hid (P6.out.grown g7' Hq.out.1 Hq.out.2.2); have A2 := pa; have B7 := hid (B6.out.grown g7' B6.out.size (fun j hj => by cases hj; exact q2)); clear g7' Q7' ge2)
          | (go_at_call 19; refine c1.mono ?_; rintro r x1 ⟨aa, ca, rfl, pa, P6', g6', ge1'⟩; have ge1 := hid ge1'; have g6 := hid g6'; have P6 := hid P6'; have Q6 := hid (HPd.out.grown g6' (Ne.symm Hq.out.1) Hq.out.2.1); have B6 := hid (Hb0.out.grown g6' Hb0.out.size (fun j hj => by cases hj; exact q1)); clear ge1' g6' P6'))
        all_goals go_wp2_with fail
        all_goals go_meet
        all_goals exact ⟨by simp, P8, Q8, B8⟩
      case rest =>
        obtain ⟨rfl, P9, Q9, K9⟩ := hcut
        go_wp2_with fail
        go_roundw
        case rel => first | exact ⟨k + 1, M', e', by omega, by go_num, by omega, P9, Q9, K9⟩ | ((repeat apply Exists.intro); exact ⟨⟨k + 1, M', e', by omega, by go_num, by omega, P9, Q9, K9⟩, rfl⟩)
        case measure => simp [intOf]; omega
    · obtain rfl : k = 10 := by omega
      go_wp2_with fail
      go_ret
      exact ⟨rfl, below2' HW.out hbl.out⟩

namespace opsTake
open Go.ChangeShapes Go.WideShapes Go.ChangeAt Go.RowKit
open Go.ChangeMaps (open_string shut_string)
set_option linter.unusedVariables false

theorem own : ownKnob Try.prog.godebug = none := by kernel_rfl
theorem laidOut : laidOutB Try.prog = true := by kernel_rfl

set_option maxRecDepth 100000 in
theorem lifted (os : Os) (started : os.Started) (H : Type) (enc : TypeId × Value → H) :
    ReturnsInHanded {} Try.checked os 6 .any (Rows.opsTakeSpec.pre6 enc Try.prog Try.f6 Rows.opsTakeRow.domain false) (Rows.opsTakeSpec.post enc Try.prog Try.f6 false true false false) := by
  refine returnsInHanded_of_change (C := Try.checked) own started (by kernel_rfl) Try.func6
    (ChangeSpec.witness6 (enc := enc) (C := Try.checked) false ⟨#[], #[.slice none 0 0], []⟩ 8 (by kernel_rfl) (by kernel_rfl) (by kernel_rfl) (by kernel_rfl)) ?_
  intro W base args ds gs before hval0 hW hcnd _
  have hval : ∀ (j : Nat) t v, Try.f6.params[j]? = some t → args[j]? = some v → Value.okWide Try.prog W .any base t v := hval0
  have hW' := hW
  obtain ⟨p, q, hA0, hV, rfl, hfz, hnd⟩ := hW
  have hA : DataW.TrodAll enc Try.prog W 0 (fun _ => true) true Try.f6.params.toList args.toList ds p := hA0
  rw [Try.params6] at hA hval
  obtain ⟨v0, vs0, d0, ds0, p0, q0, hargs, rfl, rfl, h0, r0⟩ := trodAll_cons hA
  obtain ⟨rfl, rfl, rfl⟩ := trodAll_nil r0
  obtain rfl : args = #[v0] := by cases args; simp_all
  obtain ⟨rfl, rfl⟩ := trodVars_none hV
  obtain ⟨a0, len0, cap0, rfl⟩ := okWide_slice Try.underlying32 (hval 0 32 v0 rfl rfl)
  have k0 := h0
  have lt0 : ∀ x ∈ p0, x.block < W.heap.size := by obtain ⟨m, hm⟩ := k0; exact DataW.trod_lt m _ _ _ hm
  obtain ⟨z0, w0, u0, s0, t0, nn0⟩ := open_bytes h0
  clear hA0 hval0
  refine (take_walk a0 len0 cap0 z0 W w0 u0 s0 t0).mono fun e W' ⟨he, bel⟩ => ?_
  subst he
  exact ⟨_, rfl, _, _, _, [], _, [], hW', trodAll_mk1 (shut_bool Try.underlying4 _),
    (trodAll_cons_mk (Below.trod laidOut (by kernel_rfl) (of_decide_eq_true (by kernel_rfl)) k0 bel lt0) trodAll_mk0), rfl, bel.frame _, fun h => by cases h⟩

theorem over : Rows.opsTakeRow.holds Try.pinned (OpenSpec.ofChange Rows.opsTakeSpec) :=
  OpenClaim.holds_of_wide 6 Try.f6 rfl rfl rfl rfl rfl rfl rfl ⟨rfl, rfl, rfl, rfl, rfl⟩ rfl rfl rfl rfl rfl (by kernel_rfl) Try.func6 (by kernel_rfl)
    (of_decide_eq_true (by kernel_rfl)) (by unfold Func.isWrapper; first | (rw [if_pos (by decide +kernel)]; kernel_rfl) | (rw [if_neg (by decide +kernel)]; exact ⟨rfl, rfl⟩))
    (fun os started H enc _ => lifted os started H enc)

end opsTake

/-- The statement. -/
theorem opsTake_holds : Rows.OpsTakeSaid := opsTake.over
#print axioms opsTake_holds
end Go.Proofs.Ythipadnghdodlaa
