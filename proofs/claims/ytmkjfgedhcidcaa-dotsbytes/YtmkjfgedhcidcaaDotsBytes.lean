/- For any bytes and any dot DotsBytes answers true: its bytes, behind any bytes, are the reference's, and any bytes are taken as the reference takes them. No condition. -/
import Derived.Test.YtmkjfgedhcidcaaEArg
import Derived.Test.YtmkjfgedhcidcaaDAwake
import Derived.Deep.RegionHeld
import Derived.Deep.RegionWith
import Derived.Lib.SmallJoins
import Derived.WalkKit
import Derived.WalkSpells
import Derived.WalkLawsBesides
import Derived.ProofKit
import Derived.OpenShut
import Derived.ShutString
import Derived.ChangeOld
import Derived.Below
namespace Go.Proofs.Ytmkjfgedhcidcaa
open Go.RowKit

theorem encd_length (x y : Int) : (encd (x, y)).length = sz (zig x) + sz (zig y) := by
  unfold encd
  rw [List.length_append, enc_length, enc_length]

set_option maxRecDepth 100000 in
set_option maxHeartbeats 8000000 in
theorem bytes_walk (a : Option Addr) (len cap : Nat) (L : List Int) (d : Dt) (w : World) (hs : Src w a len L) (hB : Bts L) (hlc : len ≤ cap) (hcap : cap ≤ 9223372036854775807) (hd : Dw d) :
    Calls Try.prog 6 #[.slice a len cap, dv d] w fun e w' => e = .returned (.bool true) ∧ RowKit.Below w.heap.size w w' := by
  obtain ⟨d1, d2⟩ := d
  have hb : RowKit.Below w.heap.size w (w.alloc (.cells #[.int .i64 d1, .int .i64 d2] 23)) := (Below.refl _ w).alloc (Nat.le_refl _) _
  have haw := awake_any (w.alloc (.cells #[.int .i64 d1, .int .i64 d2] 23))
  by_cases hbig : 1000 < len
  · clear hs
    go_enter Try.func6, Try.ntmps6
    go_wp2_with (first | (go_at_call 8; refine haw.mono ?_; rintro e w1 ⟨rfl, b1⟩))
    go_ret
    exact ⟨rfl, below2' hb b1⟩
  · have hn : len ≤ 1000 := by omega
    have HLN := hid hs.1
    obtain ⟨z, hzw, hzz⟩ : ∃ z, z ≤ w.heap.size ∧ ∀ ad, 0 < len → a = some ad → ad.block = z := by
      by_cases hp : 0 < len
      · obtain ⟨g0, o0, ha, _⟩ := hs.flat hp
        have := src_block hs _ hp ha
        exact ⟨g0, Nat.le_of_lt this, fun ad _ h => by rw [ha] at h; cases h; rfl⟩
      · exact ⟨w.heap.size, Nat.le_refl _, fun ad h _ => absurd h hp⟩
    have hz1 := sz_le (zig d1)
    have hz2 := sz_le (zig d2)
    have hp1 := sz_pos (zig d1)
    have hp2 := sz_pos (zig d2)
    have hsz : (strOfNums L).size + (strOfNums (encd (d1, d2))).size ≤ 9223372036854775807 := by
      rw [strOfNums_size, strOfNums_size, hs.1, encd_length]
      omega
    go_enter Try.func6, Try.ntmps6
    go_wp2_with (first
      | (go_at_call 21; refine (put_any a len cap L (d1, d2) w1 (hs.below g1) (by omega) hd).mono ?_; rintro e w2 ⟨g, rfl, hg, rX, b2⟩)
      | (go_at_call 8; refine haw.mono ?_; rintro e w1 ⟨rfl, b1⟩; have g1 := below2' hb b1; obtain ⟨k0, k1⟩ := boxc (B := (w.alloc (.cells #[.int .i64 d1, .int .i64 d2] 23)).heap.size) (by simp) b1))
    have hkw : w.heap.size < w1.heap.size := cell_in k0
    have m0 := (b2.cell (p := ⟨w.heap.size, 0, none⟩) hkw).trans k0
    have m1 := (b2.cell (p := ⟨w.heap.size, 1, none⟩) hkw).trans k1
    have g2 := below2' g1 b2
    have hsX := hs.below g2
    have hxl : (L ++ encd (d1, d2)).length = len + sz (zig d1) + sz (zig d2) := by
      rw [List.length_append, encd_length, HLN.out]
      omega
    have TX : ∀ W, RowKit.Below w2.heap.size w2 W → (convert 37 9 (.slice (some ⟨g, 0, none⟩) (len + sz (zig d1) + sz (zig d2)) (len + sz (zig d1) + sz (zig d2)))).run Try.prog W = .ok (.string (strOfNums L ++ strOfNums (encd (d1, d2)))) W := fun W hW => by
      rw [← str_app]
      exact conv_src ((rX.below hW).src _ hxl) _
    have TB : ∀ W, RowKit.Below w2.heap.size w2 W → (convert 37 9 (.slice a len cap)).run Try.prog W = .ok (.string (strOfNums L)) W := fun W hW => conv_src (hsX.below hW) cap
    have hHX := hid hxl
    clear hs hxl haw hb k0 k1 b1
    have hTX := hid TX
    have hTB := hid TB
    clear TX TB
    have cP := rput_any (d1, d2) w2.drew hd
    have bD : RowKit.Below w2.heap.size w2 w2.drew := (Below.refl _ _).drew
    go_region_held (fun W => (W.cell? ⟨w.heap.size, 0, none⟩ = some (.int .i64 d1) ∧ W.cell? ⟨w.heap.size, 1, none⟩ = some (.int .i64 d2)) ∧ (convert 37 9 (.slice (some ⟨g, 0, none⟩) (len + sz (zig d1) + sz (zig d2)) (len + sz (zig d1) + sz (zig d2)))).run Try.prog W = .ok (.string (strOfNums L ++ strOfNums (encd (d1, d2)))) W ∧ (convert 37 9 (.slice a len cap)).run Try.prog W = .ok (.string (strOfNums L)) W)
      (first | exact ⟨⟨by assumption, by assumption⟩, hTX.out _ (by assumption), hTB.out _ (by assumption)⟩)
      (first
        | (go_at_call 22; refine cP.mono ?_; rintro e w3 ⟨g3, c3, rfl, hg3, hS3, b3⟩; have B3 := below2' bD b3; have n0 := (B3.cell (p := ⟨w.heap.size, 0, none⟩) (cell_in m0)).trans m0; have n1 := (B3.cell (p := ⟨w.heap.size, 1, none⟩) (cell_in m1)).trans m1; have V3 := conv_src hS3 c3))
    have hz3 : w.heap.size < w3.heap.size := cell_in n0
    have rX3 := rX.below B3
    have hs3 := hsX.below B3
    have gw3 := below2' g2 B3
    have hgl : g < w3.heap.size := rX3.lt
    have hgw : w.heap.size ≤ g := Nat.le_trans g1.size hg
    have hgz : w.heap.size < g := by omega
    clear V3 hS3 cP hTX hTB B3 bD hsX rX m0 m1 hsz b3
    go_wp2_with (first
      | (go_at_call 23; refine (read_any w3 (.slice a len cap) a len cap rfl).mono ?_; rintro e w4 ⟨rfl, rd4, b4⟩))
    obtain ⟨w5, hw5⟩ : ∃ w5, w5 = w4.alloc (.cells #[.slice a len cap, .int .i64 0] 45) := ⟨_, rfl⟩
    have b5 : RowKit.Below w4.heap.size w4 w5 := by rw [hw5]; exact (Below.refl _ w4).alloc (Nat.le_refl _) _
    have rb5 := rd4.below b5
    have cb5 : Rd w5 w4.heap.size (.slice a len cap) 0 := by rw [hw5]; exact ⟨by go_simp, by go_simp, by go_simp, by go_simp⟩
    have h54 : w4.heap.size < w5.heap.size := by rw [hw5]; simp
    rw [← hw5]
    clear hw5
    have h43 : w3.heap.size < w4.heap.size := rd4.lt
    have b35 := below2' b4 b5
    have hs5 := hs3.below b35
    have rX5 := rX3.below b35
    have n05 := (b35.cell (p := ⟨w.heap.size, 0, none⟩) hz3).trans n0
    have n15 := (b35.cell (p := ⟨w.heap.size, 1, none⟩) hz3).trans n1
    have gw5 := below2' gw3 b35
    have R1 : Rdr w5 w3.heap.size z L 0 := ⟨a, len, cap, rb5, hs5, hlc, hcap, ⟨hzz, by omega⟩, hB, fun h => absurd rfl h⟩
    have R2 : Rdr w5 w4.heap.size z L 0 := ⟨a, len, cap, cb5, hs5, hlc, hcap, ⟨hzz, by omega⟩, hB, fun h => absurd rfl h⟩
    obtain ⟨rb, hrb⟩ : ∃ rb, rb = w3.heap.size := ⟨_, rfl⟩
    obtain ⟨cb, hcb⟩ : ∃ cb, cb = w4.heap.size := ⟨_, rfl⟩
    rw [← hrb] at R1 h43 hz3 hgl ⊢
    rw [← hcb] at R2 h54 h43 ⊢
    clear rb5 cb5 rd4 hs5 hs3 rX3 b4 b5 b35 n0 n1 hrb hcb
    have hGG : w.heap.size ≤ rb ∧ w.heap.size ≤ cb ∧ rb ≠ cb ∧ z ≠ rb ∧ z ≠ cb ∧ z < w5.heap.size ∧ g ≠ rb ∧ g ≠ cb ∧ g < w5.heap.size ∧ w.heap.size ≠ rb ∧ w.heap.size ≠ cb := by
      have := rX5.lt
      refine ⟨?_, ?_, ?_, ?_, ?_, ?_, ?_, ?_, ?_, ?_, ?_⟩ <;> omega
    have HG := hid hGG
    clear hGG h43 h54 hz3 hgl hgw hgz hzw g1 g2 gw3 hkw b2 hg hg3
    generalize Value.string (strOfNums L ++ strOfNums (encd (d1, d2))) = S1
    generalize Value.string (strOfNums L) = S2
    generalize Value.string (strOfNums (encd (d1, d2))) = S3
    go_loopw [9] (fun i wr => ∃ (k : Nat) (M : List Int) (e : Int), k ≤ 5 ∧ i = .int .i64 k ∧ Rdr wr rb z M e ∧ Rdr wr cb z M e ∧ Keep rb cb w5 wr) (fun i _ => 5 - (intOf i).toNat)
    case atStart => exact ⟨0, L, 0, by omega, rfl, R1, R2, Keep.refl _ _ _⟩
    case round =>
      obtain ⟨k, M, e, hk, rfl, P1, P2, hK⟩ := hrel
      have hsz5 := hK.size
      obtain ⟨q1, q2, q3, q4, q5, q6, q7, q8, q9, q10, q11⟩ := HG.out
      by_cases hlt : k < 5
      · have c1 := take_any wr.drew rb z M e (P1.below (Below.refl _ _).drew) (show z < wr.heap.size by omega)
        have c2 := fun W (h : Rdr W cb z M e) (hz : z < W.heap.size) => rtake_any W cb z M e h hz
        generalize tk M e = t at c1 c2
        obtain ⟨⟨x, y⟩, M', e'⟩ := t
        simp only at c1 c2
        have P2d : Rdr wr.drew cb z M e := P2.below (Below.refl _ _).drew
        have Kd := hK.drew
        have hzwr : z < wr.heap.size := by omega
        have Hzwr := hid hzwr
        clear R1 R2 rX5 n05 n15 gw5 hB hlc hcap hd HG HLN hHX hz1 hz2 hp1 hp2 hzz P1 P2 q1 q2 q6 q7 q8 q9 q10 q11 hK hzwr
        go_upto_region 14 with fail
        go_cut [61] from 34 to 61 (fun s wc => s = .bool false ∧ Rdr wc rb z M' e' ∧ Rdr wc cb z M' e' ∧ Keep rb cb w5 wc)
        case first =>
          go_region_with (first
            | (go_at_call 27; refine (err_any w7 rb _ e' rd7).mono ?_; rintro r w' ⟨rfl, rfl⟩)
            | (go_at_call 26; refine (left_any w7 rb a7 M'.length c7 e' rd7).mono ?_; rintro r w' ⟨rfl, rfl⟩)
            | (go_at_call 25; refine (c2 w6 Q6 (Nat.lt_of_lt_of_le Hzwr.out (show wr.drew.heap.size ≤ w6.heap.size from g6.size))).mono ?_; rintro r w7 ⟨rfl, Q7, g7⟩; have P7 := P6.grown g7 q3 q5; obtain ⟨a7, l7, c7, rd7, s7, hrest7⟩ := id P7; obtain ⟨s71, s72⟩ := s7; subst s71; obtain ⟨a8, l8, c8, rd8, s8, hrest8⟩ := id Q7; obtain ⟨s81, s82⟩ := s8; subst s81; have e80 := rd8.c0; have e81 := rd8.c1; have K7 := hid (K6.out.right g7); clear s72 s82 hrest7 hrest8)
            | (go_at_call 24; refine c1.mono ?_; rintro r w6 ⟨rfl, P6, g6⟩; have Q6 := P2d.grown g6 (Ne.symm q3) q4; have K6 := hid (Kd.left g6)))
          all_goals go_wp2_with fail
          all_goals go_meet
          all_goals exact ⟨by simp, P7, Q7, K7.out⟩
        case rest =>
          obtain ⟨rfl, P9, Q9, K9⟩ := hcut
          go_wp2_with fail
          go_roundw
          case rel => first | exact ⟨k + 1, M', e', by omega, by go_num, P9, Q9, K9⟩ | ((repeat apply Exists.intro); exact ⟨⟨k + 1, M', e', by omega, by go_num, P9, Q9, K9⟩, rfl⟩)
          case measure => simp [intOf]; omega
      · obtain rfl : k = 5 := by omega
        have kw := hK.below (B := w.heap.size) q1 q2 gw5.size
        have gw := gw5.trans kw
        have rXr : Row wr g (L ++ encd (d1, d2)) := by unfold Row; rw [hK.block g q9 q7 q8]; exact rX5
        have hwq : w.heap.size < w5.heap.size := cell_in n05
        have v0 : wr.cell? ⟨w.heap.size, 0, none⟩ = some (.int .i64 d1) := (World.cell?_of_block (w := w5) (hK.block w.heap.size hwq q10 q11)).trans n05
        have v1 : wr.cell? ⟨w.heap.size, 1, none⟩ = some (.int .i64 d2) := (World.cell?_of_block (w := w5) (hK.block w.heap.size hwq q10 q11)).trans n15
        have hsrc : Src wr (some ⟨g, 0 + len, none⟩) (len + sz (zig d1) + sz (zig d2) - len) (encd (d1, d2)) := by
          have := src_drop (rXr.src _ hHX.out) len
          rwa [List.drop_left' HLN.out] at this
        rw [Nat.zero_add] at hsrc
        have hgr := rXr.lt
        have hNb : len + sz (zig d1) + sz (zig d2) - len ≤ 9223372036854775807 := by omega
        clear P1 P2 hK kw R1 R2 rX5 n05 n15 gw5 rXr hB HG q1 q2 q3 q4 q5 q6 q7 q8 q9 q10 q11 hHX HLN
        go_wp2_with (first
          | (go_at_call 23; refine (read_any wr _ (some ⟨g, len, none⟩) (len + sz (zig d1) + sz (zig d2) - len) (len + sz (zig d1) + sz (zig d2) - len) rfl).mono ?_; rintro e w8 ⟨rfl, rd8, b8⟩))
        have hs8 := hsrc.below b8
        have x0 := (b8.cell (p := ⟨w.heap.size, 0, none⟩) (cell_in v0)).trans v0
        have x1 := (b8.cell (p := ⟨w.heap.size, 1, none⟩) (cell_in v1)).trans v1
        have hwl : w.heap.size < wr.heap.size := cell_in v0
        have gw8 := below2' gw b8
        have hl8 := rd8.lt
        have R8 : Rdr w8 wr.heap.size g (encd (d1, d2)) 0 := ⟨_, _, _, rd8, hs8, Nat.le_refl _, hNb, ⟨fun ad _ h => by cases h; rfl, by omega⟩, bts_encd _, fun h => absurd rfl h⟩
        have c8 := take_any w8.drew wr.heap.size g (encd (d1, d2)) 0 (R8.below (Below.refl _ _).drew) (show g < w8.heap.size by omega)
        rw [tk_encd hd] at c8
        simp only at c8
        have hsb : w.heap.size ≤ wr.heap.size := Nat.le_of_lt hwl
        obtain ⟨sbk, hsbk⟩ : ∃ sbk, sbk = wr.heap.size := ⟨_, rfl⟩
        rw [← hsbk] at c8 hwl hsb ⊢
        clear hs8 hsrc rd8 R8 v0 v1 b8 gw hgr hl8 hsbk
        go_region_held (fun W => W.cell? ⟨w.heap.size, 0, none⟩ = some (.int .i64 d1) ∧ W.cell? ⟨w.heap.size, 1, none⟩ = some (.int .i64 d2))
          (first | exact ⟨by assumption, by assumption⟩)
          (first
            | (go_at_call 28; refine (end_nil w9 sbk g 0 R9).mono ?_; rintro r w' ⟨rfl, rfl⟩)
            | (go_at_call 24; refine c8.mono ?_; rintro r w9 ⟨rfl, R9, g9⟩; have y0 := (World.cell?_of_block (w := w8) (a := ⟨w.heap.size, 0, none⟩) (g9.block w.heap.size (cell_in x0) (by simp; omega))).trans x0; have y1 := (World.cell?_of_block (w := w8) (a := ⟨w.heap.size, 1, none⟩) (g9.block w.heap.size (cell_in x0) (by simp; omega))).trans x1))
        all_goals
          go_wp2_with fail
          go_ret
          exact ⟨rfl, gw8.drew.grown g9 gw8.size (fun j hj => by cases hj; exact hsb)⟩

namespace dotsBytes
open Go.ChangeShapes Go.WideShapes Go.ChangeAt Go.RowKit
open Go.ChangeMaps (open_string shut_string)
set_option linter.unusedVariables false

theorem own : ownKnob Try.prog.godebug = none := by kernel_rfl
theorem laidOut : laidOutB Try.prog = true := by kernel_rfl

set_option maxRecDepth 100000 in
theorem lifted (os : Os) (started : os.Started) (H : Type) (enc : TypeId × Value → H) :
    ReturnsInHanded {} Try.checked os 6 .any (Rows.dotsBytesSpec.pre6 enc Try.prog Try.f6 Rows.dotsBytesRow.domain false) (Rows.dotsBytesSpec.post enc Try.prog Try.f6 false true false false) := by
  refine returnsInHanded_of_change (C := Try.checked) own started (by kernel_rfl) Try.func6
    (ChangeSpec.witness6 (enc := enc) (C := Try.checked) false ⟨#[], #[.slice none 0 0, .agg #[.int .i64 0, .int .i64 0]], []⟩ 8 (by kernel_rfl) (by kernel_rfl) (by kernel_rfl) (by kernel_rfl)) ?_
  intro W base args ds gs before hval0 hW hcnd _
  have hval : ∀ (j : Nat) t v, Try.f6.params[j]? = some t → args[j]? = some v → Value.okWide Try.prog W .any base t v := hval0
  have hW' := hW
  obtain ⟨p, q, hA0, hV, rfl, hfz, hnd⟩ := hW
  have hA : DataW.TrodAll enc Try.prog W 0 (fun _ => true) true Try.f6.params.toList args.toList ds p := hA0
  rw [Try.params6] at hA hval
  obtain ⟨v0, vs0, d0, ds0, p0, q0, hargs, rfl, rfl, h0, r0⟩ := trodAll_cons hA
  obtain ⟨v1, vs1, d1, ds1, p1, q1, rfl, rfl, rfl, h1, r1⟩ := trodAll_cons r0
  obtain ⟨rfl, rfl, rfl⟩ := trodAll_nil r1
  obtain rfl : args = #[v0, v1] := by cases args; simp_all
  obtain ⟨rfl, rfl⟩ := trodVars_none hV
  obtain ⟨a0, len0, cap0, rfl⟩ := okWide_slice Try.underlying37 (hval 0 37 v0 rfl rfl)
  obtain ⟨x1, y1, rfl, u1⟩ : ∃ x y : Int, v1 = dv (x, y) ∧ Dw (x, y) := by
    obtain ⟨e0, e1, z0, z1, m, rfl, rfl, rfl, hz0, hz1⟩ := Go.Joins.open_agg2 Try.underlying23 (by kernel_rfl) dotCells (hval 1 23 v1 rfl rfl) h1
    obtain ⟨n0, f0, _, g0⟩ := DataW.trod_int Try.underlying3 hz0
    obtain ⟨n1, f1, _, g1⟩ := DataW.trod_int Try.underlying3 hz1
    simp at f0 f1
    subst f0 f1
    exact ⟨n0, n1, rfl, g0, g1⟩
  have k0 := h0
  have k1 := h1
  have lt0 : ∀ x ∈ p0, x.block < W.heap.size := by obtain ⟨m, hm⟩ := k0; exact DataW.trod_lt m _ _ _ hm
  have lt1 : ∀ x ∈ p1, x.block < W.heap.size := by obtain ⟨m, hm⟩ := k1; exact DataW.trod_lt m _ _ _ hm
  obtain ⟨z0, w0, u0, s0, t0, _⟩ := open_bytes h0
  clear hA0 hval0
  refine (bytes_walk a0 len0 cap0 z0 (x1, y1) W w0 u0 s0 t0 u1).mono fun e W' ⟨he, bel⟩ => ?_
  subst he
  exact ⟨_, rfl, _, _, _, [], _, [], hW', trodAll_mk1 (shut_bool Try.underlying4 _),
    (trodAll_cons_mk (Below.trod laidOut (by kernel_rfl) (of_decide_eq_true (by kernel_rfl)) k0 bel lt0) (trodAll_cons_mk (Below.trod laidOut (by kernel_rfl) (of_decide_eq_true (by kernel_rfl)) k1 bel lt1) trodAll_mk0)), rfl, bel.frame _, fun h => by cases h⟩

theorem over : Rows.dotsBytesRow.holds Try.pinned (OpenSpec.ofChange Rows.dotsBytesSpec) :=
  OpenClaim.holds_of_wide 6 Try.f6 rfl rfl rfl rfl rfl rfl rfl ⟨rfl, rfl, rfl, rfl, rfl⟩ rfl rfl rfl rfl rfl (by kernel_rfl) Try.func6 (by kernel_rfl)
    (of_decide_eq_true (by kernel_rfl)) (by unfold Func.isWrapper; first | (rw [if_pos (by decide +kernel)]; kernel_rfl) | (rw [if_neg (by decide +kernel)]; exact ⟨rfl, rfl⟩))
    (fun os started H enc _ => lifted os started H enc)

end dotsBytes

/-- The statement. -/
theorem dotsBytes_holds : Rows.DotsBytesSaid := dotsBytes.over
#print axioms dotsBytes_holds
end Go.Proofs.Ytmkjfgedhcidcaa
