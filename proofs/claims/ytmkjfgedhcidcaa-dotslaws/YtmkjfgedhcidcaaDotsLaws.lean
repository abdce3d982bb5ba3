/- For any three rows of dots DotsLaws answers true: joining and meeting can be turned, their parts make the whole, and nothing that was handed in changes. No condition. -/
import Derived.Test.YtmkjfgedhcidcaaDCalls
import Derived.WalkKit
import Derived.WalkSpells
import Derived.WalkLawsBesides
import Derived.ProofKit
import Derived.OpenShut
import Derived.ShutString
import Derived.ChangeOld
import Derived.Below
namespace Go.Proofs.Ytmkjfgedhcidcaa
open Go.RowKit
open Go.Sort (grow)

/-- Block g is a row of cells for c dots, which may be written. -/
def Blk (w : World) (g c : Nat) : Prop := ∃ cur, w.heap[g]? = some (.cells cur 23 (0, 0)) ∧ cur.size = c * 2

theorem Own.blk {w : World} {b g n c : Nat} {L : List Dt} (h : Own w b g n c L) : Blk w g c ∧ b ≤ g ∧ g < w.heap.size := by
  rcases h.2 with ⟨h0, _⟩ | ⟨g', cap', cur, hv, hg, hb, hn, hcap, hsz, ht⟩
  · cases h0
  · cases hv
    exact ⟨⟨cur, hb, hsz⟩, hg, (Array.getElem?_eq_some_iff.1 hb).1⟩

theorem Blk.below {w w' : World} {g c B : Nat} (h : Blk w g c) (hb : RowKit.Below B w w') (hg : g < B) : Blk w' g c := by
  obtain ⟨cur, h1, h2⟩ := h
  exact ⟨cur, by rw [hb.block g hg]; exact h1, h2⟩

theorem Blk.cell {w : World} {g c : Nat} (h : Blk w g c) {i : Nat} (hi : i < c * 2) : ∃ v, w.cell? ⟨g, i, none⟩ = some v := by
  obtain ⟨cur, h1, h2⟩ := h
  exact ⟨cur[i]'(by omega), by simp [World.cell?, h1, h2, hi]⟩

theorem Blk.frozen {w : World} {g c : Nat} (h : Blk w g c) (i : Nat) : w.frozen? ⟨g, i, none⟩ = false := by
  obtain ⟨cur, h1, h2⟩ := h
  simp [World.frozen?, h1]

theorem Blk.set {w : World} {g c : Nat} (h : Blk w g c) (i : Nat) (v : Value) : Blk (w.setCell ⟨g, i, none⟩ v) g c := by
  obtain ⟨cur, h1, h2⟩ := h
  exact ⟨_, heap_setCell_same w g i _ 23 v h1, by simpa using h2⟩

set_option maxRecDepth 100000 in
set_option maxHeartbeats 8000000 in
theorem laws_walk (a : Option Addr) (n c : Nat) (L : List Dt) (a' : Option Addr) (n' c' : Nat) (M : List Dt) (a'' : Option Addr) (n'' c'' : Nat) (K : List Dt) (w : World) (hs0 : PS w a n c L) (hd0 : Dws L) (hs1 : PS w a' n' c' M) (hd1 : Dws M) (hs2 : PS w a'' n'' c'' K) (hd2 : Dws K) :
    Calls Try.prog 5 #[.slice a n c, .slice a' n' c', .slice a'' n'' c''] w fun e w' => e = .returned (.bool true) ∧ RowKit.Below w.heap.size w w' := by
  by_cases hbig : 100 < n ∨ 100 < n' ∨ 100 < n''
  · have hcs : 100 < n ∨ (¬ 100 < n ∧ 100 < n') ∨ (¬ 100 < n ∧ ¬ 100 < n' ∧ 100 < n'') := by omega
    clear hbig hs0 hs1 hs2
    rcases hcs with h1 | ⟨h1, h2⟩ | ⟨h1, h2, h3⟩
    all_goals
      go_enter Try.func5, Try.ntmps5
      go_wp2_with (first | (go_at_call 8; refine (awake_any w).mono ?_; rintro e w1 ⟨rfl, b1⟩))
      go_ret
      exact ⟨rfl, b1⟩
  · have hn0 : n ≤ 100 := by omega
    have hn1 : n' ≤ 100 := by omega
    have hn2 : n'' ≤ 100 := by omega
    have HL := hid hs0.len
    have l1 : (rise L).length ≤ 100 := Nat.le_trans (rise_length L) (by rw [hs0.len]; exact hn0)
    have l2 : (uni L M).length ≤ 200 := Nat.le_trans (uni_length L M) (by rw [hs0.len, hs1.len]; omega)
    have l3 : (uni M L).length ≤ 200 := Nat.le_trans (uni_length M L) (by rw [hs0.len, hs1.len]; omega)
    have l4 : (mee L M).length ≤ 100 := Nat.le_trans (mee_length L M) (by rw [hs0.len]; omega)
    have l5 : (mee M L).length ≤ 100 := Nat.le_trans (mee_length M L) (by rw [hs1.len]; omega)
    have l6 : (mis L M).length ≤ 100 := Nat.le_trans (mis_length L M) (by rw [hs0.len]; omega)
    have l7 : (uni (mee L M) (mis L M)).length ≤ 200 := Nat.le_trans (uni_length _ _) (by omega)
    have l8 : (uni (uni L M) K).length ≤ 300 := Nat.le_trans (uni_length _ _) (by rw [hs2.len]; omega)
    have l9 : (uni M K).length ≤ 200 := Nat.le_trans (uni_length _ _) (by rw [hs1.len, hs2.len]; omega)
    have l10 : (uni L (uni M K)).length ≤ 300 := Nat.le_trans (uni_length _ _) (by rw [hs0.len]; omega)
    have l11 : (rise (uni L M)).length ≤ 200 := Nat.le_trans (rise_length _) (by omega)
    clear hbig
    go_enter Try.func5, Try.ntmps5
    go_wp2_with (first
      | (go_at_call 13; have hq18 := b17; refine (c_same p17 (by omega) (p3.below (below2 (below2 (below2 (below2 (below2 (below2 (below2 (below2 (below2 (below2 (below2 (below2 (below2 b4 b5) b6) b7) b8) b9) b10) b11) b12) b13) b14) b15) b16) b17)) (by omega) (rise_uni L M)).mono ?_; rintro e w18 ⟨rfl, b18⟩)
      | (go_at_call 14; have hq17 := b16; refine (c_rising (p3.below (below2 (below2 (below2 (below2 (below2 (below2 (below2 (below2 (below2 (below2 (below2 (below2 b4 b5) b6) b7) b8) b9) b10) b11) b12) b13) b14) b15) b16)) (hd0.uni hd1) (by omega)).mono ?_; rintro e w17 ⟨a17, c17, rfl, p17, b17⟩)
      | (go_at_call 13; have hq16 := b15; refine (c_same (p13.below (below2 b14 b15)) (by omega) p15 (by omega) (uni_three L M K)).mono ?_; rintro e w16 ⟨rfl, b16⟩)
      | (go_at_call 16; have hq15 := b14; refine (c_union (h02.below (below2 (below2 (below2 (below2 (below2 (below2 (below2 (below2 (below2 (below2 (below2 b3 b4) b5) b6) b7) b8) b9) b10) b11) b12) b13) b14)) hd0 (by omega) p14 (hd1.uni hd2) (by omega)).mono ?_; rintro e w15 ⟨a15, c15, rfl, p15, b15⟩)
      | (go_at_call 16; have hq14 := b13; refine (c_union (h12.below (below2 (below2 (below2 (below2 (below2 (below2 (below2 (below2 (below2 (below2 b3 b4) b5) b6) b7) b8) b9) b10) b11) b12) b13)) hd1 (by omega) (h22.below (below2 (below2 (below2 (below2 (below2 (below2 (below2 (below2 (below2 (below2 b3 b4) b5) b6) b7) b8) b9) b10) b11) b12) b13)) hd2 (by omega)).mono ?_; rintro e w14 ⟨a14, c14, rfl, p14, b14⟩)
      | (go_at_call 16; have hq13 := b12; refine (c_union (p3.below (below2 (below2 (below2 (below2 (below2 (below2 (below2 (below2 b4 b5) b6) b7) b8) b9) b10) b11) b12)) (hd0.uni hd1) (by omega) (h22.below (below2 (below2 (below2 (below2 (below2 (below2 (below2 (below2 (below2 b3 b4) b5) b6) b7) b8) b9) b10) b11) b12)) hd2 (by omega)).mono ?_; rintro e w13 ⟨a13, c13, rfl, p13, b13⟩)
      | (go_at_call 13; have hq12 := b11; refine (c_same (p10.below b11) (by omega) p11 (by omega) (uni_parts L M)).mono ?_; rintro e w12 ⟨rfl, b12⟩)
      | (go_at_call 14; have hq11 := b10; refine (c_rising (h02.below (below2 (below2 (below2 (below2 (below2 (below2 (below2 b3 b4) b5) b6) b7) b8) b9) b10)) hd0 (by omega)).mono ?_; rintro e w11 ⟨a11, c11, rfl, p11, b11⟩)
      | (go_at_call 16; have hq10 := b9; refine (c_union (p4.below (below2 (below2 (below2 (below2 b5 b6) b7) b8) b9)) (hd0.mee M) (by omega) p9 (hd0.mis M) (by omega)).mono ?_; rintro e w10 ⟨a10, c10, rfl, p10, b10⟩)
      | (go_at_call 19; have hq9 := b8; refine (c_minus (h02.below (below2 (below2 (below2 (below2 (below2 b3 b4) b5) b6) b7) b8)) hd0 (by omega) (h12.below (below2 (below2 (below2 (below2 (below2 b3 b4) b5) b6) b7) b8)) hd1 (by omega)).mono ?_; rintro e w9 ⟨a9, c9, rfl, p9, b9⟩)
      | (go_at_call 13; have hq8 := b7; refine (c_same (p4.below (below2 (below2 b5 b6) b7)) (by omega) p7 (by omega) (mee_turned L M)).mono ?_; rintro e w8 ⟨rfl, b8⟩)
      | (go_at_call 17; have hq7 := b6; refine (c_meet (h12.below (below2 (below2 (below2 b3 b4) b5) b6)) hd1 (by omega) (h02.below (below2 (below2 (below2 b3 b4) b5) b6)) hd0 (by omega)).mono ?_; rintro e w7 ⟨a7, c7, rfl, p7, b7⟩)
      | (go_at_call 13; have hq6 := b5; refine (c_same (p3.below (below2 b4 b5)) (by omega) p5 (by omega) (uni_turned L M)).mono ?_; rintro e w6 ⟨rfl, b6⟩)
      | (go_at_call 16; have hq5 := b4; refine (c_union (h12.below (below2 b3 b4)) hd1 (by omega) (h02.below (below2 b3 b4)) hd0 (by omega)).mono ?_; rintro e w5 ⟨a5, c5, rfl, p5, b5⟩)
      | (go_at_call 17; have hq4 := b3; refine (c_meet (h02.below b3) hd0 (by omega) (h12.below b3) hd1 (by omega)).mono ?_; rintro e w4 ⟨a4, c4, rfl, p4, b4⟩)
      | (go_at_call 16; have hq3 := b2; refine (union_any _ _ _ L _ _ _ M w2 h02 hd0 (by omega) h12 hd1 (by omega)).mono ?_; rintro e w3 ⟨g3, c3, rfl, o3, b3⟩; have p3 := o3.ps rfl)
      | (at_builtin; refine wpList_append_dots rfl _ _ rfl w1.heap.size (.slice none 0 0) 0 [] rfl (World.ownsRow_nil _ _ _ _) a n c L rfl (hs0.below b1) (by omega) (Nat.le_refl _) ?_; intro v2 w2 ho2 hg2; have b2 : RowKit.Below w1.heap.size w1 w2 := (Below.refl _ _).grown hg2 (Nat.le_refl _) (fun j hj => by simp [Value.ownBlock] at hj); have h02 := hs0.below (below2 b1 b2); have h12 := hs1.below (below2 b1 b2); have h22 := hs2.below (below2 b1 b2); obtain ⟨aw, cw, rfl, pw2⟩ := owned_ps (n := n) (L := L) (by simpa using ho2) hs0.len)
      | (go_at_call 8; refine (awake_any w).mono ?_; rintro e w1 ⟨rfl, b1⟩))
    have hB : RowKit.Below w3.heap.size w3 w18 := (below2 (below2 (below2 (below2 (below2 (below2 (below2 (below2 (below2 (below2 (below2 (below2 (below2 (below2 b4 b5) b6) b7) b8) b9) b10) b11) b12) b13) b14) b15) b16) b17) b18)
    obtain ⟨k3, hg3, hl3⟩ := o3.blk
    have K18 := k3.below hB hl3
    have hc3 := p3.cap
    have b218 : RowKit.Below w2.heap.size w2 w18 := below2 b3 hB
    have b02 := below2 b1 b2
    have hs02 := hs0.below b02
    clear k3 hB o3 p3 p4 p5 p7 p9 p10 p11 p13 p14 p15 p17
    go_loopw [14] (fun i wr => ∃ k : Nat, k ≤ (uni L M).length ∧ i = .int .i64 k ∧ Blk wr g3 c3 ∧ RowKit.Below w2.heap.size w2 wr) (fun i _ => (uni L M).length - (intOf i).toNat)
    case atStart => exact ⟨0, by omega, rfl, K18, b218⟩
    case round =>
      obtain ⟨k, hk, rfl, hK, hbl⟩ := hrel
      by_cases hlt : k < (uni L M).length
      · obtain ⟨v, hcell⟩ := hK.cell (i := k * 2 + 1) (by omega)
        have hf := hK.frozen (k * 2 + 1)
        go_wp2
        go_roundw
        case rel => exact ⟨k + 1, by omega, by go_num, hK.set _ _, hbl.setCell (p := ⟨g3, k * 2 + 1, none⟩) hg3 _⟩
        case measure => simp [intOf]; omega
      · obtain rfl : k = (uni L M).length := by omega
        have hri := rising_any sortSays a n c L wr (hs02.below hbl) hd0 (by omega)
        go_wp2_with (first | (go_at_call 14; refine hri.mono ?_; rintro e x1 ⟨gr, cr, rfl, oR, bR⟩))
        obtain ⟨kR, hgR, hlR⟩ := oR.blk
        have hcR := (oR.ps rfl).cap
        have bX : RowKit.Below w2.heap.size w2 x1 := below2 hbl bR
        have hgR2 : w2.heap.size ≤ gr := Nat.le_trans hbl.size hgR
        clear hri oR hK
        go_loopw [16] (fun i wq => ∃ k : Nat, k ≤ (rise L).length ∧ i = .int .i64 k ∧ Blk wq gr cr ∧ RowKit.Below w2.heap.size w2 wq) (fun i _ => (rise L).length - (intOf i).toNat)
        case atStart => exact ⟨0, by omega, rfl, kR, bX⟩
        case round =>
          obtain ⟨k, hk, rfl, hK, hbl2⟩ := hrel
          by_cases hlt2 : k < (rise L).length
          · obtain ⟨v, hcell⟩ := hK.cell (i := k * 2 + 1) (by omega)
            have hf := hK.frozen (k * 2 + 1)
            go_wp2
            go_roundw
            case rel => exact ⟨k + 1, by omega, by go_num, hK.set _ _, hbl2.setCell (p := ⟨gr, k * 2 + 1, none⟩) hgR2 _⟩
            case measure => simp [intOf]; omega
          · obtain rfl : k = (rise L).length := by omega
            have hsa := c_same (hs02.below hbl2) (by omega) (pw2.below hbl2) (by omega) rfl
            go_wp2_with (first | (go_at_call 13; refine hsa.mono ?_; rintro e x2 ⟨rfl, bZ⟩))
            go_ret
            exact ⟨rfl, below2 b02 (below2 hbl2 bZ)⟩

namespace dotsLaws
open Go.ChangeShapes Go.WideShapes Go.ChangeAt Go.RowKit
open Go.ChangeMaps (open_string shut_string)
set_option linter.unusedVariables false

theorem own : ownKnob Try.prog.godebug = none := by kernel_rfl
theorem laidOut : laidOutB Try.prog = true := by kernel_rfl

set_option maxRecDepth 100000 in
theorem lifted (os : Os) (started : os.Started) (H : Type) (enc : TypeId × Value → H) :
    ReturnsInHanded {} Try.checked os 5 .any (Rows.dotsLawsSpec.pre6 enc Try.prog Try.f5 Rows.dotsLawsRow.domain false) (Rows.dotsLawsSpec.post enc Try.prog Try.f5 false true false false) := by
  refine returnsInHanded_of_change (C := Try.checked) own started (by kernel_rfl) Try.func5
    (ChangeSpec.witness6 (enc := enc) (C := Try.checked) false ⟨#[], #[.slice none 0 0, .slice none 0 0, .slice none 0 0], []⟩ 8 (by kernel_rfl) (by kernel_rfl) (by kernel_rfl) (by kernel_rfl)) ?_
  intro W base args ds gs before hval0 hW hcnd _
  have hval : ∀ (j : Nat) t v, Try.f5.params[j]? = some t → args[j]? = some v → Value.okWide Try.prog W .any base t v := hval0
  have hW' := hW
  obtain ⟨p, q, hA0, hV, rfl, hfz, hnd⟩ := hW
  have hA : DataW.TrodAll enc Try.prog W 0 (fun _ => true) true Try.f5.params.toList args.toList ds p := hA0
  rw [Try.params5] at hA hval
  obtain ⟨v0, vs0, d0, ds0, p0, q0, hargs, rfl, rfl, h0, r0⟩ := trodAll_cons hA
  obtain ⟨v1, vs1, d1, ds1, p1, q1, rfl, rfl, rfl, h1, r1⟩ := trodAll_cons r0
  obtain ⟨v2, vs2, d2, ds2, p2, q2, rfl, rfl, rfl, h2, r2⟩ := trodAll_cons r1
  obtain ⟨rfl, rfl, rfl⟩ := trodAll_nil r2
  obtain rfl : args = #[v0, v1, v2] := by cases args; simp_all
  obtain ⟨rfl, rfl⟩ := trodVars_none hV
  obtain ⟨a0, len0, cap0, rfl⟩ := okWide_slice Try.underlying28 (hval 0 28 v0 rfl rfl)
  obtain ⟨a1, len1, cap1, rfl⟩ := okWide_slice Try.underlying28 (hval 1 28 v1 rfl rfl)
  obtain ⟨a2, len2, cap2, rfl⟩ := okWide_slice Try.underlying28 (hval 2 28 v2 rfl rfl)
  have k0 := h0
  have k1 := h1
  have k2 := h2
  have lt0 : ∀ x ∈ p0, x.block < W.heap.size := by obtain ⟨m, hm⟩ := k0; exact DataW.trod_lt m _ _ _ hm
  have lt1 : ∀ x ∈ p1, x.block < W.heap.size := by obtain ⟨m, hm⟩ := k1; exact DataW.trod_lt m _ _ _ hm
  have lt2 : ∀ x ∈ p2, x.block < W.heap.size := by obtain ⟨m, hm⟩ := k2; exact DataW.trod_lt m _ _ _ hm
  obtain ⟨z0, w0, u0⟩ := open_dots h0
  obtain ⟨z1, w1, u1⟩ := open_dots h1
  obtain ⟨z2, w2, u2⟩ := open_dots h2
  clear hA0 hval0
  refine (laws_walk a0 len0 cap0 z0 a1 len1 cap1 z1 a2 len2 cap2 z2 W w0 u0 w1 u1 w2 u2).mono fun e W' ⟨he, bel⟩ => ?_
  subst he
  exact ⟨_, rfl, _, _, _, [], _, [], hW', trodAll_mk1 (shut_bool Try.underlying4 _),
    (trodAll_cons_mk (Below.trod laidOut (by kernel_rfl) (of_decide_eq_true (by kernel_rfl)) k0 bel lt0) (trodAll_cons_mk (Below.trod laidOut (by kernel_rfl) (of_decide_eq_true (by kernel_rfl)) k1 bel lt1) (trodAll_cons_mk (Below.trod laidOut (by kernel_rfl) (of_decide_eq_true (by kernel_rfl)) k2 bel lt2) trodAll_mk0))), rfl, bel.frame _, fun h => by cases h⟩

theorem over : Rows.dotsLawsRow.holds Try.pinned (OpenSpec.ofChange Rows.dotsLawsSpec) :=
  OpenClaim.holds_of_wide 5 Try.f5 rfl rfl rfl rfl rfl rfl rfl ⟨rfl, rfl, rfl, rfl, rfl⟩ rfl rfl rfl rfl rfl (by kernel_rfl) Try.func5 (by kernel_rfl)
    (of_decide_eq_true (by kernel_rfl)) (by unfold Func.isWrapper; first | (rw [if_pos (by decide +kernel)]; kernel_rfl) | (rw [if_neg (by decide +kernel)]; exact ⟨rfl, rfl⟩))
    (fun os started H enc _ => lifted os started H enc)

end dotsLaws

/-- The statement. -/
theorem dotsLaws_holds : Rows.DotsLawsSaid := dotsLaws.over
#print axioms dotsLaws_holds
end Go.Proofs.Ytmkjfgedhcidcaa
