/- For any bytes and any dots VectorBytes answers true: a vector's bytes, behind any bytes, are the reference's, and any bytes are taken as the reference takes them. No condition. -/
import Derived.Test.YtliahpjlmgplkaaVBytesM
import Derived.Deep.RegionHeld
import Derived.Deep.RegionWith
import Derived.Deep.CutRange
import Derived.Lib.SmallJoins
import Derived.WalkKit
import Derived.WalkSpells
import Derived.WalkLawsBesides
import Derived.ProofKit
import Derived.OpenShut
import Derived.ShutString
import Derived.ChangeOld
import Derived.Below
namespace Go.Proofs.Ytliahpjlmgplkaa
open Go.RowKit
open Go.Sort (grow)

theorem PS.kept {w w' : World} {a : Option Addr} {n c b : Nat} {A : List Dt} (h : PS w a n c A) (hg : w.grownBy w' (some b)) (hne : ∀ ad, a = some ad → ad.block ≠ b) : PS w' a n c A :=
  ⟨h.len, h.cap, h.max, h.nil, fun ad ha j u hj => by
    have hc := h.cells ad ha j u hj
    have hb : (ad.add j).block = ad.block := by unfold Addr.add; split <;> rfl
    refine cell_kept hc hg (fun e => hne ad ha ?_)
    rw [hb] at e
    simpa using e⟩

theorem ps_block {w : World} {a : Option Addr} {n c : Nat} {A : List Dt} (h : PS w a n c A) (hp : 0 < n) : ∀ ad, a = some ad → ad.block < w.heap.size := by
  intro ad ha
  obtain ⟨g, o, rfl, hg, _⟩ := h.at hp
  cases ha
  exact hg

theorem below_drew3 (w : World) : RowKit.Below w.heap.size w w.drew := ((Far.refl w).drew).below

set_option maxRecDepth 100000 in
set_option maxHeartbeats 16000000 in
theorem vbytes_walk (a : Option Addr) (len cap : Nat) (L : List Int) (a' : Option Addr) (n' c' : Nat) (K : List Dt) (w : World) (hs : Src w a len L) (hB : Bts L) (hlc : len ≤ cap) (hcap : cap ≤ 9223372036854775807) (hs1 : PS w a' n' c' K) :
    Calls Try.prog 7 #[.slice a len cap, .slice a' n' c'] w fun e w' => e = .returned (.bool true) ∧ RowKit.Below w.heap.size w w' := by
  by_cases hbig : 1000 < len
  · clear hs hs1
    go_enter Try.func7, Try.ntmps7
    go_wp2_with (first | (go_at_call 9; refine (awake_any w).mono ?_; rintro e w1 ⟨rfl, b1⟩))
    go_ret
    exact ⟨rfl, b1⟩
  · have hn : len ≤ 1000 := by omega
    have HLN := hid hs.1
    obtain ⟨z, hzw, hzz⟩ : ∃ z, z ≤ w.heap.size ∧ ∀ ad, 0 < len → a = some ad → ad.block = z := by
      by_cases hp : 0 < len
      · obtain ⟨g0, o0, ha, _⟩ := hs.flat hp
        have := src_block hs _ hp ha
        exact ⟨g0, Nat.le_of_lt this, fun ad _ h => by rw [ha] at h; cases h; rfl⟩
      · exact ⟨w.heap.size, Nat.le_refl _, fun ad h _ => absurd h hp⟩
    have mV := made_vm K
    have lv := made_length K
    have mk := fun W (hW : RowKit.Below w.heap.size w W) => made_any (hs1.below hW)
    clear hs1
    generalize made K = V at mV lv mk
    obtain ⟨el, ep⟩ := encv_len V
    have hsz : (strOfNums L).size + (strOfNums (encv V)).size ≤ 9223372036854775807 := by
      rw [strOfNums_size, strOfNums_size, hs.1]
      omega
    have hxl : (L ++ encv V).length = len + (encv V).length := by rw [List.length_append, hs.1]
    go_enter Try.func7, Try.ntmps7
    go_wp2_with (first
      | (go_at_call 32; have hq := b2; refine (vput_any a len cap L a2 V.length c2 V w2 (hs.below (below2 b1 b2)) (by omega) p2 (by omega) mV).mono ?_; rintro e w3 ⟨v3, rfl, o3, b3⟩; obtain ⟨g, cx, rfl, hg2, hg3, hx1, hx2, sx⟩ := owned_bytes o3 (by omega))
      | (go_at_call 10; have hq := b1; refine (mk _ b1).mono ?_; rintro e w2 ⟨a2, c2, rfl, p2, b2⟩)
      | (go_at_call 9; refine (awake_any w).mono ?_; rintro e w1 ⟨rfl, b1⟩))
    have g3 := below2 b1 (below2 b2 b3)
    have hs3 := hs.below g3
    have p3 := p2.below b3
    have zlt3 : z < w3.heap.size := by have := (below2 b1 b2).size; omega
    have sx : Src w3 (some ⟨g, 0, none⟩) (len + (encv V).length) (L ++ encv V) := by rw [← hxl]; exact sx
    have hx1 : len + (encv V).length ≤ cx := by rw [← hxl]; exact hx1
    have TX : ∀ W, RowKit.Below w3.heap.size w3 W → (convert 42 9 (.slice (some ⟨g, 0, none⟩) (len + (encv V).length) cx)).run Try.prog W = .ok (.string (strOfNums L ++ strOfNums (encv V))) W := fun W hW => by
      rw [← str_app]
      exact conv_src (sx.below hW) _
    have TB : ∀ W, RowKit.Below w3.heap.size w3 W → (convert 42 9 (.slice a len cap)).run Try.prog W = .ok (.string (strOfNums L)) W := fun W hW => conv_src (hs3.below hW) cap
    have hTX := hid TX
    have hTB := hid TB
    have HX := hid hxl
    have cP := rvput_any a2 V.length c2 V w3.drew (p3.below (below_drew3 w3)) (by omega) mV
    have bD := below_drew3 w3
    clear hxl TX TB hs p2 o3 mk b1 b2 b3 hq
    go_region_held (fun W => (convert 42 9 (.slice (some ⟨g, 0, none⟩) (len + (encv V).length) cx)).run Try.prog W = .ok (.string (strOfNums L ++ strOfNums (encv V))) W ∧ (convert 42 9 (.slice a len cap)).run Try.prog W = .ok (.string (strOfNums L)) W)
      (first | exact ⟨hTX.out _ (by assumption), hTB.out _ (by assumption)⟩)
      (first
        | (go_at_call 33; refine cP.mono ?_; rintro e w4 ⟨v4, rfl, o4, b4⟩; obtain ⟨g4, c4, rfl, hg4, hgl4, hx4, hy4, s4⟩ := owned_bytes o4 ep; have B4 := below2 bD b4; have V4 := conv_src s4 c4))
    have hs4 := hs3.below B4
    have sx4 := sx.below B4
    have p4 := p3.below B4
    have gw4 := below2 g3 B4
    have hgl : g < w4.heap.size := Nat.lt_of_lt_of_le hg3 B4.size
    have zlt : z < w4.heap.size := Nat.lt_of_lt_of_le zlt3 B4.size
    clear zlt3
    clear V4 s4 o4 cP hTX hTB B4 bD hs3 sx p3 hsz b4 hg4 hgl4 hx4 hy4 hg2 hg3 g3
    generalize Value.string (strOfNums L ++ strOfNums (encv V)) = S1
    generalize Value.string (strOfNums L) = S2
    generalize Value.string (strOfNums (encv V)) = S3
    have hx2' : cx ≤ 9223372036854775807 := by unfold maxLen at hx2; omega
    clear hx2
    go_wp2_with (first
      | (go_at_call 34; refine (read_any w4 (.slice a len cap) a len cap rfl).mono ?_; rintro e w5 ⟨rfl, rd5, b5⟩))
    obtain ⟨w6, hw6⟩ : ∃ w6, w6 = w5.alloc (.cells #[.slice a len cap, .int .i64 0] 50) := ⟨_, rfl⟩
    have b6 : RowKit.Below w5.heap.size w5 w6 := by rw [hw6]; exact (Below.refl _ w5).alloc (Nat.le_refl _) _
    have rb6 := rd5.below b6
    have cb6 : Rd w6 w5.heap.size (.slice a len cap) 0 := by rw [hw6]; exact ⟨by go_simp, by go_simp, by go_simp, by go_simp⟩
    rw [← hw6]
    clear hw6
    have h54 : w4.heap.size < w5.heap.size := rd5.lt
    have b46 := below2 b5 b6
    have hs6 := hs4.below b46
    have R1 : Rdr w6 w4.heap.size z L 0 := ⟨a, len, cap, rb6, hs6, hlc, hcap, ⟨hzz, by omega⟩, hB, fun h => absurd rfl h⟩
    have R2 : Rdr w6 w5.heap.size z L 0 := ⟨a, len, cap, cb6, hs6, hlc, hcap, ⟨hzz, by omega⟩, hB, fun h => absurd rfl h⟩
    obtain ⟨rb, hrb⟩ : ∃ rb, rb = w4.heap.size := ⟨_, rfl⟩
    obtain ⟨cb, hcb⟩ : ∃ cb, cb = w5.heap.size := ⟨_, rfl⟩
    have HG : Hid (w4.heap.size ≤ rb ∧ w4.heap.size ≤ cb ∧ rb ≠ cb ∧ z ≠ rb ∧ z ≠ cb) := hid (by refine ⟨?_, ?_, ?_, ?_, ?_⟩ <;> omega)
    have HB6 := hid b46
    rw [← hrb] at R1 ⊢
    rw [← hcb] at R2 ⊢
    clear rb6 cb6 rd5 hs6 b5 b6 b46 h54 hrb hcb hs4
    have HZ := hid zlt
    have HS := hid sx4
    have HP := hid p4
    have HW := hid gw4
    have HR := hid (And.intro R1 R2)
    have HLl : L.length ≤ 1000 := by rw [HLN.out]; exact hn
    clear sx4 p4 gw4 R1 R2
    go_loopw [10] (fun i wr => ∃ (k : Nat) (M : List Int) (e : Int), k ≤ 4 ∧ i = .int .i64 k ∧ M.length ≤ 1000 ∧ Hid (Rdr wr rb z M e) ∧ Hid (Rdr wr cb z M e) ∧ Hid (RowKit.Below w4.heap.size w4 wr)) (fun i _ => 4 - (intOf i).toNat)
    case atStart => exact ⟨0, L, 0, by omega, rfl, HLl, hid HR.out.1, hid HR.out.2, HB6⟩
    case round =>
      obtain ⟨k, M, e, hk, rfl, hMl, P1, P2, hbl⟩ := hrel
      obtain ⟨q1, q2, q3, q4, q5⟩ := HG.out
      have zwr : z < wr.heap.size := Nat.lt_of_lt_of_le HZ.out hbl.out.size
      by_cases hlt : k < 4
      · have hcl := cnt_le M e 2
        have c1 := vtake_any wr.drew rb z M e (P1.out.below (below_drew3 wr)) zwr (by omega)
        have c2 := fun W (h : Rdr W cb z M e) (hz : z < W.heap.size) => rvtake_any W cb z M e h hz (by omega)
        have hvl := vtk_le M e
        have hvn := vtk_len M e P1.out.bts.1
        generalize vtk M e = t at c1 c2 hvl hvn
        obtain ⟨D, M', e'⟩ := t
        simp only at hvl hvn
        have P2d : Rdr wr.drew cb z M e := P2.out.below (below_drew3 wr)
        have HPd := hid P2d
        have hcw := hid P2d.lt
        have Hzwr := hid zwr
        have Hq := hid (And.intro q3 (And.intro q4 q5))
        have Hb0 := hid (hbl.out.trans ((below_drew3 wr).mono hbl.out.size))
        clear HS HP HW HR HLN hB hlc hcap hzz P1 P2 zwr hcl P2d q3 q4 q5 el ep hbl hzw lv mV hx1 hx2' hgl zlt HLl HB6 HX hn hbig
        go_upto_region 15 with fail
        go_cut [65] from 37 to 65 (fun s wc => s = .bool false ∧ Hid (Rdr wc rb z M' e') ∧ Hid (Rdr wc cb z M' e') ∧ Hid (RowKit.Below w4.heap.size w4 wc))
        case first =>
          go_region_with (first
            | (go_at_call 38; refine (err_any x3 rb _ e' rd7).mono ?_; rintro r w' ⟨rfl, rfl⟩)
            | (go_at_call 37; refine (left_any x3 rb a7 M'.length c7 e' rd7).mono ?_; rintro r w' ⟨rfl, rfl⟩)
            | (go_at_call 19; refine (rsame_any (A2.kept g7.out (fun ad h => Nat.ne_of_gt (Nat.lt_of_lt_of_le hcw.out (ge1.out ad h)))) (by omega) pb (by omega)).mono ?_; rintro r x3 ⟨rfl, f3⟩; have P8 := hid (P7.out.below f3.below); have Q8 := hid (Q7.out.below f3.below); have B8 := hid (B7.out.trans (f3.below.mono B7.out.size)); obtain ⟨a7, l7, c7, rd7, s7, hrest7⟩ := id P8.out; obtain ⟨s71, s72⟩ := s7; subst s71; obtain ⟨a8, l8, c8, rd8, s8, hrest8⟩ := id Q8.out; obtain ⟨s81, s82⟩ := s8; subst s81; have e80 := rd8.c0; have e81 := rd8.c1; clear s72 s82 hrest7 hrest8)
            | (go_at_call 36; refine (c2 x1 Q6.out (Nat.lt_of_lt_of_le Hzwr.out (show wr.drew.heap.size ≤ x1.heap.size from g6.out.size))).mono ?_; rintro r x2 ⟨ab, cb2, rfl, pb, Q7', g7', ge2⟩; have g7 := hid g7'; have Q7 := hid Q7'; have P7 := hid (P6.out.grown g7' Hq.out.1 Hq.out.2.2); have A2 := pa; have B7 := hid (B6.out.grown g7' B6.out.size (fun j hj => by cases hj; exact q2)); clear g7' Q7' ge2)
            | (go_at_call 35; refine c1.mono ?_; rintro r x1 ⟨aa, ca, rfl, pa, P6', g6', ge1'⟩; have ge1 := hid ge1'; have g6 := hid g6'; have P6 := hid P6'; have Q6 := hid (HPd.out.grown g6' (Ne.symm Hq.out.1) Hq.out.2.1); have B6 := hid (Hb0.out.grown g6' Hb0.out.size (fun j hj => by cases hj; exact q1)); clear ge1' g6' P6'))
          all_goals go_wp2_with fail
          all_goals go_meet
          all_goals exact ⟨by simp, P8, Q8, B8⟩
        case rest =>
          obtain ⟨rfl, P9, Q9, K9⟩ := hcut
          go_wp2_with fail
          go_roundw
          case rel => first | exact ⟨k + 1, M', e', by omega, by go_num, by omega, P9, Q9, K9⟩ | ((repeat apply Exists.intro); exact ⟨⟨k + 1, M', e', by omega, by go_num, by omega, P9, Q9, K9⟩, rfl⟩)
          case measure => simp [intOf]; omega
      · obtain rfl : k = 4 := by omega
        have hsr := HS.out.below hbl.out
        have hpr := hid (HP.out.below hbl.out)
        have gwr := hid (below2 HW.out hbl.out)
        have hgr : g < wr.heap.size := Nat.lt_of_lt_of_le hgl hbl.out.size
        have hsrc : Src wr (some ⟨g, 0 + len, none⟩) (len + (encv V).length - len) (encv V) := by
          have := src_drop hsr len
          rwa [List.drop_left' HLN.out] at this
        rw [Nat.zero_add, Nat.add_sub_cancel_left] at hsrc
        have Hsrc := hid hsrc
        have hle := hid (vtk_encv mV (by omega))
        have hcv := cnt_le (encv V) 0 2
        have hcx : len < cx := by omega
        have hcx0 : ¬ cx = len := by omega
        have hcx1 : ¬ len = cx := by omega
        clear hsr hsrc P1 P2 hbl HB6 HR HS HP HW HG q1 q2 q3 q4 q5
        go_wp2_with (first
          | (go_at_call 34; refine (read_any wr _ (some ⟨g, len, none⟩) (encv V).length (cx - len) rfl).mono ?_; rintro e w8 ⟨rfl, rd8, b8⟩; have R8 : Rdr w8 wr.heap.size g (encv V) 0 := ⟨_, _, _, rd8, Hsrc.out.below b8, by omega, by omega, ⟨fun ad _ h => by cases h; rfl, by omega⟩, bts_encv V, fun h => absurd rfl h⟩; have k8 := vtake_any w8 wr.heap.size g (encv V) 0 R8 (Nat.lt_of_lt_of_le hgr b8.size) (by omega); rw [hle.out] at k8; unfold TakesV at k8; simp only at k8)
          | (go_at_call 39; have hq := R9; refine (end_nil wA wr.heap.size g 0 (R9.below bA)).mono ?_; rintro r w' ⟨rfl, rfl⟩)
          | (go_at_call 19; have hq := R9; refine (c_rsame p9 (by omega) (hpr.out.below B9) (by omega) rfl).mono ?_; rintro e wA ⟨rfl, bA⟩)
          | (go_at_call 35; refine k8.mono ?_; rintro r w9 ⟨a9, c9, rfl, p9, R9, g9, ge9⟩; have B9 : RowKit.Below wr.heap.size wr w9 := b8.grown g9 b8.size (fun j hj => by cases hj; exact Nat.le_refl _)))
        go_ret
        exact ⟨rfl, below2 gwr.out (below2 B9 bA)⟩


namespace vectorBytes
open Go.ChangeShapes Go.WideShapes Go.ChangeAt Go.RowKit
open Go.ChangeMaps (open_string shut_string)
set_option linter.unusedVariables false

theorem own : ownKnob Try.prog.godebug = none := by kernel_rfl
theorem laidOut : laidOutB Try.prog = true := by kernel_rfl

set_option maxRecDepth 100000 in
theorem lifted (os : Os) (started : os.Started) (H : Type) (enc : TypeId × Value → H) :
    ReturnsInHanded {} Try.checked os 7 .any (Rows.vectorBytesSpec.pre6 enc Try.prog Try.f7 Rows.vectorBytesRow.domain false) (Rows.vectorBytesSpec.post enc Try.prog Try.f7 false true false false) := by
  refine returnsInHanded_of_change (C := Try.checked) own started (by kernel_rfl) Try.func7
    (ChangeSpec.witness6 (enc := enc) (C := Try.checked) false ⟨#[], #[.slice none 0 0, .slice none 0 0], []⟩ 8 (by kernel_rfl) (by kernel_rfl) (by kernel_rfl) (by kernel_rfl)) ?_
  intro W base args ds gs before hval0 hW hcnd _
  have hval : ∀ (j : Nat) t v, Try.f7.params[j]? = some t → args[j]? = some v → Value.okWide Try.prog W .any base t v := hval0
  have hW' := hW
  obtain ⟨p, q, hA0, hV, rfl, hfz, hnd⟩ := hW
  have hA : DataW.TrodAll enc Try.prog W 0 (fun _ => true) true Try.f7.params.toList args.toList ds p := hA0
  rw [Try.params7] at hA hval
  obtain ⟨v0, vs0, d0, ds0, p0, q0, hargs, rfl, rfl, h0, r0⟩ := trodAll_cons hA
  obtain ⟨v1, vs1, d1, ds1, p1, q1, rfl, rfl, rfl, h1, r1⟩ := trodAll_cons r0
  obtain ⟨rfl, rfl, rfl⟩ := trodAll_nil r1
  obtain rfl : args = #[v0, v1] := by cases args; simp_all
  obtain ⟨rfl, rfl⟩ := trodVars_none hV
  obtain ⟨a0, len0, cap0, rfl⟩ := okWide_slice Try.underlying42 (hval 0 42 v0 rfl rfl)
  obtain ⟨a1, len1, cap1, rfl⟩ := okWide_slice Try.underlying22 (hval 1 22 v1 rfl rfl)
  have k0 := h0
  have k1 := h1
  have lt0 : ∀ x ∈ p0, x.block < W.heap.size := by obtain ⟨m, hm⟩ := k0; exact DataW.trod_lt m _ _ _ hm
  have lt1 : ∀ x ∈ p1, x.block < W.heap.size := by obtain ⟨m, hm⟩ := k1; exact DataW.trod_lt m _ _ _ hm
  obtain ⟨z0, w0, u0, s0, t0, _⟩ := open_bytes h0
  obtain ⟨z1, w1, u1⟩ := open_dots h1
  clear hA0 hval0
  refine (vbytes_walk a0 len0 cap0 z0 a1 len1 cap1 z1 W w0 u0 s0 t0 w1).mono fun e W' ⟨he, bel⟩ => ?_
  subst he
  exact ⟨_, rfl, _, _, _, [], _, [], hW', trodAll_mk1 (shut_bool Try.underlying4 _),
    (trodAll_cons_mk (Below.trod laidOut (by kernel_rfl) (of_decide_eq_true (by kernel_rfl)) k0 bel lt0) (trodAll_cons_mk (Below.trod laidOut (by kernel_rfl) (of_decide_eq_true (by kernel_rfl)) k1 bel lt1) trodAll_mk0)), rfl, bel.frame _, fun h => by cases h⟩

theorem over : Rows.vectorBytesRow.holds Try.pinned (OpenSpec.ofChange Rows.vectorBytesSpec) :=
  OpenClaim.holds_of_wide 7 Try.f7 rfl rfl rfl rfl rfl rfl rfl ⟨rfl, rfl, rfl, rfl, rfl⟩ rfl rfl rfl rfl rfl (by kernel_rfl) Try.func7 (by kernel_rfl)
    (of_decide_eq_true (by kernel_rfl)) (by unfold Func.isWrapper; first | (rw [if_pos (by decide +kernel)]; kernel_rfl) | (rw [if_neg (by decide +kernel)]; exact ⟨rfl, rfl⟩))
    (fun os started H enc _ => lifted os started H enc)

end vectorBytes

/-- The statement. -/
theorem vectorBytes_holds : Rows.VectorBytesSaid := vectorBytes.over
#print axioms vectorBytes_holds
end Go.Proofs.Ytliahpjlmgplkaa
