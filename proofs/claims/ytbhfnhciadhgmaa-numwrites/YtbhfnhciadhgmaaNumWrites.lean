/- For any bytes, numbers and text NumWrites answers true: what is written is the document's, behind the bytes, in new memory. No condition. -/
import Derived.Test.YtbhfnhciadhgmaaRefT
import Derived.Deep.CutRange
import Derived.Deep.RegionHeld3
import Derived.WalkKit
import Derived.ProofKit
import Derived.OpenShut
import Derived.ShutString
import Derived.ChangeOld
import Derived.Below
namespace Go.Proofs.Ytbhfnhciadhgmaa
open Go.RowKit

theorem str_append (A B : List Int) : strOfNums (A ++ B) = strOfNums A ++ strOfNums B := by
  apply ByteArray.ext
  simp [strOfNums]

/-- Three rows of these lengths lie in blocks g1, g2, g3; what was there ahead is as it was. -/
def Three (wr w : World) (g1 g2 g3 k1 k2 k3 : Nat) : Prop :=
  ((∃ L : List Int, L.length = k1 ∧ Row wr g1 L) ∧ (∃ L : List Int, L.length = k2 ∧ Row wr g2 L) ∧ (∃ L : List Int, L.length = k3 ∧ Row wr g3 L)) ∧ Below w.heap.size w wr
theorem row_spot {wr : World} {g k : Nat} {L : List Int} (hl : L.length = k) (hr : Row wr g L) (j : Nat) (hj : j < k) : ∃ v, wr.cell? ⟨g, j, none⟩ = some (.int .u8 v) ∧ wr.frozen? ⟨g, j, none⟩ = false ∧ ∀ u, ∃ L' : List Int, L'.length = k ∧ Row (wr.setCell ⟨g, j, none⟩ (.int .u8 u)) g L' :=
  ⟨_, hr.cell j (by omega), hr.frozen j, fun u => ⟨L.set j u, by rw [List.length_set, hl], hr.set j u⟩⟩
theorem Three.one {wr w : World} {g1 g2 g3 k1 k2 k3 : Nat} (h : Three wr w g1 g2 g3 k1 k2 k3) (j : Nat) (hj : j < k1) (h12 : g1 < g2) (h23 : g2 < g3) (h01 : w.heap.size ≤ g1) :
    ∃ v, wr.cell? ⟨g1, j, none⟩ = some (.int .u8 v) ∧ wr.frozen? ⟨g1, j, none⟩ = false ∧ ∀ u, Three (wr.setCell ⟨g1, j, none⟩ (.int .u8 u)) w g1 g2 g3 k1 k2 k3 := by
  obtain ⟨⟨⟨L1, l1, r1⟩, ⟨L2, l2, r2⟩, ⟨L3, l3, r3⟩⟩, hb⟩ := h
  obtain ⟨v, hc, hf, hs⟩ := row_spot l1 r1 j hj
  have ho := fun u => (Only.refl g1 wr).setCell j (.int .u8 u)
  exact ⟨v, hc, hf, fun u => ⟨⟨hs u, ⟨L2, l2, r2.only (ho u) (by omega)⟩, ⟨L3, l3, r3.only (ho u) (by omega)⟩⟩, hb.setCell h01 _⟩⟩
theorem Three.two {wr w : World} {g1 g2 g3 k1 k2 k3 : Nat} (h : Three wr w g1 g2 g3 k1 k2 k3) (j : Nat) (hj : j < k2) (h12 : g1 < g2) (h23 : g2 < g3) (h01 : w.heap.size ≤ g1) :
    ∃ v, wr.cell? ⟨g2, j, none⟩ = some (.int .u8 v) ∧ wr.frozen? ⟨g2, j, none⟩ = false ∧ ∀ u, Three (wr.setCell ⟨g2, j, none⟩ (.int .u8 u)) w g1 g2 g3 k1 k2 k3 := by
  obtain ⟨⟨⟨L1, l1, r1⟩, ⟨L2, l2, r2⟩, ⟨L3, l3, r3⟩⟩, hb⟩ := h
  obtain ⟨v, hc, hf, hs⟩ := row_spot l2 r2 j hj
  have ho := fun u => (Only.refl g2 wr).setCell j (.int .u8 u)
  exact ⟨v, hc, hf, fun u => ⟨⟨⟨L1, l1, r1.only (ho u) (by omega)⟩, hs u, ⟨L3, l3, r3.only (ho u) (by omega)⟩⟩, hb.setCell (by show _ ≤ g2; omega) _⟩⟩
theorem Three.three {wr w : World} {g1 g2 g3 k1 k2 k3 : Nat} (h : Three wr w g1 g2 g3 k1 k2 k3) (j : Nat) (hj : j < k3) (h12 : g1 < g2) (h23 : g2 < g3) (h01 : w.heap.size ≤ g1) :
    ∃ v, wr.cell? ⟨g3, j, none⟩ = some (.int .u8 v) ∧ wr.frozen? ⟨g3, j, none⟩ = false ∧ ∀ u, Three (wr.setCell ⟨g3, j, none⟩ (.int .u8 u)) w g1 g2 g3 k1 k2 k3 := by
  obtain ⟨⟨⟨L1, l1, r1⟩, ⟨L2, l2, r2⟩, ⟨L3, l3, r3⟩⟩, hb⟩ := h
  obtain ⟨v, hc, hf, hs⟩ := row_spot l3 r3 j hj
  have ho := fun u => (Only.refl g3 wr).setCell j (.int .u8 u)
  exact ⟨v, hc, hf, fun u => ⟨⟨⟨L1, l1, r1.only (ho u) (by omega)⟩, ⟨L2, l2, r2.only (ho u) (by omega)⟩, hs u⟩, hb.setCell (by show _ ≤ g3; omega) _⟩⟩

/-- What a row reads as a string in every later world. -/
theorem Row.text {w : World} {g : Nat} {B : List Int} (n : Int) (h : Row w g (B ++ enc n)) (k : Nat) (hk : (B ++ enc n).length = k) (W : World) (hb : Below w.heap.size w W) :
    (convert 22 9 (.slice (some ⟨g, 0, none⟩) k k)).run Try.prog W = .ok (.string (strOfNums B ++ strOfNums (enc n))) W := by
  rw [← str_append]; exact conv_row (h.below hb) k k hk
theorem Row.textT {w : World} {g : Nat} {B : List Int} {s : ByteArray} (h : Row w g (B ++ (enc s.size ++ sb s))) (k : Nat) (hk : (B ++ (enc s.size ++ sb s)).length = k) (W : World) (hb : Below w.heap.size w W) :
    (convert 22 9 (.slice (some ⟨g, 0, none⟩) k k)).run Try.prog W = .ok (.string (strOfNums B ++ strOfNums (enc s.size ++ sb s))) W := by
  rw [← str_append]; exact conv_row (h.below hb) k k hk

set_option maxRecDepth 20000 in
set_option maxHeartbeats 6000000 in
theorem numWrites_walk (a0 : Option Addr) (len0 cap0 : Nat) (z0 : List Int) (n m : Int) (s : ByteArray) (w : World) (w0 : IsRow .u8 w a0 len0 cap0 z0) (w1 : (Lit.int .u64 n).wf = true) (w2 : (Lit.int .i64 m).wf = true) :
    Calls Try.prog 3 #[.slice a0 len0 cap0, .int .u64 n, .int .i64 m, .string s] w fun e w' => e = .returned (.bool true) ∧ Below w.heap.size w w' := by
  obtain ⟨hs, hB, hlc, hcap⟩ := w0.src
  generalize hBe : z0.take len0 = B at *
  have bn := bounds_u64 w1
  have bm := bounds_i64 w2
  clear hBe w0 w1 w2
  by_cases hl : 1000 < len0
  · go_enter Try.func3, Try.ntmps3
    go_wp2_with (go_at_call 9; refine (awake_any _).mono ?_; rintro e w1 ⟨rfl, hb1⟩)
    go_ret
    exact ⟨rfl, hb1⟩
  · by_cases hsz : 1000 < s.size
    · go_enter Try.func3, Try.ntmps3
      go_wp2_with (go_at_call 9; refine (awake_any _).mono ?_; rintro e w1 ⟨rfl, hb1⟩)
      go_ret
      exact ⟨rfl, hb1⟩
    · go_enter Try.func3, Try.ntmps3
      go_wp2_with (first
        | (go_at_call 9; refine (awake_any _).mono ?_; rintro e w1 ⟨rfl, hb1⟩; have hs1 := hs.below hb1; have cB := conv_src hs1 cap0)
        | (go_at_call 10; refine (uint_any _ _ _ n B _ hs1 (by omega) bn.1 (by omega)).mono ?_; rintro e w2 ⟨rfl, hr2, hb2⟩; have hs2 := hs1.below hb2)
        | (go_at_call 11; refine (int_any _ _ _ m B _ hs2 (by omega) bm.1 bm.2).mono ?_; rintro e w3 ⟨rfl, hr3, hb3⟩; have hs3 := hs2.below hb3)
        | (go_at_call 12; refine (text_any _ _ _ s B _ hs3 (by omega)).mono ?_; rintro e w4 ⟨rfl, hr4, hb4⟩))
      have T1 := Row.text n ((hr2.below hb3).below hb4)
      have T2 := Row.text (zig m) (hr3.below hb4)
      have T3 := Row.textT hr4
      replace T1 := T1 (len0 + sz n) (by rw [List.length_append, hs.1, enc_length])
      replace T2 := T2 (len0 + sz (zig m)) (by rw [List.length_append, hs.1, enc_length])
      replace T3 := T3 (len0 + (sz s.size + s.size)) (by rw [List.length_append, List.length_append, hs.1, enc_length, sb_length])
      have hbD : Below w4.heap.size w4 w4.drew := (Below.refl _ _).drew
      have U1 := T1 w4.drew hbD
      have z1 : (strOfNums B).size + (strOfNums (enc n)).size ≤ 9223372036854775807 := by rw [strOfNums_size, strOfNums_size, hs.1, enc_length]; have := sz_le n; omega
      have z2 : (strOfNums B).size + (strOfNums (enc (zig m))).size ≤ 9223372036854775807 := by rw [strOfNums_size, strOfNums_size, hs.1, enc_length]; have := sz_le (zig m); omega
      have z3 : (strOfNums B).size + (strOfNums (enc s.size ++ sb s)).size ≤ 9223372036854775807 := by rw [strOfNums_size, strOfNums_size, hs.1, List.length_append, enc_length, sb_length]; have := sz_le s.size; omega
      have R2 := hr2
      have R3 := hr3
      have R4 := hr4
      clear cB hs1 hs2 hs3 hr2 hr3 hr4
      go_cut [14] from 40 (fun v wc => v = .bool true ∧ Below w4.heap.size w4 wc)
      case first =>
        replace T1 := hid T1
        replace T2 := hid T2
        replace T3 := hid T3
        clear U1
        go_region_held (fun W => (convert 22 9 (.slice (some ⟨w1.heap.size, 0, none⟩) (len0 + sz n) (len0 + sz n))).run Try.prog W = .ok (.string (strOfNums B ++ strOfNums (enc n))) W ∧ (convert 22 9 (.slice (some ⟨w2.heap.size, 0, none⟩) (len0 + sz (zig m)) (len0 + sz (zig m)))).run Try.prog W = .ok (.string (strOfNums B ++ strOfNums (enc (zig m)))) W ∧ (convert 22 9 (.slice (some ⟨w3.heap.size, 0, none⟩) (len0 + (sz s.size + s.size)) (len0 + (sz s.size + s.size)))).run Try.prog W = .ok (.string (strOfNums B ++ strOfNums (enc s.size ++ sb s))) W)
          (first | exact ⟨T1.out _ (by assumption), T2.out _ (by assumption), T3.out _ (by assumption)⟩)
          (first
            | (go_at_call 13; refine (ruint_ref n w4.drew bn.1 (by omega)).mono ?_; rintro e w5 ⟨q1, p1, rfl, hq1, hS5, hb5⟩; have B5 := hbD.trans hb5; have V5 := conv_src hS5 p1)
            | (go_at_call 14; refine (rint_ref m w5 bm.1 bm.2).mono ?_; rintro e w6 ⟨q2, p2, rfl, hq2, hS6, hb6⟩; have B6 := Below.trans B5 (hb6.mono B5.size); have V6 := conv_src hS6 p2)
            | (go_at_call 15; refine (rtext_ref s w6 (by omega)).mono ?_; rintro e w7 ⟨q3, p3, rfl, hq3, hS7, hb7⟩; have B7 := Below.trans B6 (hb7.mono B6.size); have V7 := conv_src hS7 p3; rw [List.length_append] at V7))
        all_goals go_wp2_with fail
        all_goals go_meet
        all_goals exact ⟨rfl, B7⟩
      case rest =>
        obtain ⟨rfl, hbc⟩ := hcut
        have hI : Three wc w w1.heap.size w2.heap.size w3.heap.size (len0 + sz n) (len0 + sz (zig m)) (len0 + (sz s.size + s.size)) := by
          refine ⟨⟨⟨_, ?_, ((R2.below hb3).below hb4).below hbc⟩, ⟨_, ?_, (R3.below hb4).below hbc⟩, ⟨_, ?_, R4.below hbc⟩⟩, bnext (bnext (bnext (bnext hb1 hb2) hb3) hb4) hbc⟩
          · rw [List.length_append, hs.1, enc_length]
          · rw [List.length_append, hs.1, enc_length]
          · rw [List.length_append, List.length_append, hs.1, enc_length, sb_length]
        have hg01 := hb1.size
        have b1 := sz_le n
        have b2 := sz_le (zig m)
        have b3 := sz_le s.size
        have hg12 := R2.lt
        have hg23 := R3.lt
        clear T1 T2 T3 hbc R2 R3 R4 z1 z2 z3 U1 hbD
        go_wp2_with fail
        go_loopw [15] (fun i wr => ∃ j : Nat, j ≤ (len0 + sz n) ∧ i = .int .i64 j ∧ Three wr w w1.heap.size w2.heap.size w3.heap.size (len0 + sz n) (len0 + sz (zig m)) (len0 + (sz s.size + s.size))) (fun i _ => (len0 + sz n) - (intOf i).toNat)
        case atStart => exact ⟨0, by omega, rfl, hI⟩
        case round =>
          obtain ⟨j, hj, rfl, hI'⟩ := hrel
          by_cases hlt : j < (len0 + sz n)
          · obtain ⟨v, hc, hfz, hset⟩ := Three.one hI' j hlt hg12 hg23 hg01
            clear hI
            go_wp2_with fail
            go_roundw
            case rel => first | exact ⟨j + 1, by omega, by go_num, hset _⟩ | ((repeat apply Exists.intro); exact ⟨⟨j + 1, by omega, by go_num, hset _⟩, rfl⟩)
            case measure => simp [intOf]; omega
          · clear hI
            have hI := hI'
            go_wp2_with fail
            go_loopw [16] (fun i wr => ∃ j : Nat, j ≤ (len0 + sz (zig m)) ∧ i = .int .i64 j ∧ Three wr w w1.heap.size w2.heap.size w3.heap.size (len0 + sz n) (len0 + sz (zig m)) (len0 + (sz s.size + s.size))) (fun i _ => (len0 + sz (zig m)) - (intOf i).toNat)
            case atStart => exact ⟨0, by omega, rfl, hI⟩
            case round =>
              obtain ⟨j, hj, rfl, hI'⟩ := hrel
              by_cases hlt : j < (len0 + sz (zig m))
              · obtain ⟨v, hc, hfz, hset⟩ := Three.two hI' j hlt hg12 hg23 hg01
                clear hI
                go_wp2_with fail
                go_roundw
                case rel => first | exact ⟨j + 1, by omega, by go_num, hset _⟩ | ((repeat apply Exists.intro); exact ⟨⟨j + 1, by omega, by go_num, hset _⟩, rfl⟩)
                case measure => simp [intOf]; omega
              · clear hI
                have hI := hI'
                go_wp2_with fail
                go_loopw [17] (fun i wr => ∃ j : Nat, j ≤ (len0 + (sz s.size + s.size)) ∧ i = .int .i64 j ∧ Three wr w w1.heap.size w2.heap.size w3.heap.size (len0 + sz n) (len0 + sz (zig m)) (len0 + (sz s.size + s.size))) (fun i _ => (len0 + (sz s.size + s.size)) - (intOf i).toNat)
                case atStart => exact ⟨0, by omega, rfl, hI⟩
                case round =>
                  obtain ⟨j, hj, rfl, hI'⟩ := hrel
                  by_cases hlt : j < (len0 + (sz s.size + s.size))
                  · obtain ⟨v, hc, hfz, hset⟩ := Three.three hI' j hlt hg12 hg23 hg01
                    clear hI
                    go_wp2_with fail
                    go_roundw
                    case rel => first | exact ⟨j + 1, by omega, by go_num, hset _⟩ | ((repeat apply Exists.intro); exact ⟨⟨j + 1, by omega, by go_num, hset _⟩, rfl⟩)
                    case measure => simp [intOf]; omega
                  · clear hI
                    have hbel := hI'.2
                    have cF := conv_src (hs.below hbel) cap0
                    go_wp2_with fail
                    go_ret
                    exact ⟨rfl, hbel⟩

namespace numWrites
open Go.ChangeShapes Go.WideShapes Go.ChangeAt Go.RowKit
open Go.ChangeMaps (open_string shut_string)
set_option linter.unusedVariables false

theorem own : ownKnob Try.prog.godebug = none := by kernel_rfl
theorem laidOut : laidOutB Try.prog = true := by kernel_rfl

set_option maxRecDepth 100000 in
theorem lifted (os : Os) (started : os.Started) (H : Type) (enc : TypeId × Value → H) :
    ReturnsInHanded {} Try.checked os 3 .any (Rows.numWritesSpec.pre6 enc Try.prog Try.f3 Rows.numWritesRow.domain false) (Rows.numWritesSpec.post enc Try.prog Try.f3 false true false false) := by
  refine returnsInHanded_of_change (C := Try.checked) own started (by kernel_rfl) Try.func3
    (ChangeSpec.witness6 (enc := enc) (C := Try.checked) false ⟨#[], #[.slice none 0 0, .int .u64 0, .int .i64 0, .string ByteArray.empty], []⟩ 8 (by kernel_rfl) (by kernel_rfl) (by kernel_rfl) (by kernel_rfl)) ?_
  intro W base args ds gs before hval0 hW hcnd _
  have hval : ∀ (j : Nat) t v, Try.f3.params[j]? = some t → args[j]? = some v → Value.okWide Try.prog W .any base t v := hval0
  have hW' := hW
  obtain ⟨p, q, hA0, hV, rfl, hfz, hnd⟩ := hW
  have hA : DataW.TrodAll enc Try.prog W 0 (fun _ => true) true Try.f3.params.toList args.toList ds p := hA0
  rw [Try.params3] at hA hval
  obtain ⟨v0, vs0, d0, ds0, p0, q0, hargs, rfl, rfl, h0, r0⟩ := trodAll_cons hA
  obtain ⟨v1, vs1, d1, ds1, p1, q1, rfl, rfl, rfl, h1, r1⟩ := trodAll_cons r0
  obtain ⟨v2, vs2, d2, ds2, p2, q2, rfl, rfl, rfl, h2, r2⟩ := trodAll_cons r1
  obtain ⟨v3, vs3, d3, ds3, p3, q3, rfl, rfl, rfl, h3, r3⟩ := trodAll_cons r2
  obtain ⟨rfl, rfl, rfl⟩ := trodAll_nil r3
  obtain rfl : args = #[v0, v1, v2, v3] := by cases args; simp_all
  obtain ⟨rfl, rfl⟩ := trodVars_none hV
  obtain ⟨a0, len0, cap0, rfl⟩ := okWide_slice Try.underlying22 (hval 0 22 v0 rfl rfl)
  have k0 := h0
  have lt0 : ∀ x ∈ p0, x.block < W.heap.size := by obtain ⟨m, hm⟩ := k0; exact DataW.trod_lt m _ _ _ hm
  obtain ⟨z0, w0⟩ : ∃ zs, IsRow .u8 W a0 len0 cap0 zs := by
    obtain ⟨fuel, hf⟩ := h0
    rcases open_ints Try.underlying22 Try.underlying5 (by kernel_rfl) hf with ⟨hcs, _⟩ | ⟨x, l, c, zs, hcs, _, hl, hm, hz, _, hcell, hwz⟩
    · simp [Value.cells] at hcs
      obtain ⟨rfl, rfl, rfl⟩ := hcs
      exact ⟨[], .inl ⟨rfl, rfl, rfl, rfl⟩⟩
    · simp [Value.cells] at hcs
      obtain ⟨rfl, rfl, rfl⟩ := hcs
      exact ⟨zs, .inr ⟨_, rfl, hl, hm, by simpa using hz, hcell, hwz⟩⟩
  obtain ⟨a1, rfl, rfl, rfl, w1⟩ := open_int Try.underlying23 (hval 1 23 v1 rfl rfl) h1
  obtain ⟨a2, rfl, rfl, rfl, w2⟩ := open_int Try.underlying3 (hval 2 3 v2 rfl rfl) h2
  obtain ⟨a3, rfl, rfl, rfl, w3⟩ := open_string Try.underlying9 (hval 3 9 v3 rfl rfl) h3
  clear hA0 hval0
  refine (numWrites_walk a0 len0 cap0 z0 a1 a2 a3 W w0 w1 w2).mono fun e W' ⟨he, bel⟩ => ?_
  subst he
  exact ⟨_, rfl, _, _, _, [], _, [], hW', trodAll_mk1 (shut_bool Try.underlying4 _), (trodAll_cons_mk (Below.trod laidOut (by kernel_rfl) (of_decide_eq_true (by kernel_rfl)) k0 bel lt0) (trodAll_cons_mk (shut_int Try.underlying23 w1) (trodAll_cons_mk (shut_int Try.underlying3 w2) (trodAll_cons_mk (shut_string Try.underlying9 w3) trodAll_mk0)))), rfl, bel.frame _, fun h => by cases h⟩

theorem over : Rows.numWritesRow.holds Try.pinned (OpenSpec.ofChange Rows.numWritesSpec) :=
  OpenClaim.holds_of_wide 3 Try.f3 rfl rfl rfl rfl rfl rfl rfl ⟨rfl, rfl, rfl, rfl, rfl⟩ rfl rfl rfl rfl rfl (by kernel_rfl) Try.func3 (by kernel_rfl)
    (of_decide_eq_true (by kernel_rfl)) (by unfold Func.isWrapper; first | (rw [if_pos (by decide +kernel)]; kernel_rfl) | (rw [if_neg (by decide +kernel)]; exact ⟨rfl, rfl⟩))
    (fun os started H enc _ => lifted os started H enc)

end numWrites

/-- The statement. -/
theorem numWrites_holds : Rows.NumWritesSaid := numWrites.over
#print axioms numWrites_holds
end Go.Proofs.Ytbhfnhciadhgmaa
