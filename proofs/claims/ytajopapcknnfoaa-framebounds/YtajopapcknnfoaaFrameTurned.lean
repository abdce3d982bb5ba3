/- For any body, place, byte and length FrameTurned answers true: a frame of which one byte of the body or the sum is another one, or that is cut short, is refused. No condition. -/
import Derived.Test.YtajopapcknnfoaaFAwake
import Derived.Test.YtajopapcknnfoaaFrameMakes
import Derived.WalkKit
import Derived.ProofKit
import Derived.OpenShut
import Derived.ShutString
import Derived.ChangeOld
import Derived.Below
namespace Go.Proofs.Ytajopapcknnfoaa
open Go.RowKit

theorem tmod_nat (X : Int) (n : Nat) (h : 0 ≤ X) (hn : 0 < n) : ∃ c : Nat, c < n ∧ X.tmod (n : Int) = (c : Int) := by
  obtain ⟨m, rfl⟩ := Int.eq_ofNat_of_zero_le h
  exact ⟨m % n, Nat.mod_lt _ hn, rfl⟩
theorem Bts.of {L : List Int} (h : Bts L) {k : Nat} {x : Int} (hx : L[k]? = some x) : 0 ≤ x ∧ x < 256 := h x (List.mem_of_getElem? hx)
theorem bits_xor8 (x t : Int) (hx : 0 ≤ x ∧ x < 256) (ht : 0 ≤ t ∧ t < 256) : (0 ≤ bits .xor .u8 x t ∧ bits .xor .u8 x t < 256) ∧ (t = 0 → bits .xor .u8 x t = x) ∧ (t ≠ 0 → x ≠ bits .xor .u8 x t) := by
  obtain ⟨a, rfl⟩ := Int.eq_ofNat_of_zero_le hx.1
  obtain ⟨b, rfl⟩ := Int.eq_ofNat_of_zero_le ht.1
  have e : bits .xor .u8 (a : Int) (b : Int) = ((a ^^^ b : Nat) : Int) := by
    show IntKind.u8.wrap ((BitVec.ofInt 8 (a : Int) ^^^ BitVec.ofInt 8 (b : Int)).toNat : Int) = _
    rw [BitVec.ofInt_natCast, BitVec.ofInt_natCast, BitVec.toNat_xor, BitVec.toNat_ofNat, BitVec.toNat_ofNat, Nat.mod_eq_of_lt (by omega : a < 2 ^ 8), Nat.mod_eq_of_lt (by omega : b < 2 ^ 8)]
    have h : a ^^^ b < 2 ^ 8 := Nat.xor_lt_two_pow (by omega) (by omega)
    generalize a ^^^ b = q at h ⊢
    simp [IntKind.wrap, IntKind.bits, IntKind.signed]
    omega
  have h : a ^^^ b < 2 ^ 8 := Nat.xor_lt_two_pow (by omega) (by omega)
  rw [e]
  refine ⟨by omega, fun h0 => ?_, fun h0 h1 => ?_⟩
  · have : b = 0 := by omega
    subst this
    simp
  · have h2 : a = a ^^^ b := by omega
    have h3 : a ^^^ a = a ^^^ (a ^^^ b) := congrArg (a ^^^ ·) h2
    rw [← Nat.xor_assoc, Nat.xor_self, Nat.zero_xor] at h3
    omega
theorem set_same {L : List Int} {k : Nat} {x : Int} (h : L[k]? = some x) : L.set k x = L := by
  apply List.ext_getElem?
  intro i
  by_cases hi : k = i
  · subst hi
    rw [List.getElem?_set_self' , h]; rfl
  · rw [List.getElem?_set_ne hi]

/-- What is read of a frame of which one byte is another one. -/
theorem turned_next (g len k : Nat) (L : List Int) (x t : Int) (w : World) (hl : L.length = len) (hb : Bts L) (hm : len ≤ 5000) (h4 : 4 ≤ k) (h8 : k < len + 8) (hx : (fr L)[k]? = some x) (bx : 0 ≤ x ∧ x < 256) (bt : 0 ≤ t ∧ t < 256) (hr : Row w g ((fr L).set k (bits .xor .u8 x t))) :
    Calls Try.prog 14 #[.slice (some ⟨g, 0, none⟩) (len + 8) (len + 8)] w fun e w' => ∃ v u E, e = .returned (.tuple #[v, u, .int .i64 E]) ∧ Below w.heap.size w w' ∧
      (t = 0 → E = 0 ∧ ∃ a1 c1, v = .slice a1 L.length c1 ∧ Src w' a1 L.length L) ∧ (t ≠ 0 → E = 12 ∧ v = .slice none 0 0) := by
  have hf := bits_xor8 x t bx bt
  have hfb := fr_bts hb
  have hfl : (fr L).length = len + 8 := by rw [fr_length, hl]
  have hsb : Bts ((fr L).set k (bits .xor .u8 x t)) := by
    intro y hy
    rcases List.mem_or_eq_of_mem_set hy with h | h
    · exact hfb y h
    · rw [h]; exact hf.1
  have hN := next_any (some ⟨g, 0, none⟩) (len + 8) (len + 8) _ w (hr.src (len + 8) (by rw [List.length_set, hfl])) hsb (Nat.le_refl _) (by omega) (by simp)
  refine hN.mono ?_
  rintro e w' ⟨v, u, rfl, b, hbad, hok⟩
  refine ⟨v, u, _, rfl, b, fun h0 => ?_, fun h0 => ?_⟩
  · have e1 : (fr L).set k (bits .xor .u8 x t) = fr L := by rw [hf.2.1 h0, set_same hx]
    have e2 := nx_fr L [] (by omega)
    rw [List.append_nil] at e2
    rw [e1, e2] at hok
    obtain ⟨⟨a1, c1, h1, _, _, h2⟩, _⟩ := hok rfl
    rw [e1, e2]
    exact ⟨rfl, a1, c1, h1, h2⟩
  · have e2 := nx_turned L k (bits .xor .u8 x t) (by omega) hb h4 (by omega) hf.1 (by rw [hx]; exact hf.2.2 h0)
    rw [e2] at hbad ⊢
    exact ⟨rfl, (hbad (by simp)).1⟩

set_option maxHeartbeats 2000000 in
theorem frameTurned_walk (a : Option Addr) (len cap : Nat) (zs : List Int) (A t C : Int) (w : World) (h : IsRow .u8 w a len cap zs) (hA : (Lit.int .i64 A).wf = true) (ht : (Lit.int .u8 t).wf = true) (hC : (Lit.int .i64 C).wf = true) :
    Calls Try.prog 7 #[.slice a len cap, .int .i64 A, .int .u8 t, .int .i64 C] w fun e w' => e = .returned (.bool true) ∧ Below w.heap.size w w' := by
  obtain ⟨hs, hb, hlc, hcm⟩ := h.src
  have hnil := h.nil0
  have bA := bounds_i64 hA
  have bt := bounds_u8 ht
  have bC := bounds_i64 hC
  generalize zs.take len = L at hs hb
  have hfb := fr_bts hb
  have hfl : (fr L).length = len + 8 := by rw [fr_length, hs.1]
  clear h hA ht hC
  by_cases hl : 5000 < len
  · go_enter Try.func7, Try.ntmps7
    go_wp2_with (go_at_call 9; refine (awake_any w).mono ?_; rintro e w1 ⟨rfl, b1⟩)
    go_ret
    exact ⟨rfl, b1⟩
  · go_enter Try.func7, Try.ntmps7
    by_cases nA : A < 0
    · by_cases nC : C < 0
      · obtain ⟨c, hc8, hce⟩ := tmod_nat (-(C + 1)) (len + 8) (by omega) (by omega)
        obtain ⟨j, hj4, hje⟩ := tmod_nat (-(A + 1)) (len + 4) (by omega) (by omega)
        rw [Int.neg_tmod] at hce
        rw [Int.neg_tmod] at hje
        have hce' : -((C + 1).tmod ((len : Int) + 8)) = (c : Int) := by rw [← hce]; simp
        have h84 : (len : Int) + 8 - 4 = ((len + 4 : Nat) : Int) := by omega
        have hje' : -((A + 1).tmod ((len : Int) + 8 - 4)) = (j : Int) := by rw [h84]; exact hje
        clear hce hje h84
        have hcut := nx_cut L c (by rw [hs.1]; omega) (by rw [hs.1]; omega)
        have hk4 : 4 ≤ 4 + j := by omega
        have hk8 : 4 + j < len + 8 := by omega
        obtain ⟨x, hx⟩ : ∃ x, (fr L)[4 + j]? = some x := ⟨_, List.getElem?_eq_getElem (by omega)⟩
        have bx := hfb.of hx
        go_wp2_with (first
          | (go_at_call 9; refine (awake_any w).mono ?_; rintro e w1 ⟨rfl, b1⟩)
          | (go_at_call 12; refine (frame_any a len cap L _ (hs.below b1) hb hnil (by omega)).mono ?_; rintro e w2 ⟨rfl, r2, b2⟩; have b2' := bnext b1 b2))
        obtain ⟨g, hg⟩ : ∃ g, g = w1.heap.size := ⟨_, rfl⟩
        have hgw : w.heap.size ≤ g := by rw [hg]; exact b1.size
        rw [← hg] at r2 ⊢
        clear hg b2 b1
        have hN1 := next_any (some ⟨g, 0, none⟩) c (len + 8) ((fr L).take c) w2 (src_take (r2.src (len + 8) hfl) c (by omega)) (hfb.take c) (by omega) (by omega) (by simp)
        rw [hcut] at hN1
        refine hN1.mono ?_
        rintro e w3 ⟨v3, u3, rfl, b3, hbad, _⟩
        obtain ⟨rfl, rfl⟩ := hbad (by simp)
        clear hN1 hbad
        have b3' := bnext b2' b3
        have r3 := r2.below b3
        have hc3 := r3.cellq (4 + j) x hx
        have hf3 := r3.frozen (4 + j)
        clear b2' b3 r2
        go_wp2_with fail
        have hN2 := turned_next g len (4 + j) L x t _ hs.1 hb (by omega) hk4 hk8 hx (by omega) (by omega) (r3.set (4 + j) (bits .xor .u8 x t))
        have b4' : Below w.heap.size w (w3.setCell ⟨g, 4 + j, none⟩ (.int .u8 (bits .xor .u8 x t))) := b3'.setCell (p := ⟨g, 4 + j, none⟩) hgw _
        refine hN2.mono ?_
        rintro e w5 ⟨v5, u5, E, rfl, b5, h0, h1⟩
        have b5' := bnext b4' b5
        clear hN2 b4' b5 r3 b3' hc3 hf3
        by_cases ht0 : t = 0
        · obtain ⟨rfl, a5, c5, rfl, s5⟩ := h0 ht0
          have hk1 := conv_src s5 c5
          have hk2 := conv_src (hs.below b5') cap
          subst ht0
          clear h0 h1
          go_wp2_with fail
          go_ret
          exact ⟨rfl, b5'⟩
        · obtain ⟨rfl, rfl⟩ := h1 ht0
          have htn : (t == 0) = false := by simp [ht0]
          clear h0 h1
          go_wp2_with fail
          go_ret
          exact ⟨rfl, b5'⟩
      · obtain ⟨c, hc8, hce⟩ := tmod_nat C (len + 8) (by omega) (by omega)
        obtain ⟨j, hj4, hje⟩ := tmod_nat (-(A + 1)) (len + 4) (by omega) (by omega)
        rw [Int.neg_tmod] at hje
        have hce' : C.tmod ((len : Int) + 8) = (c : Int) := by rw [← hce]; simp
        have h84 : (len : Int) + 8 - 4 = ((len + 4 : Nat) : Int) := by omega
        have hje' : -((A + 1).tmod ((len : Int) + 8 - 4)) = (j : Int) := by rw [h84]; exact hje
        clear hce hje h84
        have hcut := nx_cut L c (by rw [hs.1]; omega) (by rw [hs.1]; omega)
        have hk4 : 4 ≤ 4 + j := by omega
        have hk8 : 4 + j < len + 8 := by omega
        obtain ⟨x, hx⟩ : ∃ x, (fr L)[4 + j]? = some x := ⟨_, List.getElem?_eq_getElem (by omega)⟩
        have bx := hfb.of hx
        go_wp2_with (first
          | (go_at_call 9; refine (awake_any w).mono ?_; rintro e w1 ⟨rfl, b1⟩)
          | (go_at_call 12; refine (frame_any a len cap L _ (hs.below b1) hb hnil (by omega)).mono ?_; rintro e w2 ⟨rfl, r2, b2⟩; have b2' := bnext b1 b2))
        obtain ⟨g, hg⟩ : ∃ g, g = w1.heap.size := ⟨_, rfl⟩
        have hgw : w.heap.size ≤ g := by rw [hg]; exact b1.size
        rw [← hg] at r2 ⊢
        clear hg b2 b1
        have hN1 := next_any (some ⟨g, 0, none⟩) c (len + 8) ((fr L).take c) w2 (src_take (r2.src (len + 8) hfl) c (by omega)) (hfb.take c) (by omega) (by omega) (by simp)
        rw [hcut] at hN1
        refine hN1.mono ?_
        rintro e w3 ⟨v3, u3, rfl, b3, hbad, _⟩
        obtain ⟨rfl, rfl⟩ := hbad (by simp)
        clear hN1 hbad
        have b3' := bnext b2' b3
        have r3 := r2.below b3
        have hc3 := r3.cellq (4 + j) x hx
        have hf3 := r3.frozen (4 + j)
        clear b2' b3 r2
        go_wp2_with fail
        have hN2 := turned_next g len (4 + j) L x t _ hs.1 hb (by omega) hk4 hk8 hx (by omega) (by omega) (r3.set (4 + j) (bits .xor .u8 x t))
        have b4' : Below w.heap.size w (w3.setCell ⟨g, 4 + j, none⟩ (.int .u8 (bits .xor .u8 x t))) := b3'.setCell (p := ⟨g, 4 + j, none⟩) hgw _
        refine hN2.mono ?_
        rintro e w5 ⟨v5, u5, E, rfl, b5, h0, h1⟩
        have b5' := bnext b4' b5
        clear hN2 b4' b5 r3 b3' hc3 hf3
        by_cases ht0 : t = 0
        · obtain ⟨rfl, a5, c5, rfl, s5⟩ := h0 ht0
          have hk1 := conv_src s5 c5
          have hk2 := conv_src (hs.below b5') cap
          subst ht0
          clear h0 h1
          go_wp2_with fail
          go_ret
          exact ⟨rfl, b5'⟩
        · obtain ⟨rfl, rfl⟩ := h1 ht0
          have htn : (t == 0) = false := by simp [ht0]
          clear h0 h1
          go_wp2_with fail
          go_ret
          exact ⟨rfl, b5'⟩
    · by_cases nC : C < 0
      · obtain ⟨c, hc8, hce⟩ := tmod_nat (-(C + 1)) (len + 8) (by omega) (by omega)
        obtain ⟨j, hj4, hje⟩ := tmod_nat A (len + 4) (by omega) (by omega)
        rw [Int.neg_tmod] at hce
        have hce' : -((C + 1).tmod ((len : Int) + 8)) = (c : Int) := by rw [← hce]; simp
        have h84 : (len : Int) + 8 - 4 = ((len + 4 : Nat) : Int) := by omega
        have hje' : A.tmod ((len : Int) + 8 - 4) = (j : Int) := by rw [h84]; exact hje
        clear hce hje h84
        have hcut := nx_cut L c (by rw [hs.1]; omega) (by rw [hs.1]; omega)
        have hk4 : 4 ≤ 4 + j := by omega
        have hk8 : 4 + j < len + 8 := by omega
        obtain ⟨x, hx⟩ : ∃ x, (fr L)[4 + j]? = some x := ⟨_, List.getElem?_eq_getElem (by omega)⟩
        have bx := hfb.of hx
        go_wp2_with (first
          | (go_at_call 9; refine (awake_any w).mono ?_; rintro e w1 ⟨rfl, b1⟩)
          | (go_at_call 12; refine (frame_any a len cap L _ (hs.below b1) hb hnil (by omega)).mono ?_; rintro e w2 ⟨rfl, r2, b2⟩; have b2' := bnext b1 b2))
        obtain ⟨g, hg⟩ : ∃ g, g = w1.heap.size := ⟨_, rfl⟩
        have hgw : w.heap.size ≤ g := by rw [hg]; exact b1.size
        rw [← hg] at r2 ⊢
        clear hg b2 b1
        have hN1 := next_any (some ⟨g, 0, none⟩) c (len + 8) ((fr L).take c) w2 (src_take (r2.src (len + 8) hfl) c (by omega)) (hfb.take c) (by omega) (by omega) (by simp)
        rw [hcut] at hN1
        refine hN1.mono ?_
        rintro e w3 ⟨v3, u3, rfl, b3, hbad, _⟩
        obtain ⟨rfl, rfl⟩ := hbad (by simp)
        clear hN1 hbad
        have b3' := bnext b2' b3
        have r3 := r2.below b3
        have hc3 := r3.cellq (4 + j) x hx
        have hf3 := r3.frozen (4 + j)
        clear b2' b3 r2
        go_wp2_with fail
        have hN2 := turned_next g len (4 + j) L x t _ hs.1 hb (by omega) hk4 hk8 hx (by omega) (by omega) (r3.set (4 + j) (bits .xor .u8 x t))
        have b4' : Below w.heap.size w (w3.setCell ⟨g, 4 + j, none⟩ (.int .u8 (bits .xor .u8 x t))) := b3'.setCell (p := ⟨g, 4 + j, none⟩) hgw _
        refine hN2.mono ?_
        rintro e w5 ⟨v5, u5, E, rfl, b5, h0, h1⟩
        have b5' := bnext b4' b5
        clear hN2 b4' b5 r3 b3' hc3 hf3
        by_cases ht0 : t = 0
        · obtain ⟨rfl, a5, c5, rfl, s5⟩ := h0 ht0
          have hk1 := conv_src s5 c5
          have hk2 := conv_src (hs.below b5') cap
          subst ht0
          clear h0 h1
          go_wp2_with fail
          go_ret
          exact ⟨rfl, b5'⟩
        · obtain ⟨rfl, rfl⟩ := h1 ht0
          have htn : (t == 0) = false := by simp [ht0]
          clear h0 h1
          go_wp2_with fail
          go_ret
          exact ⟨rfl, b5'⟩
      · obtain ⟨c, hc8, hce⟩ := tmod_nat C (len + 8) (by omega) (by omega)
        obtain ⟨j, hj4, hje⟩ := tmod_nat A (len + 4) (by omega) (by omega)
        have hce' : C.tmod ((len : Int) + 8) = (c : Int) := by rw [← hce]; simp
        have h84 : (len : Int) + 8 - 4 = ((len + 4 : Nat) : Int) := by omega
        have hje' : A.tmod ((len : Int) + 8 - 4) = (j : Int) := by rw [h84]; exact hje
        clear hce hje h84
        have hcut := nx_cut L c (by rw [hs.1]; omega) (by rw [hs.1]; omega)
        have hk4 : 4 ≤ 4 + j := by omega
        have hk8 : 4 + j < len + 8 := by omega
        obtain ⟨x, hx⟩ : ∃ x, (fr L)[4 + j]? = some x := ⟨_, List.getElem?_eq_getElem (by omega)⟩
        have bx := hfb.of hx
        go_wp2_with (first
          | (go_at_call 9; refine (awake_any w).mono ?_; rintro e w1 ⟨rfl, b1⟩)
          | (go_at_call 12; refine (frame_any a len cap L _ (hs.below b1) hb hnil (by omega)).mono ?_; rintro e w2 ⟨rfl, r2, b2⟩; have b2' := bnext b1 b2))
        obtain ⟨g, hg⟩ : ∃ g, g = w1.heap.size := ⟨_, rfl⟩
        have hgw : w.heap.size ≤ g := by rw [hg]; exact b1.size
        rw [← hg] at r2 ⊢
        clear hg b2 b1
        have hN1 := next_any (some ⟨g, 0, none⟩) c (len + 8) ((fr L).take c) w2 (src_take (r2.src (len + 8) hfl) c (by omega)) (hfb.take c) (by omega) (by omega) (by simp)
        rw [hcut] at hN1
        refine hN1.mono ?_
        rintro e w3 ⟨v3, u3, rfl, b3, hbad, _⟩
        obtain ⟨rfl, rfl⟩ := hbad (by simp)
        clear hN1 hbad
        have b3' := bnext b2' b3
        have r3 := r2.below b3
        have hc3 := r3.cellq (4 + j) x hx
        have hf3 := r3.frozen (4 + j)
        clear b2' b3 r2
        go_wp2_with fail
        have hN2 := turned_next g len (4 + j) L x t _ hs.1 hb (by omega) hk4 hk8 hx (by omega) (by omega) (r3.set (4 + j) (bits .xor .u8 x t))
        have b4' : Below w.heap.size w (w3.setCell ⟨g, 4 + j, none⟩ (.int .u8 (bits .xor .u8 x t))) := b3'.setCell (p := ⟨g, 4 + j, none⟩) hgw _
        refine hN2.mono ?_
        rintro e w5 ⟨v5, u5, E, rfl, b5, h0, h1⟩
        have b5' := bnext b4' b5
        clear hN2 b4' b5 r3 b3' hc3 hf3
        by_cases ht0 : t = 0
        · obtain ⟨rfl, a5, c5, rfl, s5⟩ := h0 ht0
          have hk1 := conv_src s5 c5
          have hk2 := conv_src (hs.below b5') cap
          subst ht0
          clear h0 h1
          go_wp2_with fail
          go_ret
          exact ⟨rfl, b5'⟩
        · obtain ⟨rfl, rfl⟩ := h1 ht0
          have htn : (t == 0) = false := by simp [ht0]
          clear h0 h1
          go_wp2_with fail
          go_ret
          exact ⟨rfl, b5'⟩

namespace frameTurned
open Go.ChangeShapes Go.WideShapes Go.ChangeAt Go.RowKit
open Go.ChangeMaps (open_string shut_string)
set_option linter.unusedVariables false

theorem own : ownKnob Try.prog.godebug = none := by kernel_rfl
theorem laidOut : laidOutB Try.prog = true := by kernel_rfl

set_option maxRecDepth 100000 in
theorem lifted (os : Os) (started : os.Started) (H : Type) (enc : TypeId × Value → H) :
    ReturnsInHanded {} Try.checked os 7 .any (Rows.frameTurnedSpec.pre6 enc Try.prog Try.f7 Rows.frameTurnedRow.domain false) (Rows.frameTurnedSpec.post enc Try.prog Try.f7 false true false false) := by
  refine returnsInHanded_of_change (C := Try.checked) own started (by kernel_rfl) Try.func7
    (ChangeSpec.witness6 (enc := enc) (C := Try.checked) false ⟨#[], #[.slice none 0 0, .int .i64 0, .int .u8 0, .int .i64 0], []⟩ 8 (by kernel_rfl) (by kernel_rfl) (by kernel_rfl) (by kernel_rfl)) ?_
  intro W base args ds gs before hval0 hW hcnd _
  have hval : ∀ (j : Nat) t v, Try.f7.params[j]? = some t → args[j]? = some v → Value.okWide Try.prog W .any base t v := hval0
  have hW' := hW
  obtain ⟨p, q, hA0, hV, rfl, hfz, hnd⟩ := hW
  have hA : DataW.TrodAll enc Try.prog W 0 (fun _ => true) true Try.f7.params.toList args.toList ds p := hA0
  rw [Try.params7] at hA hval
  obtain ⟨v0, vs0, d0, ds0, p0, q0, hargs, rfl, rfl, h0, r0⟩ := trodAll_cons hA
  obtain ⟨v1, vs1, d1, ds1, p1, q1, rfl, rfl, rfl, h1, r1⟩ := trodAll_cons r0
  obtain ⟨v2, vs2, d2, ds2, p2, q2, rfl, rfl, rfl, h2, r2⟩ := trodAll_cons r1
  obtain ⟨v3, vs3, d3, ds3, p3, q3, rfl, rfl, rfl, h3, r3⟩ := trodAll_cons r2
  obtain ⟨rfl, rfl, rfl⟩ := trodAll_nil r3
  obtain rfl : args = #[v0, v1, v2, v3] := by cases args; simp_all
  obtain ⟨rfl, rfl⟩ := trodVars_none hV
  obtain ⟨a0, len0, cap0, rfl⟩ := okWide_slice Try.underlying22 (hval 0 22 v0 rfl rfl)
  obtain ⟨x1, rfl, w1⟩ : ∃ n, v1 = .int .i64 n ∧ (Lit.int .i64 n).wf = true := by
    obtain ⟨n, e, _, _, h⟩ := open_int Try.underlying3 (hval 1 3 v1 rfl rfl) h1
    exact ⟨n, e, h⟩
  obtain ⟨x2, rfl, w2⟩ : ∃ n, v2 = .int .u8 n ∧ (Lit.int .u8 n).wf = true := by
    obtain ⟨n, e, _, _, h⟩ := open_int Try.underlying5 (hval 2 5 v2 rfl rfl) h2
    exact ⟨n, e, h⟩
  obtain ⟨x3, rfl, w3⟩ : ∃ n, v3 = .int .i64 n ∧ (Lit.int .i64 n).wf = true := by
    obtain ⟨n, e, _, _, h⟩ := open_int Try.underlying3 (hval 3 3 v3 rfl rfl) h3
    exact ⟨n, e, h⟩
  have k0 := h0
  have k1 := h1
  have k2 := h2
  have k3 := h3
  have lt0 : ∀ x ∈ p0, x.block < W.heap.size := by obtain ⟨m, hm⟩ := k0; exact DataW.trod_lt m _ _ _ hm
  have lt1 : ∀ x ∈ p1, x.block < W.heap.size := by obtain ⟨m, hm⟩ := k1; exact DataW.trod_lt m _ _ _ hm
  have lt2 : ∀ x ∈ p2, x.block < W.heap.size := by obtain ⟨m, hm⟩ := k2; exact DataW.trod_lt m _ _ _ hm
  have lt3 : ∀ x ∈ p3, x.block < W.heap.size := by obtain ⟨m, hm⟩ := k3; exact DataW.trod_lt m _ _ _ hm
  obtain ⟨z0, w0⟩ : ∃ zs, IsRow .u8 W a0 len0 cap0 zs := by
    obtain ⟨fuel, hf⟩ := h0
    rcases open_ints Try.underlying22 Try.underlying5 (by kernel_rfl) hf with ⟨hcs, _⟩ | ⟨x, l, c, zs, hcs, _, hl, hm, hz, _, hcell, hwz⟩
    · simp [Value.cells] at hcs
      obtain ⟨rfl, rfl, rfl⟩ := hcs
      exact ⟨[], .inl ⟨rfl, rfl, rfl, rfl⟩⟩
    · simp [Value.cells] at hcs
      obtain ⟨rfl, rfl, rfl⟩ := hcs
      exact ⟨zs, .inr ⟨_, rfl, hl, hm, by simpa using hz, hcell, hwz⟩⟩
  clear hA0 hval0
  refine (frameTurned_walk a0 len0 cap0 z0 x1 x2 x3 W w0 w1 w2 w3).mono fun e W' ⟨he, bel⟩ => ?_
  subst he
  exact ⟨_, rfl, _, _, _, [], _, [], hW', trodAll_mk1 (shut_bool Try.underlying4 _),
    (trodAll_cons_mk (Below.trod laidOut (by kernel_rfl) (of_decide_eq_true (by kernel_rfl)) k0 bel lt0) (trodAll_cons_mk (Below.trod laidOut (by kernel_rfl) (of_decide_eq_true (by kernel_rfl)) k1 bel lt1) (trodAll_cons_mk (Below.trod laidOut (by kernel_rfl) (of_decide_eq_true (by kernel_rfl)) k2 bel lt2) (trodAll_cons_mk (Below.trod laidOut (by kernel_rfl) (of_decide_eq_true (by kernel_rfl)) k3 bel lt3) trodAll_mk0)))), rfl, bel.frame _, fun h => by cases h⟩

theorem over : Rows.frameTurnedRow.holds Try.pinned (OpenSpec.ofChange Rows.frameTurnedSpec) :=
  OpenClaim.holds_of_wide 7 Try.f7 rfl rfl rfl rfl rfl rfl rfl ⟨rfl, rfl, rfl, rfl, rfl⟩ rfl rfl rfl rfl rfl (by kernel_rfl) Try.func7 (by kernel_rfl)
    (of_decide_eq_true (by kernel_rfl)) (by unfold Func.isWrapper; first | (rw [if_pos (by decide +kernel)]; kernel_rfl) | (rw [if_neg (by decide +kernel)]; exact ⟨rfl, rfl⟩))
    (fun os started H enc _ => lifted os started H enc)

end frameTurned

/-- The statement. -/
theorem frameTurned_holds : Rows.FrameTurnedSaid := frameTurned.over
#print axioms frameTurned_holds
end Go.Proofs.Ytajopapcknnfoaa
