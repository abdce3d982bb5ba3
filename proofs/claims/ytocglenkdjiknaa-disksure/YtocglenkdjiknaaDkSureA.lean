/- DiskSure: its arguments. -/
import Derived.Test.YtocglenkdjiknaaDkSureW
set_option linter.unusedVariables false
set_option linter.unusedSimpArgs false
namespace Go.Proofs.Ytocglenkdjiknaa
open Go.RowKit Go.Sort Go.Maps

theorem sure_walk {w : World} (a0 : Option Addr) (len0 cap0 : Nat) (z0 : List Int) (h0 : IsRow .u8 w a0 len0 cap0 z0) (sure : Bool) (a2 : Option Addr) (len2 cap2 : Nat) (R : List (List Int)) (h2 : RSrc w a2 len2 R ∧ (∀ B ∈ R, Bts B) ∧ (∀ B ∈ R, B.length ≤ 9223372036854775807) ∧ len2 ≤ 9223372036854775807) (n : Int) (hn : (Lit.int .i64 n).wf = true) (p : Int) (hp : (Lit.int .i64 p).wf = true) (q : Int) (hq : (Lit.int .i64 q).wf = true) :
    Calls Try.prog 4 #[.slice a0 len0 cap0, .bool sure, .slice a2 len2 cap2, .int .i64 n, .int .i64 p, .int .i64 q] w fun e w' => e = .returned (.bool true) ∧ Below w.heap.size w w' := by
  obtain ⟨s0, b0, c0, d0⟩ := h0.src
  have n0 := row_none h0
  obtain ⟨L0, hL0⟩ : ∃ L, L = z0.take len0 := ⟨_, rfl⟩
  rw [← hL0] at s0 b0
  clear hL0 h0
  obtain rfl : len0 = L0.length := s0.1.symm
  obtain ⟨s2, b2, _, _⟩ := h2
  obtain rfl : len2 = R.length := s2.1.symm
  exact sure_walk0 a0 a2 cap0 cap2 L0 R sure n p q w s0 b0 ⟨c0, by unfold maxLen; omega⟩ n0 s2 b2 (by have := bounds_i64 hn; omega) (by have := bounds_i64 hp; omega) (by have := bounds_i64 hq; omega)
end Go.Proofs.Ytocglenkdjiknaa
