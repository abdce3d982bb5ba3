/- The calls of the program and of the reference on vectors, each in one form: what is answered holds, and what was there stays. -/
import Derived.Test.YtliahpjlmgplkaaVArg
namespace Go.Proofs.Ytliahpjlmgplkaa
open Go.RowKit

section
variable {a a' : Option Addr} {n c n' c' : Nat} {A B : List Dt} {w : World}
theorem c_join (hs : PS w a n c A) (hn : n ≤ 1000000) (hA : VM A) (hs' : PS w a' n' c' B) (hn' : n' ≤ 1000000) (hB : VM B) : Calls Try.prog 20 #[.slice a n c, .slice a' n' c'] w (Ans w (vjoin A B)) := (join_any hs hn hs' hn' hA hB).mono fun _ _ h => h.ans
theorem c_meet (hs : PS w a n c A) (hn : n ≤ 1000000) (hA : VM A) (hs' : PS w a' n' c' B) (hn' : n' ≤ 1000000) (hB : VM B) : Calls Try.prog 22 #[.slice a n c, .slice a' n' c'] w (Ans w (vmeet A B)) := (meet_any hs hn hs' hn' hA hB).mono fun _ _ h => h.ans
theorem c_rjoin (hs : PS w a n c A) (hn : n ≤ 1000000) (hA : VM A) (hs' : PS w a' n' c' B) (hn' : n' ≤ 1000000) (hB : VM B) : Calls Try.prog 21 #[.slice a n c, .slice a' n' c', .bool false] w (Ans w (vjoin A B)) := (rjoin_any hs hn hs' hn' hA hB).mono fun _ _ h => h.ans
theorem c_rmeet (hs : PS w a n c A) (hn : n ≤ 1000000) (hA : VM A) (hs' : PS w a' n' c' B) (hn' : n' ≤ 1000000) (hB : VM B) : Calls Try.prog 21 #[.slice a n c, .slice a' n' c', .bool true] w (Ans w (vmeet A B)) := (rmeet_any hs hn hs' hn' hA hB).mono fun _ _ h => h.ans
theorem c_with (d : Dt) (hs : PS w a n c A) (hn : n ≤ 1000000) (hA : VM A) : Calls Try.prog 23 #[.slice a n c, dv d] w (Ans w (vwith A d)) := (with_any d hs hn hA).mono fun _ _ h => h.ans
theorem c_missing {m : Int} (hs : PS w a n c A) (hn : n ≤ 1000000) (hA : VM A) (hs' : PS w a' n' c' B) (hn' : n' ≤ 1000000) (hB : VM B) (hm : m ≤ 1000000) : Calls Try.prog 29 #[.slice a n c, .slice a' n' c', .int .i64 m] w (Ans w ((mss A B).take m.toNat)) := (missing_any hs hn hs' hn' hA hB hm).mono fun _ _ h => h.ans
theorem c_rmissing {m : Int} (hs : PS w a n c A) (hn : n ≤ 1000000) (hA : VM A) (hs' : PS w a' n' c' B) (hn' : n' ≤ 1000000) (hB : VM B) (hm : m ≤ 1000000) : Calls Try.prog 30 #[.slice a n c, .slice a' n' c', .int .i64 m] w (Ans w ((mss A B).take m.toNat)) := (rmissing_any hs hn hs' hn' hA hB hm).mono fun _ _ h => h.ans

/-- A call tells something; what was there stays. -/
theorem Tells.b {f : FuncId} {args : Array Value} {v : Value} (h : Tells f args w v) : Calls Try.prog f args w fun e w' => e = .returned v ∧ RowKit.Below w.heap.size w w' := h.mono fun _ _ ⟨he, hf⟩ => ⟨he, hf.below⟩

theorem c_rsame (hs : PS w a n c A) (hn : n ≤ 1000000) (hs' : PS w a' n' c' B) (hn' : n' ≤ 1000000) (h : A = B) : Calls Try.prog 19 #[.slice a n c, .slice a' n' c'] w fun e w' => e = .returned (.bool true) ∧ RowKit.Below w.heap.size w w' := by
  have := (rsame_any hs hn hs' hn').b
  rw [decide_eq_true h] at this
  exact this
theorem c_rsame3 (hs : PS w a n c A) (hn : n ≤ 1000000) (hs' : PS w a' n' c' B) (hn' : n' ≤ 1000000) (h : A = B) : Calls Try.prog 28 #[.slice a n c, .slice a' n' c'] w fun e w' => e = .returned (.bool true) ∧ RowKit.Below w.heap.size w w' := by
  have := (rsame3_any hs hn hs' hn').b
  rw [decide_eq_true h] at this
  exact this
theorem c_same (hs : PS w a n c A) (hn : n ≤ 1000000) (hs' : PS w a' n' c' B) (hn' : n' ≤ 1000000) (h : A = B) : Calls Try.prog 27 #[.slice a n c, .slice a' n' c'] w fun e w' => e = .returned (.bool true) ∧ RowKit.Below w.heap.size w w' := by
  have := (same_any hs hn hs' hn').b
  rw [decide_eq_true h] at this
  exact this
theorem c_below (hs : PS w a n c A) (hn : n ≤ 1000000) (hA : VM A) (hs' : PS w a' n' c' B) (hn' : n' ≤ 1000000) (hB : VM B) (h : ∀ y, gt A y ≤ gt B y) : Calls Try.prog 25 #[.slice a n c, .slice a' n' c'] w fun e w' => e = .returned (.bool true) ∧ RowKit.Below w.heap.size w w' := by
  have := (below_any hs hn hs' hn' hA hB).b
  rw [(belv_iff hA hB).2 h] at this
  exact this
theorem c_may (hs : PS w a n c A) (hn : n ≤ 1000000) (hA : VM A) : Calls Try.prog 11 #[.slice a n c] w fun e w' => e = .returned (.bool true) ∧ RowKit.Below w.heap.size w w' := by
  have := (vmay_any a n c A w hs hn).b
  rw [(vmb_iff A).2 hA] at this
  exact this
end

end Go.Proofs.Ytliahpjlmgplkaa
