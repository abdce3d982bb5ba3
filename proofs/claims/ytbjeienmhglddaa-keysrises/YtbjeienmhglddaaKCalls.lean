/- The calls of a statement in one form each: what Between and May tell, under a name. -/
import Derived.Test.YtbjeienmhglddaaKAwake
namespace Go.Proofs.Ytbjeienmhglddaa
open Go.RowKit

theorem ex_str (l : Bs) : ∃ k : ByteArray, k.toList = l := ⟨⟨l.toArray⟩, ByteArray.toList_mk l⟩
theorem str_inj {s t : ByteArray} (h : s.toList = t.toList) : s = t := by rw [str_of h, ← str_of (rfl : t.toList = t.toList)]

theorem between_is {a b k : ByteArray} {x : Int} (hk : k.toList = btw a.toList b.toList) (hx : er (btw a.toList b.toList) = x) (ha : a.size ≤ maxLen) (hb : b.size ≤ maxLen) (w : World) :
    Calls Try.prog 10 #[.string a, .string b] w fun e w' => e = .returned (.tuple #[.string k, .int .i64 x]) ∧ Below w.heap.size w w' := by
  rw [← hx]
  exact (between_any a b w ha hb).mono fun e w' ⟨s, h1, h2, h3⟩ => ⟨by rw [h1, str_inj (h2.trans hk.symm)], h3⟩
theorem may_is {a : ByteArray} {x : Bool} (hx : kyb a.toList = x) (ha : a.size ≤ maxLen) (w : World) : Calls Try.prog 12 #[.string a] w fun e w' => e = .returned (.bool x) ∧ w = w' := by
  rw [← hx]; exact may_any a w ha

theorem btw_len (a b : Bs) : (btw a b).length ≤ 200 := by
  by_cases h : btw a b = []
  · rw [h]; simp
  · exact (btw_says h).2.1.len
theorem btw_size {a b : Bs} {k : ByteArray} (hk : k.toList = btw a b) : k.size ≤ maxLen := by
  have := btw_len a b
  rw [← hk, tl_length] at this
  unfold maxLen; omega
end Go.Proofs.Ytbjeienmhglddaa
