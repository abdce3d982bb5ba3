/- The first look of every statement of this layer answers true. -/
import Derived.Test.YtbjeienmhglddaaKBtw
namespace Go.Proofs.Ytbjeienmhglddaa
open Go.RowKit

theorem str_of {s : ByteArray} {l : Bs} (h : s.toList = l) : s = ⟨l.toArray⟩ := by
  rw [ByteArray.toList_eq] at h
  subst h
  cases s
  simp

/-- Between at texts that are known. -/
theorem between_at (a b k : Bs) (x : Int) (hk : btw a b = k) (hx : er k = x) (ha : a.length ≤ 1000) (hb : b.length ≤ 1000) (w : World) :
    Calls Try.prog 10 #[.string ⟨a.toArray⟩, .string ⟨b.toArray⟩] w fun e w' => e = .returned (.tuple #[.string ⟨k.toArray⟩, .int .i64 x]) ∧ Below w.heap.size w w' := by
  have h := between_any ⟨a.toArray⟩ ⟨b.toArray⟩ w (by unfold maxLen; simp [ByteArray.size]; omega) (by unfold maxLen; simp [ByteArray.size]; omega)
  rw [ByteArray.toList_mk, ByteArray.toList_mk, hk, hx] at h
  exact h.mono fun e w' ⟨s, h1, h2, h3⟩ => ⟨by rw [h1, str_of h2], h3⟩
theorem may_at (a : Bs) (x : Bool) (hx : kyb a = x) (ha : a.length ≤ 1000) (w : World) : Calls Try.prog 12 #[.string ⟨a.toArray⟩] w fun e w' => e = .returned (.bool x) ∧ w = w' := by
  have h := may_any ⟨a.toArray⟩ w (by unfold maxLen; simp [ByteArray.size]; omega)
  rw [ByteArray.toList_mk, hx] at h
  exact h

set_option maxHeartbeats 2000000 in
theorem awake_any (w : World) : Calls Try.prog 9 #[] w fun e w' => e = .returned (.bool true) ∧ RowKit.Below w.heap.size w w' := by
  have h1 := between_at [] [] [110] 0 (by decide +kernel) (by decide) (by decide) (by decide)
  have h2 := between_at [98] [98, 98] [98, 97, 110] 0 (by decide +kernel) (by decide) (by decide) (by decide)
  have h3 := between_at [99] [98] [] 43 (by decide +kernel) (by decide) (by decide) (by decide)
  have m1 := may_at [98] true (by decide +kernel) (by decide)
  have m2 := may_at [98, 97] false (by decide +kernel) (by decide)
  have t1 := ByteArray.toList_mk [110]
  have t2 := ByteArray.toList_mk [98, 97, 110]
  go_enter Try.func9, Try.ntmps9
  go_wp2_with (first
    | (go_at_call_of 10 (Value.string ⟨#[98, 98]⟩); refine (h2 _).mono ?_; rintro e w2 ⟨rfl, b2⟩)
    | (go_at_call_of 10 (Value.string ⟨#[99]⟩); refine (h3 _).mono ?_; rintro e w3 ⟨rfl, b3⟩)
    | (go_at_call_of 10 (Value.string ⟨#[]⟩); refine (h1 _).mono ?_; rintro e w1 ⟨rfl, b1⟩)
    | (go_at_call_of 12 (Value.string ⟨#[98]⟩); refine (m1 _).mono ?_; rintro e w' ⟨rfl, rfl⟩)
    | (go_at_call_of 12 (Value.string ⟨#[98, 97]⟩); refine (m2 _).mono ?_; rintro e w' ⟨rfl, rfl⟩))
  go_ret
  exact ⟨rfl, below2 (below2 b1 b2) b3⟩
end Go.Proofs.Ytbjeienmhglddaa
