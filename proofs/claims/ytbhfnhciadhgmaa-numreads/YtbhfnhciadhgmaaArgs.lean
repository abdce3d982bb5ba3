/- Bytes that came in, as the walks are told of them; a slice of bytes as a string. -/
import Derived.Test.YtbhfnhciadhgmaaAwake
import Derived.Test.YtbhfnhciadhgmaaBack
import Derived.OpenShut
namespace Go.Proofs.Ytbhfnhciadhgmaa
open Go.RowKit

/-- A slice of integers that came in: it is nil, or leads to a row of 'cap' numbers, each fitting its kind, of which the first 'len' are its elements. -/
def IsRow (k : IntKind) (w : World) (a : Option Addr) (len cap : Nat) (zs : List Int) : Prop :=
  (a = none ∧ len = 0 ∧ cap = 0 ∧ zs = []) ∨
  ∃ x, a = some x ∧ len ≤ cap ∧ cap ≤ maxLen ∧ zs.length = cap ∧ (∀ i, i < zs.length → w.cell? (x.add i) = some (.int k (zs.getD i 0))) ∧ ∀ n ∈ zs, (Lit.int k n).wf = true

theorem IsRow.src {w : World} {a : Option Addr} {len cap : Nat} {zs : List Int} (h : IsRow .u8 w a len cap zs) :
    Src w a len (zs.take len) ∧ Bts (zs.take len) ∧ len ≤ cap ∧ cap ≤ 9223372036854775807 := by
  rcases h with ⟨rfl, rfl, rfl, rfl⟩ | ⟨x, rfl, hl, hm, hz, hcell, hwz⟩
  · exact ⟨⟨rfl, fun h => absurd h (by omega)⟩, fun x hx => by simp at hx, Nat.le_refl _, by omega⟩
  · refine ⟨⟨by rw [List.length_take, hz]; omega, fun _ => ⟨x, rfl, fun j v hj => ?_⟩⟩, fun n hn => ?_, hl, by unfold maxLen at hm; omega⟩
    · have hlt : j < len := by
        rcases Nat.lt_or_ge j len with h | h
        · exact h
        · rw [List.getElem?_eq_none (by rw [List.length_take]; omega)] at hj; simp at hj
      rw [List.getElem?_take_of_lt hlt] at hj
      have := hcell j (by omega)
      rw [List.getD, hj] at this
      exact this
    · have hw := hwz n (List.mem_of_mem_take hn)
      have := bounds_u8 hw
      omega

theorem src_block {w : World} {a : Option Addr} {len : Nat} {L : List Int} (h : Src w a len L) : ∀ ad, 0 < len → a = some ad → ad.block < w.heap.size := by
  intro ad hp ha
  obtain ⟨ad', ha', hc⟩ := h.2 hp
  rw [ha] at ha'
  obtain rfl := Option.some.inj ha'
  have h0 := hc 0 (L[0]'(by rw [h.1]; exact hp)) (List.getElem?_eq_getElem _)
  have := cell_block h0
  have hb : (ad.add 0).block = ad.block := by unfold Addr.add; split <;> rfl
  rw [hb] at this
  exact this

theorem conv_src {w : World} {a : Option Addr} {n : Nat} {L : List Int} (h : Src w a n L) (cap : Nat) : (convert 22 9 (.slice a n cap)).run Try.prog w = .ok (.string (strOfNums L)) w := by
  by_cases hp : 0 < n
  · obtain ⟨g, off, rfl, hc⟩ := h.flat hp
    exact run_convert_bytes_arg (P := Try.prog) w 22 5 Try.underlying22 Try.underlying5 g off n cap L h.1 (fun i hi => hc i hi) 9 Try.underlying9
  · obtain rfl : n = 0 := by omega
    obtain rfl : L = [] := List.eq_nil_of_length_eq_zero h.1
    rw [run_convert_bytes_string w 22 9 5 a 0 cap Try.underlying22 Try.underlying5 Try.underlying9]
    cases a <;> simp [Conv.bytesToString, loadCells] <;> rfl

/-- The address of a slice of some bytes lies in one block, which the reader's is not. -/
theorem rdr_of {w : World} {b n cap : Nat} {a : Option Addr} {L : List Int} (hr : Rd w b (.slice a n cap) 0) (hs : Src w a n L) (hc : n ≤ cap) (hcap : cap ≤ 9223372036854775807) (hB : Bts L) (hlt : ∀ ad, 0 < n → a = some ad → ad.block < b) : ∃ z, Rdr w b z L 0 := by
  by_cases hp : 0 < n
  · obtain ⟨g, off, rfl, _⟩ := hs.flat hp
    have := hlt _ hp rfl
    exact ⟨g, _, n, cap, hr, hs, hc, hcap, ⟨fun ad _ h => by simp at h; subst h; rfl, by simp at this; omega⟩, hB, fun h => absurd rfl h⟩
  · exact ⟨b + 1, _, n, cap, hr, hs, hc, hcap, ⟨fun ad h _ => absurd h hp, by omega⟩, hB, fun h => absurd rfl h⟩

end Go.Proofs.Ytbhfnhciadhgmaa
