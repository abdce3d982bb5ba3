/- Same, of three makes, and Count: what they tell. -/
import Derived.Test.YtboaofaileafdaaVGet
namespace Go.Proofs.Ytboaofaileafdaa
open Go.RowKit
open Go.Sort (grow)

theorem PS.drewN {w : World} {a : Option Addr} {n c : Nat} {L : List Dt} (h : PS w a n c L) (q : Nat) : PS (w.drewN q) a n c L :=
  ⟨h.len, h.cap, h.max, h.nil, h.cells⟩

theorem drew_more {w wr : World} (h : ∃ q, wr = w.drewN q) (n : Nat) : ∃ q, wr.drewN n = w.drewN q := by
  obtain ⟨q, rfl⟩ := h
  exact ⟨_, World.drewN_drewN _ _ _⟩

theorem far_of_drew {w w' : World} (h : ∃ q, w' = w.drewN q) : Far w w' := by
  obtain ⟨q, rfl⟩ := h
  exact (Far.refl w).drewN q

section
variable {a a' : Option Addr} {n c n' c' : Nat} {L M : List Dt} {w : World}
end

theorem VM.take {L : List Dt} (h : VM L) (k : Nat) : VM (L.take k) := ⟨h.ac.sublist (List.take_sublist k L), fun d hd => h.may d (List.mem_of_mem_take hd)⟩


end Go.Proofs.Ytboaofaileafdaa
