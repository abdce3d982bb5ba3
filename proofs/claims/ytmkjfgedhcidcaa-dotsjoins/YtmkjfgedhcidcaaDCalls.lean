/- The calls of the program and of the reference on rows of dots, each in one form: what is answered holds, and what was there stays. -/
import Derived.Test.YtmkjfgedhcidcaaDArg
namespace Go.Proofs.Ytmkjfgedhcidcaa
open Go.RowKit

/-- A call answers a slice that holds L. -/
def Ans (w : World) (L : List Dt) (e : Ending) (w' : World) : Prop := ∃ a c, e = .returned (.slice a L.length c) ∧ PS w' a L.length c L ∧ RowKit.Below w.heap.size w w'

theorem Gives.ans {w : World} {L : List Dt} {e : Ending} {w' : World} (h : Gives w L e w') : Ans w L e w' := by
  obtain ⟨g, c, he, ho, hb⟩ := h
  exact ⟨_, c, he, ho.ps rfl, hb⟩

theorem Tels.ans {w : World} {L : List Dt} {e : Ending} {w' : World} (h : Tels w L e w') : Ans w L e w' := by
  obtain ⟨v, he, ⟨a, c, hv, hp⟩, hb⟩ := h
  subst hv
  exact ⟨a, c, he, hp, hb⟩

section
variable {a a' : Option Addr} {n c n' c' : Nat} {L M : List Dt} {w : World}
theorem c_rising (hs : PS w a n c L) (hd : Dws L) (hn : n ≤ 1000) : Calls Try.prog 14 #[.slice a n c] w (Ans w (rise L)) := (rising_any sortSays a n c L w hs hd (by omega)).mono fun _ _ h => h.ans
theorem c_rrising (hs : PS w a n c L) (hn : n ≤ 1000) : Calls Try.prog 15 #[.slice a n c] w (Ans w (rise L)) := (rrising_any a n c L w hs (by omega)).mono fun _ _ h => h.ans
theorem c_union (hs : PS w a n c L) (hd : Dws L) (hn : n ≤ 1000) (hs' : PS w a' n' c' M) (hd' : Dws M) (hn' : n' ≤ 1000) : Calls Try.prog 16 #[.slice a n c, .slice a' n' c'] w (Ans w (uni L M)) :=
  (union_any a n c L a' n' c' M w hs hd (by omega) hs' hd' (by omega)).mono fun _ _ h => h.ans
theorem c_meet (hs : PS w a n c L) (hd : Dws L) (hn : n ≤ 1000) (hs' : PS w a' n' c' M) (hd' : Dws M) (hn' : n' ≤ 1000) : Calls Try.prog 17 #[.slice a n c, .slice a' n' c'] w (Ans w (mee L M)) :=
  (meet_any sortSays a n c L a' n' c' M w hs hd (by omega) hs' hd' (by omega)).mono fun _ _ h => h.ans
theorem c_minus (hs : PS w a n c L) (hd : Dws L) (hn : n ≤ 1000) (hs' : PS w a' n' c' M) (hd' : Dws M) (hn' : n' ≤ 1000) : Calls Try.prog 19 #[.slice a n c, .slice a' n' c'] w (Ans w (mis L M)) :=
  (minus_any sortSays a n c L a' n' c' M w hs hd (by omega) hs' hd' (by omega)).mono fun _ _ h => h.ans
theorem c_both (hs : PS w a n c L) (hn : n ≤ 1000) (hs' : PS w a' n' c' M) (hn' : n' ≤ 1000) : Calls Try.prog 18 #[.slice a n c, .slice a' n' c', .bool true] w (Ans w (mee L M)) := by
  have h := choose_any a n c L a' n' c' M true w hs (by omega) hs' (by omega)
  rw [choose_mee] at h
  exact h.mono fun _ _ h => h.ans
theorem c_one (hs : PS w a n c L) (hn : n ≤ 1000) (hs' : PS w a' n' c' M) (hn' : n' ≤ 1000) : Calls Try.prog 18 #[.slice a n c, .slice a' n' c', .bool false] w (Ans w (mis L M)) := by
  have h := choose_any a n c L a' n' c' M false w hs (by omega) hs' (by omega)
  rw [choose_mis] at h
  exact h.mono fun _ _ h => h.ans
theorem c_same (hs : PS w a n c L) (hn : n ≤ 1000) (hs' : PS w a' n' c' M) (hn' : n' ≤ 1000) (h : L = M) : Calls Try.prog 13 #[.slice a n c, .slice a' n' c'] w fun e w' => e = .returned (.bool true) ∧ RowKit.Below w.heap.size w w' := by
  have k := same_any a n c L a' n' c' M w hs hs' (by omega) (by omega)
  refine k.mono fun e w' ⟨he, q, hw⟩ => ⟨by rw [he, h]; simp, ?_⟩
  rw [hw]
  exact ⟨rfl, rfl, rfl, Nat.le_refl _, fun _ _ => rfl⟩
end

theorem idx_le {d : Dt} : ∀ {l : List Dt} {j : Nat}, l[j]? = some d → l.idxOf d ≤ j
  | [], j, h => by simp at h
  | x :: r, 0, h => by simp at h; simp [h]
  | x :: r, j + 1, h => by
    by_cases hx : x = d
    · simp [hx]
    · have := idx_le (l := r) (j := j) (by simpa using h)
      have e : (x == d) = false := by simpa using hx
      rw [List.idxOf_cons, e]
      show r.idxOf d + 1 ≤ j + 1
      omega

end Go.Proofs.Ytmkjfgedhcidcaa
