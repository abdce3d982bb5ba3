/- Right: what it tells. -/
import Derived.Test.YtoapblojoblhiaaGreatQOrder
import Derived.Test.YtoapblojoblhiaaGreatCLater
namespace Go.Proofs.YtoapblojoblhiaaGreat
open Go.RowKit

/-- Some order in which operations are taken in, and what is told of them. -/
def Taken (L : List Mop) (R : List Mo) (T : List Nat) : Prop := UpO R ∧ (R.map Mo.m).Perm (cnt L) ∧ (∀ x ∈ R, x.o.Fits ∧ Dws x.V) ∧ Ch (R.map Mo.V) (R.map (fun x => x.o.id)) T ∧ nxt (R.map Mo.V) (R.map (fun x => x.o.id)) T = none

theorem order_taken (a : Option Addr) (n c : Nat) (L : List Mo) (w : World) (hs : OS w a n c L) (hF : ∀ x ∈ L, x.o.Fits ∧ Dws x.V ∧ x.n ≤ 1000000) (hn : n ≤ 1000) :
    Calls Tryz.prog 8 #[.slice a n c] w fun e w' => ∃ (R : List Mo) (T : List Nat) (a1 : Option Addr) (c1 : Nat) (a2 : Option Addr) (c2 : Nat), e = .returned (.tuple #[.slice a1 T.length c1, .slice a2 (lf R T).length c2]) ∧ Taken (L.map Mo.m) R T ∧ OS w' a1 T.length c1 (inL R T) ∧ OS w' a2 (lf R T).length c2 (lf R T) ∧ RowKit.Below w.heap.size w w' :=
  (order8_any a n c L w hs hF hn).mono fun _ _ ⟨R, T, a1, c1, a2, c2, h1, h2, h3, h4, h5, h6, h7, h8, h9⟩ => ⟨R, T, a1, c1, a2, c2, h1, ⟨h2, h3, h4, h5, h6⟩, h7, h8, h9⟩

/-- Each operation's Deps are not too many. -/
theorem taken_few {L : List Mo} {w : World} {a : Option Addr} {n c : Nat} (hs : OS w a n c L) (hF : ∀ x ∈ L, x.o.Fits ∧ Dws x.V ∧ x.n ≤ 1000000) {R : List Mo} {T : List Nat} (ht : Taken (L.map Mo.m) R T) {x : Mo} (hx : x ∈ R) : x.V.length ≤ 1000000 := by
  have h1 := cnt_sub (ht.2.1.mem_iff.1 (List.mem_map.2 ⟨x, hx, rfl⟩))
  obtain ⟨y, hy, hye⟩ := List.mem_map.1 h1
  have h2 := (hs.deps y hy).len
  have h4 := (hF y hy).2.2
  have h5 : y.V = x.V := congrArg Prod.snd hye
  rw [← h5, h2]
  exact h4

set_option maxRecDepth 100000 in
set_option maxHeartbeats 1000000 in
theorem right_any (a : Option Addr) (n c : Nat) (L : List Mo) (w : World) (hs : OS w a n c L) (hF : ∀ x ∈ L, x.o.Fits ∧ Dws x.V ∧ x.n ≤ 1000000) (hn : n ≤ 1000) :
    Calls Tryz.prog 11 #[.slice a n c] w fun e w' => ∃ (R : List Mo) (T : List Nat), e = .returned (.bool (decide (T.length = n) && latF (fun _ => none) ((inL R T).map Mo.m))) ∧ Taken (L.map Mo.m) R T ∧ RowKit.Below w.heap.size w w' := by
  have hO := order_taken a n c L w hs hF hn
  have hfew := fun (R : List Mo) (T : List Nat) (ht : Taken (L.map Mo.m) R T) (x : Mo) (hx : x ∈ R) => taken_few hs hF ht hx
  have Hfew := hid hfew
  clear hfew hF
  go_enter Tryz.func11, Tryz.ntmps11
  go_upto_region 2 with (first
    | (go_at_call 8; refine hO.mono ?_; rintro e w1 ⟨R, T, a1, c1, a2, c2, rfl, hT, hos1, hos2, hB1⟩))
  have hLt := fun W (h : RowKit.Below w1.heap.size w1 W) => later_any a1 T.length c1 (inL R T) W (hos1.below h) (fun x hx => ⟨(hT.2.2.1 x (inL_mem hx)).1, (hT.2.2.1 x (inL_mem hx)).2, by have h1 := (hos1.deps x hx).len; have h2 := Hfew.out R T hT x (inL_mem hx); omega⟩) (by
    have h1 : T.length ≤ R.length := by
      have := List.Nodup.length_le_of_subset hT.2.2.2.1.nodup (fun x hx => List.mem_range.2 (hT.2.2.2.1.lt hx))
      simpa using this
    have h2 := hT.2.1.length_eq
    have h3 := cnt_len (L.map Mo.m)
    have h4 := hs.len
    simp at h2 h3
    omega)
  by_cases hl : T.length = n
  · have hb : ((T.length : Int) == (n : Int)) = true := by simp [hl]
    have hL0 := hLt w1 (Below.refl _ _)
    have HT := hid hT
    have HL := hid hl
    clear hLt hl hT
    go_wp2_with (first
      | (go_at_call 28; refine hL0.mono ?_; rintro e w2 ⟨rfl, hB2⟩))
    go_ret
    refine ⟨R, T, ?_, HT.out, below2 hB1 hB2⟩
    rw [HL.out]
    simp
  · have hb : ((T.length : Int) == (n : Int)) = false := by simp; omega
    have HT := hid hT
    have HL := hid hl
    clear hLt hl hT
    go_wp2
    go_ret
    refine ⟨R, T, ?_, HT.out, hB1⟩
    have := HL.out
    simp [this]
end Go.Proofs.YtoapblojoblhiaaGreat
