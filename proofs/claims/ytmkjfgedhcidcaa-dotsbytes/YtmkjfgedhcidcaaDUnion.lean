/- Union: what is in one of both rows, rising, in new memory. -/
import Derived.Test.YtmkjfgedhcidcaaDConc
import Derived.Test.YtmkjfgedhcidcaaDSort
import Derived.WalkKit
import Derived.WalkSpells
import Derived.WalkLawsBesides
namespace Go.Proofs.Ytmkjfgedhcidcaa
open Go.RowKit Go.Maps

theorem cell_new0 (w : World) (x y : Value) (T : TypeId) : (w.alloc (.cells #[x, y] T)).cell? ⟨w.heap.size, 0, none⟩ = some x := by simp
theorem cell_new1 (w : World) (x y : Value) (T : TypeId) : (w.alloc (.cells #[x, y] T)).cell? ⟨w.heap.size, 1, none⟩ = some y := by simp

set_option maxHeartbeats 1000000 in
theorem union_any (a : Option Addr) (n c : Nat) (L : List Dt) (a' : Option Addr) (n' c' : Nat) (M : List Dt) (w : World) (hs : PS w a n c L) (hd : Dws L) (hn : n ≤ 400000) (hs' : PS w a' n' c' M) (hd' : Dws M) (hn' : n' ≤ 400000) :
    Calls Try.prog 16 #[.slice a n c, .slice a' n' c'] w (Gives w (uni L M)) := by
  have hb0 : RowKit.Below w.heap.size w (w.alloc (.cells #[.slice a n c, .slice a' n' c'] 28)) := (Below.refl _ w).alloc (Nat.le_refl _) _
  have hc := concat_any a n c L a' n' c' M w.heap.size _ (hs.below hb0) (by omega) (hs'.below hb0) (by omega) (cell_new0 w _ _ 28) (cell_new1 w _ _ 28)
  have hll : (L ++ M).length = n + n' := by rw [List.length_append, hs.len, hs'.len]
  have hh := hid hll
  clear hll hs hs'
  go_enter Try.func16, Try.ntmps16
  go_wp2_with (first
    | (go_at_call 14; refine (rising_any sortSays aa (n + n') cc (L ++ M) w1 hps (hd.append hd') (by omega)).mono ?_; rintro e w2 ⟨g, c2, rfl, ho2, b2⟩)
    | (go_at_call 32; refine hc.mono ?_; rintro e w1 ⟨v, rfl, ho, b1⟩; obtain ⟨aa, cc, rfl, hps⟩ := owned_ps ho hh.out))
  go_ret
  have hb1 : RowKit.Below w.heap.size w w1 := below2 hb0 b1
  exact ⟨g, c2, rfl, ho2.base hb1.size, below2 hb1 b2⟩

end Go.Proofs.Ytmkjfgedhcidcaa
