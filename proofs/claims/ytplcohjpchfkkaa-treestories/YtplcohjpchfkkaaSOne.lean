/- Stories: one. -/
import Derived.Test.YtplcohjpchfkkaaSOneA
import Derived.Test.YtplcohjpchfkkaaSOneP
import Derived.Test.YtplcohjpchfkkaaSOneQ
import Derived.Test.YtplcohjpchfkkaaSOneR
import Derived.Test.YtplcohjpchfkkaaSStory
namespace Go.Proofs.Ytplcohjpchfkkaa
open Go.RowKit

theorem one_any (a : Option Addr) (n c : Nat) (L : List Mo) (xa : Option Addr) (xn xc : Nat) (V : List Dt) (act : Int) (m : Md) (w : World) (hs : OS w a n c L) (hv : PS w xa xn xc V) (hn : n ≤ 1000) (hxn : xn ≤ 1000000) (hV : VM V) (hm : m.Fits) (ha : F64 act) (hL : ∀ x ∈ L, x.o.Fits ∧ x.o.time ≤ 1099511627776 ∧ 1 ≤ x.o.id0) :
    Calls Try.prog 47 #[.slice a n c, .slice xa xn xc, .int .i64 act, mv m] w fun e w' => ∃ o', e = .returned (ov o' (.slice xa xn xc)) ∧ o'.Fits ∧ o'.id0 = act ∧ o'.id1 = gt V act + 1 ∧ o'.time = latI V L 0 + 1 ∧ KD (L.map Mo.m) o' V ∧ RowKit.Below w.heap.size w w' := by
  by_cases h1 : blkL V L = [] ∨ 1 + absI m.kd % 3 = 3
  · exact one_a_ a n c L xa xn xc V act m w hs hv hn hxn hV hm ha hL h1
  · have h2 : ¬ blkL V L = [] ∧ ¬ 1 + absI m.kd % 3 = 3 := ⟨fun h => h1 (Or.inl h), fun h => h1 (Or.inr h)⟩
    have hb := absI_bounds hm.kd
    by_cases h3 : 1 + absI m.kd % 3 = 1
    · by_cases h5 : absI m.mb % 5 = 0
      · exact one_p a n c L xa xn xc V act m w hs hv hn hxn hV hm ha hL ⟨h2.1, h2.2, h3, h5⟩
      · exact one_q a n c L xa xn xc V act m w hs hv hn hxn hV hm ha hL ⟨h2.1, h2.2, h3, h5⟩
    · have h4 := h2.2
      exact one_r a n c L xa xn xc V act m w hs hv hn hxn hV hm ha hL ⟨h2.1, h2.2, by omega⟩

theorem story_any : StorySays := story_of fun a n c L xa xn xc V act m w hs hv hn hxn hV hm ha hL => one_any a n c L xa xn xc V act m w hs hv hn hxn hV hm ha hL
end Go.Proofs.Ytplcohjpchfkkaa
