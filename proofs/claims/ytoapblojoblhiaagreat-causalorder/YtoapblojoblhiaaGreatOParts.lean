/- What a kind has, by the switch; whether an operation is empty where its kind has nothing. -/
import Derived.Test.YtoapblojoblhiaaGreatOHead
import Derived.Deep.CutBlock
import Derived.Deep.CutRange
namespace Go.Proofs.YtoapblojoblhiaaGreat
open Go.RowKit
open Go.Sort (grow)

/-- What a kind has, as a value. -/
abbrev pv (k : Int) : Value := .agg #[.bool (pat k), .bool (pch k), .bool (ppl k)]

theorem root_any (w : World) : Tells 17 #[] w (dv (0, -1)) := by
  go_enter Tryz.func17, Tryz.ntmps17
  go_wp2
  exact bodyPost_ret (v := dv (0, -1)) (by simp [results, Tryz.results17, go_sem]) rfl ⟨rfl, (Far.refl w).alloc _⟩

theorem trash_any (w : World) : Tells 18 #[] w (dv (0, -2)) := by
  go_enter Tryz.func18, Tryz.ntmps18
  go_wp2
  exact bodyPost_ret (v := dv (0, -2)) (by simp [results, Tryz.results18, go_sem]) rfl ⟨rfl, (Far.refl w).alloc _⟩

theorem partsOf_any (k : Int) (w : World) : Tells 75 #[.int .i64 k] w (pv k) := by
  by_cases h1 : k = 1
  · subst h1
    go_enter Tryz.func75, Tryz.ntmps75
    go_wp2
    exact bodyPost_ret (v := pv 1) (by simp [results, Tryz.results75, go_sem, pat, pch, ppl]) rfl ⟨rfl, ((Far.refl w).alloc _).alloc _⟩
  by_cases h2 : k = 2
  · subst h2
    go_enter Tryz.func75, Tryz.ntmps75
    go_wp2
    exact bodyPost_ret (v := pv 2) (by simp [results, Tryz.results75, go_sem, pat, pch, ppl]) rfl ⟨rfl, ((Far.refl w).alloc _).alloc _⟩
  by_cases h3 : k = 3
  · subst h3
    go_enter Tryz.func75, Tryz.ntmps75
    go_wp2
    exact bodyPost_ret (v := pv 3) (by simp [results, Tryz.results75, go_sem, pat, pch, ppl]) rfl ⟨rfl, ((Far.refl w).alloc _).alloc _⟩
  go_enter Tryz.func75, Tryz.ntmps75
  go_wp2
  exact bodyPost_ret (v := pv k) (by simp [results, Tryz.results75, go_sem, pat, pch, ppl, h1, h2, h3]) rfl ⟨rfl, ((Far.refl w).alloc _).alloc _⟩

set_option maxRecDepth 100000 in
set_option maxHeartbeats 1000000 in
theorem bare_any (o : OpIn) (v : Value) (w : World) : Tells 61 #[ov o v] w (.bool (barb o)) := by
  have hA := opAt_alloc w o v 36
  have hF := (Far.refl w).alloc (.cells (o.cells v) 36)
  have E4 := hA.c4
  have hP := fun W => partsOf_any o.kind W
  have hb : Hid (barb o = ((pat o.kind || ((o.at0 == 0) && (o.at1 == 0))) && (pch o.kind || ((o.side == 0) && (o.char == 0))) && (ppl o.kind || ((o.pa0 == 0) && (o.pa1 == 0) && o.key.toList.isEmpty)))) := hid rfl
  unfold pv at hP
  generalize pat o.kind = p1 at hP hb
  generalize pch o.kind = p2 at hP hb
  generalize ppl o.kind = p3 at hP hb
  go_enter Tryz.func61, Tryz.ntmps61
  go_wp2_with (first
    | (go_at_call 75; refine (hP _).mono ?_; rintro e w1 ⟨rfl, hF1⟩; have hB := hA.far hF1; have e7 := hB.c7; have e8 := hB.c8; have e9 := hB.c9; have e10 := hB.c10; have e11 := hB.c11; have e12 := hB.c12; have e13 := hB.c13; have hF2 := hF.trans hF1; have hlt := hB.lt; clear hF hF1 hA hP))
  all_goals clear hB E4
  all_goals go_ret
  all_goals (refine ⟨?_, (hF2.alloc _).alloc _⟩; have hb := hb.out; clear e7 e8 e9 e10 e11 e12 e13 hF2 hlt; rw [hb]; simp_all)

end Go.Proofs.YtoapblojoblhiaaGreat
