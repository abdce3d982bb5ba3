/- Ready, Ahead and Apart, and the reference's Ready: what they tell. -/
import Derived.Test.YtlncokkpdkddlaaGreatORCheck
import Derived.Test.YtlncokkpdkddlaaGreatVMiss
import Derived.Test.YtlncokkpdkddlaaGreatOLess
namespace Go.Proofs.YtlncokkpdkddlaaGreat
open Go.RowKit
open Go.Sort (grow)

/-- Can it be taken in where these are had? -/
def rdyE (V : List Dt) (o : OpIn) (D : List Dt) : Int := if chk o D = false then 30 else if hasv V o.id = true then 32 else if belv D V = false then 31 else 0

theorem chk_vm {o : OpIn} {D : List Dt} (h : chk o D = true) : VM D := by
  unfold chk headb at h
  simp only [Bool.and_eq_true] at h
  exact (vmb_iff D).1 h.1.1.1.2

set_option maxRecDepth 100000 in
set_option maxHeartbeats 2000000 in
theorem ready_any (a : Option Addr) (n c : Nat) (V : List Dt) (o : OpIn) (xa : Option Addr) (xn xc : Nat) (D : List Dt) (w : World) (hs : PS w a n c V) (hV : VM V) (hn : n ≤ 1000000) (hx : PS w xa xn xc D) (hxn : xn ≤ 1000000) (hk : o.key.size ≤ maxLen) :
    Tells 19 #[.slice a n c, ov o (.slice xa xn xc)] w (.int .i64 (rdyE V o D)) := by
  have hA := opAt_alloc w o (.slice xa xn xc) 36
  have hF := (Far.refl w).alloc (.cells (o.cells (.slice xa xn xc)) 36)
  have hC := fun W (h : Far w W) => check_any o xa xn xc D W (hx.far h) hxn hk
  have hH := fun W (h : Far w W) => has_any a n c V o.id W (hs.far h) (by omega) hV.ac
  have hr : Hid (rdyE V o D = if chk o D = false then 30 else if hasv V o.id = true then 32 else if belv D V = false then 31 else 0) := hid rfl
  obtain ⟨a0, a1, a2, a3, a4, a5, a6, a7, a8, a9, a10, a11, a12, a13⟩ := hA
  cases h1 : chk o D
  · rw [h1] at hC hr
    clear hH h1
    go_enter Tryz.func19, Tryz.ntmps19
    go_wp2_with (first
      | (go_at_call 40; refine (hC _ hF).mono ?_; rintro e w1 ⟨rfl, hF1⟩))
    go_ret
    exact ⟨by rw [hr.out]; rfl, hF.trans hF1⟩
  · have hD := chk_vm h1
    have hB := fun W (h : Far w W) => below_any (hx.far h) hxn (hs.far h) hn hD hV
    rw [h1] at hC hr
    cases h2 : hasv V o.id
    · rw [h2] at hH hr
      cases h3 : belv D V
      all_goals
        rw [h3] at hB hr
        clear h1 h2 h3
        go_enter Tryz.func19, Tryz.ntmps19
        go_wp2_with (first
          | (go_at_call 41; refine (hB _ F2).mono ?_; rintro e w3 ⟨rfl, hF3⟩)
          | (go_at_call 39; refine (hH _ F1).mono ?_; rintro e w2 ⟨rfl, hF2⟩; have F2 := F1.trans hF2; have hA2 := hAc.far hF2; obtain ⟨b0, b1, b2, b3, b4, b5, b6, b7, b8, b9, b10, b11, b12, b13⟩ := hA2)
          | (go_at_call 40; refine (hC _ hF).mono ?_; rintro e w1 ⟨rfl, hF1⟩; have F1 := hF.trans hF1; have hA1 := (opAt_alloc w o (.slice xa xn xc) 36).far hF1; have hAc := hA1; obtain ⟨b0, b1, b2, b3, b4, b5, b6, b7, b8, b9, b10, b11, b12, b13⟩ := hA1))
        go_ret
        exact ⟨by rw [hr.out]; rfl, F2.trans hF3⟩
    · rw [h2] at hH hr
      clear h1 h2
      go_enter Tryz.func19, Tryz.ntmps19
      go_wp2_with (first
        | (go_at_call 39; refine (hH _ F1).mono ?_; rintro e w2 ⟨rfl, hF2⟩; have F2 := F1.trans hF2)
        | (go_at_call 40; refine (hC _ hF).mono ?_; rintro e w1 ⟨rfl, hF1⟩; have F1 := hF.trans hF1; have hA1 := (opAt_alloc w o (.slice xa xn xc) 36).far hF1; have hAc := hA1; obtain ⟨b0, b1, b2, b3, b4, b5, b6, b7, b8, b9, b10, b11, b12, b13⟩ := hA1))
      go_ret
      exact ⟨by rw [hr.out]; rfl, F2⟩

set_option maxRecDepth 100000 in
set_option maxHeartbeats 2000000 in
theorem rready_any (a : Option Addr) (n c : Nat) (V : List Dt) (o : OpIn) (xa : Option Addr) (xn xc : Nat) (D : List Dt) (w : World) (hs : PS w a n c V) (hn : n ≤ 1000000) (hx : PS w xa xn xc D) (hxn : xn ≤ 1000000) (hk : o.key.size ≤ maxLen) :
    Tells 25 #[.slice a n c, ov o (.slice xa xn xc)] w (.int .i64 (rdyE V o D)) := by
  have hA := opAt_alloc w o (.slice xa xn xc) 36
  have hF := (Far.refl w).alloc (.cells (o.cells (.slice xa xn xc)) 36)
  have hC := fun W (h : Far w W) => rcheck_any o xa xn xc D W (hx.far h) (by omega) hk
  have hH := fun W (h : Far w W) => rhas_any a n c V o.id W (hs.far h) (by omega)
  have hB := fun W (h : Far w W) => rbelow_any (hx.far h) hxn (hs.far h) hn
  have hr : Hid (rdyE V o D = if chk o D = false then 30 else if hasv V o.id = true then 32 else if belv D V = false then 31 else 0) := hid rfl
  obtain ⟨a0, a1, a2, a3, a4, a5, a6, a7, a8, a9, a10, a11, a12, a13⟩ := hA
  generalize chk o D = r1 at hC hr
  generalize hasv V o.id = r2 at hH hr
  generalize belv D V = r3 at hB hr
  cases r1
  · go_enter Tryz.func25, Tryz.ntmps25
    go_wp2_with (first
      | (go_at_call 33; refine (hC _ hF).mono ?_; rintro e w1 ⟨rfl, hF1⟩))
    go_ret
    exact ⟨by rw [hr.out]; rfl, hF.trans hF1⟩
  · cases r2
    · cases r3
      all_goals
        go_enter Tryz.func25, Tryz.ntmps25
        go_wp2_with (first
          | (go_at_call 31; refine (hB _ F2).mono ?_; rintro e w3 ⟨rfl, hF3⟩)
          | (go_at_call 29; refine (hH _ F1).mono ?_; rintro e w2 ⟨rfl, hF2⟩; have F2 := F1.trans hF2; have hA2 := hAc.far hF2; obtain ⟨b0, b1, b2, b3, b4, b5, b6, b7, b8, b9, b10, b11, b12, b13⟩ := hA2)
          | (go_at_call 33; refine (hC _ hF).mono ?_; rintro e w1 ⟨rfl, hF1⟩; have F1 := hF.trans hF1; have hA1 := (opAt_alloc w o (.slice xa xn xc) 36).far hF1; have hAc := hA1; obtain ⟨b0, b1, b2, b3, b4, b5, b6, b7, b8, b9, b10, b11, b12, b13⟩ := hA1))
        go_ret
        exact ⟨by rw [hr.out]; rfl, F2.trans hF3⟩
    · go_enter Tryz.func25, Tryz.ntmps25
      go_wp2_with (first
        | (go_at_call 29; refine (hH _ F1).mono ?_; rintro e w2 ⟨rfl, hF2⟩; have F2 := F1.trans hF2)
        | (go_at_call 33; refine (hC _ hF).mono ?_; rintro e w1 ⟨rfl, hF1⟩; have F1 := hF.trans hF1; have hA1 := (opAt_alloc w o (.slice xa xn xc) 36).far hF1; have hAc := hA1; obtain ⟨b0, b1, b2, b3, b4, b5, b6, b7, b8, b9, b10, b11, b12, b13⟩ := hA1))
      go_ret
      exact ⟨by rw [hr.out]; rfl, F2⟩

set_option maxRecDepth 100000 in
set_option maxHeartbeats 2000000 in
theorem ahead_any (o : OpIn) (u : Value) (p : OpIn) (xa : Option Addr) (xn xc : Nat) (D : List Dt) (w : World) (hx : PS w xa xn xc D) (hD : Ac D) (hxn : xn ≤ 1000000) : Tells 16 #[ov o u, ov p (.slice xa xn xc)] w (.bool (hasv D o.id)) := by
  obtain ⟨hA, hB, hF⟩ := two_ops w o p u (.slice xa xn xc)
  have hH := fun W (h : Far w W) => has_any xa xn xc D o.id W (hx.far h) (by omega) hD
  obtain ⟨a0, a1, a2, a3, a4, a5, a6, a7, a8, a9, a10, a11, a12, a13⟩ := hA
  have b3 := hB.c3
  generalize hasv D o.id = r at hH
  go_enter Tryz.func16, Tryz.ntmps16
  go_wp2_with (first
    | (go_at_call 39; refine (hH _ hF).mono ?_; rintro e w2 ⟨rfl, hF2⟩))
  go_ret
  exact ⟨rfl, hF.trans hF2⟩

end Go.Proofs.YtlncokkpdkddlaaGreat
