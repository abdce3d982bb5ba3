/- DiskPlays: the walk. -/
import Derived.Test.YtocglenkdjiknaaDkStpA
import Derived.Test.YtocglenkdjiknaaDkStpB
import Derived.Test.YtocglenkdjiknaaDkStpC
namespace Go.Proofs.Ytocglenkdjiknaa
section
set_option linter.unusedVariables false
set_option linter.unusedSimpArgs false
open Go.RowKit
set_option linter.unusedSectionVars false

theorem step_any (s : Sep) (d : Nat) (D : Dk) (x : AI) (v : Value) (w : World) (h : DK w d D (PS s w)) (hr : RDk s w v D) (hx : x.Ok w) (hxs : 0 < x.B.length → ∀ ad, x.a = some ad → s.Q ad.block) :
    Calls Try.prog 12 #[.pointer (some ⟨d, 0, none⟩), v, .agg #[.int .i64 x.kind, .string x.name, .string x.to, .slice x.a x.B.length x.c, .int .i64 x.n, .int .i64 x.part, .int .i64 x.keep]] w (StepOk s d w) := by
  obtain ⟨a, c, R, due, o, p, k, rfl, hf, hm, hu⟩ := hr
  have hb : s.b ≤ w.heap.size := @FR.base s _ _ _ hf
  have hr : RDk s w (.agg #[.slice a (List.length R) c, .int .i64 (D.room : Int), .bool D.off, .bool due, .int .i64 o, .int .i64 p, .int .i64 k]) D := ⟨a, c, R, due, o, p, k, rfl, hf, hm, hu⟩
  by_cases h0 : x.kind.tmod 9 = 0
  · exact step_app0 s d D x a c R due o p k w h hr hb hx hxs h0
  by_cases h1 : x.kind.tmod 9 = 1
  · exact step_app1 s d D x a c R due o p k w h hr hb hx hxs h1
  by_cases h2 : x.kind.tmod 9 = 2
  · exact step_app2 s d D x a c R due o p k w h hr hb hx hxs h2
  by_cases h3 : x.kind.tmod 9 = 3
  · exact step_sync s d D x a c R due o p k w h hr hb hx hxs h3
  by_cases h4 : x.kind.tmod 9 = 4
  · exact step_ren s d D x a c R due o p k w h hr hb hx hxs h4
  by_cases h5 : x.kind.tmod 9 = 5
  · exact step_rem s d D x a c R due o p k w h hr hb hx hxs h5
  by_cases h6 : x.kind.tmod 9 = 6
  · exact step_cut s d D x a c R due o p k w h hr hb hx hxs h6
  by_cases h7 : x.kind.tmod 9 = 7
  · exact step_sho s d D x a c R due o p k w h hr hb hx hxs h7
  refine step_on s d D x a c R due o p k w h hr hb hx hxs (fun i hi => ?_)
  have : ¬ x.kind.tmod 9 = (i : Int) := by omega
  simpa using this
end

section
set_option linter.unusedVariables false
set_option linter.unusedSimpArgs false
open Go.RowKit
set_option linter.unusedSectionVars false

/-- What both are, round by round. -/
structure Both (s : Sep) (w wr : World) (d g : Nat) (v : Value) (cs : Array Value) (D : Dk) : Prop where
  row : wr.heap[g]? = some (.cells cs 28 (0, 0))
  dk : DK wr d D (PS s wr)
  rdk : RDk s wr v D
  kp : KP w wr (fun j => j < w.heap.size)
  old : ∀ j, j < w.heap.size → s.Q j
  own : s.Q g
  far : w.heap.size ≤ g
theorem Both.next {s s2 : Sep} {w wr w2 : World} {d g : Nat} {v v2 : Value} {cs : Array Value} {D D2 : Dk} (h : Both s w wr d g v cs D) (h1 : DK w2 d D2 (PS s2 w2)) (h2 : RDk s2 w2 v2 D2) (h3 : KP wr.drew w2 (PS s wr.drew)) (h4 : ∀ j, j < wr.drew.heap.size → s.Q j → s2.Q j) : Both s2 w w2 d g v2 cs D2 ∧ s2.Q g := by
  have hg := (Array.getElem?_eq_some_iff.1 h.row).1
  have e : w2.heap[g]? = wr.heap[g]? := h3.keep g hg ⟨h.own, hg⟩
  have hz := h.kp.size
  refine ⟨⟨e.trans h.row, h1, h2, ⟨Nat.le_trans hz h3.size, fun j hj hP => ?_, ?_⟩, fun j hj => h4 j (Nat.lt_of_lt_of_le hj hz) (h.old j hj), h4 g hg h.own, h.far⟩, h4 g hg h.own⟩
  · exact (h3.keep j (Nat.lt_of_lt_of_le hj hz) ⟨h.old j hj, Nat.lt_of_lt_of_le hj hz⟩).trans (h.kp.keep j hj hP)
  · exact h.kp.sm.trans h3.sm
theorem Both.set {s : Sep} {w wr : World} {d g : Nat} {v : Value} {D : Dk} {sl : Option Addr} {l c : Nat} {i1 i4 i5 i6 : Int} {b2 b3 : Bool} (h : Both s w wr d g v #[.slice sl l c, .int .i64 i1, .bool b2, .bool b3, .int .i64 i4, .int .i64 i5, .int .i64 i6] D) (v0 v1 v2 v3 v4 v5 v6 : Value) : Both s w (sets7 wr g v0 v1 v2 v3 v4 v5 v6) d g v #[v0, v1, v2, v3, v4, v5, v6] D := by
  have hg := (Array.getElem?_eq_some_iff.1 h.row).1
  exact ⟨sets7_at h.row v0 v1 v2 v3 v4 v5 v6, h.dk.set7 ⟨h.own, hg⟩ v0 v1 v2 v3 v4 v5 v6, h.rdk.set7 h.row v0 v1 v2 v3 v4 v5 v6, h.kp.trans (kp_set (fun j hj => hj) h.far v0 v1 v2 v3 v4 v5 v6), h.old, h.own, h.far⟩
theorem Both.below {s : Sep} {w wr w2 : World} {d g : Nat} {v : Value} {cs : Array Value} {D : Dk} (h : Both s w wr d g v cs D) (hb : Below wr.heap.size wr w2) : Both s w w2 d g v cs D :=
  ⟨(hb.block g (Array.getElem?_eq_some_iff.1 h.row).1).trans h.row, h.dk.ps2 hb, @RDk.below s _ _ _ _ h.rdk hb, h.kp.trans (KP.below hb), h.old, h.own, h.far⟩

set_option maxRecDepth 100000 in
set_option maxHeartbeats 8000000 in
theorem play_walk0 (r : Int) (a1 : Option Addr) (cap1 : Nat) (X : List AI) (w : World) (hr : r ≤ 9223372036854775807) (s1 : ASrc w a1 X.length X) (hx : X.length ≤ maxLen) :
    Calls Try.prog 3 #[.int .i64 r, .slice a1 X.length cap1] w fun e w' => e = .returned (.bool true) ∧ Below w.heap.size w w' := by
  have HS1 := hid s1
  unfold maxLen at hx
  clear s1
  by_cases hc : 1000000 < r
  · have e1 : decide ((1000000 : Int) < r) = true := decide_eq_true hc
    clear hc
    go_enter Try.func3, Try.ntmps3
    go_wp2_with (go_at_call 8; refine (awake_any _).mono ?_; rintro e w0 ⟨rfl, hb0⟩; have HB00 := hid hb0; clear hb0)
    go_ret
    exact ⟨rfl, HB00.out⟩
  have e1 : decide ((1000000 : Int) < r) = false := decide_eq_false hc
  have hmxo : Try.prog.follows .mixedOrders = true := by kernel_rfl
  obtain ⟨D0, hD0⟩ : ∃ D0 : Dk, D0 = ⟨r.toNat, false, none, []⟩ := ⟨_, rfl⟩
  have HD0 := hid hD0
  clear hD0
  go_enter Try.func3, Try.ntmps3
  go_wp2_with (first
      | (go_at_call 11; have hB := KB.out; refine (@is_any (SepAt w0.heap.size w1.heap.size) d _ D0 _ _ hB.dk hB.rdk).mono ?_; rintro e w4 ⟨rfl, hb4⟩; have HB4 := hid (hB.below hb4); clear hB hb4)
      | (go_at_call 10; refine (@rnew_dk (SepAt w0.heap.size w1.heap.size) r w1 (Nat.le_refl _)).mono ?_; rintro e w2 ⟨v2, rfl, hr2, hb2⟩; rw [← HD0.out] at hr2; obtain ⟨a0, c0, R0, due0, o0, p0, k0, rfl, hf0, hm0, hu0⟩ := hr2; have hn2 := heap_new w2 (.cells #[.slice a0 (List.length R0) c0, .int .i64 (D0.room : Int), .bool D0.off, .bool due0, .int .i64 o0, .int .i64 p0, .int .i64 k0] 28); have hb3 := hb2.trans ((new_below w2 (.cells #[.slice a0 (List.length R0) c0, .int .i64 (D0.room : Int), .bool D0.off, .bool due0, .int .i64 o0, .int .i64 p0, .int .i64 k0] 28)).mono hb2.size); have KB : Hid (Both (SepAt w0.heap.size w1.heap.size) w (w2.alloc (.cells #[.slice a0 (List.length R0) c0, .int .i64 (D0.room : Int), .bool D0.off, .bool due0, .int .i64 o0, .int .i64 p0, .int .i64 k0] 28)) d w2.heap.size (.agg #[.slice a0 (List.length R0) c0, .int .i64 (D0.room : Int), .bool D0.off, .bool due0, .int .i64 o0, .int .i64 p0, .int .i64 k0]) #[.slice a0 (List.length R0) c0, .int .i64 (D0.room : Int), .bool D0.off, .bool due0, .int .i64 o0, .int .i64 p0, .int .i64 k0] D0) := hid ⟨hn2, K1.out.1.ps2 hb3, @RDk.below (SepAt w0.heap.size w1.heap.size) _ _ _ _ (RDk.mk7 hf0 hm0 hu0) (new_below w2 _), K1.out.2.trans (KP.below hb3), fun j hj => Or.inl (Nat.lt_of_lt_of_le hj HB00.out.size), Or.inr hb2.size, Nat.le_trans K1.out.2.size hb2.size⟩; clear hf0 hm0 hu0 hn2 hb3 hb2)
      | (go_at_call 9; refine (new_any r (by omega) _).mono ?_; rintro e w1 ⟨d, rfl, hb1, q1⟩; rw [← HD0.out] at q1; have K1 : Hid (DK w1 d D0 (PS (SepAt w0.heap.size w1.heap.size) w1) ∧ KP w w1 (fun j => j < w.heap.size)) := hid (And.intro q1.ps0 ((KP.below HB00.out).trans (KP.below hb1))); clear hb1 q1)
      | (go_at_call 8; refine (awake_any _).mono ?_; rintro e w0 ⟨rfl, hb0⟩; have HB00 := hid hb0; clear hb0))
  go_loopw [8, 9] (fun vo vi wr => ∃ (j : Nat) (D : Dk) (s : Sep) (a : Option Addr) (c : Nat) (R : List (Nm × RFi)) (due : Bool) (o p k : Int), vo = .bool true ∧ vi = .int .i64 (j : Int) ∧ Hid (Both s w wr d w2.heap.size (.agg #[.slice a (List.length R) c, .int .i64 (D.room : Int), .bool D.off, .bool due, .int .i64 o, .int .i64 p, .int .i64 k]) #[.slice a (List.length R) c, .int .i64 (D.room : Int), .bool D.off, .bool due, .int .i64 o, .int .i64 p, .int .i64 k] D)) (fun _ vi _ => X.length - (intOf vi).toNat)
  case atStart => exact ⟨0, D0, _, a0, c0, R0, due0, o0, p0, k0, rfl, rfl, HB4⟩
  case round =>
    obtain ⟨j, D, s, a, c, R, due, o, p, k, rfl, rfl, HK⟩ := hrel
    by_cases hlt : j < X.length
    rotate_left
    · have e5 : decide ((j : Int) < (X.length : Int)) = false := decide_eq_false (by omega)
      go_wp2
      go_ret
      exact ⟨rfl, kp_below HK.out.kp⟩
    by_cases h60 : j < 60
    rotate_left
    · have e5 : decide ((j : Int) < (X.length : Int)) = true := decide_eq_true (by omega)
      have e6 : decide ((j : Int) < (60 : Int)) = false := decide_eq_false (by omega)
      go_wp2
      go_ret
      exact ⟨rfl, kp_below HK.out.kp⟩
    have e5 : decide ((j : Int) < (X.length : Int)) = true := decide_eq_true (by omega)
    have e6 : decide ((j : Int) < (60 : Int)) = true := decide_eq_true (by omega)
    obtain ⟨x, hxk⟩ : ∃ x, X[j]? = some x := ⟨X[j], List.getElem?_eq_getElem hlt⟩
    have hm : x ∈ X := List.mem_of_getElem? hxk
    obtain ⟨gX, oX, eX, hcX⟩ := HS1.out.2.2 (by omega)
    subst eX
    have hbw := kp_below HK.out.kp
    have OKw0 := HS1.out.2.1 x hm
    have OK := hid (OKw0.below hbw)
    have cX : ∀ (i : Nat) (u : Value), x.cells[i]? = some u → wr.cell? ⟨gX, oX + j * 7 + i, none⟩ = some u := fun i u hi => by
      have := hcX j x hxk i u hi
      exact (hbw.cell (cell_block this)).trans this
    have x0 := cX 0 _ rfl
    have x1 := cX 1 _ rfl
    have x2 := cX 2 _ rfl
    have x3 := cX 3 _ rfl
    have x4 := cX 4 _ rfl
    have x5 := cX 5 _ rfl
    have x6 := cX 6 _ rfl
    have hgx : gX < w.heap.size := cell_block (hcX j x hxk 0 _ rfl)
    rw [Nat.add_zero] at x0
    clear cX hcX hbw hm hxk
    have OKw := hid OKw0
    clear OKw0
    by_cases hb1 : 1000 < x.B.length
    · have e7 : decide ((1000 : Int) < (x.B.length : Int)) = true := decide_eq_true (by omega)
      go_wp2
      go_ret
      exact ⟨rfl, kp_below HK.out.kp⟩
    have e7 : decide ((1000 : Int) < (x.B.length : Int)) = false := decide_eq_false (by omega)
    go_wp2
    have hrow := HK.out.row
    have y0 := cell_blk (i := 0) hrow rfl
    have f0 := frz_blk (i := 0) hrow
    have y1 := cell_blk (i := 1) hrow rfl
    have f1 := frz_blk (i := 1) hrow
    have y2 := cell_blk (i := 2) hrow rfl
    have f2 := frz_blk (i := 2) hrow
    have y3 := cell_blk (i := 3) hrow rfl
    have f3 := frz_blk (i := 3) hrow
    have y4 := cell_blk (i := 4) hrow rfl
    have f4 := frz_blk (i := 4) hrow
    have y5 := cell_blk (i := 5) hrow rfl
    have f5 := frz_blk (i := 5) hrow
    have y6 := cell_blk (i := 6) hrow rfl
    have f6 := frz_blk (i := 6) hrow
    clear hrow
    have S0 : (fun u : World => u.cell? ⟨gX, oX + j * 7, none⟩ = some (.int .i64 x.kind) ∧ u.cell? ⟨gX, oX + j * 7 + 1, none⟩ = some (.string x.name) ∧ u.cell? ⟨gX, oX + j * 7 + 2, none⟩ = some (.string x.to) ∧ u.cell? ⟨gX, oX + j * 7 + 3, none⟩ = some (.slice x.a x.B.length x.c) ∧ u.cell? ⟨gX, oX + j * 7 + 4, none⟩ = some (.int .i64 x.n) ∧ u.cell? ⟨gX, oX + j * 7 + 5, none⟩ = some (.int .i64 x.part) ∧ u.cell? ⟨gX, oX + j * 7 + 6, none⟩ = some (.int .i64 x.keep)) wr.drew := ⟨x0, x1, x2, x3, x4, x5, x6⟩
    refine wp_region_held_drew (S := fun u => u.cell? ⟨gX, oX + j * 7, none⟩ = some (.int .i64 x.kind) ∧ u.cell? ⟨gX, oX + j * 7 + 1, none⟩ = some (.string x.name) ∧ u.cell? ⟨gX, oX + j * 7 + 2, none⟩ = some (.string x.to) ∧ u.cell? ⟨gX, oX + j * 7 + 3, none⟩ = some (.slice x.a x.B.length x.c) ∧ u.cell? ⟨gX, oX + j * 7 + 4, none⟩ = some (.int .i64 x.n) ∧ u.cell? ⟨gX, oX + j * 7 + 5, none⟩ = some (.int .i64 x.part) ∧ u.cell? ⟨gX, oX + j * 7 + 6, none⟩ = some (.int .i64 x.keep)) hmxo S0 ?_
    intro _
    refine wpAnyH_take (i := 0) (v := .pointer (some ⟨d, 0, none⟩)) rfl (by kernel_rfl) (by kernel_rfl) (by kernel_rfl) (fun _ _ _ h => h) (Or.inl ⟨by kernel_rfl, fun u hSu => ?_⟩) S0 ?_
    · obtain ⟨z0, z1, z2, z3, z4, z5, z6⟩ := hSu; go_simp
    simp only [Act.put, List.getElem_toArray, List.getElem_cons_succ, List.getElem_cons_zero, List.setIfInBounds_toArray, List.set_cons_zero, List.set_cons_succ]
    refine wpAnyH_take (i := 2) (v := .slice (some ⟨gX, oX, none⟩) X.length cap1) rfl (by kernel_rfl) (by kernel_rfl) (by kernel_rfl) (fun _ _ _ h => h) (Or.inl ⟨by kernel_rfl, fun u hSu => ?_⟩) S0 ?_
    · obtain ⟨z0, z1, z2, z3, z4, z5, z6⟩ := hSu; go_simp
    simp only [Act.put, List.getElem_toArray, List.getElem_cons_succ, List.getElem_cons_zero, List.setIfInBounds_toArray, List.set_cons_zero, List.set_cons_succ]
    refine wpAnyH_take (i := 3) (v := .int .i64 (j : Int)) rfl (by kernel_rfl) (by kernel_rfl) (by kernel_rfl) (fun _ _ _ h => h) (Or.inl ⟨by kernel_rfl, fun u hSu => ?_⟩) S0 ?_
    · obtain ⟨z0, z1, z2, z3, z4, z5, z6⟩ := hSu; go_simp
    simp only [Act.put, List.getElem_toArray, List.getElem_cons_succ, List.getElem_cons_zero, List.setIfInBounds_toArray, List.set_cons_zero, List.set_cons_succ]
    refine wpAnyH_take (i := 4) (v := .pointer (some ⟨gX, oX + j * 7, none⟩)) rfl (by kernel_rfl) (by kernel_rfl) (by kernel_rfl) (fun _ _ _ h => h) (Or.inl ⟨by kernel_rfl, fun u hSu => ?_⟩) S0 ?_
    · obtain ⟨z0, z1, z2, z3, z4, z5, z6⟩ := hSu; go_simp
    simp only [Act.put, List.getElem_toArray, List.getElem_cons_succ, List.getElem_cons_zero, List.setIfInBounds_toArray, List.set_cons_zero, List.set_cons_succ]
    refine wpAnyH_take (i := 5) (v := .agg #[.int .i64 x.kind, .string x.name, .string x.to, .slice x.a x.B.length x.c, .int .i64 x.n, .int .i64 x.part, .int .i64 x.keep]) rfl (by kernel_rfl) (by kernel_rfl) (by kernel_rfl) (fun _ _ _ h => h) (Or.inl ⟨by kernel_rfl, fun u hSu => ?_⟩) S0 ?_
    · obtain ⟨z0, z1, z2, z3, z4, z5, z6⟩ := hSu; go_simp
    simp only [Act.put, List.getElem_toArray, List.getElem_cons_succ, List.getElem_cons_zero, List.setIfInBounds_toArray, List.set_cons_zero, List.set_cons_succ]
    refine wpAnyH_ready (rs := [1]) (by kernel_rfl) (by simp) ?_
    refine AllReadyH.cons rfl (fun K hK => ?_) AllReadyH.nil
    go_simp
    refine hK.out _ _ S0 (fun _ => ?_)
    clear hK K
    try simp only [Act.put, List.getElem_toArray, List.getElem_cons_succ, List.getElem_cons_zero, List.setIfInBounds_toArray, List.set_cons_zero, List.set_cons_succ]
    refine wpAnyH_ready (rs := [6]) (by kernel_rfl) (by simp) ?_
    refine AllReadyH.cons rfl (fun K hK => ?_) AllReadyH.nil
    go_simp
    have hK0 := HK.out.below (bdrew (Below.refl wr.heap.size wr))
    refine (step_any s d D x _ wr.drew hK0.dk hK0.rdk (OK.out.below (bdrew (Below.refl wr.heap.size wr))) (fun hp ad e => HK.out.old _ (src_block OKw.out.src ad hp e))).mono ?_
    rintro e w8 ⟨v8, D8, s8, rfl, q1, q2, q3, q4⟩
    obtain ⟨a8, c8, R8, due8, o8, p8, k8, rfl, hf8, hm8, hu8⟩ := q2
    have hN := (HK.out.next q1 (RDk.mk7 hf8 hm8 hu8) q3 q4).1
    have hbw8 : ∀ (i : Nat) (u : Value), wr.cell? ⟨gX, i, none⟩ = some u → w8.cell? ⟨gX, i, none⟩ = some u := fun i u h => by
      rw [← h]
      have := q3.keep gX (cell_block h) ⟨HK.out.old gX hgx, cell_block h⟩
      simp only [World.cell?, this]
      rfl
    have S8 : (fun u : World => u.cell? ⟨gX, oX + j * 7, none⟩ = some (.int .i64 x.kind) ∧ u.cell? ⟨gX, oX + j * 7 + 1, none⟩ = some (.string x.name) ∧ u.cell? ⟨gX, oX + j * 7 + 2, none⟩ = some (.string x.to) ∧ u.cell? ⟨gX, oX + j * 7 + 3, none⟩ = some (.slice x.a x.B.length x.c) ∧ u.cell? ⟨gX, oX + j * 7 + 4, none⟩ = some (.int .i64 x.n) ∧ u.cell? ⟨gX, oX + j * 7 + 5, none⟩ = some (.int .i64 x.part) ∧ u.cell? ⟨gX, oX + j * 7 + 6, none⟩ = some (.int .i64 x.keep)) w8 := ⟨hbw8 _ _ x0, hbw8 _ _ x1, hbw8 _ _ x2, hbw8 _ _ x3, hbw8 _ _ x4, hbw8 _ _ x5, hbw8 _ _ x6⟩
    clear y0 y1 y2 y3 y4 y5 y6 f0 f1 f2 f3 f4 f5 f6
    have hrow8 := hN.row
    have y0 := cell_blk (i := 0) hrow8 rfl
    have f0 := frz_blk (i := 0) hrow8
    have y1 := cell_blk (i := 1) hrow8 rfl
    have f1 := frz_blk (i := 1) hrow8
    have y2 := cell_blk (i := 2) hrow8 rfl
    have f2 := frz_blk (i := 2) hrow8
    have y3 := cell_blk (i := 3) hrow8 rfl
    have f3 := frz_blk (i := 3) hrow8
    have y4 := cell_blk (i := 4) hrow8 rfl
    have f4 := frz_blk (i := 4) hrow8
    have y5 := cell_blk (i := 5) hrow8 rfl
    have f5 := frz_blk (i := 5) hrow8
    have y6 := cell_blk (i := 6) hrow8 rfl
    have f6 := frz_blk (i := 6) hrow8
    have HN := hid hN
    clear hrow8 hN q1 q3 q4 hf8 hm8 hu8 hbw8 hK0
    refine hK.out _ _ S8 (fun _ => ?_)
    clear hK K
    try simp only [Act.put, List.getElem_toArray, List.getElem_cons_succ, List.getElem_cons_zero, List.setIfInBounds_toArray, List.set_cons_zero, List.set_cons_succ]
    refine wpAnyH_take (i := 7) (v := .tuple #[.agg #[.slice a8 (List.length R8) c8, .int .i64 (D8.room : Int), .bool D8.off, .bool due8, .int .i64 o8, .int .i64 p8, .int .i64 k8], .bool true]) rfl (by kernel_rfl) (by kernel_rfl) (by kernel_rfl) (fun _ _ _ h => h) (Or.inl ⟨by kernel_rfl, fun u hSu => ?_⟩) S8 ?_
    · obtain ⟨z0, z1, z2, z3, z4, z5, z6⟩ := hSu; go_simp
    simp only [Act.put, List.getElem_toArray, List.getElem_cons_succ, List.getElem_cons_zero, List.setIfInBounds_toArray, List.set_cons_zero, List.set_cons_succ]
    refine wpAnyH_take (i := 8) (v := .agg #[.slice a8 (List.length R8) c8, .int .i64 (D8.room : Int), .bool D8.off, .bool due8, .int .i64 o8, .int .i64 p8, .int .i64 k8]) rfl (by kernel_rfl) (by kernel_rfl) (by kernel_rfl) (fun _ _ _ h => h) (Or.inl ⟨by kernel_rfl, fun u hSu => ?_⟩) S8 ?_
    · obtain ⟨z0, z1, z2, z3, z4, z5, z6⟩ := hSu; go_simp
    simp only [Act.put, List.getElem_toArray, List.getElem_cons_succ, List.getElem_cons_zero, List.setIfInBounds_toArray, List.set_cons_zero, List.set_cons_succ]
    refine wpAnyH_take (i := 9) (v := .bool true) rfl (by kernel_rfl) (by kernel_rfl) (by kernel_rfl) (fun _ _ _ h => h) (Or.inl ⟨by kernel_rfl, fun u hSu => ?_⟩) S8 ?_
    · obtain ⟨z0, z1, z2, z3, z4, z5, z6⟩ := hSu; go_simp
    simp only [Act.put, List.getElem_toArray, List.getElem_cons_succ, List.getElem_cons_zero, List.setIfInBounds_toArray, List.set_cons_zero, List.set_cons_succ]
    refine wpAnyH_ready (rs := [10]) (by kernel_rfl) (by simp) ?_
    refine AllReadyH.cons rfl (fun K hK => ?_) AllReadyH.nil
    go_simp
    have hS9 := HN.out.set (.slice a8 (List.length R8) c8) (.int .i64 (D8.room : Int)) (.bool D8.off) (.bool due8) (.int .i64 o8) (.int .i64 p8) (.int .i64 k8)
    have hne : gX ≠ w2.heap.size := by have := HK.out.far; omega
    obtain ⟨w9, hw9⟩ : ∃ w9, w9 = sets7 w8 w2.heap.size (.slice a8 (List.length R8) c8) (.int .i64 (D8.room : Int)) (.bool D8.off) (.bool due8) (.int .i64 o8) (.int .i64 p8) (.int .i64 k8) := ⟨_, rfl⟩
    have hc9 : ∀ (i : Nat), w9.cell? ⟨gX, i, none⟩ = w8.cell? ⟨gX, i, none⟩ := fun i => by
      have := sets7_far w8 w2.heap.size (.slice a8 (List.length R8) c8) (.int .i64 (D8.room : Int)) (.bool D8.off) (.bool due8) (.int .i64 o8) (.int .i64 p8) (.int .i64 k8) gX hne
      rw [← hw9] at this
      simp only [World.cell?, this]
    have S9 : (fun u : World => u.cell? ⟨gX, oX + j * 7, none⟩ = some (.int .i64 x.kind) ∧ u.cell? ⟨gX, oX + j * 7 + 1, none⟩ = some (.string x.name) ∧ u.cell? ⟨gX, oX + j * 7 + 2, none⟩ = some (.string x.to) ∧ u.cell? ⟨gX, oX + j * 7 + 3, none⟩ = some (.slice x.a x.B.length x.c) ∧ u.cell? ⟨gX, oX + j * 7 + 4, none⟩ = some (.int .i64 x.n) ∧ u.cell? ⟨gX, oX + j * 7 + 5, none⟩ = some (.int .i64 x.part) ∧ u.cell? ⟨gX, oX + j * 7 + 6, none⟩ = some (.int .i64 x.keep)) w9 := ⟨(hc9 _).trans S8.1, (hc9 _).trans S8.2.1, (hc9 _).trans S8.2.2.1, (hc9 _).trans S8.2.2.2.1, (hc9 _).trans S8.2.2.2.2.1, (hc9 _).trans S8.2.2.2.2.2.1, (hc9 _).trans S8.2.2.2.2.2.2⟩
    rw [← hw9] at hS9
    have H9 := hid hS9
    unfold sets7 at hw9
    rw [← hw9]
    clear hw9 hS9 hc9
    refine hK.out _ _ S9 (fun _ => ?_)
    clear hK K
    try simp only [Act.put, List.getElem_toArray, List.getElem_cons_succ, List.getElem_cons_zero, List.setIfInBounds_toArray, List.set_cons_zero, List.set_cons_succ]
    refine wpAnyH_take (i := 11) (v := .bool true) rfl (by kernel_rfl) (by kernel_rfl) (by kernel_rfl) (fun _ _ _ h => h) (Or.inl ⟨by kernel_rfl, fun u hSu => ?_⟩) S9 ?_
    · obtain ⟨z0, z1, z2, z3, z4, z5, z6⟩ := hSu; go_simp
    simp only [Act.put, List.getElem_toArray, List.getElem_cons_succ, List.getElem_cons_zero, List.setIfInBounds_toArray, List.set_cons_zero, List.set_cons_succ]
    refine wpAnyH_done (by kernel_rfl) ?_ _
    go_wp2
    go_roundw
    case rel => exact ⟨j + 1, D8, s8, a8, c8, R8, due8, o8, p8, k8, rfl, by go_num, H9⟩
    case measure => simp [intOf]; omega

theorem play_walk {w : World} (r : Int) (hr : (Lit.int .i64 r).wf = true) (a1 : Option Addr) (len1 cap1 : Nat) (X : List AI) (h1 : ASrc w a1 len1 X ∧ len1 ≤ maxLen) :
    Calls Try.prog 3 #[.int .i64 r, .slice a1 len1 cap1] w fun e w' => e = .returned (.bool true) ∧ Below w.heap.size w w' := by
  obtain ⟨s1, hx⟩ := h1
  obtain rfl : len1 = X.length := s1.1.symm
  exact play_walk0 r a1 cap1 X w (bounds_i64 hr).2 s1 hx
end
end Go.Proofs.Ytocglenkdjiknaa
