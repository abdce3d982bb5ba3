/- OutlineReads: its walk. -/
import Derived.Test.YtnmdcdphpcpojaaGreatDoorOlSmall
import Derived.Test.YtnmdcdphpcpojaaGreatDoorTrMath
import Derived.BigQuiet
import Derived.Test.YtnmdcdphpcpojaaGreatDoorOlRRead
import Derived.Test.YtnmdcdphpcpojaaGreatDoorOlArg
namespace Go.Proofs.YtnmdcdphpcpojaaGreatDoor
section
set_option linter.unusedVariables false
open Go.RowKit Go.Shelf

def lnEq (x y : Ln) : Bool := decide (x.b = y.b) && decide (x.d = y.d) && decide (x.t = y.t)
theorem lnEq_iff {x y : Ln} : lnEq x y = true ↔ x = y := by
  unfold lnEq
  rw [Bool.and_eq_true, Bool.and_eq_true, decide_eq_true_eq, decide_eq_true_eq, decide_eq_true_eq]
  constructor
  · rintro ⟨⟨h1, h2⟩, h3⟩
    cases x; cases y
    simp at h1 h2 h3
    rw [h1, h2, h3]
  · rintro rfl
    exact ⟨⟨rfl, rfl⟩, rfl⟩

/-- Are two rows the same? -/
def lnsB : List Ln → List Ln → Bool
  | [], [] => true
  | x :: l, y :: m => lnEq x y && lnsB l m
  | _, _ => false
theorem lnsB_iff : ∀ {l m : List Ln}, lnsB l m = true ↔ l = m
  | [], [] => by simp [lnsB]
  | x :: l, y :: m => by
    unfold lnsB
    rw [Bool.and_eq_true, lnEq_iff, lnsB_iff]
    simp
  | [], y :: m => by simp [lnsB]
  | x :: l, [] => by simp [lnsB]
theorem lnsB_no {l m : List Ln} (h : l ≠ m) : lnsB l m = false := by
  cases e : lnsB l m with
  | false => rfl
  | true => exact absurd (lnsB_iff.1 e) h

theorem LnS.drewN {w : World} {a : Option Addr} {n c : Nat} {L : List Ln} (h : LnS w a n c L) (q : Nat) : LnS (w.drewN q) a n c L := ⟨h.len, h.cap, h.max, h.nil, h.at_⟩

set_option maxHeartbeats 4000000 in
theorem lsame_any (a : Option Addr) (n c : Nat) (L : List Ln) (a' : Option Addr) (n' c' : Nat) (M : List Ln) (w : World) (hs : LnS w a n c L) (hs' : LnS w a' n' c' M) :
    Calls Tryz.prog 14 #[.slice a n c, .slice a' n' c'] w fun e w' => e = .returned (.bool (lnsB L M)) ∧ ∃ q, w' = w.drewN q := by
  have mixed := mixed
  have hl := hs.len
  have hl' := hs'.len
  have hcap := hs.cap
  have hmax := hs.max
  have hcap' := hs'.cap
  have hmax' := hs'.max
  unfold maxLen at hmax hmax'
  by_cases hnn : n = n'
  · subst hnn
    have HS := hid hs
    have HS' := hid hs'
    have HL := hid hl
    have HL' := hid hl'
    clear hs hs' hl hl'
    go_enter Tryz.func14, Tryz.ntmps14
    go_wp2
    go_loopw [5] (fun i wr => ∃ k : Nat, k ≤ n ∧ i = .int .i64 k ∧ Hid (L.take k = M.take k) ∧ ∃ q, Hid (wr = w.drewN q)) (fun i _ => n - (intOf i).toNat)
    case atStart => exact ⟨0, by omega, rfl, hid (by simp), 0, hid rfl⟩
    case round =>
      obtain ⟨k, hk, rfl, htk, qw, hw⟩ := hrel
      by_cases hlt : k < n
      · have hs1 : LnS wr a n c L := by rw [hw.out]; exact HS.out.drewN qw
        have hs1' : LnS wr a' n c' M := by rw [hw.out]; exact HS'.out.drewN qw
        obtain ⟨g, o, x, rfl, hx, hg, c0, c1, c2, c3⟩ := hs1.look hlt
        obtain ⟨g', o', y, rfl, hy, hg', d0, d1, d2, d3⟩ := hs1'.look hlt
        have HX := hid hx
        have HY := hid hy
        clear hx hy hs1 hs1'
        obtain ⟨⟨x1, x2⟩, xd, xt⟩ := x
        obtain ⟨⟨y1, y2⟩, yd, yt⟩ := y
        have C0 : ∀ m, (wr.drewN m).cell? ⟨g, o + k * 4, none⟩ = some (.int .i64 x1) := fun _ => c0
        have C1 : ∀ m, (wr.drewN m).cell? ⟨g, o + k * 4 + 1, none⟩ = some (.int .i64 x2) := fun _ => c1
        have C2 : ∀ m, (wr.drewN m).cell? ⟨g, o + k * 4 + 2, none⟩ = some (.int .i64 xd) := fun _ => c2
        have C3 : ∀ m, (wr.drewN m).cell? ⟨g, o + k * 4 + 3, none⟩ = some (.string ⟨xt.toArray⟩) := fun _ => c3
        have E0 : ∀ m, (wr.drewN m).cell? ⟨g', o' + k * 4, none⟩ = some (.int .i64 y1) := fun _ => d0
        have E1 : ∀ m, (wr.drewN m).cell? ⟨g', o' + k * 4 + 1, none⟩ = some (.int .i64 y2) := fun _ => d1
        have E2 : ∀ m, (wr.drewN m).cell? ⟨g', o' + k * 4 + 2, none⟩ = some (.int .i64 yd) := fun _ => d2
        have E3 : ∀ m, (wr.drewN m).cell? ⟨g', o' + k * 4 + 3, none⟩ = some (.string ⟨yt.toArray⟩) := fun _ => d3
        have hk1 : (k : Int) < (n : Int) := by omega
        have hk0 : (0 : Int) ≤ (k : Int) := by omega
        clear c0 c1 c2 c3 d0 d1 d2 d3
        have HNO : Hid ((⟨(x1, x2), xd, xt⟩ : Ln) ≠ ⟨(y1, y2), yd, yt⟩ → lnsB L M = false) := hid (fun h => lnsB_no (fun e => by
          have h1 := HX.out
          rw [e, HY.out] at h1
          exact h (Option.some.inj h1).symm))
        by_cases h0 : x1 = y1
        · subst h0
          by_cases h1 : x2 = y2
          · subst h1
            by_cases h2 : xd = yd
            · subst h2
              by_cases h3 : xt = yt
              · subst h3
                have HTS : Hid (L.take (k + 1) = M.take (k + 1)) := hid (by
                  obtain ⟨e1, e2⟩ := List.getElem?_eq_some_iff.1 HX.out
                  obtain ⟨e3, e4⟩ := List.getElem?_eq_some_iff.1 HY.out
                  rw [List.take_succ_eq_append_getElem e1, List.take_succ_eq_append_getElem e3, e2, e4, htk.out])
                go_wp2_with fail
                go_quiet (fail)
                go_wp2
                go_roundw
                case rel => exact ⟨k + 1, by omega, by go_num, HTS, qw + nq, hid (by rw [hw.out, World.drewN_drewN])⟩
                case measure => simp [intOf]; omega
              · have hb := hid (HNO.out (fun e => h3 (by injection e)))
                go_wp2_with fail
                go_quiet (fail)
                go_wp2
                go_ret
                exact ⟨by rw [hb.out]; rfl, qw + nq, by rw [hw.out, World.drewN_drewN]⟩
            · have hb := hid (HNO.out (fun e => h2 (by injection e)))
              go_wp2_with fail
              go_quiet (fail)
              go_wp2
              go_ret
              exact ⟨by rw [hb.out]; rfl, qw + nq, by rw [hw.out, World.drewN_drewN]⟩
          · have hb := hid (HNO.out (fun e => h1 (by injection e with e _ _; injection e)))
            go_wp2_with fail
            go_quiet (fail)
            go_wp2
            go_ret
            exact ⟨by rw [hb.out]; rfl, qw + nq, by rw [hw.out, World.drewN_drewN]⟩
        · have hb := hid (HNO.out (fun e => h0 (by injection e with e _ _; injection e)))
          go_wp2_with fail
          go_quiet (fail)
          go_wp2
          go_ret
          exact ⟨by rw [hb.out]; rfl, qw + nq, by rw [hw.out, World.drewN_drewN]⟩
      · obtain rfl : k = n := by omega
        have HB : Hid (lnsB L M = true) := hid (lnsB_iff.2 (by
          have h1 := htk.out
          rw [List.take_of_length_le (by rw [HL.out]; exact Nat.le_refl _), List.take_of_length_le (by rw [HL'.out]; exact Nat.le_refl _)] at h1
          exact h1))
        go_wp2
        go_ret
        exact ⟨by rw [HB.out]; rfl, qw, hw.out⟩
  · have hb := hid (lnsB_no (l := L) (m := M) (fun e => hnn (by rw [← hl, ← hl', e])))
    clear hl hl' hs hs'
    go_enter Tryz.func14, Tryz.ntmps14
    go_wp2
    go_ret
    exact ⟨by rw [hb.out]; rfl, 0, rfl⟩
end

section
set_option linter.unusedVariables false
set_option linter.unusedSimpArgs false
open Go.RowKit Go.Shelf

set_option maxRecDepth 100000 in
set_option maxHeartbeats 4000000 in
theorem reads_walk (x : ByteArray) (m : Int) (w : World) (hm : w.cell? ⟨0, 0, none⟩ = some (.int .i64 m)) (h0 : 0 < w.heap.size) :
    Calls Tryz.prog 5 #[.string x] w fun e w' => e = .returned (.bool true) ∧ Below w.heap.size w w' := by
  obtain ⟨s, rfl⟩ : ∃ s, x = sB s := ⟨x.data.toList, by simp [sB]⟩
  have HAW := hid (olawake_any m w hm h0)
  go_enter Tryz.func5, Tryz.ntmps5
  go_upto_region 4 with (go_at_call 9; refine HAW.out.mono ?_; rintro e W1 ⟨rfl, hB1⟩)
  have HB1 := hid hB1
  clear hB1 HAW
  by_cases hlong : 2000 < s.length
  · have hb2 : decide (2000 < ((s.length : Nat) : Int)) = true := by simp; omega
    go_wp2
    go_ret
    exact ⟨rfl, HB1.out⟩
  · have hb2 : decide (2000 < ((s.length : Nat) : Int)) = false := by simp; omega
    have HSL := hid hlong
    have hm1 : W1.cell? ⟨0, 0, none⟩ = some (.int .i64 m) := by rw [HB1.out.cell (by simpa using h0)]; exact hm
    have hz1 : 0 < W1.heap.size := by have := HB1.out.size; omega
    obtain ⟨q, hq⟩ : ∃ q, q = (rdM s).length := ⟨_, rfl⟩
    obtain ⟨E, hE⟩ : ∃ E, E = rdE s := ⟨_, rfl⟩
    have H1 : Hid (Calls Tryz.prog 20 #[.string (sB s)] W1 fun e V => ∃ a c, e = .returned (.tuple #[.slice a q c, .int .i64 E]) ∧ Hid (LnS V a q c (rdM s) ∧ Below W1.heap.size W1 V)) := hid (by
      have := read_any s m W1 (by omega) hm1 hz1
      rw [← hE] at this
      refine this.mono ?_
      rintro e V ⟨v, rfl, ho, hb⟩
      obtain ⟨a, c, rfl, hL⟩ := own_lns ho
      rw [← hq] at hL ⊢
      exact ⟨a, c, rfl, hid ⟨hL, hb⟩⟩)
    have H2 : Hid (∀ V, Below W1.heap.size W1 V → Calls Tryz.prog 21 #[.string (sB s)] V fun e V' => ∃ a c, e = .returned (.tuple #[.slice a q c, .int .i64 E]) ∧ Hid (LnS V' a q c (rdM s) ∧ Below V.heap.size V V')) := hid (fun V hV => by
      have := rread_any s V (by omega)
      rw [← hE] at this
      refine this.mono ?_
      rintro e V' ⟨v, rfl, ho, hb⟩
      obtain ⟨a, c, rfl, hL⟩ := own_lns ho
      rw [← hq] at hL ⊢
      exact ⟨a, c, rfl, hid ⟨hL, hb⟩⟩)
    clear hq hE hlong hm1 hz1 hm
    go_upto_region 7 with (go_at_call 20; refine H1.out.mono ?_; rintro e W2 ⟨a, c, rfl, S2⟩)
    go_upto_region 8 with (go_at_call 21; refine (H2.out _ S2.out.2).mono ?_; rintro e W3 ⟨a', c', rfl, S3⟩)
    have HSA := hid (lsame_any a q c (rdM s) a' q c' (rdM s) W3 (S2.out.1.below S3.out.2) S3.out.1)
    rw [lnsB_iff.2 rfl] at HSA
    have HBE := hid (S2.out.2.trans (S3.out.2.mono S2.out.2.size))
    go_wp2_with (go_at_call 14; refine HSA.out.mono ?_; rintro e W4 ⟨rfl, qq, rfl⟩)
    go_ret
    exact ⟨rfl, HB1.out.trans ((HBE.out.trans ((((Far.refl W3).drewN qq).below).mono HBE.out.size)).mono HB1.out.size)⟩
end
end Go.Proofs.YtnmdcdphpcpojaaGreatDoor
