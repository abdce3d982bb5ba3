/- The program's walk over the bodies: the function that is ranged over. -/
import Derived.RangeFuncNested
import Derived.RangeFuncBound
import Derived.RangeFuncCalls
import Derived.RangeFuncLeaves
import Derived.Shelf.Abstract
import Derived.Shelf.RegionOpen
import Derived.WalkKit
import Derived.OwnWalkIn
import Derived.TacticsInMore
import Derived.LoopNIn
import Derived.LoopIn
import Derived.Test.YtajopapcknnfoaaFFrame
namespace Go.Proofs.Ytajopapcknnfoaa
open Go.RowKit Go.Shelf
attribute [local go_sem] Oper.semAt_some

/-- A piece of bytes: where it begins, its length, its room, its bytes. -/
structure PV where
  a : Option Addr
  len : Nat
  cap : Nat
  L : List Int
/-- Pieces that lead to their bytes in w. -/
abbrev PA (w : World) : Type := { x : PV // Src w x.a x.len x.L ∧ Bts x.L ∧ (x.a = none → x.len = 0) ∧ x.len ≤ 4194304 }
/-- The bodies of the frames that lie one behind the other, as pieces. -/
def Wk (w : World) : List (PA w) → Option Addr → Nat → Nat → List Int → Prop
  | [], _, _, _, L => (nx L).1 ≠ 0
  | x :: xs, a, len, cap, L => (nx L).1 = 0 ∧ x.1 = ⟨a.map (·.add 4), (nx L).2.1.length, cap - 4, (nx L).2.1⟩ ∧ Wk w xs (cutA a cap (nx L).2.2) (len - (nx L).2.2) (cap - (nx L).2.2) (L.drop (nx L).2.2)
/-- Where the pieces' frames end. -/
def tot {w : World} (xs : List (PA w)) : Nat := (xs.map fun x => x.1.len + 8).sum
theorem tot_snoc {w : World} (xs : List (PA w)) (x : PA w) : tot (xs ++ [x]) = tot xs + (x.1.len + 8) := by simp [tot]
theorem tot_len {w : World} (xs : List (PA w)) : xs.length ≤ tot xs := by
  induction xs with
  | nil => simp [tot]
  | cons x xs ih => simp [tot] at ih ⊢; omega

theorem nx_small {L : List Int} (hb : Bts L) (h : (nx L).1 = 0) : (nx L).2.1.length ≤ 4194304 := by
  have hn := num4_bounds hb
  by_cases a1 : L.length < 4
  · rw [nx_short a1] at h; simp at h
  · by_cases a2 : 4194304 < num4 L
    · rw [nx_great a1 a2] at h; simp at h
    · by_cases a3 : (L.length : Int) < num4 L + 8
      · rw [nx_early a1 a2 a3] at h; simp at h
      · by_cases a4 : num4 (L.drop ((num4 L).toNat + 4)) = sumI (L.take ((num4 L).toNat + 4))
        · rw [nx_right a1 a2 a3 a4]; simp only [List.length_take]; omega
        · rw [nx_other a1 a2 a3 a4] at h; simp at h

theorem wk_any (w : World) (m : Nat) (a : Option Addr) (len cap : Nat) (L : List Int) (hs : Src w a len L) (hb : Bts L) (hlc : len ≤ cap) (hm : len ≤ m) :
    ∃ xs, Wk w xs a len cap L ∧ xs.map (fun x => x.1.L) = (spl L).1 ∧ tot xs = (spl L).2 := by
  induction m generalizing a len cap L with
  | zero =>
    have h : (nx L).1 ≠ 0 := by
      intro h0
      have := nx_ok hb h0
      rw [hs.1] at this
      omega
    exact ⟨[], h, by rw [spl_bad h]; rfl, by rw [spl_bad h]; rfl⟩
  | succ m ih =>
    by_cases h : (nx L).1 = 0
    · have hk := nx_ok hb h
      rw [hs.1] at hk
      have hp := src_pc hs hb h
      obtain ⟨xs, h1, h2, h3⟩ := ih (cutA a cap (nx L).2.2) (len - (nx L).2.2) (cap - (nx L).2.2) (L.drop (nx L).2.2) (src_cut hs cap _ hlc) (hb.drop _) (by omega) (by omega)
      have hn : (a.map (·.add 4)) = none → (nx L).2.1.length = 0 := by
        intro hn
        obtain ⟨g, off, rfl, _⟩ := hs.flat (by omega)
        simp at hn
      refine ⟨⟨⟨a.map (·.add 4), (nx L).2.1.length, cap - 4, (nx L).2.1⟩, hp.1, nx_bts hb, hn, nx_small hb h⟩ :: xs, ⟨h, rfl, h1⟩, ?_, ?_⟩
      · rw [spl_ok hb h, List.map_cons, h2]
      · rw [spl_ok hb h]
        show (nx L).2.1.length + 8 + tot xs = _
        rw [h3, hk.1]
    · exact ⟨[], h, by rw [spl_bad h]; rfl, by rw [spl_bad h]; rfl⟩

/-- The length of a slice. -/
def lenOf : Value → Nat
  | .slice _ n _ => n
  | _ => 0

set_option maxRecDepth 100000 in
set_option maxHeartbeats 1000000 in
theorem walk1_in (n : Nat) (hn : 1 ≤ n) (l Bn : Nat) (w : World) (a0 : Option Addr) (len0 cap0 : Nat) (L0 : List Int) (xs : List (PA w)) (J Jx : List (PA w) → World → Prop)
    (hm : len0 ≤ 140737488355328) (hs : Src w a0 len0 L0) (hb : Bts L0) (hlc : len0 ≤ cap0) (hwk : Wk w xs a0 len0 cap0 L0)
    (W : World) (hW : Below w.heap.size w W) (hJ : AbidesFrom W.heap.size J)
    (hY : ∀ pre x W1, J pre W1 → pre.length < xs.length → YieldAt Fence.wide (n - 1) Try.prog l #[.slice x.1.a x.1.len x.1.cap] W1 fun e W' =>
      (e = .returned (.bool true) ∧ J (pre ++ [x]) W' ∧ Below w.heap.size W1 W') ∨ (e = .returned (.bool false) ∧ Jx (pre ++ [x]) W'))
    (hBn : W.cell? ⟨Bn, 0, none⟩ = some (.slice a0 len0 cap0)) (h0 : J [] W) :
    CallsIn Fence.wide n Try.prog 27 #[.func (.yield l) #[] #[], .pointer (some ⟨Bn, 0, none⟩)] W fun e W' => (∃ v, e = .returned v) ∧
      ((∃ ys, ys = xs ∧ J ys W') ∨ (∃ pre, pre <+: xs ∧ Jx pre W')) := by
  refine callsIn_of_wp Try.func27 rfl trivial ?_ rfl
  simp only [Try.ntmps27, List.size_toArray, List.length_cons, List.length_nil, Nat.reduceAdd, Nat.reduceSub, Array.replicate_succ, Array.replicate_zero, List.push_toArray, List.append_toArray, List.nil_append, List.cons_append]
  gi_wp2
  gi_loopw [3] (fun v wr => ∃ (pre rest : List (PA w)) (a : Option Addr) (len cap : Nat) (L : List Int), v = .slice a len cap ∧ Hid (xs = pre ++ rest) ∧ Wk w rest a len cap L ∧ Src w a len L ∧ Bts L ∧ len ≤ cap ∧ len ≤ 140737488355328 ∧ J pre wr ∧ Below w.heap.size w wr)
    (fun v _ => lenOf v)
  case atStart =>
    exact ⟨[], xs, a0, len0, cap0, L0, rfl, rfl, hwk, hs, hb, hlc, hm, h0, hW⟩
  case round =>
    obtain ⟨pre, rest, a, len, cap, L, rfl, hx, hl, hsr, hbr, hlcr, hmr, hJs, hBr⟩ := hrel
    have hF := first_any a len cap L wr (hsr.below hBr) hbr hlcr hmr
    cases rest with
    | nil =>
      have h : (nx L).1 ≠ 0 := hl
      have hpc : pc a cap L = .slice none 0 0 := by unfold pc; rw [if_neg h]
      rw [hpc] at hF
      have hne : ((nx L).1 != 0) = true := by simp [h]
      clear hpc h hl
      generalize (nx L).1 = E at *
      gi_wp2_with (refine ⟨trivial, ?_⟩; gi_at_call 22; refine (callsIn_wide.2 hF).mono ?_; rintro e w' ⟨rfl, q, rfl⟩)
      refine ⟨fun _ h => (by cases h), ?_⟩
      gi_wp2
      refine bodyPost_ret (results_none rfl _ _ _) rfl ?_
      exact ⟨⟨_, rfl⟩, .inl ⟨pre, by rw [hx.out, List.append_nil], hJ pre _ _ none hJs ⟨rfl, rfl, rfl, Nat.le_refl _, fun _ _ _ => rfl⟩ (fun _ h => by cases h)⟩⟩
    | cons x rest' =>
      obtain ⟨h, hxv, hr⟩ := hl
      have hk := nx_ok hbr h
      rw [hsr.1] at hk
      obtain ⟨g, off, rfl, _⟩ := hsr.flat (by omega)
      have hsm := nx_small hbr h
      obtain ⟨m, hmm⟩ : ∃ m, m = (nx L).2.1.length := ⟨_, rfl⟩
      have hpc : pc (some ⟨g, off, none⟩) cap L = .slice (some ⟨g, off + 4, none⟩) m (cap - 4) := by unfold pc; rw [if_pos h, ← hmm, Option.map_some, Addr.add_lit]
      rw [hpc, h] at hF
      have h22 : (nx L).2.2 = m + 8 := by rw [hk.1, hmm]
      rw [Option.map_some, Addr.add_lit, ← hmm] at hxv
      rw [h22] at hr hk
      have hY' := fun q => hY pre x (wr.drewN q) (hJ pre _ _ none hJs ⟨rfl, rfl, rfl, Nat.le_refl _, fun _ _ _ => rfl⟩ (fun _ h => by cases h)) (by rw [hx.out]; simp)
      rw [hxv] at hY'
      have hle : m + 8 ≤ len := hk.2
      rw [← hmm] at hsm
      have hcut := src_cut hsr cap (m + 8) hlcr
      have hxx : Hid (xs = (pre ++ [x]) ++ rest') := by show _ = _; rw [hx.out]; simp
      have hr' := hid hr
      clear hpc hmm h22 hk h hxv hr hx
      gi_wp2_with (refine ⟨trivial, ?_⟩; gi_at_call 22; refine (callsIn_wide.2 hF).mono ?_; rintro e w' ⟨rfl, q, rfl⟩; obtain ⟨fn, tmps, assign, body, hy, hR⟩ := hY' q)
      refine hR.mono ?_
      rintro e W3 (⟨rfl, hJ3, hk3⟩ | ⟨rfl, hJx3⟩)
      · have hB3 : Below w.heap.size w W3 := (below_drewN hBr q).trans hk3
        clear hF hY' hR hy
        have hmi : (m : Int) + 8 ≤ (len : Int) := by omega
        gi_wp2_with (refine ⟨trivial, ?_⟩; gi_at_call 19; refine (callsIn_wide.2 (size_any _ m _ _ (by omega))).mono ?_; rintro e w' ⟨rfl, rfl⟩)
        go_roundw
        case rel =>
          refine ⟨pre ++ [x], rest', _, _, _, L.drop (m + 8), ?_, hxx, hr'.out, hcut, hbr.drop _, by omega, by omega, hJ3, hB3⟩
          unfold cutA
          rw [Option.map_some, Addr.add_lit]
        case measure => show len - (m + 8) < len; omega
      · clear hF hY' hR hy
        gi_wp2
        refine bodyPost_ret (results_none rfl _ _ _) rfl ?_
        exact ⟨⟨_, rfl⟩, .inr ⟨pre ++ [x], ⟨rest', by rw [hxx.out]⟩, hJx3⟩⟩

set_option maxHeartbeats 1000000 in
theorem walk_in (n : Nat) (a0 : Option Addr) (len0 cap0 : Nat) (w : World) :
    CallsIn Fence.wide n Try.prog 25 #[.slice a0 len0 cap0] w fun e w' => e = .returned (.func (.func 27) #[] #[.pointer (some ⟨w.heap.size, 0, none⟩)]) ∧ w' = w.alloc (.cells #[.slice a0 len0 cap0] 22) := by
  refine callsIn_of_wp Try.func25 rfl trivial ?_ rfl
  simp only [Try.ntmps25, List.size_toArray, List.length_cons, List.length_nil, Nat.reduceAdd, Nat.reduceSub, Array.replicate_succ, Array.replicate_zero, List.push_toArray, List.append_toArray, List.nil_append, List.cons_append]
  gi_wp2
  go_ret
  exact ⟨rfl, rfl⟩

theorem walk_stops (n : Nat) (hn : 1 ≤ n) (Bn : Nat) (w : World) (a0 : Option Addr) (len0 cap0 : Nat) (L0 : List Int) (xs : List (PA w))
    (hm : len0 ≤ 140737488355328) (hs : Src w a0 len0 L0) (hb : Bts L0) (hlc : len0 ≤ cap0) (hwk : Wk w xs a0 len0 cap0 L0)
    (w2 : World) (h2 : Below w.heap.size w w2) (hBn : Bn < w2.heap.size) (hc : w2.cell? ⟨Bn, 0, none⟩ = some (.slice a0 len0 cap0)) :
    SeqStopsK Fence.wide n Try.prog 27 #[.pointer (some ⟨Bn, 0, none⟩)] (fun x : PA w => #[Value.slice x.1.a x.1.len x.1.cap]) (Below w.heap.size) (fun ys => ys = xs) (fun pre => pre <+: xs) xs.length w2 := fun l J Jx W hW hJ _ hY h0 =>
  walk1_in n hn l Bn w a0 len0 cap0 L0 xs J Jx hm hs hb hlc hwk W (h2.trans (hW.mono h2.size)) hJ hY ((hW.cell (p := ⟨Bn, 0, none⟩) hBn).trans hc) h0
end Go.Proofs.Ytajopapcknnfoaa
