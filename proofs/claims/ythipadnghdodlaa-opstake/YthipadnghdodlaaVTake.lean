/- Take and the reference's Take: the next vector, what is left, the error. -/
import Derived.Test.YthipadnghdodlaaVPut
namespace Go.Proofs.Ythipadnghdodlaa
open Go.RowKit

/-- So many dots, one behind the other. -/
def tks (L : List Int) (e : Int) : Nat → List Dt × List Int × Int
  | 0 => ([], L, e)
  | k + 1 => ((tks L e k).1 ++ [(tk (tks L e k).2.1 (tks L e k).2.2).1], (tk (tks L e k).2.1 (tks L e k).2.2).2.1, (tk (tks L e k).2.1 (tks L e k).2.2).2.2)

theorem tks_length (L : List Int) (e : Int) : ∀ k, (tks L e k).1.length = k
  | 0 => rfl
  | k + 1 => by simp [tks, tks_length L e k]

/-- Of dots that were read: the vector, what is left, the error. -/
def vfin (s : List Dt × List Int × Int) : List Dt × List Int × Int :=
  if s.2.2 = 0 then (if vmb s.1 = true then s else ([], [], 11)) else ([], s.2.1, s.2.2)

/-- The next vector, what is left, the error. -/
def vtk (L : List Int) (e : Int) : List Dt × List Int × Int := vfin (tks (cnt L e 2).2.1 (cnt L e 2).2.2 (cnt L e 2).1.toNat)

theorem cnt_two (L : List Int) (e : Int) (h : Bts L) : 0 ≤ (cnt L e 2).1 ∧ (cnt L e 2).1 * 2 ≤ (cnt L e 2).2.1.length := by
  have hu := dec_u64 L e h
  unfold cnt
  split
  · simp
  · rename_i ht
    rw [show max (2 : Int) 1 = 2 by omega] at ht
    omega

theorem gb_trans {w w1 w2 : World} {b : Nat} (h : w.grownBy w1 (some b)) (k : w1.grownBy w2 (some b)) : w.grownBy w2 (some b) :=
  ⟨k.os.trans h.os, k.tape.trans h.tape, k.output.trans h.output, Nat.le_trans h.size k.size, fun i hi hne => (k.block i (Nat.lt_of_lt_of_le hi h.size) hne).trans (h.block i hi hne)⟩

theorem gb_below {w w1 w2 : World} {b : Nat} (h : w.grownBy w1 (some b)) (k : RowKit.Below w1.heap.size w1 w2) : w.grownBy w2 (some b) :=
  ⟨k.os.trans h.os, k.tape.trans h.tape, k.output.trans h.output, Nat.le_trans h.size k.size, fun i hi hne => (k.block i (Nat.lt_of_lt_of_le hi h.size)).trans (h.block i hi hne)⟩

theorem gb_own {w w1 w2 : World} {b : Nat} {v : Value} (h : w.grownBy w1 (some b)) (k : w1.grownBy w2 v.ownBlock) (hv : ∀ j, v.ownBlock = some j → w.heap.size ≤ j) : w.grownBy w2 (some b) :=
  ⟨k.os.trans h.os, k.tape.trans h.tape, k.output.trans h.output, Nat.le_trans h.size k.size, fun i hi hne => (k.block i (Nat.lt_of_lt_of_le hi h.size) (fun e => by have := hv i e.symm; omega)).trans (h.block i hi hne)⟩

theorem gb_only {w w1 w2 : World} {b : Nat} (h : w.grownBy w1 (some b)) (k : Only b w1 w2) : w.grownBy w2 (some b) := gb_trans h k.grown

/-- A reader while a slice of the call's own grows. -/
theorem rdr_own {w w' : World} {b z : Nat} {L : List Int} {e : Int} {v : Value} (h : Rdr w b z L e) (hg : w.grownBy w' v.ownBlock) (hv : ∀ j, v.ownBlock = some j → b ≠ j ∧ z ≠ j) : Rdr w' b z L e := by
  cases hb : v.ownBlock with
  | none =>
    rw [hb] at hg
    exact h.below ⟨hg.os, hg.tape, hg.output, hg.size, fun k hk => hg.block k hk (by simp)⟩
  | some j =>
    rw [hb] at hg
    obtain ⟨h1, h2⟩ := hv j hb
    exact h.grown hg h1 h2

theorem own_block_ge {w : World} {b n c m : Nat} {a : Option Addr} {xs : List Value} (h : w.ownsRow b 23 2 (.slice a n c) m xs) : ∀ ad, a = some ad → b ≤ ad.block := by
  intro ad ha
  rcases h.2 with ⟨h0, _⟩ | ⟨g', cap', cur, hv, hg, _⟩
  · cases h0
    cases ha
  · cases hv
    cases ha
    exact hg

/-- A call answers a slice that holds the dots, and the reader has gone on. -/
def TakesV (w : World) (b z : Nat) (s : List Dt × List Int × Int) (r : Ending) (w' : World) : Prop :=
  ∃ a c, r = .returned (.slice a s.1.length c) ∧ PS w' a s.1.length c s.1 ∧ Rdr w' b z s.2.1 s.2.2 ∧ w.grownBy w' (some b) ∧ (∀ ad, a = some ad → w.heap.size ≤ ad.block)

set_option maxRecDepth 100000 in
set_option maxHeartbeats 4000000 in
theorem vtake_any (w : World) (b z : Nat) (L : List Int) (e : Int) (h : Rdr w b z L e) (hz : z < w.heap.size) (hl : (cnt L e 2).2.1.length ≤ 1000000) :
    Calls Try.prog 50 #[.pointer (some ⟨b, 0, none⟩)] w (TakesV w b z (vtk L e)) := by
  have hc := rdcount_any w b z L e 2 h (by omega) (by omega)
  have hr := cnt_two L e h.bts.1
  have hbw := h.lt
  unfold vtk
  generalize cnt L e 2 = q at *
  obtain ⟨n0, L1, e1⟩ := q
  simp only at *
  obtain ⟨n, rfl⟩ := Int.eq_ofNat_of_zero_le hr.1
  have hn : n ≤ 1000000 := by omega
  rw [Int.toNat_natCast]
  clear h hr
  go_enter Try.func50, Try.ntmps50
  go_wp2_with (first | (go_at_call 73; refine hc.mono ?_; rintro r w1 ⟨rfl, R1, o1⟩))
  have HR1 := hid R1
  have G1 := hid o1.grown
  clear hc R1 o1
  go_loopw [6, 3] (fun s v wr => ∃ (k : Nat), k ≤ n ∧ s = .int .i64 k ∧ Hid (Rdr wr b z (tks L1 e1 k).2.1 (tks L1 e1 k).2.2) ∧ Hid (wr.ownsRow w.heap.size 23 2 v (tks L1 e1 k).1.length (flat (tks L1 e1 k).1)) ∧ Hid (w.grownBy wr (some b))) (fun s _ _ => n - (intOf s).toNat)
  case atStart => exact ⟨0, by omega, rfl, hid HR1.out, hid (World.ownsRow_nil _ _ _ _), G1⟩
  case round =>
    obtain ⟨k, hk, rfl, hR, hO, hG⟩ := hrel
    have hkl := tks_length L1 e1 k
    by_cases hlt : k < n
    · have hst : Hid (tks L1 e1 (k + 1) = ((tks L1 e1 k).1 ++ [(tk (tks L1 e1 k).2.1 (tks L1 e1 k).2.2).1], (tk (tks L1 e1 k).2.1 (tks L1 e1 k).2.2).2.1, (tk (tks L1 e1 k).2.1 (tks L1 e1 k).2.2).2.2)) := hid rfl
      have ht := take_any wr b z _ _ hR.out (Nat.lt_of_lt_of_le hz hG.out.size)
      generalize tks L1 e1 k = t at hst ht hR hO hkl
      obtain ⟨D, M, e2⟩ := t
      simp only at hst ht hR hO hkl
      generalize tk M e2 = t at hst ht
      obtain ⟨⟨d1, d2⟩, M', e3⟩ := t
      simp only at hst ht
      have hnb : Hid (∀ j, u3.ownBlock = some j → w.heap.size ≤ j) := hid (fun j hj => (hO.out.lt j hj).1)
      have HK := hid hkl
      clear hkl
      go_wp2_with (first
        | (at_builtin; have hq := g2; refine wpList_append_dots rfl _ _ 25 Try.underlying25 rfl w.heap.size _ D.length (flat D) rfl ((hO.out.kept g2 (.inr (fun e => by have := hnb.out b e; omega))).alloc _) (some ⟨w2.heap.size, 0, none⟩) 1 1 [(d1, d2)] rfl (ps_one w2 (d1, d2)) (by have := HK.out; omega) (by have := hG.out.size; have := g2.size; simp; omega) ?_; intro v5 w5 ho5 hg5)
        | (go_at_call 48; refine ht.mono ?_; rintro r w2 ⟨rfl, R2, g2⟩))
      go_roundw
      case rel =>
        refine ⟨k + 1, by omega, by go_num, hid ?_, hid ?_, hid ?_⟩
        · rw [hst.out]
          exact rdr_own (R2.below ((Below.refl _ w2).alloc (Nat.le_refl _) _)) hg5 (fun j hj => by have := hnb.out j hj; constructor <;> omega)
        · rw [hst.out]
          simp only
          rw [List.length_append, List.length_singleton, flat_append]
          exact ho5
        · exact gb_own (gb_below (gb_trans hG.out g2) ((Below.refl _ w2).alloc (Nat.le_refl _) _)) hg5 hnb.out
      case measure => simp [intOf]; omega
    · obtain rfl : k = n := by omega
      obtain ⟨a3, c3, rfl, hp3⟩ := owned_ps hO.out rfl
      have hmay := vmay_any a3 _ c3 _ wr hp3 (by omega)
      generalize htt : tks L1 e1 k = t at hmay hR hO hkl hp3
      obtain ⟨D, M, e2⟩ := t
      have HT := hid htt
      clear htt
      simp only at hmay hR hO hkl hp3
      have HP := hid hp3
      have hvf : Hid (vfin (D, M, e2) = if e2 = 0 then (if vmb D = true then (D, M, e2) else ([], [], 11)) else ([], M, e2)) := hid rfl
      generalize hrr : vmb D = rr at hmay hvf
      clear hrr hp3 hkl
      cases rr
      · by_cases he : e2 = 0
        · subst he
          have hf := hid (fun W (hW : Rdr W b z M 0) => rfail_any hW 11 (by decide))
          have ev : Hid (vfin (D, M, 0) = ([], [], 11)) := hid (by rw [hvf.out]; simp)
          go_wp2_with (first
            | (go_at_call 23; have hq := o5; refine (err_any _ b _ 11 rd5).mono ?_; rintro r w' ⟨rfl, rfl⟩)
            | (go_at_call 52; have hq := f4; refine (hf.out w4 (hR.out.below f4.below)).mono ?_; rintro r w5 ⟨rfl, R5, o5⟩; obtain ⟨a5, l5, c5, rd5, hrest5⟩ := id R5)
            | (go_at_call 60; refine hmay.mono ?_; rintro r w4 ⟨rfl, f4⟩))
          go_ret
          rw [HT.out, ev.out]
          exact ⟨none, 0, rfl, PS.none _, R5, gb_only (gb_below hG.out f4.below) o5, fun ad h => (by cases h)⟩
        · have heb : (e2 == 0) = false := by simpa using he
          have hen : (e2 != 0) = true := by simpa using he
          have ev : Hid (vfin (D, M, e2) = ([], M, e2)) := hid (by rw [hvf.out, if_neg he])
          go_wp2_with (first
            | (go_at_call 23; have hq := hd5; refine (err_any _ b _ e2 rd5).mono ?_; rintro r w' ⟨rfl, rfl⟩)
            | (go_at_call 52; have hq := f4; refine (fail_dead w4 b _ e2 11 rd5 heb).mono ?_; rintro r w5 ⟨rfl, rfl⟩; have hd5 := rd5)
            | (go_at_call 60; refine hmay.mono ?_; rintro r w4 ⟨rfl, f4⟩; have R4 := hR.out.below f4.below; obtain ⟨a5, l5, c5, rd5, hrest5⟩ := id R4))
          go_ret
          rw [HT.out, ev.out]
          exact ⟨none, 0, rfl, PS.none _, R4, gb_below hG.out f4.below, fun ad h => (by cases h)⟩
      · by_cases he : e2 = 0
        · subst he
          have ev : Hid (vfin (D, M, 0) = (D, M, 0)) := hid (by rw [hvf.out]; simp)
          go_wp2_with (first
            | (go_at_call 23; have hq := rd5; refine (err_any _ b _ 0 rd5).mono ?_; rintro r w' ⟨rfl, rfl⟩)
            | (go_at_call 60; refine hmay.mono ?_; rintro r w4 ⟨rfl, f4⟩; have R4 := hR.out.below f4.below; obtain ⟨a5, l5, c5, rd5, hrest5⟩ := id R4))
          go_ret
          rw [HT.out, ev.out]
          exact ⟨a3, c3, rfl, HP.out.below f4.below, R4, gb_below hG.out f4.below, own_block_ge hO.out⟩
        · have heb : (e2 == 0) = false := by simpa using he
          have hen : (e2 != 0) = true := by simpa using he
          have ev : Hid (vfin (D, M, e2) = ([], M, e2)) := hid (by rw [hvf.out, if_neg he])
          go_wp2_with (first
            | (go_at_call 23; have hq := rd5; refine (err_any _ b _ e2 rd5).mono ?_; rintro r w' ⟨rfl, rfl⟩)
            | (go_at_call 60; refine hmay.mono ?_; rintro r w4 ⟨rfl, f4⟩; have R4 := hR.out.below f4.below; obtain ⟨a5, l5, c5, rd5, hrest5⟩ := id R4))
          go_ret
          rw [HT.out, ev.out]
          exact ⟨none, 0, rfl, PS.none _, R4, gb_below hG.out f4.below, fun ad h => (by cases h)⟩

end Go.Proofs.Ythipadnghdodlaa
