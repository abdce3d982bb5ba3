/- The reader's number of either sign, its end; what stays as it was behind other calls. -/
import Derived.Test.YthipadnghdodlaaReader
namespace Go.Proofs.Ythipadnghdodlaa
open Go.RowKit
theorem dint_even (n : Int) (h : (IntKind.u64.wrap (n * 9223372036854775808) != 0) = false) : n / 2 = dint n := by
  simp [IntKind.wrap, IntKind.bits, IntKind.signed] at h
  unfold dint; rw [if_pos (by omega)]
theorem not_i64 (m : Int) (h0 : 0 ≤ m) (h1 : m < 9223372036854775808) : bits .xor .i64 (-1) m = - m - 1 := by
  obtain ⟨a, rfl⟩ := Int.eq_ofNat_of_zero_le h0
  have ha : a < 18446744073709551616 := by omega
  have e1 : BitVec.ofInt 64 (-1) = BitVec.allOnes 64 := by decide
  have e2 : (BitVec.allOnes 64 ^^^ BitVec.ofNat 64 a) = ~~~ (BitVec.ofNat 64 a) := by rw [BitVec.allOnes_xor]
  show IntKind.i64.wrap ((BitVec.ofInt 64 (-1) ^^^ BitVec.ofInt 64 (a : Int)).toNat : Int) = _
  rw [e1, BitVec.ofInt_natCast, e2, BitVec.toNat_not, BitVec.toNat_ofNat, IntKind.wrap_i64]
  have : a % 2 ^ 64 = a := Nat.mod_eq_of_lt ha
  rw [this]
  omega
theorem dint_odd (n : Int) (h0 : 0 ≤ n) (h1 : n < 18446744073709551616) (h : (IntKind.u64.wrap (n * 9223372036854775808) != 0) = true) : bits .xor .i64 (-1) (n / 2) = dint n := by
  rw [not_i64 _ (by omega) (by omega)]
  simp [IntKind.wrap, IntKind.bits, IntKind.signed] at h
  unfold dint; rw [if_neg (by omega)]
set_option maxHeartbeats 400000 in
theorem rint_any (w : World) (b z : Nat) (L : List Int) (e : Int) (h : Rdr w b z L e) :
    Calls Try.prog 49 #[.pointer (some ⟨b, 0, none⟩)] w fun r w' => r = .returned (.int .i64 (dint (dec L e).1)) ∧ Rdr w' b z (dec L e).2.1 (dec L e).2.2 ∧ Only b w w' := by
  have hb : Bts L := by obtain ⟨a, len, cap, hr, hs, hlc, hcap, hne, hb, hd⟩ := h; exact hb
  have hu := dec_u64 L e hb
  have hc := ruint_any w b z L e h
  generalize dec L e = d at *
  obtain ⟨n, L', e'⟩ := d
  simp only at *
  clear h hb
  go_enter Try.func49, Try.ntmps49
  go_wp2_with (go_at_call 72; refine hc.mono ?_; rintro r w' ⟨rfl, hr2, ho2⟩)
  · go_ret
    have hx : (IntKind.u64.wrap (n * 9223372036854775808) != 0) = true := by assumption
    refine ⟨ret_int ?_, hr2, ho2⟩
    exact dint_odd n hu.1 hu.2 hx
  · go_ret
    have hx : (IntKind.u64.wrap (n * 9223372036854775808) != 0) = false := by assumption
    exact ⟨ret_int (dint_even n hx), hr2, ho2⟩

set_option maxHeartbeats 400000 in
theorem end_nil (w : World) (b z : Nat) (e : Int) (h : Rdr w b z [] e) :
    Calls Try.prog 20 #[.pointer (some ⟨b, 0, none⟩)] w fun r w' => r = .returned (.int .i64 e) ∧ w = w' := by
  obtain ⟨a, len, cap, hr, hs, hlc, hcap, hne, hb, hd⟩ := id h
  obtain rfl : len = 0 := hs.1.symm
  go_enter Try.func20, Try.ntmps20
  go_wp2_with (first
    | (go_at_call 22; refine (left_any _ b a 0 cap e hr).mono ?_; rintro r w' ⟨rfl, rfl⟩)
    | (go_at_call 23; refine (err_any _ b _ e hr).mono ?_; rintro r w' ⟨rfl, rfl⟩))
  go_ret
  exact ⟨rfl, rfl⟩

set_option maxHeartbeats 400000 in
theorem end_left (w : World) (b z : Nat) (L : List Int) (e : Int) (h : Rdr w b z L e) (hL : L ≠ []) :
    Calls Try.prog 20 #[.pointer (some ⟨b, 0, none⟩)] w fun r w' => r = .returned (.int .i64 11) ∧ Rdr w' b z [] 11 ∧ Only b w w' := by
  obtain ⟨a, len, cap, hr, hs, hlc, hcap, hne, hb, hd⟩ := id h
  obtain rfl : e = 0 := Classical.byContradiction fun hq => hL (hd hq)
  have hpos : 0 < len := by rw [← hs.1]; exact List.length_pos_iff.2 hL
  go_enter Try.func20, Try.ntmps20
  go_wp2_with (first
    | (go_at_call 22; refine (left_any _ b a len cap 0 hr).mono ?_; rintro r w' ⟨rfl, rfl⟩)
    | (go_at_call 52; refine (fail_any _ b _ 11 hr (by decide)).mono ?_; rintro r w2 ⟨rfl, hr2, ho2⟩)
    | (go_at_call 23; refine (err_any _ b _ 11 hr2).mono ?_; rintro r w' ⟨rfl, rfl⟩))
  go_ret
  exact ⟨rfl, Rdr.dead hne.2 hr2, ho2⟩

theorem Row.below {w w' : World} {g : Nat} {L : List Int} (h : Row w g L) (hb : Below w.heap.size w w') : Row w' g L := by
  unfold Row; rw [hb.block g h.lt]; exact h
theorem Row.only {w w' : World} {g b : Nat} {L : List Int} (h : Row w g L) (ho : Only b w w') (hne : g ≠ b) : Row w' g L := by
  unfold Row; rw [ho.block g hne]; exact h
theorem Row.src {w : World} {g : Nat} {L : List Int} (h : Row w g L) (n : Nat) (hn : L.length = n) : Src w (some ⟨g, 0, none⟩) n L := by
  refine ⟨hn, fun _ => ⟨_, rfl, fun j v hj => ?_⟩⟩
  have := h.cellq j v hj
  by_cases hj0 : j = 0
  · subst hj0; simpa [Addr.add] using this
  · simpa [Addr.add, hj0] using this
theorem Src.below {w w' : World} {a : Option Addr} {n : Nat} {L : List Int} (h : Src w a n L) (hb : Below w.heap.size w w') : Src w' a n L := by
  refine ⟨h.1, fun hp => ?_⟩
  obtain ⟨ad, ha, hc⟩ := h.2 hp
  refine ⟨ad, ha, fun j v hj => ?_⟩
  have := hc j v hj
  rw [hb.cell (cell_block this)]; exact this
theorem Rd.lt {w : World} {b : Nat} {v : Value} {e : Int} (h : Rd w b v e) : b < w.heap.size := cell_block h.c0
theorem Rd.below {w w' : World} {b : Nat} {v : Value} {e : Int} (h : Rd w b v e) (hb : Below w.heap.size w w') : Rd w' b v e := by
  have hl := h.lt
  exact ⟨(hb.cell hl).trans h.c0, (hb.cell hl).trans h.c1, (hb.frozen hl).trans h.f0, (hb.frozen hl).trans h.f1⟩
theorem Only.frozen {g : Nat} {w w' : World} (h : Only g w w') {p : Addr} (hp : p.block ≠ g) : w'.frozen? p = w.frozen? p := World.frozen?_of_block (w := w) (h.block p.block hp)
theorem Rd.only {w w' : World} {b c : Nat} {v : Value} {e : Int} (h : Rd w b v e) (ho : Only c w w') (hne : b ≠ c) : Rd w' b v e :=
  ⟨(ho.cell hne).trans h.c0, (ho.cell hne).trans h.c1, (ho.frozen hne).trans h.f0, (ho.frozen hne).trans h.f1⟩
theorem Rdr.lt {w : World} {b z : Nat} {L : List Int} {e : Int} (h : Rdr w b z L e) : b < w.heap.size := by
  obtain ⟨a, len, cap, hr, _⟩ := h; exact hr.lt
theorem Rdr.below {w w' : World} {b z : Nat} {L : List Int} {e : Int} (h : Rdr w b z L e) (hb : Below w.heap.size w w') : Rdr w' b z L e := by
  obtain ⟨a, len, cap, hr, hs, hl, hc, hne, hB, hd⟩ := h
  exact ⟨a, len, cap, hr.below hb, hs.below hb, hl, hc, hne, hB, hd⟩
theorem Rdr.only {w w' : World} {b z c : Nat} {L : List Int} {e : Int} (h : Rdr w b z L e) (ho : Only c w w') (hbc : b ≠ c) (hzc : z ≠ c) : Rdr w' b z L e := by
  obtain ⟨a, len, cap, hr, hs, hl, hc, hne, hB, hd⟩ := h
  exact ⟨a, len, cap, hr.only ho hbc, hs.only ho (fun ad hp h => by rw [hne.1 ad hp h]; exact hzc), hl, hc, hne, hB, hd⟩
theorem bnext {w w1 w2 : World} (h : Below w.heap.size w w1) (k : Below w1.heap.size w1 w2) : Below w.heap.size w w2 := h.trans (k.mono h.size)
theorem Only.trans {g : Nat} {a b c : World} (h : Only g a b) (k : Only g b c) : Only g a c :=
  ⟨k.os.trans h.os, k.tape.trans h.tape, k.output.trans h.output, k.size.trans h.size, fun i hi => (k.block i hi).trans (h.block i hi)⟩

end Go.Proofs.Ythipadnghdodlaa
