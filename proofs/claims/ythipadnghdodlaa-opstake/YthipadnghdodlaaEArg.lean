/- Bytes that came in; readers of them; what stays while two readers go on. -/
import Derived.Test.YthipadnghdodlaaETakeR
import Derived.Test.YthipadnghdodlaaRows
import Derived.OpenShut
import Derived.Laws.BytesArg
namespace Go.Proofs.Ythipadnghdodlaa
open Go.RowKit Go.ChangeShapes Go.WideShapes

theorem open_bytes {H : Type} {enc : TypeId × Value → H} {W : World} {a : Option Addr} {len cap : Nat} {d : DataW H} {p : List MemPlace} (h : DataW.Trod enc Try.prog W 0 (fun _ => true) true 32 (.slice a len cap) d p) :
    ∃ L, Src W a len L ∧ Bts L ∧ len ≤ cap ∧ cap ≤ 9223372036854775807 ∧ (a = none → len = 0 ∧ cap = 0) := by
  obtain ⟨fuel, hf⟩ := h
  rcases open_ints Try.underlying32 Try.underlying5 (by kernel_rfl) hf with ⟨hcs, _⟩ | ⟨x, l, c, zs, hcs, _, hl, hm, hz, _, hcell, hwz⟩
  · simp [Value.cells] at hcs
    obtain ⟨rfl, rfl, rfl⟩ := hcs
    exact ⟨[], ⟨rfl, fun h => absurd h (by omega)⟩, fun x hx => by simp at hx, Nat.le_refl _, by omega, fun _ => ⟨rfl, rfl⟩⟩
  · simp [Value.cells] at hcs
    obtain ⟨rfl, rfl, rfl⟩ := hcs
    have hz' : zs.length = cap := by simpa using hz
    refine ⟨zs.take len, ⟨by rw [List.length_take, hz']; omega, fun _ => ⟨x, rfl, fun j v hj => ?_⟩⟩, fun n hn => ?_, hl, by unfold maxLen at hm; omega, fun h => by cases h⟩
    · have hlt : j < len := by
        rcases Nat.lt_or_ge j len with h | h
        · exact h
        · rw [List.getElem?_eq_none (by rw [List.length_take]; omega)] at hj; simp at hj
      rw [List.getElem?_take_of_lt hlt] at hj
      have := hcell j (by omega)
      rw [List.getD, hj] at this
      exact this
    · have hw := hwz n (List.mem_of_mem_take hn)
      have := bounds_u8 hw
      omega

theorem src_block {w : World} {a : Option Addr} {len : Nat} {L : List Int} (h : Src w a len L) : ∀ ad, 0 < len → a = some ad → ad.block < w.heap.size := by
  intro ad hp ha
  obtain ⟨ad', ha', hc⟩ := h.2 hp
  rw [ha] at ha'
  cases ha'
  have hl : 0 < L.length := by rw [h.1]; exact hp
  have := hc 0 _ (List.getElem?_eq_getElem hl)
  have := cell_block this
  simpa [Addr.add] using this

theorem conv_src {w : World} {a : Option Addr} {n : Nat} {L : List Int} (h : Src w a n L) (cap : Nat) : (convert 32 9 (.slice a n cap)).run Try.prog w = .ok (.string (strOfNums L)) w := by
  by_cases hp : 0 < n
  · obtain ⟨g, off, rfl, hc⟩ := h.flat hp
    exact run_convert_bytes_arg (P := Try.prog) w 32 5 Try.underlying32 Try.underlying5 g off n cap L h.1 (fun i hi => hc i hi) 9 Try.underlying9
  · obtain rfl : n = 0 := by omega
    obtain rfl : L = [] := List.eq_nil_of_length_eq_zero h.1
    rw [run_convert_bytes_string w 32 9 5 a 0 cap Try.underlying32 Try.underlying5 Try.underlying9]
    cases a <;> simp [Conv.bytesToString, loadCells] <;> rfl

theorem str_app (A B : List Int) : strOfNums (A ++ B) = strOfNums A ++ strOfNums B := by
  apply ByteArray.ext
  simp [strOfNums]

theorem src_drop {w : World} {g off len : Nat} {L : List Int} (h : Src w (some ⟨g, off, none⟩) len L) (k : Nat) : Src w (some ⟨g, off + k, none⟩) (len - k) (L.drop k) := by
  refine ⟨by rw [List.length_drop, h.1], fun hp => ⟨_, rfl, fun j v hj => ?_⟩⟩
  obtain ⟨ad, ha, hc⟩ := h.2 (by omega)
  obtain rfl := Option.some.inj ha
  rw [List.getElem?_drop] at hj
  have := hc (k + j) v hj
  rw [Addr.add_lit] at this ⊢
  rw [Nat.add_assoc]; exact this

/-- But for blocks b and c what was there stays. -/
structure Keep (b c : Nat) (w w' : World) : Prop where
  os : w'.os = w.os
  tape : w'.tape = w.tape
  output : w'.output = w.output
  size : w.heap.size ≤ w'.heap.size
  block : ∀ k, k < w.heap.size → k ≠ b → k ≠ c → w'.heap[k]? = w.heap[k]?

theorem Keep.refl (b c : Nat) (w : World) : Keep b c w w := ⟨rfl, rfl, rfl, Nat.le_refl _, fun _ _ _ _ => rfl⟩
theorem Keep.left {b c : Nat} {w w' w'' : World} (h : Keep b c w w') (k : w'.grownBy w'' (some b)) : Keep b c w w'' :=
  ⟨k.os.trans h.os, k.tape.trans h.tape, k.output.trans h.output, Nat.le_trans h.size k.size, fun i hi h1 h2 => (k.block i (Nat.lt_of_lt_of_le hi h.size) (fun e => h1 (by simpa using e))).trans (h.block i hi h1 h2)⟩
theorem Keep.right {b c : Nat} {w w' w'' : World} (h : Keep b c w w') (k : w'.grownBy w'' (some c)) : Keep b c w w'' :=
  ⟨k.os.trans h.os, k.tape.trans h.tape, k.output.trans h.output, Nat.le_trans h.size k.size, fun i hi h1 h2 => (k.block i (Nat.lt_of_lt_of_le hi h.size) (fun e => h2 (by simpa using e))).trans (h.block i hi h1 h2)⟩
theorem Keep.drew {b c : Nat} {w w' : World} (h : Keep b c w w') : Keep b c w w'.drew := ⟨h.os, h.tape, h.output, h.size, h.block⟩
theorem Keep.below {b c B : Nat} {w w' : World} (h : Keep b c w w') (hb : B ≤ b) (hc : B ≤ c) (hB : B ≤ w.heap.size) : RowKit.Below B w w' :=
  ⟨h.os, h.tape, h.output, h.size, fun k hk => h.block k (by omega) (by omega) (by omega)⟩

theorem Rdr.grown {w w' : World} {b z c : Nat} {L : List Int} {e : Int} (h : Rdr w b z L e) (hg : w.grownBy w' (some c)) (hbc : b ≠ c) (hzc : z ≠ c) : Rdr w' b z L e := by
  obtain ⟨a, len, cap, hr, hs, r1, r2, hne, hB, hd⟩ := h
  have hlt := hr.lt
  have hblk := src_block hs
  have hb : w'.heap[b]? = w.heap[b]? := hg.block b hlt (fun e => hbc (by simpa using e))
  refine ⟨a, len, cap, ⟨?_, ?_, ?_, ?_⟩, ⟨hs.1, fun hp => ?_⟩, r1, r2, hne, hB, hd⟩
  · rw [World.cell?_of_block (w := w) hb]; exact hr.c0
  · rw [World.cell?_of_block (w := w) hb]; exact hr.c1
  · rw [World.frozen?_of_block (w := w) hb]; exact hr.f0
  · rw [World.frozen?_of_block (w := w) hb]; exact hr.f1
  · obtain ⟨ad, ha, hc⟩ := hs.2 hp
    refine ⟨ad, ha, fun j v hj => ?_⟩
    have hbk : (ad.add j).block = ad.block := by unfold Addr.add; split <;> rfl
    have hz := hne.1 ad hp ha
    have hl := hblk ad hp ha
    rw [World.cell?_of_block (w := w) (by rw [hbk]; exact hg.block ad.block hl (fun e => hzc (by rw [← hz]; simpa using e)))]
    exact hc j v hj

theorem dint_zig (n : Int) : dint (zig n) = n := by unfold dint zig; split <;> split <;> omega

theorem tk_encd {d : Dt} (h : Dw d) : tk (encd d) 0 = (d, [], 0) := by
  obtain ⟨⟨x0, x1⟩, y0, y1⟩ := dw_bounds h
  have z1 := zig_range d.1 x0 x1
  have z2 := zig_range d.2 y0 y1
  have e1 : dec (encd d) 0 = (zig d.1, enc (zig d.2), 0) := dec_enc (zig d.1) (enc (zig d.2)) z1.1 z1.2 (bts_enc _)
  have e2 : dec (enc (zig d.2)) 0 = (zig d.2, [], 0) := by
    have := dec_enc (zig d.2) [] z2.1 z2.2 (fun x hx => by simp at hx)
    simpa using this
  unfold tk
  rw [e1]
  simp only [e2]
  simp [dint_zig]

theorem bts_encd (d : Dt) : Bts (encd d) := (bts_enc _).append (bts_enc _)

end Go.Proofs.Ythipadnghdodlaa
