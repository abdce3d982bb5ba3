/- Put and the reference's Put: a vector's bytes, in new memory. -/
import Derived.Test.YthipadnghdodlaaBCount
namespace Go.Proofs.Ythipadnghdodlaa
open Go.RowKit

/-- The bytes of dots, one behind the other. -/
def encs (V : List Dt) : List Int := V.flatMap encd

/-- A vector's bytes. -/
def encv (V : List Dt) : List Int := enc (V.length : Int) ++ encs V

theorem encs_snoc (V : List Dt) (d : Dt) : encs (V ++ [d]) = encs V ++ encd d := by simp [encs]

theorem encd_len (d : Dt) : (encd d).length ≤ 18 ∧ 0 < (encd d).length := by
  unfold encd
  rw [List.length_append, enc_length, enc_length]
  have := sz_le (zig d.1)
  have := sz_le (zig d.2)
  have := sz_pos (zig d.1)
  omega

theorem encs_len (V : List Dt) : (encs V).length ≤ V.length * 18 := by
  induction V with
  | nil => simp [encs]
  | cons d r ih =>
    have e : encs (d :: r) = encd d ++ encs r := by simp [encs]
    rw [e, List.length_append, List.length_cons]
    have := (encd_len d).1
    omega

theorem bts_encs (V : List Dt) : Bts (encs V) := by
  induction V with
  | nil => intro x hx; simp [encs] at hx
  | cons d r ih =>
    have e : encs (d :: r) = encd d ++ encs r := by simp [encs]
    rw [e]
    exact (bts_encd d).append ih

abbrev b8s (L : List Int) : List Value := L.map (Value.int .u8)

/-- A block of bytes, as a slice of the call's own. -/
theorem Row.owns {w : World} {g base : Nat} {L : List Int} (h : Row w g L) (hb : base ≤ g) (hm : L.length ≤ maxLen) : w.ownsRow base 5 1 (.slice (some ⟨g, 0, none⟩) L.length L.length) L.length (b8s L) :=
  ⟨by simp [b8s], .inr ⟨g, L.length, _, rfl, hb, h, Nat.le_refl _, hm, by simp, List.take_of_length_le (by simp)⟩⟩

theorem src_cells {w : World} {ad : Addr} {n : Nat} {L : List Int} (h : Src w (some ad) n L) : ∀ j u, (b8s L)[j]? = some u → w.cell? (ad.add j) = some u := by
  intro j u hj
  have hp : 0 < n := by
    rcases Nat.eq_zero_or_pos n with h0 | h0
    · have : L = [] := List.eq_nil_of_length_eq_zero (by rw [h.1]; exact h0)
      subst this
      simp [b8s] at hj
    · exact h0
  obtain ⟨ad', ha, hc⟩ := h.2 hp
  cases ha
  simp only [b8s, List.getElem?_map] at hj
  cases hv : L[j]? with
  | none => rw [hv] at hj; simp at hj
  | some v =>
    rw [hv] at hj
    simp at hj
    subst hj
    exact hc j v hv

/-- append of bytes to a row of the call's own. -/
theorem wpList_append_bytes {w : World} {ops : Array Oper} {rest : List Oper} {o : Oper} {a : Act} {Q : Exit → Act → World → Prop} (hgd : o.guard = none) (s x : Operand)
    (ho : o.op = .call { callee := .builtin .append, args := #[s, x], argTypes := #[32, 32] }) (base : Nat) (v : Value) (n : Nat) (M : List Int) (hs : a.eval s = v) (hown : w.ownsRow base 5 1 v n (b8s M))
    (g m c : Nat) (L : List Int) (hx : a.eval x = .slice (some ⟨g, 0, none⟩) m c) (hL : Src w (some ⟨g, 0, none⟩) m L) (hb : n + m ≤ 100000000) (hbase : base ≤ w.heap.size)
    (h : ∀ v' w', w'.ownsRow base 5 1 v' (n + m) (b8s (M ++ L)) → w.grownBy w' v.ownBlock → wpList Try.prog ops Q rest (a.put o.dst v') w') : wpList Try.prog ops Q (o :: rest) a w := by
  obtain ⟨i0, hi, hz0, hz1, hz2⟩ := info_parts Try.info5
  refine wpList_append_own w hgd s x 32 ho base 5 i0 _ 1 1 Try.underlying32 hi hz0 hz1 hz2 rfl (by decide) v n (b8s M) hs hown ⟨g, 0, none⟩ m c (b8s L) hx (by simp [b8s, hL.1]) (src_cells hL) (by intro u hu; simp [b8s] at hu; obtain ⟨k, _, rfl⟩ := hu; rfl) (by unfold maxLen; omega) (by omega) hbase ?_
  intro v' w' h1 h2 _
  refine h v' w' ?_ h2
  rw [show b8s (M ++ L) = b8s M ++ b8s L by simp [b8s]]
  exact h1

theorem owned_bytes {w : World} {base : Nat} {v : Value} {M : List Int} (h : w.ownsRow base 5 1 v M.length (b8s M)) (hp : 0 < M.length) : ∃ g c, v = .slice (some ⟨g, 0, none⟩) M.length c ∧ base ≤ g ∧ g < w.heap.size ∧ M.length ≤ c ∧ c ≤ maxLen ∧ Src w (some ⟨g, 0, none⟩) M.length M := by
  rcases h.2 with ⟨_, h0⟩ | ⟨g, cap, cur, rfl, hg, hb, hn, hcap, hsz, ht⟩
  · omega
  · refine ⟨g, cap, rfl, hg, (Array.getElem?_eq_some_iff.1 hb).1, hn, hcap, rfl, fun _ => ⟨_, rfl, fun j v hj => ?_⟩⟩
    exact h.cells (g := g) rfl j (.int .u8 v) (by simp [b8s, hj])

theorem below_grown {w w' : World} (h : RowKit.Below w.heap.size w w') : w.grownBy w' none := ⟨h.os, h.tape, h.output, h.size, fun k hk _ => h.block k hk⟩

theorem own_none (v : Value) : v.ownBlock = none ∨ v.ownBlock ≠ none := by
  by_cases h : v.ownBlock = none
  · exact .inl h
  · exact .inr h

theorem src_none (w : World) : Src w none 0 [] := ⟨rfl, fun h => absurd h (by omega)⟩

/-- A call answers new bytes. -/
def GivesB (w : World) (M : List Int) (e : Ending) (w' : World) : Prop := ∃ v, e = .returned v ∧ w'.ownsRow w.heap.size 5 1 v M.length (b8s M) ∧ RowKit.Below w.heap.size w w'

set_option maxRecDepth 100000 in
set_option maxHeartbeats 2000000 in
theorem vput_any (a : Option Addr) (len cap : Nat) (L : List Int) (a' : Option Addr) (n c : Nat) (V : List Dt) (w : World) (hs : Src w a len L) (hm : len ≤ 1000000) (hp : PS w a' n c V) (hn : n ≤ 100000) (hV : VM V) :
    Calls Try.prog 41 #[.slice a len cap, .slice a' n c] w (GivesB w (L ++ encv V)) := by
  have HL := hid hp.len
  have HP := hid hp
  have HV := hid hV
  have hz9 := sz_le (n : Int)
  have hLl := hs.1
  have hu := uint_any a len cap (n : Int) L w hs (by omega) (by omega) (by omega)
  have hel : (L ++ enc (n : Int)).length = len + sz (n : Int) := by rw [List.length_append, enc_length, hLl]
  clear hp hV hs
  have HLl := hid hLl
  clear hLl
  go_enter Try.func41, Try.ntmps41
  go_wp2_with (first | (go_at_call 68; refine hu.mono ?_; rintro e w1 ⟨rfl, r1, b1⟩))
  have O1 := hid (r1.owns (base := w.heap.size) (Nat.le_refl _) (by rw [hel]; unfold maxLen; omega))
  rw [hel] at O1
  have HE := hid hel
  have hb1 := hid b1
  clear hel hu r1 b1
  go_loopw [15, 5] (fun s v wr => ∃ (k : Nat) (M : List Int), k ≤ n ∧ s = .int .i64 k ∧ M.length ≤ 1000010 + k * 18 ∧ Hid (M = L ++ enc (n : Int) ++ encs (V.take k)) ∧ Hid (wr.ownsRow w.heap.size 5 1 v M.length (b8s M)) ∧ Hid (RowKit.Below w.heap.size w wr)) (fun s _ _ => n - (intOf s).toNat)
  case atStart => exact ⟨0, L ++ enc (n : Int), by omega, rfl, by rw [HE.out]; omega, hid (by simp [encs]), hid (by rw [HE.out]; exact O1.out), hb1⟩
  case round =>
    obtain ⟨k, M, hk, rfl, hMl, hM, hO, hbl⟩ := hrel
    have hl := HL.out
    by_cases hlt : k < n
    · obtain ⟨g, o, rfl, hg, hcell⟩ := (HP.out.below hbl.out).at (by omega)
      obtain ⟨hc0, hc1⟩ := hcell k (by omega)
      have hts : Hid _ := hid (take_snoc (L := V) (k := k) (by omega))
      have hdw := HV.out.dws _ (List.getElem_mem (l := V) (n := k) (by omega))
      generalize (V[k]'(by omega)) = d at hc0 hc1 hts hdw
      have hpd := put_any none 0 0 [] d (wr.alloc (.cells #[.int .i64 d.1, .int .i64 d.2] 23)) (src_none _) (by omega) hdw
      have hen := encd_len d
      have henl : (encd d).length = sz (zig d.1) + sz (zig d.2) := by unfold encd; rw [List.length_append, enc_length, enc_length]
      simp only [Nat.zero_add, List.nil_append] at hpd
      have hs18 : sz (zig d.1) + sz (zig d.2) ≤ 18 := by rw [← henl]; exact hen.1
      have hb0 : RowKit.Below w.heap.size w (wr.alloc (.cells #[.int .i64 d.1, .int .i64 d.2] 23)) := hbl.out.alloc hbl.out.size _
      have hO0 := hid (hO.out.alloc (.cells #[.int .i64 d.1, .int .i64 d.2] 23))
      have HEN := hid henl
      obtain ⟨d1, d2⟩ := d
      simp only at hc0 hc1 hpd hb0 hO0 hs18
      clear hl hcell henl
      go_wp2_with (first
        | (at_builtin; have hq := hs2; refine wpList_append_bytes rfl _ _ rfl w.heap.size _ M.length M rfl (hO0.out.kept (below_grown b2) (own_none _)) g2 _ _ (encd (d1, d2)) rfl hs2 (by omega) (Nat.le_trans hb0.size b2.size) ?_; intro v5 w5 ho5 hg5)
        | (go_at_call 40; refine hpd.mono ?_; rintro e w2 ⟨g2, rfl, hg2, r2, b2⟩; have hs2 := r2.src (sz (zig d1) + sz (zig d2)) HEN.out))
      go_roundw
      case rel =>
        refine ⟨k + 1, M ++ encd (d1, d2), by omega, by go_num, by rw [List.length_append]; omega, hid ?_, hid ?_, hid ?_⟩
        · rw [hM.out, hts.out, encs_snoc, List.append_assoc]
        · rw [List.length_append, HEN.out]; exact ho5
        · exact (hb0.trans (b2.mono hb0.size)).grown hg5 (Nat.le_trans hb0.size b2.size) (fun j hj => (hO0.out.lt j hj).1)
      case measure => simp [intOf]; omega
    · obtain rfl : k = n := by omega
      clear hl
      go_wp2_with fail
      go_ret
      have e1 : M = L ++ encv V := by
        rw [hM.out, List.take_of_length_le (by rw [HL.out]; exact Nat.le_refl _), encv, List.append_assoc, HL.out]
      rw [← e1]
      exact ⟨_, rfl, hO.out, hbl.out⟩

set_option maxRecDepth 100000 in
set_option maxHeartbeats 2000000 in
theorem rvput_any (a' : Option Addr) (n c : Nat) (V : List Dt) (w : World) (hp : PS w a' n c V) (hn : n ≤ 100000) (hV : VM V) :
    Calls Try.prog 46 #[.slice a' n c] w (GivesB w (encv V)) := by
  have HL := hid hp.len
  have HP := hid hp
  have HV := hid hV
  have hz9 := sz_le (n : Int)
  have hu := ruintref_any (n : Int) w (by omega) (by omega)
  have hel : (enc (n : Int)).length = sz (n : Int) := enc_length _
  have HE := hid hel
  clear hp hV hel
  go_enter Try.func46, Try.ntmps46
  go_wp2_with (first | (go_at_call 71; refine hu.mono ?_; rintro e w1 ⟨g1, c1, rfl, hg1, o1, b1⟩))
  have O1 := hid o1
  have hb1 := hid b1
  clear hu o1 b1
  go_loopw [4, 3] (fun s v wr => ∃ (k : Nat) (M : List Int), k ≤ n ∧ s = .int .i64 k ∧ M.length ≤ 10 + k * 18 ∧ Hid (M = enc (n : Int) ++ encs (V.take k)) ∧ Hid (wr.ownsRow w.heap.size 5 1 v M.length (b8s M)) ∧ Hid (RowKit.Below w.heap.size w wr)) (fun s _ _ => n - (intOf s).toNat)
  case atStart => exact ⟨0, enc (n : Int), by omega, rfl, by rw [HE.out]; omega, hid (by simp [encs]), hid (by rw [HE.out]; exact O1.out), hb1⟩
  case round =>
    obtain ⟨k, M, hk, rfl, hMl, hM, hO, hbl⟩ := hrel
    have hl := HL.out
    by_cases hlt : k < n
    · obtain ⟨g, o, rfl, hg, hcell⟩ := (HP.out.below hbl.out).at (by omega)
      obtain ⟨hc0, hc1⟩ := hcell k (by omega)
      have hts : Hid _ := hid (take_snoc (L := V) (k := k) (by omega))
      have hdw := HV.out.dws _ (List.getElem_mem (l := V) (n := k) (by omega))
      generalize (V[k]'(by omega)) = d at hc0 hc1 hts hdw
      have hpd := rput_any d wr hdw
      have hen := encd_len d
      obtain ⟨d1, d2⟩ := d
      simp only at hc0 hc1 hpd
      clear hl hcell
      go_wp2_with (first
        | (at_builtin; have hq := hs2; refine wpList_append_bytes rfl _ _ rfl w.heap.size _ M.length M rfl (hO.out.kept (below_grown b2) (own_none _)) g2 _ _ (encd (d1, d2)) rfl hs2 (by omega) (Nat.le_trans hbl.out.size b2.size) ?_; intro v5 w5 ho5 hg5)
        | (go_at_call 44; refine hpd.mono ?_; rintro e w2 ⟨g2, c2, rfl, hg2, hs2, b2⟩))
      go_roundw
      case rel =>
        refine ⟨k + 1, M ++ encd (d1, d2), by omega, by go_num, by rw [List.length_append]; omega, hid ?_, hid ?_, hid ?_⟩
        · rw [hM.out, hts.out, encs_snoc, List.append_assoc]
        · rw [List.length_append]; exact ho5
        · exact (hbl.out.trans (b2.mono hbl.out.size)).grown hg5 (Nat.le_trans hbl.out.size b2.size) (fun j hj => (hO.out.lt j hj).1)
      case measure => simp [intOf]; omega
    · obtain rfl : k = n := by omega
      clear hl
      go_wp2_with fail
      go_ret
      have e1 : M = encv V := by
        rw [hM.out, List.take_of_length_le (by rw [HL.out]; exact Nat.le_refl _), encv, HL.out]
      rw [← e1]
      exact ⟨_, rfl, hO.out, hbl.out⟩

end Go.Proofs.Ythipadnghdodlaa
