/- Texts: what is written and read of them. -/
import Derived.Test.YthipadnghdodlaaVBytesM
import Derived.Lib.BufferWrite
import Derived.Lib.AppendStr
import Derived.Deep.CutBlock
import Derived.Deep.CutRange
namespace Go.Proofs.Ythipadnghdodlaa
open Go.RowKit

/-- The bytes of a string, as numbers. -/
def sb (s : ByteArray) : List Int := s.data.toList.map fun b => (b.toNat : Int)
theorem sb_length (s : ByteArray) : (sb s).length = s.size := by simp [sb]
theorem sb_cells (s : ByteArray) : Lib.byteCells s.data.toList = (sb s).map (Value.int .u8) := by simp [sb, Lib.byteCells]
theorem bts_sb (s : ByteArray) : Bts (sb s) := by
  intro x hx
  simp only [sb, List.mem_map] at hx
  obtain ⟨b, _, rfl⟩ := hx
  have := b.toNat_lt
  omega

theorem Only.setRow (g : Nat) (w : World) (cs : Array Value) : Only g w (w.setRow g cs) :=
  ⟨rfl, rfl, rfl, by simp [World.setRow], fun k hk => setRow_other w g k cs hk⟩

theorem text_copy {w : World} {g len k : Nat} {s : ByteArray} {L E : List Int} (hr : Row w g (L ++ (E ++ List.replicate s.size 0))) (hL : L.length = len) (hE : E.length = k) (d c : Nat) (hd : s.size ≤ d) :
    ∃ w', (Builtin.copy_ #[32, 9] 3 #[.slice (some ⟨g, len + k, none⟩) d c, .string s]).run Try.prog w = .ok (goInt s.size) w' ∧ Row w' g (L ++ (E ++ sb s)) ∧ Only g w w' := by
  refine ⟨_, Lib.run_copy_row_string (P := Try.prog) w 32 9 3 5 g (len + k) d c s _ 5 Try.underlying32 Try.size5 hr hd (by simp; omega), ?_, Only.setRow _ _ _⟩
  have := setRow_heap w g _ (((L ++ (E ++ List.replicate s.size 0)).map (Value.int .u8)).toArray.toList.take (len + k) ++ Lib.byteCells s.data.toList ++ ((L ++ (E ++ List.replicate s.size 0)).map (Value.int .u8)).toArray.toList.drop (len + k + s.size)).toArray 5 _ hr
  unfold Row
  rw [this, sb_cells]
  congr 3
  rw [← List.map_take, ← List.map_drop, ← List.map_append, ← List.map_append]
  congr 1
  have e1 : (L ++ (E ++ List.replicate s.size 0)).take (len + k) = L ++ E := by
    rw [← List.append_assoc, List.take_append_of_le_length (by simp; omega), List.take_of_length_le (by simp; omega)]
  have e2 : (L ++ (E ++ List.replicate s.size 0)).drop (len + k + s.size) = [] := by
    apply List.drop_eq_nil_of_le; simp; omega
  rw [e1, e2]; simp

theorem row_empty {w : World} {g : Nat} {L E : List Int} {s : ByteArray} (h : s.size = 0) (hr : Row w g (L ++ (E ++ List.replicate s.size 0))) : Row w g (L ++ (E ++ sb s)) := by
  have e1 : sb s = [] := List.eq_nil_of_length_eq_zero (by rw [sb_length]; exact h)
  have e2 : List.replicate s.size (0 : Int) = [] := List.eq_nil_of_length_eq_zero (by rw [List.length_replicate]; exact h)
  rw [e1]; rw [e2] at hr; exact hr

set_option maxHeartbeats 400000 in
theorem text_empty (a : Option Addr) (len cap : Nat) (L : List Int) (w : World) (hs : Src w a len L) (hm : len ≤ 140737488351232) :
    Calls Try.prog 70 #[.slice a len cap, .string ByteArray.empty] w fun e w' => e = .returned (.slice (some ⟨w.heap.size, 0, none⟩) (len + (sz ByteArray.empty.size + ByteArray.empty.size)) (len + (sz ByteArray.empty.size + ByteArray.empty.size))) ∧ Row w' w.heap.size (L ++ (enc ByteArray.empty.size ++ sb ByteArray.empty)) ∧ Below w.heap.size w w' := by
  have e0 : sz ByteArray.empty.size + ByteArray.empty.size = 1 := by decide
  have e1 : enc ByteArray.empty.size ++ sb ByteArray.empty = [0] := by decide
  rw [e0, e1]
  have hbh := behind_any a len cap 1 L w hs (by omega)
  have hL := hs.1
  have hz := size_any 0 w (by omega)
  rw [show sz 0 = 1 from by decide] at hz
  have hcp : ∀ (w : World) d dl dc, (Builtin.copy_ #[32, 9] 3 #[.slice d dl dc, .string ByteArray.empty]).run Try.prog w = .ok (goInt 0) w := fun w d dl dc => Lib.run_copy_empty_string (P := Try.prog) w 32 9 3 5 d dl dc _ Try.underlying32 (by rw [Try.size5]; rfl) rfl
  clear e0 e1
  go_enter Try.func70, Try.ntmps70
  go_wp2_with (first
    | (go_at_call 80; refine hz.mono ?_; rintro e w' ⟨rfl, rfl⟩)
    | (go_at_call 81; refine hbh.mono ?_; rintro e w1 ⟨rfl, hr1, hb1⟩)
    | (go_at_call 82; refine (cut_any w.heap.size len 1 _ L [] 0 _ (fits_sz 0 (by omega) (by omega)) (by rw [List.append_nil]; exact hr1) hL).mono ?_; rintro e w2 ⟨rfl, hr2, ho2⟩))
  go_ret
  rw [show be 1 (0 + hd 1) ++ [] = [0] from by decide] at hr2
  exact ⟨rfl, hr2, hb1.trans (ho2.below (Nat.le_refl _))⟩

theorem empty_of {s : ByteArray} (h : s.size = 0) : s = ByteArray.empty :=
  ByteArray.ext (Array.eq_empty_of_size_eq_zero h)

set_option maxHeartbeats 400000 in
theorem text_any (a : Option Addr) (len cap : Nat) (s : ByteArray) (L : List Int) (w : World) (hs : Src w a len L) (hm : len + s.size ≤ 140737488351232) :
    Calls Try.prog 70 #[.slice a len cap, .string s] w fun e w' => e = .returned (.slice (some ⟨w.heap.size, 0, none⟩) (len + (sz s.size + s.size)) (len + (sz s.size + s.size))) ∧ Row w' w.heap.size (L ++ (enc s.size ++ sb s)) ∧ Below w.heap.size w w' := by
  have hz1 := sz_pos s.size
  have hz9 := sz_le s.size
  have hL := hs.1
  have hbh := behind_any a len cap (sz s.size + s.size) L w hs (by omega)
  rw [Int.natCast_add, ← List.replicate_append_replicate] at hbh
  have hf := fits_sz s.size (by omega) (by omega)
  by_cases h0 : s.size = 0
  · obtain rfl : s = ByteArray.empty := empty_of h0
    exact text_empty a len cap L w hs (by omega)
  · go_enter Try.func70, Try.ntmps70
    go_wp2_with (first
      | (go_at_call 80; refine (size_any _ _ (by omega)).mono ?_; rintro e w' ⟨rfl, rfl⟩)
      | (go_at_call 81; refine hbh.mono ?_; rintro e w1 ⟨rfl, hr1, hb1⟩)
      | (go_at_call 82; refine (cut_any w.heap.size len (sz s.size) _ L (List.replicate s.size 0) s.size _ hf hr1 hL).mono ?_; rintro e w2 ⟨rfl, hr2, ho2⟩; obtain ⟨w3, hcp, hr3, ho3⟩ := text_copy hr2 hL (be_length _ _) (len + (sz s.size + s.size) - (len + sz s.size)) (len + (sz s.size + s.size) - (len + sz s.size)) (by omega)))
    go_ret
    exact ⟨rfl, hr3, hb1.trans ((ho2.below (Nat.le_refl _)).trans (ho3.below (Nat.le_refl _)))⟩
theorem src_take {w : World} {a : Option Addr} {len : Nat} {L : List Int} (h : Src w a len L) (m : Nat) (hm : m ≤ L.length) : Src w a m (L.take m) := by
  refine ⟨by rw [List.length_take]; omega, fun hp => ?_⟩
  obtain ⟨ad, ha, hc⟩ := h.2 (by rw [← h.1]; omega)
  refine ⟨ad, ha, fun j v hj => hc j v ?_⟩
  rw [List.getElem?_take] at hj
  split at hj
  · exact hj
  · simp at hj

/-- The next text, what is left, the error. -/
def rtx (L : List Int) (e : Int) : List Int × List Int × Int := ((cnt L e 1).2.1.take (cnt L e 1).1.toNat, (cnt L e 1).2.1.drop (cnt L e 1).1.toNat, (cnt L e 1).2.2)

theorem cnt_range (L : List Int) (e : Int) (h : Bts L) : 0 ≤ (cnt L e 1).1 ∧ (cnt L e 1).1 ≤ (cnt L e 1).2.1.length := by
  have hu := dec_u64 L e h
  unfold cnt
  split
  · simp
  · rename_i ht
    rw [show max (1 : Int) 1 = 1 by omega, Int.ediv_one] at ht
    omega

set_option maxHeartbeats 400000 in
theorem rtext_any (w : World) (b z : Nat) (L : List Int) (e : Int) (h : Rdr w b z L e) :
    Calls Try.prog 74 #[.pointer (some ⟨b, 0, none⟩)] w fun r w' => r = .returned (.string (strOfNums (rtx L e).1)) ∧ Rdr w' b z (rtx L e).2.1 (rtx L e).2.2 ∧ Only b w w' := by
  have hc := rdcount_any w b z L e 1 h (by omega) (by omega)
  have hr := cnt_range L e h.bts.1
  unfold rtx
  generalize cnt L e 1 = d at *
  obtain ⟨n, L', e'⟩ := d
  simp only at *
  obtain ⟨m, rfl⟩ := Int.eq_ofNat_of_zero_le hr.1
  simp only [Int.toNat_natCast]
  have hm : m ≤ L'.length := by omega
  by_cases h0 : m = 0
  · subst h0
    go_enter Try.func74, Try.ntmps74
    go_wp2_with (go_at_call 73; refine hc.mono ?_; rintro r w1 ⟨rfl, hR1, ho1⟩)
    go_ret
    exact ⟨rfl, by simpa using hR1, ho1⟩
  · have hpos : (0 : Int) < (m : Int) := by omega
    have hne0 : ((m : Int) == 0) = false := by simp; omega
    go_enter Try.func74, Try.ntmps74
    go_wp2_with fail
    refine hc.mono ?_
    rintro r w1 ⟨rfl, hR1, ho1⟩
    obtain ⟨a, len, cap, hrd, hs, hlc, hcap, hne, hB, hd⟩ := hR1
    obtain ⟨g, off, rfl, hcell⟩ := hs.flat (by rw [← hs.1]; omega)
    have hll := hs.1
    have hc0 := hrd.c0
    have hf0 := hrd.f0
    have hcv := conv_src (src_take hs m hm) cap
    have hmc : m ≤ cap := by omega
    obtain rfl : e' = 0 := Classical.byContradiction fun hq => by have := hd hq; rw [this] at hm; simp at hm; omega
    have hz0H : Hid (g = z) := hne.1 _ (by omega) rfl
    have hzb := hne.2
    clear hc hne
    go_wp2_with fail
    all_goals go_ret
    · exact ⟨rfl, rdr_adv hrd hs (by omega) (by omega) hB (by omega) (fun hq => absurd hq (by omega)) ⟨fun ad _ h => by simp at h; subst h; exact hz0H.out, hzb⟩, ho1.trans ((Only.refl _ _).setCell _ _)⟩
    · exact ⟨rfl, rdr_adv hrd hs (by omega) (by omega) hB (by omega) (fun _ => rfl) ⟨fun ad _ h => by simp at h; subst h; exact hz0H.out, hzb⟩, ho1.trans ((Only.refl _ _).setCell _ _)⟩
theorem rtext_ref (s : ByteArray) (w : World) (hs : s.size ≤ 1000) : Calls Try.prog 47 #[.string s] w (Makes w (enc s.size ++ sb s)) := by
  obtain ⟨i0, hi, hz0, hz1, hz2⟩ := info_parts Try.info5
  have hu := ruintref_any s.size w (by omega) (by omega)
  have hz9 := sz_le s.size
  have hz1' := sz_pos s.size
  go_enter Try.func47, Try.ntmps47
  go_wp2_with (first
    | (go_at_call 71; refine hu.mono ?_; rintro r w1 ⟨g, cap, rfl, hg, hown, hb⟩; have hbs := hb.size)
    | (at_builtin; refine Lib.wpList_append_own_string _ rfl (.tmp 6) (.tmp 7) 32 9 rfl w.heap.size 5 i0 Try.underlying32 Try.underlying9 hi hz0 hz1 hz2 _ _ _ rfl hown s rfl (by unfold maxLen; omega) (by omega) hbs ?_; intro v' w2 hown' hgrow hnil))
  have hg2 : w1.grownBy w2 (some g) := hgrow
  have hb2 : Below w.heap.size w w2 := hb.grown hg2 hbs (fun k hk => by simp at hk; omega)
  have hl : (enc s.size ++ sb s).length = sz s.size + s.size := by rw [List.length_append, enc_length, sb_length]
  have hcells : (enc s.size).map (Value.int .u8) ++ Lib.strCells s = (enc s.size ++ sb s).map (Value.int .u8) := by simp [Lib.strCells, sb]
  rw [hcells] at hown'
  obtain ⟨g2, cap2, hv, hBg, _⟩ := owns_open hown' (by omega)
  rw [hv] at hown'
  clear hgrow hnil
  subst hv
  go_ret
  exact ⟨g2, cap2, by rw [hl]; rfl, hBg, by rw [hl]; exact owns_src hown', hb2⟩

theorem rtx_eq (L : List Int) (e : Int) : rtx L e = if ((dec L e).2.1.length : Int) < (dec L e).1 then ([], [], 10) else ((dec L e).2.1.take (dec L e).1.toNat, (dec L e).2.1.drop (dec L e).1.toNat, (dec L e).2.2) := by
  unfold rtx cnt
  rw [show max (1 : Int) 1 = 1 by omega, Int.ediv_one]
  split <;> simp_all

theorem dec_left (L : List Int) (e : Int) (h : (dec L e).2.2 ≠ 0) : (dec L e).2.1 = [] := by
  by_cases he : e = 0
  · subst he; exact (dec_fails L h).2
  · rw [dec_dead _ _ he]

set_option maxHeartbeats 400000 in
theorem wtext_any (w : World) (b z : Nat) (L : List Int) (e : Int) (h : Rdr w b z L e) :
    Calls Try.prog 58 #[.pointer (some ⟨b, 0, none⟩)] w fun r w' => r = .returned (.string (strOfNums (rtx L e).1)) ∧ Rdr w' b z (rtx L e).2.1 (rtx L e).2.2 ∧ Only b w w' := by
  have hu := dec_u64 L e h.bts.1
  have hc := wuint_any w b z L e h
  have hdz := dec_zero L e
  have hdl := dec_left L e
  rw [rtx_eq]
  generalize dec L e = d at *
  obtain ⟨n, L', e'⟩ := d
  simp only at *
  obtain ⟨m, rfl⟩ := Int.eq_ofNat_of_zero_le hu.1
  simp only [Int.toNat_natCast]
  by_cases he : e' = 0
  · subst he
    clear hdz hdl
    by_cases ht : (L'.length : Int) < m
    · rw [if_pos ht]
      go_enter Try.func58, Try.ntmps58
      go_wp2_with (first
        | (go_at_call 75; refine hc.mono ?_; rintro r w1 ⟨rfl, hR1, ho1⟩; have hb1 := hR1.bts; have hR1' := hR1; obtain ⟨a, len, cap, hrd, hs, _⟩ := hR1'; have hrc0 := hrd.c0; have hrc1 := hrd.c1; obtain rfl := hs.1)
        | (go_at_call 57; refine (wfail_any _ _ _ 10 hrd (by decide)).mono ?_; rintro r w2 ⟨rfl, hr2, ho2⟩; have hr21 := hr2.c1))
      go_ret
      exact ⟨rfl, Rdr.dead hb1.2.2 hr2, ho1.trans ho2⟩
    · rw [if_neg ht]
      go_enter Try.func58, Try.ntmps58
      go_upto_region 2 with (go_at_call 75; refine hc.mono ?_; rintro r w1 ⟨rfl, hR1, ho1⟩)
      obtain ⟨a, len, cap, hrd, hs, hlc, hcap, hne, hB, hd⟩ := hR1
      have hm : m ≤ L'.length := by omega
      have hc0 := hrd.c0
      have hc1 := hrd.c1
      have hf0 := hrd.f0
      have hcv := conv_src (src_take hs m hm) cap
      have hll := hs.1
      have hmc : m ≤ cap := by omega
      have hml : m ≤ len := by omega
      have hzH := hid hne.1
      have hzb := hne.2
      clear hc hne hd
      by_cases hlen : len = 0
      · subst hlen
        obtain rfl : m = 0 := by omega
        have hL0 : L' = [] := List.eq_nil_of_length_eq_zero hll
        go_wp2_with fail
        go_ret
        subst hL0
        exact ⟨rfl, ⟨a, 0, cap, hrd.set _, ⟨rfl, fun h => absurd h (by omega)⟩, hlc, hcap, ⟨fun ad h => absurd h (by omega), hzb⟩, hB, fun h => absurd rfl h⟩, ho1.trans ((Only.refl _ _).setCell _ _)⟩
      · obtain ⟨g, off, rfl, hcell⟩ := hs.flat (by omega)
        go_wp2_with fail
        all_goals go_ret
        all_goals have hz0 : g = z := hzH.out _ (by omega) rfl
        · exact ⟨rfl, rdr_adv hrd hs (by omega) (by omega) hB (by omega) (fun hq => absurd hq (by omega)) ⟨fun ad _ h => by simp at h; subst h; exact hz0, hzb⟩, ho1.trans ((Only.refl _ _).setCell _ _)⟩
        · exact ⟨rfl, rdr_adv hrd hs (by omega) (by omega) hB (by omega) (fun _ => rfl) ⟨fun ad _ h => by simp at h; subst h; exact hz0, hzb⟩, ho1.trans ((Only.refl _ _).setCell _ _)⟩
  · have h1 : L' = [] := hdl he
    have h2 : (m : Int) = 0 := hdz he
    obtain rfl : m = 0 := by omega
    subst h1
    have he' : (e' == 0) = false := by simpa using he
    rw [if_neg (by simp)]
    go_enter Try.func58, Try.ntmps58
    go_wp2_with (go_at_call 75; refine hc.mono ?_; rintro r w1 ⟨rfl, hR1, ho1⟩; have hR1' := hR1; obtain ⟨a, len, cap, hrd, hs, _⟩ := hR1'; have hrc1 := hrd.c1)
    go_ret
    exact ⟨rfl, hR1, ho1⟩

theorem str_sb (s : ByteArray) : strOfNums (sb s) = s := by
  apply ByteArray.ext
  apply Array.toList_inj.1
  rw [strOfNums_data]
  unfold sb
  rw [List.map_map]
  conv => rhs; rw [← List.map_id s.data.toList]
  apply List.map_congr_left
  intro x _
  simp

theorem rtx_text (s : ByteArray) (R : List Int) (hR : Bts R) (hs : s.size ≤ 1000) : rtx (enc s.size ++ sb s ++ R) 0 = (sb s, R, 0) := by
  have hd := dec_enc s.size (sb s ++ R) (by omega) (by omega) ((bts_sb s).append hR)
  have hl := sb_length s
  have hc : cnt (enc s.size ++ sb s ++ R) 0 1 = ((s.size : Int), sb s ++ R, 0) := by
    unfold cnt
    rw [List.append_assoc, hd, show max (1 : Int) 1 = 1 by omega, Int.ediv_one, if_neg]
    simp only [List.length_append, hl]
    omega
  unfold rtx
  rw [hc]
  simp only [Int.toNat_natCast]
  rw [← hl, List.take_left, List.drop_left]

end Go.Proofs.Ythipadnghdodlaa
