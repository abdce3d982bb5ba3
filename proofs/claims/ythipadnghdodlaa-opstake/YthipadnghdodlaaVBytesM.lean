/- What is put is taken; what is left is never more. No function of the program. -/
import Derived.Test.YthipadnghdodlaaVTakeR
namespace Go.Proofs.Ythipadnghdodlaa

theorem dec_le (L : List Int) (e : Int) : (dec L e).2.1.length ≤ L.length := by
  unfold dec
  split
  · simp
  · split
    · simp
    · split
      · simp
      · split
        · simp
        · simp

theorem cnt_le (L : List Int) (e m : Int) : (cnt L e m).2.1.length ≤ L.length := by
  unfold cnt
  split
  · simp
  · exact dec_le L e

theorem tk_le (L : List Int) (e : Int) : (tk L e).2.1.length ≤ L.length := Nat.le_trans (dec_le _ _) (dec_le L e)

theorem tks_le (L : List Int) (e : Int) : ∀ k, (tks L e k).2.1.length ≤ L.length
  | 0 => Nat.le_refl _
  | k + 1 => Nat.le_trans (tk_le _ _) (tks_le L e k)

theorem vfin_le (s : List Dt × List Int × Int) : (vfin s).2.1.length ≤ s.2.1.length := by
  unfold vfin
  split
  · split
    · exact Nat.le_refl _
    · simp
  · exact Nat.le_refl _

theorem vtk_le (L : List Int) (e : Int) : (vtk L e).2.1.length ≤ L.length := Nat.le_trans (vfin_le _) (Nat.le_trans (tks_le _ _ _) (cnt_le L e 2))

theorem vfin_len (s : List Dt × List Int × Int) : (vfin s).1.length ≤ s.1.length := by
  unfold vfin
  split
  · split
    · exact Nat.le_refl _
    · simp
  · simp

theorem vtk_len (L : List Int) (e : Int) (h : Bts L) : (vtk L e).1.length ≤ L.length := by
  have h1 := vfin_len (tks (cnt L e 2).2.1 (cnt L e 2).2.2 (cnt L e 2).1.toNat)
  rw [tks_length] at h1
  have h2 := cnt_two L e h
  have h3 := cnt_le L e 2
  unfold vtk
  omega

theorem tk_app {d : Dt} (h : Dw d) {R : List Int} (hR : Bts R) : tk (encd d ++ R) 0 = (d, R, 0) := by
  obtain ⟨⟨x0, x1⟩, y0, y1⟩ := dw_bounds h
  have z1 := zig_range d.1 x0 x1
  have z2 := zig_range d.2 y0 y1
  have e1 : dec (encd d ++ R) 0 = (zig d.1, enc (zig d.2) ++ R, 0) := by
    unfold encd
    rw [List.append_assoc]
    exact dec_enc (zig d.1) (enc (zig d.2) ++ R) z1.1 z1.2 ((bts_enc _).append hR)
  have e2 : dec (enc (zig d.2) ++ R) 0 = (zig d.2, R, 0) := dec_enc (zig d.2) R z2.1 z2.2 hR
  unfold tk
  rw [e1]
  simp only [e2]
  simp [dint_zig]

theorem encs_cons (d : Dt) (V : List Dt) : encs (d :: V) = encd d ++ encs V := by simp [encs]

theorem tks_encs {V : List Dt} (hV : Dws V) : ∀ k, k ≤ V.length → tks (encs V) 0 k = (V.take k, encs (V.drop k), 0)
  | 0, _ => by simp [tks]
  | k + 1, hk => by
    have ih := tks_encs hV k (by omega)
    have hd : V.drop k = V[k] :: V.drop (k + 1) := List.drop_eq_getElem_cons (by omega)
    have ht := tk_app (hV _ (List.getElem_mem (l := V) (n := k) (by omega))) (bts_encs (V.drop (k + 1)))
    simp only [tks]
    rw [ih]
    simp only
    rw [hd, encs_cons, ht]
    simp only
    rw [take_snoc (by omega)]

theorem encs_ge (V : List Dt) : V.length * 2 ≤ (encs V).length := by
  induction V with
  | nil => simp [encs]
  | cons d r ih =>
    rw [encs_cons, List.length_append, List.length_cons]
    have : 2 ≤ (encd d).length := by
      unfold encd
      rw [List.length_append, enc_length, enc_length]
      have := sz_pos (zig d.1)
      have := sz_pos (zig d.2)
      omega
    omega

theorem bts_encv (V : List Dt) : Bts (encv V) := (bts_enc _).append (bts_encs V)

theorem encv_len (V : List Dt) : (encv V).length ≤ 9 + V.length * 18 ∧ 0 < (encv V).length := by
  unfold encv
  rw [List.length_append, enc_length]
  have := sz_le (V.length : Int)
  have := sz_pos (V.length : Int)
  have := encs_len V
  omega

theorem vtk_encv {V : List Dt} (hV : VM V) (hn : V.length ≤ 1000000) : vtk (encv V) 0 = (V, [], 0) := by
  have e1 : dec (encv V) 0 = ((V.length : Int), encs V, 0) := dec_enc _ _ (by omega) (by omega) (bts_encs V)
  have e2 : cnt (encv V) 0 2 = ((V.length : Int), encs V, 0) := by
    unfold cnt
    rw [e1]
    simp only
    rw [if_neg]
    have := encs_ge V
    rw [show max (2 : Int) 1 = 2 by omega]
    omega
  unfold vtk
  rw [e2]
  simp only [Int.toNat_natCast]
  rw [tks_encs hV.dws _ (Nat.le_refl _)]
  unfold vfin
  rw [if_pos rfl, List.take_length, if_pos ((vmb_iff V).2 hV), List.drop_length]
  rfl

end Go.Proofs.Ythipadnghdodlaa
