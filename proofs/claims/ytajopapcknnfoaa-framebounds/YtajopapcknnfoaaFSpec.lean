/- Frames as plain lists: how one is made, read, split; what follows. No program in sight. -/
import Derived.Test.YtajopapcknnfoaaFMath
import Derived.Test.YtajopapcknnfoaaBytes
namespace Go.Proofs.Ytajopapcknnfoaa

/-- A number as four bytes, the lowest first. -/
def le4 (n : Int) : List Int := [n % 256, n / 256 % 256, n / 65536 % 256, n / 16777216 % 256]
/-- The number that the first four bytes say. -/
def num4 (L : List Int) : Int := L[0]?.getD 0 + 256 * L[1]?.getD 0 + 65536 * L[2]?.getD 0 + 16777216 * L[3]?.getD 0
/-- The sum of some bytes. -/
def sumI (L : List Int) : Int := csum (L.map Int.toNat)
/-- The frame of a body. -/
def fr (B : List Int) : List Int := (le4 B.length ++ B) ++ le4 (sumI (le4 B.length ++ B))
/-- The first frame: the error, the body, where it ends. -/
def nx (L : List Int) : Int × List Int × Nat :=
  if L.length < 4 then (10, [], 0)
  else if 4194304 < num4 L then (11, [], 0)
  else if (L.length : Int) < num4 L + 8 then (10, [], 0)
  else if num4 (L.drop ((num4 L).toNat + 4)) ≠ sumI (L.take ((num4 L).toNat + 4)) then (12, [], 0)
  else (0, (L.drop 4).take (num4 L).toNat, (num4 L).toNat + 8)

theorem le4_length (n : Int) : (le4 n).length = 4 := rfl
theorem le4_bts (n : Int) : Bts (le4 n) := by
  intro x hx
  simp only [le4, List.mem_cons, List.not_mem_nil, or_false] at hx
  rcases hx with rfl | rfl | rfl | rfl <;> omega
theorem sumI_range (L : List Int) : 0 ≤ sumI L ∧ sumI L < 4294967296 := by
  have := csum_lt (L.map Int.toNat)
  unfold sumI; omega
theorem num4_le4 (n : Int) (M : List Int) (h0 : 0 ≤ n) (h1 : n < 4294967296) : num4 (le4 n ++ M) = n := by
  simp [num4, le4]; omega
theorem num4_bounds {L : List Int} (h : Bts L) : 0 ≤ num4 L ∧ num4 L < 4294967296 := by
  have a0 := h.at 0
  have a1 := h.at 1
  have a2 := h.at 2
  have a3 := h.at 3
  unfold num4; omega
theorem fr_length (B : List Int) : (fr B).length = B.length + 8 := by simp [fr, le4_length]; omega
theorem fr_bts {B : List Int} (h : Bts B) : Bts (fr B) := ((le4_bts _).app h).app (le4_bts _)
theorem num4_fr (B M : List Int) (h : B.length ≤ 4194304) : num4 (fr B ++ M) = B.length := by
  unfold fr
  rw [List.append_assoc, List.append_assoc]
  exact num4_le4 _ _ (by omega) (by omega)

theorem nx_ok {L : List Int} (hb : Bts L) (h : (nx L).1 = 0) : (nx L).2.2 = (nx L).2.1.length + 8 ∧ (nx L).2.2 ≤ L.length := by
  have hq := num4_bounds hb
  unfold nx at *
  split at h
  · simp at h
  · rename_i h1
    rw [if_neg h1] at *
    split at h
    · simp at h
    · rename_i h2
      rw [if_neg h2] at *
      split at h
      · simp at h
      · rename_i h3
        rw [if_neg h3] at *
        split at h
        · simp at h
        · rename_i h4
          rw [if_neg h4] at *
          simp only [List.length_take, List.length_drop]
          omega
theorem nx_bad {L : List Int} (h : (nx L).1 ≠ 0) : (nx L).2 = ([], 0) := by
  unfold nx at *
  (repeat' split) <;> simp_all
theorem nx_errs (L : List Int) : (nx L).1 = 0 ∨ (nx L).1 = 10 ∨ (nx L).1 = 11 ∨ (nx L).1 = 12 := by
  unfold nx
  (repeat' split) <;> simp
theorem nx_bts {L : List Int} (h : Bts L) : Bts (nx L).2.1 := by
  unfold nx
  (repeat' split) <;> first | exact Bts.nil | exact (h.drop 4).take _

/-- A frame is read as its body, whatever lies behind it. -/
theorem nx_fr (B M : List Int) (h : B.length ≤ 4194304) : nx (fr B ++ M) = (0, B, B.length + 8) := by
  have hl : (fr B ++ M).length = B.length + 8 + M.length := by rw [List.length_append, fr_length]
  have hn := num4_fr B M h
  have hs := sumI_range (le4 B.length ++ B)
  have hpre : (le4 (B.length : Int) ++ B).length = B.length + 4 := by rw [List.length_append, le4_length]; omega
  have ht : (fr B ++ M).take (B.length + 4) = le4 B.length ++ B := by
    unfold fr; rw [List.append_assoc, List.take_left' hpre]
  have hd : (fr B ++ M).drop (B.length + 4) = le4 (sumI (le4 B.length ++ B)) ++ M := by
    unfold fr; rw [List.append_assoc, List.drop_left' hpre]
  have hb : ((fr B ++ M).drop 4).take B.length = B := by
    unfold fr
    rw [List.append_assoc, List.append_assoc, List.drop_left' (le4_length _), List.take_left' rfl]
  unfold nx
  rw [hn, Int.toNat_natCast, if_neg (by omega), if_neg (by omega), if_neg (by omega), ht, hd, num4_le4 _ _ hs.1 hs.2, if_neg (by simp), hb]

/-- One that is cut short is refused. -/
theorem nx_cut (B : List Int) (c : Nat) (h : B.length ≤ 4194304) (hc : c < B.length + 8) : nx ((fr B).take c) = (10, [], 0) := by
  have hl : ((fr B).take c).length = c := by rw [List.length_take, fr_length]; omega
  unfold nx
  by_cases h4 : c < 4
  · rw [if_pos (by omega)]
  · have hn : num4 ((fr B).take c) = B.length := by
      have := num4_fr B [] h
      rw [List.append_nil] at this
      rw [← this]
      unfold num4
      rw [List.getElem?_take_of_lt (by omega), List.getElem?_take_of_lt (by omega), List.getElem?_take_of_lt (by omega), List.getElem?_take_of_lt (by omega)]
    rw [if_neg (by omega), hn, if_neg (by omega), if_pos (by omega)]

theorem sum_other (A C : List Int) (x y : Int) (hx : 0 ≤ x ∧ x < 256) (hy : 0 ≤ y ∧ y < 256) (hne : x ≠ y) : sumI (A ++ x :: C) ≠ sumI (A ++ y :: C) := by
  unfold sumI
  rw [List.map_append, List.map_append, List.map_cons, List.map_cons]
  intro h
  exact csum_other _ _ x.toNat y.toNat (by omega) (by omega) (by omega) (by exact_mod_cast h)

/-- A frame of which one byte of the body or the sum is another one is refused. -/
theorem nx_turned (B : List Int) (k : Nat) (y : Int) (h : B.length ≤ 4194304) (hB : Bts B) (h4 : 4 ≤ k) (hk : k < B.length + 8) (hy : 0 ≤ y ∧ y < 256) (hne : (fr B)[k]?.getD 0 ≠ y) : nx ((fr B).set k y) = (12, [], 0) := by
  have hn : num4 ((fr B).set k y) = B.length := by
    have := num4_fr B [] h
    rw [List.append_nil] at this
    rw [← this]
    unfold num4
    rw [List.getElem?_set_ne (by omega), List.getElem?_set_ne (by omega), List.getElem?_set_ne (by omega), List.getElem?_set_ne (by omega)]
  have hl : ((fr B).set k y).length = B.length + 8 := by rw [List.length_set, fr_length]
  have hpre : (le4 (B.length : Int) ++ B).length = B.length + 4 := by rw [List.length_append, le4_length]; omega
  have hs := sumI_range (le4 B.length ++ B)
  have hP : Bts (le4 (B.length : Int) ++ B) := (le4_bts _).app hB
  unfold nx
  rw [hn, Int.toNat_natCast, if_neg (by omega), if_neg (by omega), if_neg (by omega), if_pos]
  by_cases hin : k < B.length + 4
  · have hd : ((fr B).set k y).drop (B.length + 4) = le4 (sumI (le4 B.length ++ B)) := by
      rw [List.drop_set_of_lt hin]; unfold fr; rw [List.drop_left' hpre]
    have ht : ((fr B).set k y).take (B.length + 4) = (le4 B.length ++ B).set k y := by
      rw [List.take_set]; unfold fr; rw [List.take_left' hpre]
    rw [hd, ht, ← List.append_nil (le4 (sumI _)), num4_le4 _ _ hs.1 hs.2]
    have hg : (fr B)[k]? = (le4 (B.length : Int) ++ B)[k]? := by unfold fr; rw [List.getElem?_append_left (by omega)]
    rw [hg] at hne
    generalize le4 (B.length : Int) ++ B = P at *
    have hkP : k < P.length := by omega
    have e1 : P = P.take k ++ P[k] :: P.drop (k + 1) := by rw [← List.drop_eq_getElem_cons hkP, List.take_append_drop]
    have e2 : P.set k y = P.take k ++ y :: P.drop (k + 1) := by rw [List.set_eq_take_append_cons_drop, if_pos hkP]
    rw [List.getElem?_eq_getElem hkP] at hne
    have hx := hP _ (List.getElem_mem hkP)
    intro he
    rw [e2] at he
    refine sum_other (P.take k) (P.drop (k + 1)) P[k] y hx hy hne ?_
    rw [← e1]
    exact he
  · have ht : ((fr B).set k y).take (B.length + 4) = le4 B.length ++ B := by
      rw [List.take_set, List.set_eq_of_length_le (by rw [List.length_take]; omega)]; unfold fr; rw [List.take_left' hpre]
    have hd : ((fr B).set k y).drop (B.length + 4) = (le4 (sumI (le4 B.length ++ B))).set (k - (B.length + 4)) y := by
      rw [List.drop_set, if_neg (by omega)]; unfold fr; rw [List.drop_left' hpre]
    rw [ht, hd]
    have hg : (fr B)[k]? = (le4 (sumI (le4 B.length ++ B)))[k - (B.length + 4)]? := by unfold fr; rw [List.getElem?_append_right (by omega), hpre]
    rw [hg] at hne
    obtain ⟨j, hj⟩ : ∃ j, j = k - (B.length + 4) := ⟨_, rfl⟩
    rw [← hj] at hne ⊢
    generalize sumI (le4 (B.length : Int) ++ B) = t at *
    have cases : j = 0 ∨ j = 1 ∨ j = 2 ∨ j = 3 := by omega
    rcases cases with rfl | rfl | rfl | rfl <;> simp [le4, num4] at hne ⊢ <;> omega

/-- The bodies of the frames that lie one behind the other, and where that ends; at most so many. -/
def sps : Nat → List Int → List (List Int) × Nat
  | 0, _ => ([], 0)
  | f + 1, L => if (nx L).1 = 0 then ((nx L).2.1 :: (sps f (L.drop (nx L).2.2)).1, (nx L).2.2 + (sps f (L.drop (nx L).2.2)).2) else ([], 0)
def spl (L : List Int) : List (List Int) × Nat := sps (L.length + 1) L

theorem sps_same (f g : Nat) (L : List Int) (hb : Bts L) (hf : L.length < f) (hg : L.length < g) : sps f L = sps g L := by
  induction f generalizing g L with
  | zero => omega
  | succ f ih =>
    cases g with
    | zero => omega
    | succ g =>
      unfold sps
      by_cases h : (nx L).1 = 0
      · have hk := nx_ok hb h
        have hl : (L.drop (nx L).2.2).length < L.length := by rw [List.length_drop]; omega
        rw [if_pos h, if_pos h, ih g _ (hb.drop _) (by omega) (by omega)]
      · rw [if_neg h, if_neg h]
theorem spl_ok {L : List Int} (hb : Bts L) (h : (nx L).1 = 0) : spl L = ((nx L).2.1 :: (spl (L.drop (nx L).2.2)).1, (nx L).2.2 + (spl (L.drop (nx L).2.2)).2) := by
  have hk := nx_ok hb h
  have hl : (L.drop (nx L).2.2).length < L.length := by rw [List.length_drop]; omega
  have e := sps_same L.length ((L.drop (nx L).2.2).length + 1) (L.drop (nx L).2.2) (hb.drop _) (by omega) (by omega)
  show (if (nx L).1 = 0 then _ else _) = _
  rw [if_pos h, e]
  rfl
theorem spl_bad {L : List Int} (h : (nx L).1 ≠ 0) : spl L = ([], 0) := by
  show (if (nx L).1 = 0 then _ else _) = _
  rw [if_neg h]
theorem spl_le (n : Nat) (L : List Int) (hn : L.length ≤ n) (hb : Bts L) : (spl L).2 ≤ L.length := by
  induction n generalizing L with
  | zero =>
    have : L = [] := List.eq_nil_of_length_eq_zero (by omega)
    subst this
    exact Nat.le_of_eq (by decide)
  | succ n ih =>
    by_cases h : (nx L).1 = 0
    · have hk := nx_ok hb h
      rw [spl_ok hb h]
      have hl : (L.drop (nx L).2.2).length = L.length - (nx L).2.2 := List.length_drop
      have := ih (L.drop (nx L).2.2) (by omega) (hb.drop _)
      show (nx L).2.2 + _ ≤ _
      omega
    · rw [spl_bad h]; exact Nat.zero_le _

/-- Frames one behind the other. -/
def frs : List (List Int) → List Int
  | [] => []
  | B :: R => fr B ++ frs R
theorem frs_append (A C : List (List Int)) : frs (A ++ C) = frs A ++ frs C := by
  induction A with
  | nil => rfl
  | cons B A ih => show fr B ++ frs (A ++ C) = _; rw [ih, ← List.append_assoc]; rfl
theorem frs_bts {R : List (List Int)} (h : ∀ B ∈ R, Bts B) : Bts (frs R) := by
  induction R with
  | nil => exact Bts.nil
  | cons B R ih => exact (fr_bts (h B (by simp))).app (ih (fun C hC => h C (by simp [hC])))

theorem spl_frs (R : List (List Int)) (M : List Int) (hR : ∀ B ∈ R, Bts B ∧ B.length ≤ 4194304) (hM : Bts M) : spl (frs R ++ M) = (R ++ (spl M).1, (frs R).length + (spl M).2) := by
  induction R with
  | nil => simp [frs]
  | cons B R ih =>
    have hB := hR B (by simp)
    have hR' : ∀ C ∈ R, Bts C ∧ C.length ≤ 4194304 := fun C hC => hR C (by simp [hC])
    have ih' := ih hR'
    have hb : Bts (frs R ++ M) := (frs_bts (fun C hC => (hR' C hC).1)).app hM
    have e := nx_fr B (frs R ++ M) hB.2
    have hall : Bts (fr B ++ (frs R ++ M)) := (fr_bts hB.1).app hb
    show spl ((fr B ++ frs R) ++ M) = _
    rw [List.append_assoc, spl_ok hall (by rw [e]), e]
    simp only []
    rw [List.drop_left' (fr_length B), ih']
    simp only [frs, List.length_append, fr_length, List.cons_append, Prod.mk.injEq, true_and]
    omega
end Go.Proofs.Ytajopapcknnfoaa
