/- small: are operations few enough to be asked about? -/
import Derived.Test.YtlncokkpdkddlaaGreatCArg
import Derived.Laws.OwnMore
namespace Go.Proofs.YtlncokkpdkddlaaGreat
section
open Go.RowKit Go.Maps
open Go.Sort (grow)

theorem gt_snoc_ne (u : List Dt) (d : Dt) (a : Int) (h : a ≠ d.1) : gt (u ++ [d]) a = gt u a := by
  induction u with
  | nil => show (if d.1 = a then d.2 else 0) = 0; rw [if_neg (fun e => h e.symm)]
  | cons x r ih => show (if x.1 = a then x.2 else gt (r ++ [d]) a) = (if x.1 = a then x.2 else gt r a); rw [ih]

theorem gt_snoc_eq (u : List Dt) (d : Dt) (h : ∀ x ∈ u, x.1 ≠ d.1) : gt (u ++ [d]) d.1 = d.2 := by
  rw [gt_append u [d] d.1 h]
  show (if d.1 = d.1 then d.2 else 0) = d.2
  rw [if_pos rfl]

theorem vm_snoc {u : List Dt} {d : Dt} (h : VM u) (hd : mayd d = true) (hu : ∀ x ∈ u, x.1 < d.1) : VM (u ++ [d]) :=
  ⟨List.pairwise_append.2 ⟨h.ac, List.pairwise_singleton _ _, fun x hx y hy => by simp at hy; rw [hy]; exact hu x hx⟩, fun x hx => by
    rcases List.mem_append.1 hx with hx | hx
    · exact h.may x hx
    · simp at hx; rw [hx]; exact hd⟩

theorem vm_init {u : List Dt} {e : Dt} (h : VM (u ++ [e])) : VM u ∧ ∀ x ∈ u, x.1 < e.1 :=
  ⟨⟨(List.pairwise_append.1 h.ac).1, fun x hx => h.may x (List.mem_append_left _ hx)⟩, fun x hx => (List.pairwise_append.1 h.ac).2.2 x hx e (by simp)⟩

theorem vwith_no {v : List Dt} {d : Dt} (h : mayd d = false) : vwith v d = v := by
  unfold vwith
  rw [if_neg (by rw [h]; exact Bool.false_ne_true)]

theorem vwith_new {v : List Dt} {d : Dt} (hv : VM v) (hd : mayd d = true) (hu : ∀ x ∈ v, x.1 < d.1) : vwith v d = v ++ [d] := by
  refine vm_ext (vwith_vm hv d) (vm_snoc hv hd hu) fun a => ?_
  rw [vwith_gt hv hd]
  by_cases e : d.1 = a
  · subst e
    rw [if_pos rfl, gt_snoc_eq v d (fun x hx => Int.ne_of_lt (hu x hx)), gt_none (fun x hx => Int.ne_of_lt (hu x hx))]
    have := ((mayd_iff d).1 hd).2.2.1
    omega
  · rw [if_neg e, gt_snoc_ne v d a (fun h => e h.symm)]

theorem vwith_last {u : List Dt} {e d : Dt} (hv : VM (u ++ [e])) (hd : mayd d = true) (he : e.1 = d.1) (hl : e.2 ≤ d.2) : vwith (u ++ [e]) d = u ++ [d] := by
  obtain ⟨h1, h2⟩ := vm_init hv
  have h2' : ∀ x ∈ u, x.1 < d.1 := fun x hx => he ▸ h2 x hx
  refine vm_ext (vwith_vm hv d) (vm_snoc h1 hd h2') fun a => ?_
  rw [vwith_gt hv hd]
  by_cases ea : d.1 = a
  · subst ea
    rw [if_pos rfl, gt_snoc_eq u d (fun x hx => Int.ne_of_lt (h2' x hx)), ← he, gt_snoc_eq u e (fun x hx => Int.ne_of_lt (h2 x hx))]
    omega
  · rw [if_neg ea, gt_snoc_ne u d a (fun h => ea h.symm), gt_snoc_ne u e a (fun h => ea (he ▸ h.symm))]

theorem fold_mem {P : List Dt} {e : Dt} (h : e ∈ P.foldl vwith []) : e ∈ P := by
  have hv := foldl_vm P [] vm_nil
  have hg := gt_some hv.ac h
  have hm := (mayd_iff e).1 (hv.may e h)
  have h1 := (foldl_gt P [] vm_nil e.1 e.2).1 (by rw [hg]; exact Int.le_refl _)
  rcases h1 with h0 | ⟨d, hd, hmd, h2, h3⟩
  · have : gt [] e.1 = 0 := rfl
    omega
  · have h4 := (foldl_gt P [] vm_nil d.1 d.2).2 (Or.inr ⟨d, hd, hmd, rfl, Int.le_refl _⟩)
    rw [h2, hg] at h4
    have : d = e := Prod.ext h2 (by omega)
    exact this ▸ hd

theorem fold_rise (l : List Dt) : (rise l).foldl vwith [] = l.foldl vwith [] := by
  refine vm_ext (foldl_vm _ [] vm_nil) (foldl_vm _ [] vm_nil) fun a => ?_
  have key : ∀ s, s ≤ gt ((rise l).foldl vwith []) a ↔ s ≤ gt (l.foldl vwith []) a := by
    intro s
    rw [foldl_gt _ [] vm_nil, foldl_gt _ [] vm_nil]
    constructor
    · rintro (h | ⟨d, hd, h⟩)
      · exact Or.inl h
      · exact Or.inr ⟨d, (mem_rise d l).1 hd, h⟩
    · rintro (h | ⟨d, hd, h⟩)
      · exact Or.inl h
      · exact Or.inr ⟨d, (mem_rise d l).2 hd, h⟩
  have h1 := (key _).1 (Int.le_refl _)
  have h2 := (key _).2 (Int.le_refl _)
  omega

theorem dl_le {e d : Dt} (h : dl e d = true) : e.1 < d.1 ∨ (e.1 = d.1 ∧ e.2 ≤ d.2) := by
  rw [dl_iff] at h
  omega

/-- What one more dot of a rising row makes of the vector. -/
theorem fold_step {P : List Dt} {d : Dt} (hP : ∀ e ∈ P, dl e d = true) : (∀ u e, P.foldl vwith [] = u ++ [e] → e.1 ≠ d.1 → e.1 < d.1) ∧ (mayd d = true → P.foldl vwith [] = [] → vwith (P.foldl vwith []) d = [d]) ∧ (∀ u e, mayd d = true → P.foldl vwith [] = u ++ [e] → e.1 = d.1 → vwith (P.foldl vwith []) d = u ++ [d]) ∧ (∀ u e, mayd d = true → P.foldl vwith [] = u ++ [e] → e.1 ≠ d.1 → vwith (P.foldl vwith []) d = P.foldl vwith [] ++ [d]) := by
  have hv := foldl_vm P [] vm_nil
  have hm := fun e (he : e ∈ P.foldl vwith []) => dl_le (hP e (fold_mem he))
  refine ⟨fun u e h hne => ?_, fun hd h => ?_, fun u e hd h he => ?_, fun u e hd h hne => ?_⟩
  · have := hm e (by rw [h]; simp)
    omega
  · rw [h]
    exact vwith_new vm_nil hd (fun x hx => by simp at hx)
  · rw [h] at hv ⊢
    refine vwith_last hv hd he ?_
    have := hm e (by rw [h]; simp)
    omega
  · have h1 : e.1 < d.1 := by
      have := hm e (by rw [h]; simp)
      omega
    refine vwith_new hv hd fun x hx => ?_
    rw [h] at hx hv
    rcases List.mem_append.1 hx with hx | hx
    · exact Int.lt_trans ((vm_init hv).2 x hx) h1
    · simp at hx
      rw [hx]
      exact h1

theorem flat_snoc_set (u : List Dt) (e d : Dt) : ((flat (u ++ [e])).set (u.length * 2) (.int .i64 d.1)).set (u.length * 2 + 1) (.int .i64 d.2) = flat (u ++ [d]) := by
  rw [flat_append, flat_append]
  have hl := flat_length u
  rw [List.set_append_right _ _ (by omega), List.set_append_right _ _ (by omega)]
  have e0 : u.length * 2 - (flat u).length = 0 := by omega
  have e1 : u.length * 2 + 1 - (flat u).length = 1 := by omega
  rw [e0, e1]
  rfl

theorem list_last (v : List Dt) : v = [] ∨ ∃ u e, v = u ++ [e] := by
  rcases List.eq_nil_or_concat v with h | ⟨u, e, h⟩
  · exact Or.inl h
  · exact Or.inr ⟨u, e, by simpa using h⟩

end

section
open Go.RowKit
open Go.Sort (grow)

/-- Few enough. -/
def smb (n : Nat) (L : List Mo) : Bool := L.all (fun x => decide (x.n ≤ 50)) && decide (n ≤ 100)

theorem smb_iff {n : Nat} {L : List Mo} : smb n L = true ↔ (∀ x ∈ L, x.n ≤ 50) ∧ n ≤ 100 := by
  unfold smb
  simp

set_option maxRecDepth 100000 in
set_option maxHeartbeats 2000000 in
theorem small_any (a : Option Addr) (n c : Nat) (L : List Mo) (w : World) (hs : OS w a n c L) : Tells 7 #[.slice a n c] w (.bool (smb n L)) := by
  have hlen := hs.len
  have hmx : n ≤ maxLen := Nat.le_trans hs.cap hs.max
  unfold maxLen at hmx
  go_enter Tryz.func7, Tryz.ntmps7
  go_wp2
  go_loopw [3] (fun i wr => ∃ k : Nat, k ≤ n ∧ i = .int .i64 k ∧ Hid (∀ x ∈ L.take k, x.n ≤ 50) ∧ Hid (Far w wr)) (fun i _ => n - (intOf i).toNat)
  case atStart => exact ⟨0, by omega, rfl, hid (by simp), hid (Far.refl _)⟩
  case round =>
    obtain ⟨k, hk, rfl, hall, hFr⟩ := hrel
    by_cases hlt : k < n
    · have hkl : k < L.length := by omega
      obtain ⟨g, o, rfl, hg, hcell⟩ := (hs.far hFr.out).at (by omega)
      have c3 := (hcell k hkl).c3
      have hxm : L[k].n ≤ maxLen := Nat.le_trans (hs.deps _ (List.getElem_mem hkl)).cap (hs.deps _ (List.getElem_mem hkl)).max
      unfold maxLen at hxm
      clear hcell
      have hst : Hid (∀ x ∈ L.take (k + 1), x ∈ L.take k ∨ x = L[k]) := hid (fun x hx => by
        rw [List.take_succ_eq_append_getElem hkl] at hx
        rcases List.mem_append.1 hx with h | h
        · exact Or.inl h
        · exact Or.inr (List.mem_singleton.1 h))
      have hin : Hid (L[k] ∈ L) := hid (List.getElem_mem hkl)
      generalize L[k] = x at *
      by_cases h50 : x.n ≤ 50
      · have hb : decide ((50 : Int) < (x.n : Int)) = false := by simp; omega
        go_wp2
        go_roundw
        case rel =>
          refine ⟨k + 1, by omega, by go_num, hid (fun y hy => ?_), hFr⟩
          rcases hst.out y hy with h | h
          · exact hall.out y h
          · rw [h]; exact h50
        case measure => simp [intOf]; omega
      · have hb : decide ((50 : Int) < (x.n : Int)) = true := by simp; omega
        have hno : Hid (smb n L = false) := hid (by
          cases h : smb n L with
          | false => rfl
          | true => exact absurd ((smb_iff.1 h).1 x hin.out) h50)
        go_wp2
        go_ret
        exact ⟨by rw [hno.out]; rfl, hFr.out⟩
    · obtain rfl : k = n := by omega
      have hall' : Hid (smb k L = decide (k ≤ 100)) := hid (by
        have h := hall.out
        rw [← hlen, List.take_length] at h
        unfold smb
        rw [List.all_eq_true.2 (fun x hx => by simpa using h x hx), Bool.true_and])
      by_cases hn : k ≤ 100
      · have hb : decide ((k : Int) ≤ (100 : Int)) = true := by simp; omega
        have hd : decide (k ≤ 100) = true := by simpa using hn
        rw [hd] at hall'
        clear hd
        go_wp2
        go_ret
        exact ⟨by rw [hall'.out]; rfl, hFr.out⟩
      · have hb : decide ((k : Int) ≤ (100 : Int)) = false := by simp; omega
        have hd : decide (k ≤ 100) = false := by simpa using hn
        rw [hd] at hall'
        clear hd
        go_wp2
        go_ret
        exact ⟨by rw [hall'.out]; rfl, hFr.out⟩
end
end Go.Proofs.YtlncokkpdkddlaaGreat
