/- A run over one disk and its logs, step by step. -/
import Derived.Test.YtegikicpffoglaaWlB
namespace Go.Proofs.Ytegikicpffoglaa
section
set_option linter.unusedVariables false
set_option linter.unusedSimpArgs false
open Go.RowKit

theorem kp_set {w : World} {P : Nat → Prop} {l : Nat} (hl : ¬ P l) (i : Nat) (v : Value) : KP w (w.setCell ⟨l, i, none⟩ v) P := ⟨by simp, fun j _ hj => Below.heap_setCell _ _ _ _ (fun e => by have e : j = l := e; subst e; exact hl hj), ⟨rfl, rfl, rfl⟩⟩
theorem DK.setP {w : World} {d : Nat} {D : Dk} {P : Nat → Prop} (h : DK w d D P) {l : Nat} (hl : P l) (i : Nat) (v : Value) : DK (w.setCell ⟨l, i, Option.none⟩ v) d D P := h.same (by simp) (fun j hj hn => Below.heap_setCell _ _ _ _ (fun e => by have e : j = l := e; subst e; exact hn hl))
theorem Lw.set {w : World} {l : Nat} {L : Lg} (h : Lw w l L) (i : Nat) (v : Value) : (w.setCell ⟨l, i, none⟩ v).heap[l]? = some (.cells (L.cells.setIfInBounds i v) 68 (0, 0)) := set_blk v h

set_option maxRecDepth 100000 in
set_option maxHeartbeats 4000000 in
theorem heed_any (l : Nat) (L : Lg) (x : Nat) (w : World) (h : Lw w l L) : Calls Try.prog 34 #[.pointer (some ⟨l, 0, none⟩), .int .i64 (x : Int)] w fun e w' => e = .returned (.int .i64 (x : Int)) ∧ ((x = 72 ∧ w' = w) ∨ (x ≠ 72 ∧ w' = w.setCell ⟨l, 0, none⟩ (.int .i64 (x : Int)))) := by
  have c0 : w.cell? ⟨l, 0, none⟩ = some (.int .i64 (L.first : Int)) := cell_blk h rfl
  have f0 := frz_blk (i := 0) h
  clear h
  by_cases hx : x = 72
  · subst hx
    go_enter Try.func34, Try.ntmps34
    go_wp2
    go_ret
    exact ⟨rfl, Or.inl ⟨by first | rfl | trivial, rfl⟩⟩
  · have e1 : ((x : Int) != 72) = true := by simp; omega
    have e2 : ¬ (x : Int) = 72 := by omega
    have HX := hid hx
    clear hx
    go_enter Try.func34, Try.ntmps34
    go_wp2
    go_ret
    exact ⟨rfl, Or.inr ⟨HX.out, rfl⟩⟩

/-- A log behind an error of the disk. -/
def Lg.heed (L : Lg) (x : Nat) : Lg := if x = 72 then L else ⟨x, L.d, L.n, L.count, L.sure⟩
theorem heed_dk {w w' : World} {d l : Nat} {D : Dk} {L : Lg} {P : Nat → Prop} {x : Nat} (h : DK w d D P) (hl : P l) (hL : Lw w l L) (hw : (x = 72 ∧ w' = w) ∨ (x ≠ 72 ∧ w' = w.setCell ⟨l, 0, none⟩ (.int .i64 (x : Int)))) : DK w' d D P ∧ Lw w' l (L.heed x) ∧ KP w w' (fun j => P j ∧ j ≠ l) := by
  unfold Lg.heed
  rcases hw with ⟨hx, rfl⟩ | ⟨hx, rfl⟩
  · rw [if_pos hx]
    exact ⟨h, hL, KP.refl _ _⟩
  · rw [if_neg hx]
    exact ⟨h.setP hl 0 _, hL.set 0 _, kp_set (fun e => e.2 rfl) 0 _⟩

/-- Append, as the log and the disk are then. -/
def appL (D : Dk) (L : Lg) (B : List Int) : Dk × Lg × Nat :=
  let r := operD (eApp D.room L.n (fr B)) D
  (r.1, (if r.2 = 0 then ⟨(L.heed r.2).first, L.d, L.n, L.count + 1, L.sure⟩ else L.heed r.2), r.2)
def synL (D : Dk) (L : Lg) : Dk × Lg × Nat :=
  let r := operD (eSync L.n) D
  (r.1, (if r.2 = 0 then ⟨(L.heed r.2).first, L.d, L.n, L.count, L.count⟩ else L.heed r.2), r.2)
/-- What a log tells. -/
def LTold (d l : Nat) (r : Dk × Lg × Nat) (P : Nat → Prop) (w : World) (e : Ending) (w' : World) : Prop :=
  e = .returned (.int .i64 (r.2.2 : Int)) ∧ DK w' d r.1 P ∧ Lw w' l r.2.1 ∧ KP w w' (fun j => P j ∧ j ≠ l)


set_option maxRecDepth 100000 in
set_option maxHeartbeats 4000000 in
theorem wsync_none (l : Nat) (L : Lg) (w : World) (h : Lw w l L) (hf : L.first = 0) (hc : L.count = 0) : Calls Try.prog 17 #[.pointer (some ⟨l, 0, none⟩)] w fun e w' => e = .returned (.int .i64 0) ∧ w' = w := by
  have x0 : w.cell? ⟨l, 0, none⟩ = some (.int .i64 (0 : Int)) := by rw [cell_blk (v := .int .i64 (L.first : Int)) h rfl, hf]; rfl
  have x3 : w.cell? ⟨l, 3, none⟩ = some (.int .i64 (0 : Int)) := by rw [cell_blk (v := .int .i64 (L.count : Int)) h rfl, hc]; rfl
  clear h hf hc
  go_enter Try.func17, Try.ntmps17
  go_wp2
  go_ret
  exact ⟨rfl, rfl⟩

theorem count_any (l : Nat) (L : Lg) (w : World) (h : Lw w l L) : Calls Try.prog 15 #[.pointer (some ⟨l, 0, none⟩)] w fun e w' => e = .returned (.int .i64 (L.count : Int)) ∧ w' = w := by
  have x3 : w.cell? ⟨l, 3, none⟩ = some (.int .i64 (L.count : Int)) := cell_blk h rfl
  clear h
  go_enter Try.func15, Try.ntmps15
  go_wp2
  go_ret
  exact ⟨rfl, rfl⟩
theorem sure_any (l : Nat) (L : Lg) (w : World) (h : Lw w l L) : Calls Try.prog 16 #[.pointer (some ⟨l, 0, none⟩)] w fun e w' => e = .returned (.int .i64 (L.sure : Int)) ∧ w' = w := by
  have x4 : w.cell? ⟨l, 4, none⟩ = some (.int .i64 (L.sure : Int)) := cell_blk h rfl
  clear h
  go_enter Try.func16, Try.ntmps16
  go_wp2
  go_ret
  exact ⟨rfl, rfl⟩
set_option maxRecDepth 100000 in
set_option maxHeartbeats 4000000 in
theorem wsync_any (d l : Nat) (L : Lg) (D : Dk) (P : Nat → Prop) (w : World) (h : DK w d D P) (hl : Lw w l L) (hP : P l) (hd : L.d = d) (hf : L.first = 0) (hn : L.n.length ≤ 1000) (hc : L.count ≠ 0) : Calls Try.prog 17 #[.pointer (some ⟨l, 0, none⟩)] w (LTold d l (synL D L) P w) := by
  have HK := hid h
  have HL := hid hl
  have HP := hid hP
  subst hd
  have hmxo : Try.prog.follows .mixedOrders = true := by kernel_rfl
  obtain ⟨r, hr⟩ : ∃ r, r = operD (eSync L.n) D := ⟨_, rfl⟩
  have hT : synL D L = (r.1, (if r.2 = 0 then ⟨(L.heed r.2).first, L.d, L.n, L.count, L.count⟩ else L.heed r.2), r.2) := by rw [hr]; rfl
  obtain ⟨T, hTT⟩ : ∃ T, T = synL D L := ⟨_, rfl⟩
  rw [← hTT]
  have HT := hid (hTT.trans hT)
  clear hT hTT
  have HR := hid hr
  have hc1 : ((L.count : Int) == 0) = false := by simp; omega
  have hc2 : ¬ (L.count : Int) = 0 := by omega
  have hc3 : ¬ L.count = 0 := hc
  have x0 : w.cell? ⟨l, 0, none⟩ = some (.int .i64 (0 : Int)) := by rw [cell_blk (v := .int .i64 (L.first : Int)) hl rfl, hf]; rfl
  have x3 : w.cell? ⟨l, 3, none⟩ = some (.int .i64 (L.count : Int)) := cell_blk hl rfl
  have HF := hid hf
  have HNm := hid hn
  clear h hl hP hr hf hn hc
  go_enter Try.func17, Try.ntmps17
  go_wp2
  have hl1 := HL.out
  have S1 : (fun u : World => u.cell? ⟨l, 1, none⟩ = some (.pointer (some ⟨L.d, 0, none⟩)) ∧ u.cell? ⟨l, 2, none⟩ = some (encStr L.n)) w.drew := ⟨cell_blk (w := w.drew) (i := 1) hl1 rfl, cell_blk (w := w.drew) (i := 2) hl1 rfl⟩
  have HL1 := hid hl1
  clear hl1
  refine wp_region_held_drew (S := fun u => u.cell? ⟨l, 1, none⟩ = some (.pointer (some ⟨L.d, 0, none⟩)) ∧ u.cell? ⟨l, 2, none⟩ = some (encStr L.n)) hmxo S1 ?_
  intro _
  refine wpAnyH_take (i := 0) (v := .pointer (some ⟨l, 0, none⟩)) rfl (by kernel_rfl) (by kernel_rfl) (by kernel_rfl) (fun _ _ _ h => h) (Or.inl ⟨by kernel_rfl, fun u hSu => ?_⟩) S1 ?_
  · obtain ⟨z1, z2⟩ := hSu; go_simp
  simp only [Act.put, List.getElem_toArray, List.getElem_cons_succ, List.getElem_cons_zero, List.setIfInBounds_toArray, List.set_cons_zero, List.set_cons_succ]
  refine wpAnyH_take (i := 1) (v := .pointer (some ⟨l, 0, none⟩)) rfl (by kernel_rfl) (by kernel_rfl) (by kernel_rfl) (fun _ _ _ h => h) (Or.inl ⟨by kernel_rfl, fun u hSu => ?_⟩) S1 ?_
  · obtain ⟨z1, z2⟩ := hSu; go_simp
  simp only [Act.put, List.getElem_toArray, List.getElem_cons_succ, List.getElem_cons_zero, List.setIfInBounds_toArray, List.set_cons_zero, List.set_cons_succ]
  refine wpAnyH_take (i := 2) (v := .pointer (some ⟨l, 0, none⟩)) rfl (by kernel_rfl) (by kernel_rfl) (by kernel_rfl) (fun _ _ _ h => h) (Or.inl ⟨by kernel_rfl, fun u hSu => ?_⟩) S1 ?_
  · obtain ⟨z1, z2⟩ := hSu; go_simp
  simp only [Act.put, List.getElem_toArray, List.getElem_cons_succ, List.getElem_cons_zero, List.setIfInBounds_toArray, List.set_cons_zero, List.set_cons_succ]
  refine wpAnyH_take (i := 3) (v := .pointer (some ⟨l, 0, none⟩)) rfl (by kernel_rfl) (by kernel_rfl) (by kernel_rfl) (fun _ _ _ h => h) (Or.inl ⟨by kernel_rfl, fun u hSu => ?_⟩) S1 ?_
  · obtain ⟨z1, z2⟩ := hSu; go_simp
  simp only [Act.put, List.getElem_toArray, List.getElem_cons_succ, List.getElem_cons_zero, List.setIfInBounds_toArray, List.set_cons_zero, List.set_cons_succ]
  refine wpAnyH_take (i := 4) (v := .pointer (some ⟨l, 0, none⟩)) rfl (by kernel_rfl) (by kernel_rfl) (by kernel_rfl) (fun _ _ _ h => h) (Or.inl ⟨by kernel_rfl, fun u hSu => ?_⟩) S1 ?_
  · obtain ⟨z1, z2⟩ := hSu; go_simp
  simp only [Act.put, List.getElem_toArray, List.getElem_cons_succ, List.getElem_cons_zero, List.setIfInBounds_toArray, List.set_cons_zero, List.set_cons_succ]
  refine wpAnyH_take (i := 5) (v := .pointer (some ⟨l, 1, none⟩)) rfl (by kernel_rfl) (by kernel_rfl) (by kernel_rfl) (fun _ _ _ h => h) (Or.inl ⟨by kernel_rfl, fun u hSu => ?_⟩) S1 ?_
  · obtain ⟨z1, z2⟩ := hSu; go_simp
  simp only [Act.put, List.getElem_toArray, List.getElem_cons_succ, List.getElem_cons_zero, List.setIfInBounds_toArray, List.set_cons_zero, List.set_cons_succ]
  refine wpAnyH_take (i := 6) (v := .pointer (some ⟨L.d, 0, none⟩)) rfl (by kernel_rfl) (by kernel_rfl) (by kernel_rfl) (fun _ _ _ h => h) (Or.inl ⟨by kernel_rfl, fun u hSu => ?_⟩) S1 ?_
  · obtain ⟨z1, z2⟩ := hSu; go_simp
  simp only [Act.put, List.getElem_toArray, List.getElem_cons_succ, List.getElem_cons_zero, List.setIfInBounds_toArray, List.set_cons_zero, List.set_cons_succ]
  refine wpAnyH_take (i := 7) (v := .pointer (some ⟨l, 0, none⟩)) rfl (by kernel_rfl) (by kernel_rfl) (by kernel_rfl) (fun _ _ _ h => h) (Or.inl ⟨by kernel_rfl, fun u hSu => ?_⟩) S1 ?_
  · obtain ⟨z1, z2⟩ := hSu; go_simp
  simp only [Act.put, List.getElem_toArray, List.getElem_cons_succ, List.getElem_cons_zero, List.setIfInBounds_toArray, List.set_cons_zero, List.set_cons_succ]
  refine wpAnyH_take (i := 8) (v := .pointer (some ⟨l, 0, none⟩)) rfl (by kernel_rfl) (by kernel_rfl) (by kernel_rfl) (fun _ _ _ h => h) (Or.inl ⟨by kernel_rfl, fun u hSu => ?_⟩) S1 ?_
  · obtain ⟨z1, z2⟩ := hSu; go_simp
  simp only [Act.put, List.getElem_toArray, List.getElem_cons_succ, List.getElem_cons_zero, List.setIfInBounds_toArray, List.set_cons_zero, List.set_cons_succ]
  refine wpAnyH_take (i := 9) (v := .pointer (some ⟨l, 2, none⟩)) rfl (by kernel_rfl) (by kernel_rfl) (by kernel_rfl) (fun _ _ _ h => h) (Or.inl ⟨by kernel_rfl, fun u hSu => ?_⟩) S1 ?_
  · obtain ⟨z1, z2⟩ := hSu; go_simp
  simp only [Act.put, List.getElem_toArray, List.getElem_cons_succ, List.getElem_cons_zero, List.setIfInBounds_toArray, List.set_cons_zero, List.set_cons_succ]
  refine wpAnyH_take (i := 10) (v := encStr L.n) rfl (by kernel_rfl) (by kernel_rfl) (by kernel_rfl) (fun _ _ _ h => h) (Or.inl ⟨by kernel_rfl, fun u hSu => ?_⟩) S1 ?_
  · obtain ⟨z1, z2⟩ := hSu; go_simp
  simp only [Act.put, List.getElem_toArray, List.getElem_cons_succ, List.getElem_cons_zero, List.setIfInBounds_toArray, List.set_cons_zero, List.set_cons_succ]
  refine wpAnyH_ready (rs := [11]) (by kernel_rfl) (by simp) ?_
  refine AllReadyH.cons rfl (fun K hK => ?_) AllReadyH.nil
  go_simp
  refine (sync_any L.d L.n _ _ _ (HK.out.below (bdrew (Below.refl _ _))) (nl (by have := HNm.out; omega))).mono ?_
  rintro e w2 ⟨x, rfl, hx, q1, q2⟩
  rw [← HR.out] at hx q1
  subst hx
  have hl2 : Lw w2 l L := Lw.kp (w := w.drew) HL1.out q2 HP.out
  have K2 := hid (And.intro q1 ((KP.below (bdrew (Below.refl w.heap.size w))).trans q2))
  have S2 : (fun u : World => u.cell? ⟨l, 1, none⟩ = some (.pointer (some ⟨L.d, 0, none⟩)) ∧ u.cell? ⟨l, 2, none⟩ = some (encStr L.n)) w2 := ⟨cell_blk (i := 1) hl2 rfl, cell_blk (i := 2) hl2 rfl⟩
  have HL2 := hid hl2
  clear q1 q2 hl2
  refine hK.out _ _ S2 (fun _ => ?_)
  clear hK K
  try simp only [Act.put, List.getElem_toArray, List.getElem_cons_succ, List.getElem_cons_zero, List.setIfInBounds_toArray, List.set_cons_zero, List.set_cons_succ]
  refine wpAnyH_ready (rs := [12]) (by kernel_rfl) (by simp) ?_
  refine AllReadyH.cons rfl (fun K hK => ?_) AllReadyH.nil
  go_simp
  refine (heed_any l L _ w2 HL2.out).mono ?_
  rintro e w3 ⟨rfl, hw3⟩
  obtain ⟨q1, q2, q3⟩ := heed_dk K2.out.1 HP.out HL2.out hw3
  have q4 : w3.heap[l]? = some (.cells #[.int .i64 ((L.heed r.2).first : Int), .pointer (some ⟨(L.heed r.2).d, 0, none⟩), encStr (L.heed r.2).n, .int .i64 ((L.heed r.2).count : Int), .int .i64 ((L.heed r.2).sure : Int)] 68 (0, 0)) := q2
  have e1 : (L.heed r.2).d = L.d := by unfold Lg.heed; split <;> rfl
  have e2 : (L.heed r.2).n = L.n := by unfold Lg.heed; split <;> rfl
  have e3 : (L.heed r.2).count = L.count := by unfold Lg.heed; split <;> rfl
  have e4 : (L.heed r.2).sure = L.sure := by unfold Lg.heed; split <;> rfl
  rw [e1, e2, e3, e4] at q4
  have S3 : (fun u : World => u.cell? ⟨l, 1, none⟩ = some (.pointer (some ⟨L.d, 0, none⟩)) ∧ u.cell? ⟨l, 2, none⟩ = some (encStr L.n)) w3 := ⟨cell_blk (i := 1) q4 rfl, cell_blk (i := 2) q4 rfl⟩
  have K3 := hid (And.intro q1 ((K2.out.2.less (fun j hj => hj.1)).trans q3))
  have HL3 := hid q2
  have HQ4 := hid q4
  have E3 := hid (And.intro e1 (And.intro e2 (And.intro e3 e4)))
  clear q1 q2 q3 q4 hw3 e1 e2 e3 e4
  refine hK.out _ _ S3 (fun _ => ?_)
  clear hK K
  try simp only [Act.put, List.getElem_toArray, List.getElem_cons_succ, List.getElem_cons_zero, List.setIfInBounds_toArray, List.set_cons_zero, List.set_cons_succ]
  refine wpAnyH_take (i := 13) (v := .int .i64 (r.2 : Int)) rfl (by kernel_rfl) (by kernel_rfl) (by kernel_rfl) (fun _ _ _ h => h) (Or.inl ⟨by kernel_rfl, fun u hSu => ?_⟩) S3 ?_
  · obtain ⟨z1, z2⟩ := hSu; go_simp
  simp only [Act.put, List.getElem_toArray, List.getElem_cons_succ, List.getElem_cons_zero, List.setIfInBounds_toArray, List.set_cons_zero, List.set_cons_succ]
  refine wpAnyH_done (by kernel_rfl) ?_ _
  have y3 : w3.cell? ⟨l, 3, none⟩ = some (.int .i64 (L.count : Int)) := cell_blk (i := 3) HQ4.out rfl
  have y4 : w3.cell? ⟨l, 4, none⟩ = some (.int .i64 (L.sure : Int)) := cell_blk (i := 4) HQ4.out rfl
  have f3 := frz_blk (i := 3) HL3.out
  have f4 := frz_blk (i := 4) HL3.out
  by_cases hx : r.2 = 0
  · have hx0 : (r.2 : Int) = 0 := by omega
    have HX := hid hx
    rw [hx0]
    clear hx
    go_wp2
    go_ret
    rw [HT.out]
    refine ⟨?_, ?_, ?_, ?_⟩
    · show _ = Ending.returned (.int .i64 (r.2 : Int))
      rw [hx0]
      rfl
    · exact K3.out.1.setP HP.out 4 _
    · show Lw _ l (if r.2 = 0 then _ else _)
      rw [if_pos HX.out]
      have := HL3.out.set 4 (.int .i64 (L.count : Int))
      refine this.trans ?_
      simp only [Lg.cells, E3.out.1, E3.out.2.1, E3.out.2.2.1, E3.out.2.2.2]
      first | rfl | (simp; done)
    · exact K3.out.2.trans (kp_set (fun e => e.2 rfl) 4 _)
  · have hx0 : ((r.2 : Int) != 0) = true := by simp; omega
    have hx1 : ¬ (r.2 : Int) = 0 := by omega
    have HX := hid hx
    clear hx
    go_wp2
    go_ret
    rw [HT.out]
    refine ⟨rfl, K3.out.1, ?_, K3.out.2⟩
    show Lw _ l (if r.2 = 0 then _ else _)
    rw [if_neg HX.out]
    exact HL3.out

set_option maxRecDepth 100000 in
set_option maxHeartbeats 4000000 in
theorem wappend_any (d l : Nat) (L : Lg) (D : Dk) (P : Nat → Prop) (a : Option Addr) (cap : Nat) (B : List Int) (w : World) (h : DK w d D P) (hl : Lw w l L) (hP : P l) (hd : L.d = d) (hf : L.first = 0) (hn : L.n.length ≤ 1000) (hc : L.count ≤ 1000000000) (hs : Src w a B.length B) (hB : Bts B) (hnil : a = none → B.length = 0 ∧ cap = 0) (hm : B.length ≤ 4194304) : Calls Try.prog 19 #[.pointer (some ⟨l, 0, none⟩), .slice a B.length cap] w (LTold d l (appL D L B) P w) := by
  have HK := hid h
  have HL := hid hl
  have HP := hid hP
  subst hd
  have hmxo : Try.prog.follows .mixedOrders = true := by kernel_rfl
  obtain ⟨r, hr⟩ : ∃ r, r = operD (eApp D.room L.n (fr B)) D := ⟨_, rfl⟩
  have hT : appL D L B = (r.1, (if r.2 = 0 then ⟨(L.heed r.2).first, L.d, L.n, L.count + 1, L.sure⟩ else L.heed r.2), r.2) := by rw [hr]; rfl
  obtain ⟨T, hTT⟩ : ∃ T, T = appL D L B := ⟨_, rfl⟩
  rw [← hTT]
  have HT := hid (hTT.trans hT)
  clear hT hTT
  have HR := hid hr
  have HS := hid hs
  have HB := hid hB
  have HN := hid hnil
  have HM := hid hm
  have HC := hid hc
  have x0 : w.cell? ⟨l, 0, none⟩ = some (.int .i64 (0 : Int)) := by rw [cell_blk (v := .int .i64 (L.first : Int)) hl rfl, hf]; rfl
  have HF := hid hf
  have HNm := hid hn
  clear h hl hP hr hf hn hs hB hnil hm hc
  go_enter Try.func19, Try.ntmps19
  go_wp2_with (go_at_call 36; refine (frame_any a _ cap B w HS.out HB.out HN.out HM.out).mono ?_; rintro e w1 ⟨rfl, hro, hb1⟩; have HRO := hid hro; have HB1 := hid hb1; clear hro hb1)
  have hl1 := HL.out.below HB1.out
  have S1 : (fun u : World => u.cell? ⟨l, 1, none⟩ = some (.pointer (some ⟨L.d, 0, none⟩)) ∧ u.cell? ⟨l, 2, none⟩ = some (encStr L.n)) w1.drew := ⟨cell_blk (w := w1.drew) (i := 1) hl1 rfl, cell_blk (w := w1.drew) (i := 2) hl1 rfl⟩
  have HL1 := hid hl1
  clear hl1
  refine wp_region_held_drew (S := fun u => u.cell? ⟨l, 1, none⟩ = some (.pointer (some ⟨L.d, 0, none⟩)) ∧ u.cell? ⟨l, 2, none⟩ = some (encStr L.n)) hmxo S1 ?_
  intro _
  refine wpAnyH_take (i := 0) (v := .pointer (some ⟨l, 0, none⟩)) rfl (by kernel_rfl) (by kernel_rfl) (by kernel_rfl) (fun _ _ _ h => h) (Or.inl ⟨by kernel_rfl, fun u hSu => ?_⟩) S1 ?_
  · obtain ⟨z1, z2⟩ := hSu; go_simp
  simp only [Act.put, List.getElem_toArray, List.getElem_cons_succ, List.getElem_cons_zero, List.setIfInBounds_toArray, List.set_cons_zero, List.set_cons_succ]
  refine wpAnyH_take (i := 1) (v := .pointer (some ⟨l, 0, none⟩)) rfl (by kernel_rfl) (by kernel_rfl) (by kernel_rfl) (fun _ _ _ h => h) (Or.inl ⟨by kernel_rfl, fun u hSu => ?_⟩) S1 ?_
  · obtain ⟨z1, z2⟩ := hSu; go_simp
  simp only [Act.put, List.getElem_toArray, List.getElem_cons_succ, List.getElem_cons_zero, List.setIfInBounds_toArray, List.set_cons_zero, List.set_cons_succ]
  refine wpAnyH_take (i := 2) (v := .pointer (some ⟨l, 0, none⟩)) rfl (by kernel_rfl) (by kernel_rfl) (by kernel_rfl) (fun _ _ _ h => h) (Or.inl ⟨by kernel_rfl, fun u hSu => ?_⟩) S1 ?_
  · obtain ⟨z1, z2⟩ := hSu; go_simp
  simp only [Act.put, List.getElem_toArray, List.getElem_cons_succ, List.getElem_cons_zero, List.setIfInBounds_toArray, List.set_cons_zero, List.set_cons_succ]
  refine wpAnyH_take (i := 3) (v := .pointer (some ⟨l, 0, none⟩)) rfl (by kernel_rfl) (by kernel_rfl) (by kernel_rfl) (fun _ _ _ h => h) (Or.inl ⟨by kernel_rfl, fun u hSu => ?_⟩) S1 ?_
  · obtain ⟨z1, z2⟩ := hSu; go_simp
  simp only [Act.put, List.getElem_toArray, List.getElem_cons_succ, List.getElem_cons_zero, List.setIfInBounds_toArray, List.set_cons_zero, List.set_cons_succ]
  refine wpAnyH_take (i := 4) (v := .pointer (some ⟨l, 0, none⟩)) rfl (by kernel_rfl) (by kernel_rfl) (by kernel_rfl) (fun _ _ _ h => h) (Or.inl ⟨by kernel_rfl, fun u hSu => ?_⟩) S1 ?_
  · obtain ⟨z1, z2⟩ := hSu; go_simp
  simp only [Act.put, List.getElem_toArray, List.getElem_cons_succ, List.getElem_cons_zero, List.setIfInBounds_toArray, List.set_cons_zero, List.set_cons_succ]
  refine wpAnyH_take (i := 5) (v := .pointer (some ⟨l, 1, none⟩)) rfl (by kernel_rfl) (by kernel_rfl) (by kernel_rfl) (fun _ _ _ h => h) (Or.inl ⟨by kernel_rfl, fun u hSu => ?_⟩) S1 ?_
  · obtain ⟨z1, z2⟩ := hSu; go_simp
  simp only [Act.put, List.getElem_toArray, List.getElem_cons_succ, List.getElem_cons_zero, List.setIfInBounds_toArray, List.set_cons_zero, List.set_cons_succ]
  refine wpAnyH_take (i := 6) (v := .pointer (some ⟨L.d, 0, none⟩)) rfl (by kernel_rfl) (by kernel_rfl) (by kernel_rfl) (fun _ _ _ h => h) (Or.inl ⟨by kernel_rfl, fun u hSu => ?_⟩) S1 ?_
  · obtain ⟨z1, z2⟩ := hSu; go_simp
  simp only [Act.put, List.getElem_toArray, List.getElem_cons_succ, List.getElem_cons_zero, List.setIfInBounds_toArray, List.set_cons_zero, List.set_cons_succ]
  refine wpAnyH_take (i := 7) (v := .pointer (some ⟨l, 0, none⟩)) rfl (by kernel_rfl) (by kernel_rfl) (by kernel_rfl) (fun _ _ _ h => h) (Or.inl ⟨by kernel_rfl, fun u hSu => ?_⟩) S1 ?_
  · obtain ⟨z1, z2⟩ := hSu; go_simp
  simp only [Act.put, List.getElem_toArray, List.getElem_cons_succ, List.getElem_cons_zero, List.setIfInBounds_toArray, List.set_cons_zero, List.set_cons_succ]
  refine wpAnyH_take (i := 8) (v := .pointer (some ⟨l, 0, none⟩)) rfl (by kernel_rfl) (by kernel_rfl) (by kernel_rfl) (fun _ _ _ h => h) (Or.inl ⟨by kernel_rfl, fun u hSu => ?_⟩) S1 ?_
  · obtain ⟨z1, z2⟩ := hSu; go_simp
  simp only [Act.put, List.getElem_toArray, List.getElem_cons_succ, List.getElem_cons_zero, List.setIfInBounds_toArray, List.set_cons_zero, List.set_cons_succ]
  refine wpAnyH_take (i := 9) (v := .pointer (some ⟨l, 2, none⟩)) rfl (by kernel_rfl) (by kernel_rfl) (by kernel_rfl) (fun _ _ _ h => h) (Or.inl ⟨by kernel_rfl, fun u hSu => ?_⟩) S1 ?_
  · obtain ⟨z1, z2⟩ := hSu; go_simp
  simp only [Act.put, List.getElem_toArray, List.getElem_cons_succ, List.getElem_cons_zero, List.setIfInBounds_toArray, List.set_cons_zero, List.set_cons_succ]
  refine wpAnyH_take (i := 10) (v := encStr L.n) rfl (by kernel_rfl) (by kernel_rfl) (by kernel_rfl) (fun _ _ _ h => h) (Or.inl ⟨by kernel_rfl, fun u hSu => ?_⟩) S1 ?_
  · obtain ⟨z1, z2⟩ := hSu; go_simp
  simp only [Act.put, List.getElem_toArray, List.getElem_cons_succ, List.getElem_cons_zero, List.setIfInBounds_toArray, List.set_cons_zero, List.set_cons_succ]
  refine wpAnyH_take (i := 11) (v := .slice (some ⟨w.heap.size, 0, none⟩) (B.length + 8) (B.length + 8)) rfl (by kernel_rfl) (by kernel_rfl) (by kernel_rfl) (fun _ _ _ h => h) (Or.inl ⟨by kernel_rfl, fun u hSu => ?_⟩) S1 ?_
  · obtain ⟨z1, z2⟩ := hSu; go_simp
  simp only [Act.put, List.getElem_toArray, List.getElem_cons_succ, List.getElem_cons_zero, List.setIfInBounds_toArray, List.set_cons_zero, List.set_cons_succ]
  refine wpAnyH_ready (rs := [12]) (by kernel_rfl) (by simp) ?_
  refine AllReadyH.cons rfl (fun K hK => ?_) AllReadyH.nil
  go_simp
  have hb1d : Below w.heap.size w w1.drew := bdrew HB1.out
  have hlen : B.length + 8 = (fr B).length := (fr_length B).symm
  rw [hlen]
  have hsrc : Src w1.drew (some ⟨w.heap.size, 0, none⟩) (fr B).length (fr B) := Row.src (w := w1.drew) HRO.out _ rfl
  have hlt1 : w.heap.size < w1.heap.size := Row.lt HRO.out
  refine (append_any L.d L.n (fr B) (some ⟨w.heap.size, 0, none⟩) (fr B).length _ _ _ (HK.out.more hb1d) (nl (by have := HNm.out; omega)) hsrc (fun _ ad e => by obtain rfl := Option.some.inj e; exact Or.inr ⟨Nat.le_refl _, hlt1⟩) (fun e => by cases e) ⟨Nat.le_refl _, by rw [fr_length]; have := HM.out; unfold maxLen; omega⟩ (fr_bts HB.out)).mono ?_
  rintro e w2 ⟨x, rfl, hx, q1, q2⟩
  rw [← HR.out] at hx q1
  subst hx
  rw [← hlen]
  have hl2 : Lw w2 l L := Lw.kp (w := w1.drew) HL1.out q2 (Or.inl HP.out)
  have K2 := hid (And.intro (q1.less (fun j hj => Or.inl hj)) ((KP.below hb1d).trans (q2.less (Q := P) (fun j hj => Or.inl hj))))
  have S2 : (fun u : World => u.cell? ⟨l, 1, none⟩ = some (.pointer (some ⟨L.d, 0, none⟩)) ∧ u.cell? ⟨l, 2, none⟩ = some (encStr L.n)) w2 := ⟨cell_blk (i := 1) hl2 rfl, cell_blk (i := 2) hl2 rfl⟩
  have HL2 := hid hl2
  clear q1 q2 hl2
  refine hK.out _ _ S2 (fun _ => ?_)
  clear hK K
  try simp only [Act.put, List.getElem_toArray, List.getElem_cons_succ, List.getElem_cons_zero, List.setIfInBounds_toArray, List.set_cons_zero, List.set_cons_succ]
  refine wpAnyH_ready (rs := [13]) (by kernel_rfl) (by simp) ?_
  refine AllReadyH.cons rfl (fun K hK => ?_) AllReadyH.nil
  go_simp
  refine (heed_any l L _ w2 HL2.out).mono ?_
  rintro e w3 ⟨rfl, hw3⟩
  obtain ⟨q1, q2, q3⟩ := heed_dk K2.out.1 HP.out HL2.out hw3
  have q4 : w3.heap[l]? = some (.cells #[.int .i64 ((L.heed r.2).first : Int), .pointer (some ⟨(L.heed r.2).d, 0, none⟩), encStr (L.heed r.2).n, .int .i64 ((L.heed r.2).count : Int), .int .i64 ((L.heed r.2).sure : Int)] 68 (0, 0)) := q2
  have e1 : (L.heed r.2).d = L.d := by unfold Lg.heed; split <;> rfl
  have e2 : (L.heed r.2).n = L.n := by unfold Lg.heed; split <;> rfl
  have e3 : (L.heed r.2).count = L.count := by unfold Lg.heed; split <;> rfl
  have e4 : (L.heed r.2).sure = L.sure := by unfold Lg.heed; split <;> rfl
  rw [e1, e2, e3, e4] at q4
  have S3 : (fun u : World => u.cell? ⟨l, 1, none⟩ = some (.pointer (some ⟨L.d, 0, none⟩)) ∧ u.cell? ⟨l, 2, none⟩ = some (encStr L.n)) w3 := ⟨cell_blk (i := 1) q4 rfl, cell_blk (i := 2) q4 rfl⟩
  have K3 := hid (And.intro q1 ((K2.out.2.less (fun j hj => hj.1)).trans q3))
  have HL3 := hid q2
  have HQ4 := hid q4
  have E3 := hid (And.intro e1 (And.intro e2 (And.intro e3 e4)))
  clear q1 q2 q3 q4 hw3 e1 e2 e3 e4
  refine hK.out _ _ S3 (fun _ => ?_)
  clear hK K
  try simp only [Act.put, List.getElem_toArray, List.getElem_cons_succ, List.getElem_cons_zero, List.setIfInBounds_toArray, List.set_cons_zero, List.set_cons_succ]
  refine wpAnyH_take (i := 14) (v := .int .i64 (r.2 : Int)) rfl (by kernel_rfl) (by kernel_rfl) (by kernel_rfl) (fun _ _ _ h => h) (Or.inl ⟨by kernel_rfl, fun u hSu => ?_⟩) S3 ?_
  · obtain ⟨z1, z2⟩ := hSu; go_simp
  simp only [Act.put, List.getElem_toArray, List.getElem_cons_succ, List.getElem_cons_zero, List.setIfInBounds_toArray, List.set_cons_zero, List.set_cons_succ]
  refine wpAnyH_done (by kernel_rfl) ?_ _
  have y3 : w3.cell? ⟨l, 3, none⟩ = some (.int .i64 (L.count : Int)) := cell_blk (i := 3) HQ4.out rfl
  have y4 : w3.cell? ⟨l, 4, none⟩ = some (.int .i64 (L.sure : Int)) := cell_blk (i := 4) HQ4.out rfl
  have f3 := frz_blk (i := 3) HL3.out
  have f4 := frz_blk (i := 4) HL3.out
  by_cases hx : r.2 = 0
  · have hx0 : (r.2 : Int) = 0 := by omega
    have HX := hid hx
    rw [hx0]
    clear hx
    go_wp2
    go_ret
    rw [HT.out]
    refine ⟨?_, ?_, ?_, ?_⟩
    · show _ = Ending.returned (.int .i64 (r.2 : Int))
      rw [hx0]
      rfl
    · exact K3.out.1.setP HP.out 3 _
    · show Lw _ l (if r.2 = 0 then _ else _)
      rw [if_pos HX.out]
      have := HL3.out.set 3 (.int .i64 ((L.count + 1 : Nat) : Int))
      have hwr : wrap64 ((L.count : Int) + 1) = ((L.count + 1 : Nat) : Int) := by have := HC.out; unfold wrap64; omega
      rw [hwr]
      refine this.trans ?_
      simp only [Lg.cells, E3.out.1, E3.out.2.1, E3.out.2.2.1, E3.out.2.2.2]
      first | rfl | (simp; done)
    · exact K3.out.2.trans (kp_set (fun e => e.2 rfl) 3 _)
  · have hx0 : ((r.2 : Int) != 0) = true := by simp; omega
    have hx1 : ¬ (r.2 : Int) = 0 := by omega
    have HX := hid hx
    clear hx
    go_wp2
    go_ret
    rw [HT.out]
    refine ⟨rfl, K3.out.1, ?_, K3.out.2⟩
    show Lw _ l (if r.2 = 0 then _ else _)
    rw [if_neg HX.out]
    exact HL3.out
end

section
set_option linter.unusedVariables false
set_option linter.unusedSimpArgs false
open Go.RowKit

theorem le4_num4 {L : List Int} (h : Bts L) (h4 : 4 ≤ L.length) : le4 (num4 L) = L.take 4 := by
  match L, h4 with
  | a :: b :: c :: d :: r, _ =>
    have a0 := h.at 0
    have a1 := h.at 1
    have a2 := h.at 2
    have a3 := h.at 3
    simp at a0 a1 a2 a3
    simp [le4, num4]
    refine ⟨?_, ?_, ?_, ?_⟩ <;> omega
theorem nx_take {L : List Int} (hb : Bts L) (h : (nx L).1 = 0) : L.take (nx L).2.2 = fr (nx L).2.1 := by
  have hk := nx_ok hb h
  have hq := num4_bounds hb
  unfold nx at *
  split at h
  · simp at h
  · rename_i h1
    rw [if_neg h1] at *
    split at h
    · simp at h
    · rename_i h2
      rw [if_neg h2] at *
      split at h
      · simp at h
      · rename_i h3
        rw [if_neg h3] at *
        split at h
        · simp at h
        · rename_i h4
          rw [if_neg h4] at *
          have h4' : num4 (L.drop ((num4 L).toNat + 4)) = sumI (L.take ((num4 L).toNat + 4)) := Decidable.of_not_not h4
          simp only at hk ⊢
          have e1 : (((L.drop 4).take (num4 L).toNat).length : Int) = num4 L := by
            rw [List.length_take, List.length_drop]; omega
          unfold fr
          rw [e1, le4_num4 hb (by omega)]
          have e2 : L.take 4 ++ (L.drop 4).take (num4 L).toNat = L.take ((num4 L).toNat + 4) := by
            rw [Nat.add_comm, List.take_add]
          rw [e2, ← h4', le4_num4 (hb.drop _) (by rw [List.length_drop]; omega), ← List.take_add]
theorem spl_nil : spl [] = ([], 0) := by decide
theorem spl_take (n : Nat) (L : List Int) (hn : L.length ≤ n) (hb : Bts L) : L.take (spl L).2 = frs (spl L).1 := by
  induction n generalizing L with
  | zero =>
    have : L = [] := List.eq_nil_of_length_eq_zero (by omega)
    subst this
    rw [spl_nil]
    rfl
  | succ n ih =>
    by_cases h : (nx L).1 = 0
    · have hk := nx_ok hb h
      have hl : (L.drop (nx L).2.2).length = L.length - (nx L).2.2 := List.length_drop
      rw [spl_ok hb h]
      show L.take _ = fr _ ++ frs _
      rw [← ih (L.drop (nx L).2.2) (by omega) (hb.drop _), ← nx_take hb h, List.take_add]
    · rw [spl_bad h]
      rfl
theorem spl_all (R : List (List Int)) (hR : ∀ B ∈ R, Bts B ∧ B.length ≤ 4194304) : spl (frs R) = (R, (frs R).length) := by
  have := spl_frs R [] hR Bts.nil
  rw [spl_nil, List.append_nil, List.append_nil] at this
  exact this
theorem frs_one (B : List Int) : frs [B] = fr B := by show fr B ++ [] = _; simp
theorem frs_snoc (R : List (List Int)) (B : List Int) : frs (R ++ [B]) = frs R ++ fr B := by rw [frs_append, frs_one]

/-- The name that the statements use. -/
def lg : Nm := [108, 111, 103]
theorem lg_may : mayB lg = true := by kernel_rfl
/-- One file alone may be there: the log's, of such bytes; no cut is to come. -/
structure LF (D : Dk) (b : List Int) : Prop where
  off : D.off = false
  due : D.due = none
  F : (D.F = [] ∧ b = []) ∨ ∃ s, D.F = [(lg, ⟨b, s⟩)]
theorem LF.read {D : Dk} {b : List Int} (h : LF D b) : wreadD D lg = (b, 0) := by
  unfold wreadD
  rw [if_neg (by rw [lg_may]; simp), if_neg (by rw [h.off]; simp)]
  rcases h.F with ⟨e, rfl⟩ | ⟨s, e⟩
  · rw [e]; rfl
  · rw [e]; simp [lk]
theorem LF.size {D : Dk} {b : List Int} (h : LF D b) : sm Fl.n D.F = b.length := by
  rcases h.F with ⟨e, rfl⟩ | ⟨s, e⟩
  · rw [e]; rfl
  · rw [e]; simp [sm, Fl.n]
theorem operD_calm {D : Dk} (ho : D.off = false) (hd : D.due = none) (ef : Ef) : operD ef D = (⟨D.room, false, none, (ef none D.F).1⟩, (ef none D.F).2) := by
  unfold operD
  rw [if_neg (by rw [ho]; simp), hd]
theorem LF.app {D : Dk} {b X : List Int} (h : LF D b) (hr : b.length + X.length ≤ D.room) : (operD (eApp D.room lg X) D).2 = 0 ∧ LF (operD (eApp D.room lg X) D).1 (b ++ X) ∧ (operD (eApp D.room lg X) D).1.room = D.room := by
  rw [operD_calm h.off h.due]
  have hs := h.size
  unfold eApp
  rw [if_neg (by rw [lg_may]; simp)]
  rcases h.F with ⟨e, rfl⟩ | ⟨s, e⟩
  · rw [e] at hs ⊢
    rw [if_neg (by simp at hs hr ⊢; omega)]
    exact ⟨rfl, ⟨rfl, rfl, Or.inr ⟨0, by simp [lk, put, fz]⟩⟩, rfl⟩
  · rw [e] at hs ⊢
    rw [if_neg (by simp [lk]; omega)]
    exact ⟨rfl, ⟨rfl, rfl, Or.inr ⟨s, by simp [lk, put, fz]⟩⟩, rfl⟩
theorem LF.full {D : Dk} {b X : List Int} (h : LF D b) (hr : D.room < b.length + X.length) (hb : b.length ≤ D.room) : operD (eApp D.room lg X) D = (D, 72) := by
  rw [operD_calm h.off h.due]
  have hs := h.size
  have ho := h.off
  have hd := h.due
  unfold eApp
  rw [if_neg (by rw [lg_may]; simp), if_pos (Or.inl (by omega))]
  obtain ⟨r, o, u, F⟩ := D
  simp only at ho hd ⊢
  subst ho hd
  rfl
theorem LF.sync {D : Dk} {b : List Int} (h : LF D b) (hb : b ≠ []) : (operD (eSync lg) D).2 = 0 ∧ LF (operD (eSync lg) D).1 b ∧ (operD (eSync lg) D).1.room = D.room := by
  rw [operD_calm h.off h.due]
  unfold eSync
  rcases h.F with ⟨e, rfl⟩ | ⟨s, e⟩
  · exact absurd rfl hb
  · rw [e]
    exact ⟨by simp [lk], ⟨rfl, rfl, Or.inr ⟨b.length, by simp [lk, put]⟩⟩, rfl⟩
theorem LF.sho {D : Dk} {b : List Int} (h : LF D b) (k : Nat) (hk : k < b.length) : (operD (eSho lg (k : Nat)) D).2 = 0 ∧ LF (operD (eSho lg (k : Nat)) D).1 (b.take k) ∧ (operD (eSho lg (k : Nat)) D).1.room = D.room := by
  rw [operD_calm h.off h.due]
  unfold eSho
  rcases h.F with ⟨e, rfl⟩ | ⟨s, e⟩
  · simp at hk
  · rw [e]
    have hn : ¬ ((k : Nat) : Int) < 0 := by omega
    have h2 : ¬ b.length ≤ k := by omega
    exact ⟨by simp [lk, hn], ⟨rfl, rfl, Or.inr ⟨min s k, by simp [lk, put, hn, Fl.cutTo, h2]⟩⟩, rfl⟩

/-- The log is opened. -/
theorem open_lf (d : Nat) (D : Dk) (P : Nat → Prop) (w : World) (b : List Int) (h : DK w d D P) (hl : LF D b) (hb : b.length ≤ 1048576) : Calls Try.prog 11 #[.pointer (some ⟨d, 0, none⟩), encStr lg] w fun e w' => ∃ D', LF D' (frs (spl b).1) ∧ D'.room = D.room ∧ OpenOk d lg D' (spl b).1 P w e w' := by
  have hr := hl.read
  have hbt := wread_bts h.good lg
  rw [hr] at hbt
  have hle := spl_le _ b (Nat.le_refl _) hbt
  have htk := spl_take _ b (Nat.le_refl _) hbt
  have hbo : bodD D lg = (spl b).1 := by unfold bodD; rw [hr]
  rcases Nat.lt_or_ge (spl b).2 b.length with hlt | hge
  · obtain ⟨h1, h2, h3⟩ := hl.sho (spl b).2 hlt
    have hc := wopen_cut d lg D P w h (by simp [lg]) (by rw [hr]) (by rw [hr]; exact hb) (by rw [hr]; exact hlt) (by rw [hr]; exact h1)
    rw [hr, hbo] at hc
    rw [htk] at h2
    exact hc.mono fun e w' he => ⟨_, h2, h3, he⟩
  · have hc := wopen_whole d lg D P w h (by simp [lg]) (by rw [hr]) (by rw [hr]; exact hb) (by rw [hr]; exact Nat.le_antisymm hle hge)
    rw [hbo] at hc
    rw [List.take_of_length_le hge] at htk
    refine hc.mono fun e w' he => ⟨D, ?_, rfl, he⟩
    rw [← htk]
    exact hl

/-- A record is put behind the others. -/
theorem append_lf (d l : Nat) (L : Lg) (D : Dk) (P : Nat → Prop) (a : Option Addr) (cap : Nat) (B b : List Int) (w : World) (h : DK w d D P) (hl : Lw w l L) (hP : P l) (hd : L.d = d) (hf : L.first = 0) (hn : L.n = lg) (hc : L.count ≤ 1000000000) (hs : Src w a B.length B) (hB : Bts B) (hnil : a = none → B.length = 0 ∧ cap = 0) (hm : B.length ≤ 4194304) (hb : LF D b) (hr : b.length + B.length + 8 ≤ D.room) :
    Calls Try.prog 19 #[.pointer (some ⟨l, 0, none⟩), .slice a B.length cap] w fun e w' => ∃ D', e = .returned (.int .i64 0) ∧ LF D' (b ++ fr B) ∧ D'.room = D.room ∧ DK w' d D' P ∧ Lw w' l ⟨0, d, lg, L.count + 1, L.sure⟩ ∧ KP w w' (fun j => P j ∧ j ≠ l) := by
  refine (wappend_any d l L D P a cap B w h hl hP hd hf (by rw [hn]; simp [lg]) hc hs hB hnil hm).mono ?_
  rintro e w' ⟨rfl, h1, h2, h3⟩
  obtain ⟨q1, q2, q3⟩ := hb.app (X := fr B) (by rw [fr_length]; omega)
  have e0 : appL D L B = ((operD (eApp D.room lg (fr B)) D).1, ⟨0, d, lg, L.count + 1, L.sure⟩, 0) := by
    unfold appL
    simp only [hn, q1, hd]
    simp [Lg.heed]
  rw [e0] at h1 h2 ⊢
  exact ⟨_, rfl, q2, q3, h1, h2, h3⟩
/-- There is no room. -/
theorem append_lfull (d l : Nat) (L : Lg) (D : Dk) (P : Nat → Prop) (a : Option Addr) (cap : Nat) (B b : List Int) (w : World) (h : DK w d D P) (hl : Lw w l L) (hP : P l) (hd : L.d = d) (hf : L.first = 0) (hn : L.n = lg) (hc : L.count ≤ 1000000000) (hs : Src w a B.length B) (hB : Bts B) (hnil : a = none → B.length = 0 ∧ cap = 0) (hm : B.length ≤ 4194304) (hb : LF D b) (hr : D.room < b.length + B.length + 8) :
    Calls Try.prog 19 #[.pointer (some ⟨l, 0, none⟩), .slice a B.length cap] w fun e w' => e = .returned (.int .i64 72) ∧ DK w' d D P ∧ Lw w' l L ∧ KP w w' (fun j => P j ∧ j ≠ l) := by
  refine (wappend_any d l L D P a cap B w h hl hP hd hf (by rw [hn]; simp [lg]) hc hs hB hnil hm).mono ?_
  rintro e w' ⟨rfl, h1, h2, h3⟩
  have q1 := hb.full (X := fr B) (by rw [fr_length]; omega) (by have := h.good.fits; rw [hb.size] at this; exact this)
  have e0 : appL D L B = (D, L, 72) := by
    unfold appL
    simp only [hn, q1]
    simp [Lg.heed]
  rw [e0] at h1 h2 ⊢
  exact ⟨rfl, h1, h2, h3⟩
/-- All records are made sure. -/
theorem sync_lf (d l : Nat) (L : Lg) (D : Dk) (P : Nat → Prop) (b : List Int) (w : World) (h : DK w d D P) (hl : Lw w l L) (hP : P l) (hd : L.d = d) (hf : L.first = 0) (hn : L.n = lg) (hc : L.count ≠ 0) (hb : LF D b) (hb0 : b ≠ []) :
    Calls Try.prog 17 #[.pointer (some ⟨l, 0, none⟩)] w fun e w' => ∃ D', e = .returned (.int .i64 0) ∧ LF D' b ∧ D'.room = D.room ∧ DK w' d D' P ∧ Lw w' l ⟨0, d, lg, L.count, L.count⟩ ∧ KP w w' (fun j => P j ∧ j ≠ l) := by
  refine (wsync_any d l L D P w h hl hP hd hf (by rw [hn]; simp [lg]) hc).mono ?_
  rintro e w' ⟨rfl, h1, h2, h3⟩
  obtain ⟨q1, q2, q3⟩ := hb.sync hb0
  have e0 : synL D L = ((operD (eSync lg) D).1, ⟨0, d, lg, L.count, L.count⟩, 0) := by
    unfold synL
    simp only [hn, q1, hd]
    simp [Lg.heed]
  rw [e0] at h1 h2 ⊢
  exact ⟨_, rfl, q2, q3, h1, h2, h3⟩
end

section
set_option linter.unusedVariables false
set_option linter.unusedSimpArgs false
open Go.RowKit

theorem src_new (w : World) (C : Array Value) (fr : Nat × Nat) (L : List Int) (hC : C = (L.map (Value.int .u8)).toArray) : Src (w.alloc (.cells C 5 fr)) (some ⟨w.heap.size, 0, none⟩) L.length L := by
  refine ⟨rfl, fun hp => ⟨_, rfl, fun j x hj => ?_⟩⟩
  have h := heap_new w (.cells C 5 fr)
  rw [add_at]
  exact cell_blk h (by rw [hC]; simp [hj])

/-- The disk of a run: w at first, wr now; its one file holds b. -/
structure WD (w wr : World) (d : Nat) (D : Dk) (b : List Int) (room : Nat) (P : Nat → Prop) : Prop where
  dk : DK wr d D P
  lf : LF D b
  room : D.room = room
  kp : KP w wr (fun j => j < w.heap.size)
  old : ∀ j, j < w.heap.size → P j
/-- A log of it. -/
structure LG (w wr : World) (l d c s : Nat) (P : Nat → Prop) : Prop where
  log : Lw wr l ⟨0, d, lg, c, s⟩
  own : P l
  far : w.heap.size ≤ l
theorem WD.below {w wr w2 : World} {d : Nat} {D : Dk} {b : List Int} {room : Nat} {P : Nat → Prop} (h : WD w wr d D b room P) (hb : Below wr.heap.size wr w2) : WD w w2 d D b room P := ⟨h.dk.below hb, h.lf, h.room, h.kp.trans (KP.below hb), h.old⟩
theorem WD.more {w wr w2 : World} {d : Nat} {D : Dk} {b : List Int} {room : Nat} {P : Nat → Prop} (h : WD w wr d D b room P) (hb : Below wr.heap.size wr w2) : WD w w2 d D b room (fun j => P j ∨ (wr.heap.size ≤ j ∧ j < w2.heap.size)) := ⟨h.dk.more hb, h.lf, h.room, h.kp.trans (KP.below hb), fun j hj => Or.inl (h.old j hj)⟩
theorem WD.eq {w wr : World} {d : Nat} {D : Dk} {b b2 : List Int} {room : Nat} {P : Nat → Prop} (h : WD w wr d D b room P) (e : b = b2) : WD w wr d D b2 room P := e ▸ h
theorem LG.below {w wr w2 : World} {l d c s : Nat} {P : Nat → Prop} (h : LG w wr l d c s P) (hb : Below wr.heap.size wr w2) : LG w w2 l d c s P := ⟨h.log.below hb, h.own, h.far⟩
theorem LG.kp {w wr w2 : World} {l d c s : Nat} {P P2 Q : Nat → Prop} (h : LG w wr l d c s P) (k : KP wr w2 Q) (hq : Q l) (hp : ∀ j, P j → P2 j) : LG w w2 l d c s P2 := ⟨h.log.kp k hq, hp _ h.own, h.far⟩
theorem WD.kpO {w wr : World} {d : Nat} {D : Dk} {b : List Int} {room : Nat} {P : Nat → Prop} {l : Nat} {w2 : World} (h : WD w wr d D b room P) (hl : w.heap.size ≤ l) (k : KP wr w2 (fun j => P j ∧ j ≠ l)) : KP w w2 (fun j => j < w.heap.size) :=
  ⟨Nat.le_trans h.kp.size k.size, fun j hj hP => (k.keep j (Nat.lt_of_lt_of_le hj h.kp.size) ⟨h.old j hj, by omega⟩).trans (h.kp.keep j hj hP), h.kp.sm.trans k.sm⟩
theorem WD.kpP {w wr : World} {d : Nat} {D : Dk} {b : List Int} {room : Nat} {P : Nat → Prop} {w2 : World} (h : WD w wr d D b room P) (k : KP wr w2 P) : KP w w2 (fun j => j < w.heap.size) :=
  ⟨Nat.le_trans h.kp.size k.size, fun j hj hP => (k.keep j (Nat.lt_of_lt_of_le hj h.kp.size) (h.old j hj)).trans (h.kp.keep j hj hP), h.kp.sm.trans k.sm⟩

theorem run_new {w w0 : World} (r : Int) (room : Nat) (hr : r = (room : Int)) (hs : room ≤ 16777216) (h0 : Below w.heap.size w w0) : Calls Try.prog 9 #[.int .i64 r] w0 fun e w' => ∃ d D, e = .returned (.pointer (some ⟨d, 0, none⟩)) ∧ WD w w' d D [] room (fun j => j < w0.heap.size) := by
  refine (new_any r (by omega) w0).mono ?_
  rintro e w' ⟨d, rfl, hb, hk⟩
  exact ⟨d, _, rfl, hk, ⟨rfl, rfl, Or.inl ⟨rfl, rfl⟩⟩, by simp only; omega, (KP.below h0).trans (KP.below hb), fun j hj => Nat.lt_of_lt_of_le hj h0.size⟩
/-- Opening. -/
theorem run_open {w wr : World} {d : Nat} {D : Dk} {b : List Int} {room : Nat} {P : Nat → Prop} (h : WD w wr d D b room P) (hb : b.length ≤ 1048576) : Calls Try.prog 11 #[.pointer (some ⟨d, 0, none⟩), encStr lg] wr fun e w' => ∃ (D' : Dk) (l : Nat) (a : Option Addr) (c : Nat) (P' : Nat → Prop), e = .returned (.tuple #[.pointer (some ⟨l, 0, none⟩), .slice a (spl b).1.length c, .int .i64 0]) ∧ WD w w' d D' (frs (spl b).1) room P' ∧ LG w w' l d (spl b).1.length 0 P' ∧ BRow w' (fun j => P' j ∧ wr.heap.size ≤ j) a (spl b).1 ∧ KP wr w' P ∧ (∀ j, P j → P' j) ∧ wr.heap.size ≤ l := by
  refine (open_lf d D P wr b h.dk h.lf hb).mono ?_
  rintro e w' ⟨D', h1, h2, l, a, c, P', rfl, q1, q2, q3, q4, q5, q6, q7⟩
  exact ⟨D', l, a, c, P', rfl, ⟨q1, h1, h2.trans h.room, h.kpP q2, fun j hj => q3 j (h.old j hj)⟩, ⟨q6, q4, Nat.le_trans h.kp.size q5⟩, q7, q2, q3, q5⟩
/-- A record more. -/
theorem run_append {w wr : World} {d l c s : Nat} {D : Dk} {b B : List Int} {room : Nat} {P : Nat → Prop} {a : Option Addr} {cap : Nat} (h : WD w wr d D b room P) (g : LG w wr l d c s P) (hc : c ≤ 1000000000) (hs : Src wr a B.length B) (hB : Bts B) (hnil : a = none → B.length = 0 ∧ cap = 0) (hm : B.length ≤ 4194304) (hr : b.length + B.length + 8 ≤ room) :
    Calls Try.prog 19 #[.pointer (some ⟨l, 0, none⟩), .slice a B.length cap] wr fun e w' => ∃ D', e = .returned (.int .i64 0) ∧ WD w w' d D' (b ++ fr B) room P ∧ LG w w' l d (c + 1) s P ∧ KP wr w' (fun j => P j ∧ j ≠ l) := by
  refine (append_lf d l _ D P a cap B b wr h.dk g.log g.own rfl rfl rfl hc hs hB hnil hm h.lf (by rw [h.room]; exact hr)).mono ?_
  rintro e w' ⟨D', rfl, h1, h2, h3, h4, h5⟩
  exact ⟨D', rfl, ⟨h3, h1, h2.trans h.room, h.kpO g.far h5, h.old⟩, ⟨h4, g.own, g.far⟩, h5⟩
theorem run_full {w wr : World} {d l c s : Nat} {D : Dk} {b B : List Int} {room : Nat} {P : Nat → Prop} {a : Option Addr} {cap : Nat} (h : WD w wr d D b room P) (g : LG w wr l d c s P) (hc : c ≤ 1000000000) (hs : Src wr a B.length B) (hB : Bts B) (hnil : a = none → B.length = 0 ∧ cap = 0) (hm : B.length ≤ 4194304) (hr : room < b.length + B.length + 8) :
    Calls Try.prog 19 #[.pointer (some ⟨l, 0, none⟩), .slice a B.length cap] wr fun e w' => e = .returned (.int .i64 72) ∧ WD w w' d D b room P ∧ LG w w' l d c s P ∧ KP wr w' (fun j => P j ∧ j ≠ l) := by
  refine (append_lfull d l _ D P a cap B b wr h.dk g.log g.own rfl rfl rfl hc hs hB hnil hm h.lf (by rw [h.room]; exact hr)).mono ?_
  rintro e w' ⟨rfl, h3, h4, h5⟩
  exact ⟨rfl, ⟨h3, h.lf, h.room, h.kpO g.far h5, h.old⟩, ⟨h4, g.own, g.far⟩, h5⟩
/-- A record whose bytes were just made. -/
theorem run_append_new {w wr : World} {d l c s : Nat} {D : Dk} {b : List Int} {room : Nat} {P : Nat → Prop} (h : WD w wr d D b room P) (g : LG w wr l d c s P) (hc : c ≤ 1000000000) (B : List Int) (C : Array Value) (fz : Nat × Nat) (hC : C = (B.map (Value.int .u8)).toArray) (hB : Bts B) (hm : B.length ≤ 1000) (hr : b.length + B.length + 8 ≤ room) :
    Calls Try.prog 19 #[.pointer (some ⟨l, 0, none⟩), .slice (some ⟨wr.heap.size, 0, none⟩) B.length B.length] (wr.alloc (.cells C 5 fz)) fun e w' => ∃ D', e = .returned (.int .i64 0) ∧ WD w w' d D' (b ++ fr B) room P ∧ LG w w' l d (c + 1) s P ∧ KP wr w' (fun j => P j ∧ j ≠ l) := by
  have hb := new_below wr (.cells C 5 fz)
  refine (run_append (h.below hb) (g.below hb) hc (src_new wr C fz B hC) hB (fun e => by cases e) (by omega) hr).mono ?_
  rintro e w' ⟨D', rfl, h1, h2, h3⟩
  exact ⟨D', rfl, h1, h2, (KP.below hb).trans h3⟩
theorem run_sync {w wr : World} {d l c s : Nat} {D : Dk} {b : List Int} {room : Nat} {P : Nat → Prop} (h : WD w wr d D b room P) (g : LG w wr l d c s P) (hc : c ≠ 0) (hb : b ≠ []) :
    Calls Try.prog 17 #[.pointer (some ⟨l, 0, none⟩)] wr fun e w' => ∃ D', e = .returned (.int .i64 0) ∧ WD w w' d D' b room P ∧ LG w w' l d c c P ∧ KP wr w' (fun j => P j ∧ j ≠ l) := by
  refine (sync_lf d l _ D P b wr h.dk g.log g.own rfl rfl rfl hc h.lf hb).mono ?_
  rintro e w' ⟨D', rfl, h1, h2, h3, h4, h5⟩
  exact ⟨D', rfl, ⟨h3, h1, h2.trans h.room, h.kpO g.far h5, h.old⟩, ⟨h4, g.own, g.far⟩, h5⟩
theorem fr_ne (b B : List Int) : b ++ fr B ≠ [] := by
  intro h
  have := congrArg List.length h
  rw [List.length_append, fr_length] at this
  simp at this
end
end Go.Proofs.Ytegikicpffoglaa
