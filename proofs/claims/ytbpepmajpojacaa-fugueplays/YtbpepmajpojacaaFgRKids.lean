/- The reference: those at a side of one. -/
import Derived.Test.YtbpepmajpojacaaFgRAt
import Derived.Test.YtbpepmajpojacaaFgPut1
set_option linter.unusedVariables false
namespace Go.Proofs.Ytbpepmajpojacaa
open Go.RowKit
open Go.Sort (grow)

/-- Those of a row that lie at a side of one, put in one by one. -/
def kidI (T : List Cr) (d : Dt) (s : Int) : List Dt := rise ((T.filter (fun c => decide (c.at_ = d) && decide ((if c.sd then (1 : Int) else 0) = s))).map Cr.id)

theorem kidI_left (T : List Cr) (d : Dt) : kidI T d 0 = kids T d false := by
  unfold kidI kids
  congr 2
  apply List.filter_congr
  intro c _
  cases c.sd <;> simp
theorem kidI_right (T : List Cr) (d : Dt) : kidI T d 1 = kids T d true := by
  unfold kidI kids
  congr 2
  apply List.filter_congr
  intro c _
  cases c.sd <;> simp

theorem kidI_yes {T : List Cr} {c : Cr} {d : Dt} {s : Int} (h1 : c.at_ = d) (h2 : (if c.sd then (1 : Int) else 0) = s) : kidI (T ++ [c]) d s = ins (kidI T d s) c.id := by
  unfold kidI
  rw [List.filter_append, List.filter_cons_of_pos (by simp [h1, h2]), List.filter_nil, List.map_append, List.map_cons, List.map_nil, rise_snoc]
theorem kidI_no {T : List Cr} {c : Cr} {d : Dt} {s : Int} (h : ¬ (c.at_ = d ∧ (if c.sd then (1 : Int) else 0) = s)) : kidI (T ++ [c]) d s = kidI T d s := by
  unfold kidI
  rw [List.filter_append, List.filter_cons_of_neg (by simp only [Bool.and_eq_true, decide_eq_true_eq]; exact h), List.filter_nil, List.append_nil]
theorem kidI_len (T : List Cr) (d : Dt) (s : Int) : (kidI T d s).length ≤ T.length := by
  unfold kidI
  refine Nat.le_trans (rise_length _) ?_
  rw [List.length_map]
  exact List.length_filter_le _ _

set_option maxRecDepth 100000 in
set_option maxHeartbeats 4000000 in
theorem rkids_any (a : Option Addr) (n c : Nat) (T : List Cr) (d : Dt) (s : Int) (w : World) (h : RT w a n c T) (hn : n ≤ 1000000) :
    Calls Try.prog 57 #[.agg #[.slice a n c], dv d, .int .i64 s] w fun e w' => ∃ a' n' c', e = .returned (.slice a' n' c') ∧ PS w' a' n' c' (kidI T d s) ∧ Below w.heap.size w w' ∧ ∀ ad, a' = some ad → w.heap.size ≤ ad.block := by
  obtain ⟨d1, d2⟩ := d
  have mixed := mixed
  obtain ⟨W0, hW0⟩ : ∃ W0, W0 = (w.alloc (.cells #[.slice a n c] 30)).alloc (.cells #[.int .i64 d1, .int .i64 d2] 24) := ⟨_, rfl⟩
  have hB0 : Below w.heap.size w W0 := by rw [hW0]; exact ((Below.refl _ w).alloc (Nat.le_refl _) _).alloc (by simp) _
  have hb1 : W0.heap[w.heap.size]? = some (.cells #[.slice a n c] 30 (0, 0)) := by rw [hW0]; exact (Below.heap_alloc _ _ _ (by simp)).trans (World.alloc_heap_new w _)
  have hb2 : W0.heap[w.heap.size + 1]? = some (.cells #[.int .i64 d1, .int .i64 d2] 24 (0, 0)) := by
    rw [hW0]
    have := World.alloc_heap_new (w.alloc (.cells #[.slice a n c] 30)) (.cells #[.int .i64 d1, .int .i64 d2] 24)
    rwa [World.size_alloc] at this
  have hl1 := (Array.getElem?_eq_some_iff.1 hb1).1
  have hl2 := (Array.getElem?_eq_some_iff.1 hb2).1
  have hcap := h.cap
  have hmax := h.max
  unfold maxLen at hmax
  have HL := hid h.len
  go_enter Try.func57, Try.ntmps57
  go_wp2
  rw [← hW0]
  clear hW0
  go_loopw [7, 8] (fun v i wr => ∃ (k : Nat) (a' : Option Addr) (n' c' : Nat), k ≤ n ∧ i = .int .i64 k ∧ v = .slice a' n' c' ∧ Hid (PS wr a' n' c' (kidI (T.take k) (d1, d2) s)) ∧ Hid (Below W0.heap.size W0 wr) ∧ Hid (∀ ad, a' = some ad → w.heap.size ≤ ad.block)) (fun _ i _ => n - (intOf i).toNat)
  case atStart => exact ⟨0, none, 0, 0, by omega, rfl, rfl, hid (by simpa [kidI, rise] using PS.none W0), hid (Below.refl _ _), hid (fun ad e => by cases e)⟩
  case round =>
    obtain ⟨k, a', n', c', hk, rfl, rfl, hps, hbw, hnew⟩ := hrel
    have hBr : Below w.heap.size w wr := hB0.trans (hbw.out.mono hB0.size)
    have g1 : wr.heap[w.heap.size]? = _ := (hbw.out.block _ hl1).trans hb1
    have g2 : wr.heap[w.heap.size + 1]? = _ := (hbw.out.block _ hl2).trans hb2
    have e10 : wr.cell? ⟨w.heap.size, 0, none⟩ = some (.slice a n c) := by simp [World.cell?, g1]
    have e20 : wr.cell? ⟨w.heap.size + 1, 0, none⟩ = some (.int .i64 d1) := by simp [World.cell?, g2]
    have e30 : wr.cell? ⟨w.heap.size + 1, 1, none⟩ = some (.int .i64 d2) := by simp [World.cell?, g2]
    have e1 : ∀ m, (wr.drewN m).cell? ⟨w.heap.size, 0, none⟩ = some (.slice a n c) := fun m => e10
    have e2 : ∀ m, (wr.drewN m).cell? ⟨w.heap.size + 1, 0, none⟩ = some (.int .i64 d1) := fun m => e20
    have e3 : ∀ m, (wr.drewN m).cell? ⟨w.heap.size + 1, 1, none⟩ = some (.int .i64 d2) := fun m => e30
    have hbD : ∀ m, Below W0.heap.size W0 (wr.drewN m) := fun m => hbw.out.trans (((Far.refl wr).drewN m).below.mono hbw.out.size)
    clear g1 g2
    by_cases hlt : k < n
    · obtain ⟨g, o, rfl, hat⟩ := (h.below hBr).at hlt
      have hkT : k < T.length := by rw [HL.out]; exact hlt
      obtain ⟨x, hx⟩ : ∃ x, x = T[k]'hkT := ⟨_, rfl⟩
      have hts : Hid (T.take (k + 1) = T.take k ++ [x]) := hid (by rw [hx]; exact List.take_succ_eq_append_getElem hkT)
      rw [← hx] at hat
      clear hx hkT
      have hp : ∀ m, Calls Try.prog 72 #[.slice a' n' c', .agg #[.int .i64 x.id.1, .int .i64 x.id.2]] (wr.drewN m) fun e w' => ∃ a'' n'' c'', e = .returned (.slice a'' n'' c'') ∧ Hid (PS w' a'' n'' c'' (ins (kidI (T.take k) (d1, d2) s) x.id)) ∧ Hid (Below W0.heap.size W0 w') ∧ Hid (∀ ad, a'' = some ad → w.heap.size ≤ ad.block) := fun m =>
        (fput1_any a' n' c' _ x.id (wr.drewN m) (hps.out.far ((Far.refl wr).drewN m)) (by have h1 := hps.out.len; have h2 := kidI_len (T.take k) (d1, d2) s; rw [List.length_take] at h2; omega)).mono (fun e w' ⟨a'', c'', k1, k2, k3, k4⟩ => ⟨a'', _, c'', k1, hid k2, hid ((hbD m).trans (k3.mono (hbD m).size)), hid (fun ad e => by
          rcases k4 ad e with h | h
          · exact hnew.out ad h
          · exact Nat.le_trans hB0.size (Nat.le_trans (hbD m).size h))⟩)
      have C0 : ∀ m, (wr.drewN m).cell? ⟨g, o + k * 7, none⟩ = some (.int .i64 x.id.1) := fun _ => hat.c0
      have C1 : ∀ m, (wr.drewN m).cell? ⟨g, o + k * 7 + 1, none⟩ = some (.int .i64 x.id.2) := fun _ => hat.c1
      have C2 : ∀ m, (wr.drewN m).cell? ⟨g, o + k * 7 + 2, none⟩ = some (.int .i64 x.at_.1) := fun _ => hat.c2
      have C3 : ∀ m, (wr.drewN m).cell? ⟨g, o + k * 7 + 3, none⟩ = some (.int .i64 x.at_.2) := fun _ => hat.c3
      have C4 : ∀ m, (wr.drewN m).cell? ⟨g, o + k * 7 + 4, none⟩ = some (.int .i64 (if x.sd then 1 else 0)) := fun _ => hat.c4
      obtain ⟨x1, hx1⟩ : ∃ x1, x1 = x.at_.1 := ⟨_, rfl⟩
      obtain ⟨x2, hx2⟩ : ∃ x2, x2 = x.at_.2 := ⟨_, rfl⟩
      obtain ⟨sd, hsd⟩ : ∃ sd : Int, sd = (if x.sd then 1 else 0) := ⟨_, rfl⟩
      have hxi : Hid (x.at_ = (x1, x2)) := hid (by rw [hx1, hx2])
      have hsi : Hid ((if x.sd then (1 : Int) else 0) = sd) := hid hsd.symm
      rw [← hx1] at C2
      rw [← hx2] at C3
      rw [← hsd] at C4
      clear hx1 hx2 hsd hat
      have hk1 : (k : Int) < (n : Int) := by omega
      have hk0 : (0 : Int) ≤ (k : Int) := by omega
      by_cases hyes : (x1 = d1 ∧ x2 = d2) ∧ sd = s
      · obtain ⟨⟨rfl, rfl⟩, rfl⟩ := hyes
        have hnx := hid (show kidI (T.take (k + 1)) (x1, x2) sd = ins (kidI (T.take k) (x1, x2) sd) x.id by rw [hts.out]; exact kidI_yes hxi.out hsi.out)
        go_wp2_with fail
        go_quiet (fail)
        go_wp2_with (go_at_call 72; refine (hp _).mono ?_; rintro e w3 ⟨a3, n3, c3, rfl, p3, b3, f3⟩)
        go_roundw
        case rel => exact ⟨k + 1, a3, n3, c3, by omega, by go_num, rfl, hid (by rw [hnx.out]; exact p3.out), b3, f3⟩
        case measure => simp [intOf]; omega
      · have hnx := hid (show kidI (T.take (k + 1)) (d1, d2) s = kidI (T.take k) (d1, d2) s by
          rw [hts.out]
          refine kidI_no (fun ⟨ha, hb⟩ => hyes ⟨?_, by rw [← hsi.out]; exact hb⟩)
          rw [hxi.out] at ha
          exact Prod.mk.inj ha)
        have hend : ∀ m, Hid (PS (wr.drewN m) a' n' c' (kidI (T.take (k + 1)) (d1, d2) s) ∧ Below W0.heap.size W0 (wr.drewN m)) := fun m => hid ⟨by rw [hnx.out]; exact hps.out.far ((Far.refl wr).drewN m), hbD m⟩
        clear hp
        by_cases h1 : x1 = d1
        · subst h1
          by_cases h2 : x2 = d2
          · subst h2
            have h3 : ¬ sd = s := fun e => hyes ⟨⟨rfl, rfl⟩, e⟩
            have hb3 : (sd == s) = false := by simpa using h3
            clear hyes
            go_wp2_with fail
            go_quiet (fail)
            go_wp2
            go_roundw
            case rel => exact ⟨k + 1, a', n', c', by omega, by go_num, rfl, hid (hend _).out.1, hid (hend _).out.2, hnew⟩
            case measure => simp [intOf]; omega
          · clear hyes
            go_wp2_with fail
            go_quiet (fail)
            go_wp2
            go_roundw
            case rel => exact ⟨k + 1, a', n', c', by omega, by go_num, rfl, hid (hend _).out.1, hid (hend _).out.2, hnew⟩
            case measure => simp [intOf]; omega
        · clear hyes
          go_wp2_with fail
          go_quiet (fail)
          go_wp2
          go_roundw
          case rel => exact ⟨k + 1, a', n', c', by omega, by go_num, rfl, hid (hend _).out.1, hid (hend _).out.2, hnew⟩
          case measure => simp [intOf]; omega
    · obtain rfl : k = n := by omega
      have hps' : PS wr a' n' c' (kidI T (d1, d2) s) := by have := hps.out; rw [List.take_of_length_le (by rw [HL.out]; exact Nat.le_refl _)] at this; exact this
      have hpH := hid hps'
      clear hps'
      go_wp2
      go_ret
      exact ⟨a', n', c', rfl, hpH.out, hBr, hnew.out⟩
end Go.Proofs.Ytbpepmajpojacaa
