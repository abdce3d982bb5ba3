/- The reference's In: is a dot in a row. -/
import Derived.Test.YtddfbcknehfpaaaTrSame
import Derived.Shelf.SlSortCmp.QuietGrown
import Derived.BigQuiet
import Derived.WalkKit
import Derived.WalkSpells
import Derived.WalkLawsBesides
import Derived.Test.YtddfbcknehfpaaaOLess
namespace Go.Proofs.Ytddfbcknehfpaaa
section
open Go.RowKit
open Go.Sort (grow)

theorem insAt3 (d : Dt) : ∀ (L : List Dt) (k : Nat), k ≤ L.length → (∀ e ∈ L.take k, dl e d = true) → (∀ e, L[k]? = some e → dl e d = false) → ins L d = if L[k]? = some d then L else L.take k ++ d :: L.drop k
  | [], k, hk, _, _ => by
    have : k = 0 := by simpa using hk
    subst this
    simp [ins]
  | x :: r, 0, _, _, hstop => by
    have hx : dl x d = false := hstop x (by simp)
    unfold ins
    rw [hx]
    by_cases h : x = d
    · simp [h]
    · simp [h]
  | x :: r, k + 1, hk, hlt, hstop => by
    have hx : dl x d = true := hlt x (by simp)
    have ih := insAt3 d r k (by simpa using hk) (fun e he => hlt e (by simp [he])) (fun e he => hstop e (by simpa using he))
    unfold ins
    rw [hx, ih]
    by_cases h : r[k]? = some d
    · simp [h]
    · simp [h]

theorem fbox_of {w w3 : World} {x y : Int} (h : RowKit.Below (w.heap.size + 1) (w.alloc (.cells #[.int .i64 x, .int .i64 y] 24)) w3) :
    w3.cell? ⟨w.heap.size, 0, none⟩ = some (.int .i64 x) ∧ w3.cell? ⟨w.heap.size, 1, none⟩ = some (.int .i64 y) :=
  ⟨(h.cell (p := ⟨w.heap.size, 0, none⟩) (show w.heap.size < w.heap.size + 1 by omega)).trans (by go_simp), (h.cell (p := ⟨w.heap.size, 1, none⟩) (show w.heap.size < w.heap.size + 1 by omega)).trans (by go_simp)⟩

theorem fins_len {L : List Dt} {x : Dt} {k : Nat} (h : ins L x = L.take k ++ x :: L.drop k) (hk : k ≤ L.length) : (ins L x).length = k + 1 + (L.length - k) := by
  rw [h]
  simp
  omega

theorem fput1_fin {w5 : World} {v5 : Value} {B n k : Nat} {L : List Dt} {x : Dt} (HI : ins L x = L.take k ++ x :: L.drop k) (hl : L.length = n) (hk : k ≤ n)
    (ho : w5.ownsRow B 24 2 v5 (0 + k + 1 + (n - k)) ([] ++ flat (L.take k) ++ flat [x] ++ flat (L.drop k))) : ∃ a' c', v5 = .slice a' (ins L x).length c' ∧ PS w5 a' (ins L x).length c' (ins L x) ∧ ∀ ad, a' = some ad → B ≤ ad.block := by
  have e1 := fins_len HI (by rw [hl]; exact hk)
  have e2 : [] ++ flat (L.take k) ++ flat [x] ++ flat (L.drop k) = flat (ins L x) := by
    rw [HI, flat_append]
    simp [flat]
  rw [e2] at ho
  have hlt := ho.lt
  obtain ⟨a', c', rfl, h2⟩ := owned_ps (n := (ins L x).length) (by rw [e1, hl]; simpa using ho) rfl
  refine ⟨a', c', rfl, h2, fun ad ha => ?_⟩
  subst ha
  exact (hlt ad.block (by simp [Value.ownBlock])).1

set_option maxRecDepth 100000 in
set_option maxHeartbeats 4000000 in
theorem fput1_any (a : Option Addr) (n c : Nat) (L : List Dt) (x : Dt) (w : World) (hs : PS w a n c L) (hn : n ≤ 1000000) :
    Calls Try.prog 42 #[.slice a n c, dv x] w fun e w' => ∃ a' c', e = .returned (.slice a' (ins L x).length c') ∧ PS w' a' (ins L x).length c' (ins L x) ∧ RowKit.Below w.heap.size w w' ∧ ∀ ad, a' = some ad → a = some ad ∨ w.heap.size ≤ ad.block := by
  obtain ⟨x1, x2⟩ := x
  have mixed : Try.prog.follows .mixedOrders = true := by kernel_rfl
  have HL := hid hs.len
  have hb0 : RowKit.Below w.heap.size w (w.alloc (.cells #[.int .i64 x1, .int .i64 x2] 24)) := (Below.refl _ w).alloc (Nat.le_refl _) _
  go_enter Try.func42, Try.ntmps42
  go_wp2
  go_loopw [5] (fun i wr => ∃ k : Nat, k ≤ n ∧ i = .int .i64 k ∧ (∀ e ∈ L.take k, dl e (x1, x2) = true) ∧ Far (w.alloc (.cells #[.int .i64 x1, .int .i64 x2] 24)) wr) (fun i _ => n - (intOf i).toNat)
  case atStart => exact ⟨0, by omega, rfl, by simp, Far.refl _⟩
  case round =>
    obtain ⟨k, hk, rfl, htk0, hW⟩ := hrel
    have htk := hid htk0
    clear htk0
    have hbw := hW.below
    have hx0 : wr.cell? ⟨w.heap.size, 0, none⟩ = some (.int .i64 x1) := (hbw.cell (p := ⟨w.heap.size, 0, none⟩) (by simp)).trans (by go_simp)
    have hx1 : wr.cell? ⟨w.heap.size, 1, none⟩ = some (.int .i64 x2) := (hbw.cell (p := ⟨w.heap.size, 1, none⟩) (by simp)).trans (by go_simp)
    have hs1 : PS wr a n c L := (hs.below hb0).below hbw
    have E0 := fun m os => cell_grown (cell_in hx0) hx0 m os
    have E1 := fun m os => cell_grown (cell_in hx1) hx1 m os
    have hl := HL.out
    by_cases hlt : k < n
    · obtain ⟨g, o, rfl, hg, hcell⟩ := hs1.at (by omega)
      obtain ⟨hc0, hc1⟩ := hcell k (by omega)
      have hts : Hid _ := hid (take_snoc (L := L) (k := k) (by omega))
      have hLk : Hid _ := hid (List.getElem?_eq_getElem (l := L) (i := k) (by omega))
      generalize (L[k]'(by omega)) = d at hc0 hc1 hts hLk
      obtain ⟨d1, d2⟩ := d
      have C0 := fun m os => cell_grown (a := ⟨g, o + k * 2, none⟩) hg hc0 m os
      have C1 := fun m os => cell_grown (a := ⟨g, o + k * 2 + 1, none⟩) hg hc1 m os
      have hk1 : (k : Int) < (n : Int) := by omega
      have hk0 : (0 : Int) ≤ (k : Int) := by omega
      have hlss := fun m os => Calls.grown_of (w := wr) (n := m) (os := os) ((rless_any (d1, d2) (x1, x2) (grow (wr.drewN m) os)).mono fun _ _ ⟨he, q, os', hw⟩ => ⟨he, q, os', hw⟩)
      generalize hr : dl (d1, d2) (x1, x2) = r at hlss
      have HR := hid hr
      have hcap := hs.cap
      clear hl hcell hr hx0 hx1 hc0 hc1
      cases r
      · go_wp2_with fail
        go_quiet_grown (first | (go_at_call 24; exact hlss _ _))
        have hW1 := hW.more nq osq
        have hx0 := E0 nq osq
        have hx1 := E1 nq osq
        have hd0 := C0 nq osq
        have hd1 := C1 nq osq
        simp only []
        generalize grow (wr.drewN nq) osq = W1 at hW1 hx0 hx1 hd0 hd1 ⊢
        have F0 : ∀ m, (W1.drewN m).cell? ⟨w.heap.size, 0, none⟩ = some (.int .i64 x1) := fun _ => hx0
        have F1 : ∀ m, (W1.drewN m).cell? ⟨w.heap.size, 1, none⟩ = some (.int .i64 x2) := fun _ => hx1
        have G0 : ∀ m, (W1.drewN m).cell? ⟨g, o + k * 2, none⟩ = some (.int .i64 d1) := fun _ => hd0
        have G1 : ∀ m, (W1.drewN m).cell? ⟨g, o + k * 2 + 1, none⟩ = some (.int .i64 d2) := fun _ => hd1
        clear E0 E1 C0 C1 hlss hx0 hx1 hd0 hd1 hs1 hg
        have hins := hid (insAt3 (x1, x2) L k (by rw [HL.out]; exact hk) htk.out (fun e he => by
          rw [hLk.out] at he
          cases he
          exact HR.out))
        by_cases h1 : d1 = x1 ∧ d2 = x2
        · obtain ⟨rfl, rfl⟩ := h1
          go_wp2_with fail
          go_quiet (fail)
          go_wp2
          go_ret
          have hi : ins L (d1, d2) = L := by rw [hins.out, hLk.out]; simp
          have hbb : RowKit.Below w.heap.size w (W1.drewN nq) := hb0.trans ((hW1.drewN nq).below.mono (by simp))
          rw [hi]
          exact ⟨_, c, by rw [HL.out]; rfl, by rw [HL.out]; exact hs.below hbb, hbb, fun ad e => Or.inl e⟩
        · have hi : ins L (x1, x2) = L.take k ++ (x1, x2) :: L.drop k := by
            rw [hins.out, hLk.out]
            simp [h1]
          have HI := hid hi
          have h1' := hid h1
          clear hi hins h1
          have hcmp : (d1 = x1 ∧ ¬ d2 = x2) ∨ ¬ d1 = x1 := by
            by_cases h : d1 = x1
            · exact .inl ⟨h, fun e => h1'.out ⟨h, e⟩⟩
            · exact .inr h
          rcases hcmp with ⟨rfl, hne⟩ | hne
          all_goals
            go_wp2_with fail
            go_quiet (fail)
            have hW2 := hW1.drewN nq
            have hy0 := F0 nq
            have hy1 := F1 nq
            clear F0 F1 G0 G1 hW1
            generalize W1.drewN nq = W2 at hW2 hy0 hy1 ⊢
            have bW : RowKit.Below (w.heap.size + 1) (w.alloc (.cells #[.int .i64 _, .int .i64 x2] 24)) W2 := hW2.below.mono (by simp)
            have hsW2 := (hs.below hb0).below hW2.below
            have hB2 := bW.size
            simp only [World.size_alloc] at hB2
            go_wp2_with (first
              | (at_builtin; have hq := ho3; refine wpList_append_dots rfl _ _ 29 Try.underlying29 rfl (w.heap.size + 1) v4 _ _ rfl ho3 (some ⟨g, o + k * 2, none⟩) (n - k) (c - k) (L.drop k) (by first | rfl | skip) (hs4.drop k hk) (by omega) (by omega) ?_; intro v5 w5 ho5 hg5)
              | (at_builtin; have hq := ho2; refine wpList_append_dots rfl _ _ 29 Try.underlying29 rfl (w.heap.size + 1) v3 _ _ rfl (ho2.alloc _) (some ⟨w3.heap.size, 0, none⟩) 1 1 [(_, x2)] rfl (ps_one w3 (_, x2)) (by omega) (by simp; omega) ?_; intro v4 w4 ho3 hg3; have b4 := (b3.alloc (by omega) (.cells #[.int .i64 _, .int .i64 x2] 24)).grown hg3 (by simp; omega) (fun j hj => (ho2.lt j hj).1); have hB4 := b4.size; simp only [World.size_alloc] at hB4; have hs4 := (hs.below hb0).below (b4.mono (by simp)))
              | (at_builtin; refine wpList_append_dots rfl _ _ 29 Try.underlying29 rfl (w.heap.size + 1) (.slice none 0 0) 0 [] rfl (World.ownsRow_nil _ _ _ _) (some ⟨g, o, none⟩) k c (L.take k) rfl (hsW2.take k hk) (by omega) hB2 ?_; intro v3 w3 ho2 hg2; have b3 := bW.grown hg2 hB2 (fun j hj => by simp [Value.ownBlock] at hj); have hB3 := b3.size; simp only [World.size_alloc] at hB3; obtain ⟨hz0, hz1⟩ := fbox_of b3))
            go_ret
            obtain ⟨a5, c5, rfl, hp5, hf5⟩ := fput1_fin HI.out HL.out hk ho5
            exact ⟨a5, c5, rfl, hp5, hb0.trans ((b4.grown hg5 hB4 (fun j hj => (ho3.lt j hj).1)).mono (by omega)), fun ad e => Or.inr (Nat.le_trans (Nat.le_succ _) (hf5 ad e))⟩
      · go_wp2_with fail
        go_quiet_grown (first | (go_at_call 24; exact hlss _ _))
        go_wp2
        go_roundw
        case rel =>
          refine ⟨k + 1, by omega, by go_num, ?_, hW.more _ _⟩
          rw [hts.out]
          intro e he
          rcases List.mem_append.1 he with he | he
          · exact htk.out e he
          · simp at he
            rw [he]
            exact HR.out
        case measure => simp [intOf]; omega
    · obtain rfl : k = n := by omega
      have hdec : decide ((k : Int) < (k : Int)) = false := by simp
      have hins := hid (insAt3 (x1, x2) L k (by rw [HL.out]; exact hk) htk.out (fun e he => by
        rw [List.getElem?_eq_none (by rw [HL.out]; exact Nat.le_refl _)] at he
        cases he))
      have hi : ins L (x1, x2) = L.take k ++ (x1, x2) :: L.drop k := by
        rw [hins.out, List.getElem?_eq_none (by rw [HL.out]; exact Nat.le_refl _)]
        simp
      have HI := hid hi
      have hcap := hs.cap
      have hmax := hs.max
      have hmax2 : c ≤ 9223372036854775807 := by unfold maxLen at hmax; omega
      clear hi hins hl hx0 hx1
      have hsh : (a = none ∧ k = 0 ∧ c = 0) ∨ ∃ ad, a = some ad := by
        cases a with
        | none => exact .inl ⟨rfl, (hs.nil rfl).1, (hs.nil rfl).2⟩
        | some ad => exact .inr ⟨ad, rfl⟩
      rcases hsh with ⟨rfl, rfl, rfl⟩ | ⟨ad, rfl⟩
      · skip
        go_wp2_with fail
        go_quiet_grown (fail)
        have hW1 := hW.more nq osq
        simp only []
        clear E0 E1
        generalize grow (wr.drewN nq) osq = W1 at hW1 ⊢
        go_wp2_with fail
        go_quiet (fail)
        have hW2 := hW1.drewN nq
        clear hW1
        generalize W1.drewN nq = W2 at hW2 ⊢
        have bW : RowKit.Below (w.heap.size + 1) (w.alloc (.cells #[.int .i64 x1, .int .i64 x2] 24)) W2 := hW2.below.mono (by simp)
        have hsW2 := (hs.below hb0).below hW2.below
        have hB2 := bW.size
        simp only [World.size_alloc] at hB2
        go_wp2_with (first
          | (at_builtin; have hq := ho3; refine wpList_append_dots rfl _ _ 29 Try.underlying29 rfl (w.heap.size + 1) v4 _ _ rfl ho3 none 0 (0 - 0) [] rfl (PS.no _ _ _ (by simp) (by have := hs.max; omega)) (by omega) (by omega) ?_; intro v5 w5 ho5 hg5)
          | (at_builtin; have hq := ho2; refine wpList_append_dots rfl _ _ 29 Try.underlying29 rfl (w.heap.size + 1) v3 _ _ rfl (ho2.alloc _) (some ⟨w3.heap.size, 0, none⟩) 1 1 [(_, x2)] rfl (ps_one w3 (_, x2)) (by omega) (by simp; omega) ?_; intro v4 w4 ho3 hg3; have b4 := (b3.alloc (by omega) (.cells #[.int .i64 _, .int .i64 x2] 24)).grown hg3 (by simp; omega) (fun j hj => (ho2.lt j hj).1); have hB4 := b4.size; simp only [World.size_alloc] at hB4)
          | (at_builtin; refine wpList_append_dots rfl _ _ 29 Try.underlying29 rfl (w.heap.size + 1) (.slice none 0 0) 0 [] rfl (World.ownsRow_nil _ _ _ _) none 0 0 (L.take 0) rfl (hsW2.take 0 hk) (by omega) hB2 ?_; intro v3 w3 ho2 hg2; have b3 := bW.grown hg2 hB2 (fun j hj => by simp [Value.ownBlock] at hj); have hB3 := b3.size; simp only [World.size_alloc] at hB3; obtain ⟨hz0, hz1⟩ := fbox_of b3))
        all_goals
          go_ret
          obtain ⟨a5, c5, rfl, hp5, hf5⟩ := fput1_fin HI.out HL.out hk (by
            rw [Nat.sub_self, List.drop_eq_nil_of_le (by rw [HL.out]; exact Nat.le_refl _)]
            simpa [flat] using ho5)
          exact ⟨a5, c5, rfl, hp5, hb0.trans ((b4.grown hg5 hB4 (fun j hj => (ho3.lt j hj).1)).mono (by omega)), fun ad e => Or.inr (Nat.le_trans (Nat.le_succ _) (hf5 ad e))⟩
      · by_cases hck : c = k
        · subst hck
          go_wp2_with fail
          go_quiet_grown (fail)
          have hW1 := hW.more nq osq
          simp only []
          clear E0 E1
          generalize grow (wr.drewN nq) osq = W1 at hW1 ⊢
          go_wp2_with fail
          go_quiet (fail)
          have hW2 := hW1.drewN nq
          clear hW1
          generalize W1.drewN nq = W2 at hW2 ⊢
          have bW : RowKit.Below (w.heap.size + 1) (w.alloc (.cells #[.int .i64 x1, .int .i64 x2] 24)) W2 := hW2.below.mono (by simp)
          have hsW2 := (hs.below hb0).below hW2.below
          have hB2 := bW.size
          simp only [World.size_alloc] at hB2
          go_wp2_with (first
            | (at_builtin; have hq := ho3; refine wpList_append_dots rfl _ _ 29 Try.underlying29 rfl (w.heap.size + 1) v4 _ _ rfl ho3 _ 0 _ [] rfl (PS.no _ _ _ (fun e => by first | rfl | (cases e; done)) (by first | exact Nat.zero_le _ | (have := hs.max; omega))) (by omega) (by omega) ?_; intro v5 w5 ho5 hg5)
            | (at_builtin; have hq := ho2; refine wpList_append_dots rfl _ _ 29 Try.underlying29 rfl (w.heap.size + 1) v3 _ _ rfl (ho2.alloc _) (some ⟨w3.heap.size, 0, none⟩) 1 1 [(_, x2)] rfl (ps_one w3 (_, x2)) (by omega) (by simp; omega) ?_; intro v4 w4 ho3 hg3; have b4 := (b3.alloc (by omega) (.cells #[.int .i64 _, .int .i64 x2] 24)).grown hg3 (by simp; omega) (fun j hj => (ho2.lt j hj).1); have hB4 := b4.size; simp only [World.size_alloc] at hB4)
            | (at_builtin; refine wpList_append_dots rfl _ _ 29 Try.underlying29 rfl (w.heap.size + 1) (.slice none 0 0) 0 [] rfl (World.ownsRow_nil _ _ _ _) (some ad) c c (L.take c) rfl (hsW2.take c hk) (by omega) hB2 ?_; intro v3 w3 ho2 hg2; have b3 := bW.grown hg2 hB2 (fun j hj => by simp [Value.ownBlock] at hj); have hB3 := b3.size; simp only [World.size_alloc] at hB3; obtain ⟨hz0, hz1⟩ := fbox_of b3))
          all_goals
            go_ret
            obtain ⟨a5, c5, rfl, hp5, hf5⟩ := fput1_fin HI.out HL.out hk (by
              rw [Nat.sub_self, List.drop_eq_nil_of_le (by rw [HL.out]; exact Nat.le_refl _)]
              simpa [flat] using ho5)
            exact ⟨a5, c5, rfl, hp5, hb0.trans ((b4.grown hg5 hB4 (fun j hj => (ho3.lt j hj).1)).mono (by omega)), fun ad e => Or.inr (Nat.le_trans (Nat.le_succ _) (hf5 ad e))⟩
        · skip
          go_wp2_with fail
          go_quiet_grown (fail)
          have hW1 := hW.more nq osq
          simp only []
          clear E0 E1
          generalize grow (wr.drewN nq) osq = W1 at hW1 ⊢
          go_wp2_with fail
          go_quiet (fail)
          have hW2 := hW1.drewN nq
          clear hW1
          generalize W1.drewN nq = W2 at hW2 ⊢
          have bW : RowKit.Below (w.heap.size + 1) (w.alloc (.cells #[.int .i64 x1, .int .i64 x2] 24)) W2 := hW2.below.mono (by simp)
          have hsW2 := (hs.below hb0).below hW2.below
          have hB2 := bW.size
          simp only [World.size_alloc] at hB2
          go_wp2_with (first
            | (at_builtin; have hq := ho3; refine wpList_append_dots rfl _ _ 29 Try.underlying29 rfl (w.heap.size + 1) v4 _ _ rfl ho3 _ 0 _ [] rfl (PS.no _ _ _ (fun e => by first | rfl | (cases e; done)) (by first | exact Nat.zero_le _ | (have := hs.max; omega))) (by omega) (by omega) ?_; intro v5 w5 ho5 hg5)
            | (at_builtin; have hq := ho2; refine wpList_append_dots rfl _ _ 29 Try.underlying29 rfl (w.heap.size + 1) v3 _ _ rfl (ho2.alloc _) (some ⟨w3.heap.size, 0, none⟩) 1 1 [(_, x2)] rfl (ps_one w3 (_, x2)) (by omega) (by simp; omega) ?_; intro v4 w4 ho3 hg3; have b4 := (b3.alloc (by omega) (.cells #[.int .i64 _, .int .i64 x2] 24)).grown hg3 (by simp; omega) (fun j hj => (ho2.lt j hj).1); have hB4 := b4.size; simp only [World.size_alloc] at hB4)
            | (at_builtin; refine wpList_append_dots rfl _ _ 29 Try.underlying29 rfl (w.heap.size + 1) (.slice none 0 0) 0 [] rfl (World.ownsRow_nil _ _ _ _) (some ad) k c (L.take k) rfl (hsW2.take k hk) (by omega) hB2 ?_; intro v3 w3 ho2 hg2; have b3 := bW.grown hg2 hB2 (fun j hj => by simp [Value.ownBlock] at hj); have hB3 := b3.size; simp only [World.size_alloc] at hB3; obtain ⟨hz0, hz1⟩ := fbox_of b3))
          all_goals
            go_ret
            obtain ⟨a5, c5, rfl, hp5, hf5⟩ := fput1_fin HI.out HL.out hk (by
              rw [Nat.sub_self, List.drop_eq_nil_of_le (by rw [HL.out]; exact Nat.le_refl _)]
              simpa [flat] using ho5)
            exact ⟨a5, c5, rfl, hp5, hb0.trans ((b4.grown hg5 hB4 (fun j hj => (ho3.lt j hj).1)).mono (by omega)), fun ad e => Or.inr (Nat.le_trans (Nat.le_succ _) (hf5 ad e))⟩

end

section
set_option linter.unusedVariables false
open Go.RowKit
open Go.Sort (grow)

set_option maxHeartbeats 2000000 in
theorem rrising_any (a : Option Addr) (n c : Nat) (L : List Dt) (w : World) (hs : PS w a n c L) (hn : n ≤ 100000) :
    Calls Try.prog 23 #[.slice a n c] w (Ans w (rise L)) := by
  have HL := hid hs.len
  have HS := hid hs
  clear hs
  go_enter Try.func23, Try.ntmps23
  go_wp2
  go_loopw [3, 4] (fun u i wr => ∃ (k : Nat) (b : Option Addr) (m d : Nat), k ≤ n ∧ i = .int .i64 k ∧ u = .slice b m d ∧ Hid (m = (rise (L.take k)).length ∧ PS wr b m d (rise (L.take k))) ∧ m ≤ 100000 ∧ Hid (Below w.heap.size w wr)) (fun _ i _ => n - (intOf i).toNat)
  case atStart => exact ⟨0, none, 0, 0, by omega, rfl, rfl, hid ⟨by simp [rise], by simpa [rise] using PS.none w⟩, by omega, hid (Below.refl _ _)⟩
  case round =>
    obtain ⟨k, b, m, d, hk, rfl, rfl, HP, hm, HB⟩ := hrel
    by_cases hlt : k < n
    · have hl := HL.out
      have hs1 := HS.out.below HB.out
      obtain ⟨g, o, rfl, hg, hcell⟩ := hs1.at (by omega)
      obtain ⟨hc0, hc1⟩ := hcell k (by omega)
      have hts : Hid _ := hid (take_snoc (L := L) (k := k) (by omega))
      generalize (L[k]'(by omega)) = x at hc0 hc1 hts
      obtain ⟨x1, x2⟩ := x
      have hput := fput1_any b m d (rise (L.take k)) (x1, x2) wr (by have := HP.out.2; exact this) (by omega)
      rw [← rise_snoc, ← hts.out] at hput
      have hle : (rise (L.take (k + 1))).length ≤ 100000 := by
        refine Nat.le_trans (rise_length _) ?_
        rw [List.length_take]
        omega
      obtain ⟨R', hR'⟩ : ∃ R', R' = rise (L.take (k + 1)) := ⟨_, rfl⟩
      rw [← hR'] at hput hle
      have HP2 := hput.mono (R' := fun e w' => ∃ a' m' c', e = .returned (.slice a' m' c') ∧ m' ≤ 100000 ∧ Hid (m' = R'.length ∧ PS w' a' m' c' R') ∧ Hid (Below w.heap.size w w')) (fun e w' h => by
        obtain ⟨a', c', e1, h1, h2, _⟩ := h
        exact ⟨a', _, c', e1, hle, hid ⟨rfl, h1⟩, hid (HB.out.trans (h2.mono HB.out.size))⟩)
      have HR := hid hR'
      clear hcell hs1 hl hput HP HB hR' hle
      have hk1 : (k : Int) < (n : Int) := by omega
      go_wp2_with (go_at_call 42; refine HP2.mono ?_; rintro e W2 ⟨a', m', c', rfl, hm', HQ, HB2⟩)
      go_roundw
      case rel => exact ⟨k + 1, a', m', c', by omega, by go_num, rfl, by rw [← HR.out]; exact HQ, hm', HB2⟩
      case measure => simp [intOf]; omega
    · obtain rfl : k = n := by omega
      go_wp2
      go_ret
      have h1 := HP.out
      rw [List.take_of_length_le (by rw [HL.out]; exact Nat.le_refl _)] at h1
      obtain ⟨rfl, h2⟩ := h1
      exact ⟨b, d, rfl, h2, HB.out⟩
end

section
open Go.RowKit
open Go.Sort (grow)

set_option maxHeartbeats 2000000 in
theorem in_any (a : Option Addr) (n c : Nat) (L : List Dt) (x : Dt) (w : World) (hs : PS w a n c L) (hn : n ≤ 1000000) :
    Calls Try.prog 22 #[.slice a n c, dv x] w fun e w' => e = .returned (.bool (decide (x ∈ L))) ∧ Far w w' := by
  obtain ⟨x1, x2⟩ := x
  have HL := hid hs.len
  have hb0 : RowKit.Below w.heap.size w (w.alloc (.cells #[.int .i64 x1, .int .i64 x2] 24)) := (Below.refl _ w).alloc (Nat.le_refl _) _
  go_enter Try.func22, Try.ntmps22
  go_wp2
  go_loopw [5] (fun i wr => ∃ k : Nat, k ≤ n ∧ i = .int .i64 k ∧ (x1, x2) ∉ L.take k ∧ ∃ q, wr = (w.alloc (.cells #[.int .i64 x1, .int .i64 x2] 24)).drewN q) (fun i _ => n - (intOf i).toNat)
  case atStart => exact ⟨0, by omega, rfl, by simp, 0, rfl⟩
  case round =>
    obtain ⟨k, hk, rfl, htk0, hw0⟩ := hrel
    have htk := hid htk0
    have hW := hid hw0
    clear htk0
    by_cases hlt : k < n
    · have hl := HL.out
      have hx0 : wr.cell? ⟨w.heap.size, 0, none⟩ = some (.int .i64 x1) := by obtain ⟨q, rfl⟩ := hw0; go_simp
      have hx1 : wr.cell? ⟨w.heap.size, 1, none⟩ = some (.int .i64 x2) := by obtain ⟨q, rfl⟩ := hw0; go_simp
      have hs1 : PS wr a n c L := by obtain ⟨q, hq⟩ := hw0; rw [hq]; exact (hs.below hb0).drewN q
      clear hw0
      obtain ⟨g, o, rfl, hg, hcell⟩ := hs1.at (by omega)
      obtain ⟨hc0, hc1⟩ := hcell k (by omega)
      have hts : Hid _ := hid (take_snoc (L := L) (k := k) (by omega))
      have hLk : Hid _ := hid (List.getElem_mem (l := L) (n := k) (by omega))
      generalize (L[k]'(by omega)) = d at hc0 hc1 hts hLk
      clear hs hcell hl hs1
      obtain ⟨d1, d2⟩ := d
      have C0 : ∀ m, (wr.drewN m).cell? ⟨g, o + k * 2, none⟩ = some (.int .i64 d1) := fun _ => hc0
      have C1 : ∀ m, (wr.drewN m).cell? ⟨g, o + k * 2 + 1, none⟩ = some (.int .i64 d2) := fun _ => hc1
      have E0 : ∀ m, (wr.drewN m).cell? ⟨w.heap.size, 0, none⟩ = some (.int .i64 x1) := fun _ => hx0
      have E1 : ∀ m, (wr.drewN m).cell? ⟨w.heap.size, 1, none⟩ = some (.int .i64 x2) := fun _ => hx1
      have hk1 : (k : Int) < (n : Int) := by omega
      have hk0 : (0 : Int) ≤ (k : Int) := by omega
      by_cases h1 : d1 = x1
      · subst h1
        by_cases h2 : d2 = x2
        · subst h2
          go_wp2_with fail
          go_quiet (fail)
          go_wp2
          go_ret
          refine ⟨by simp [hLk.out], ?_⟩
          obtain ⟨q, rfl⟩ := hW.out
          exact (((Far.refl w).alloc _).drewN q).drewN _
        · go_wp2_with fail
          go_quiet (fail)
          go_wp2
          go_roundw
          case rel => exact ⟨k + 1, by omega, by go_num, by rw [hts.out]; simp [htk.out, Ne.symm h2], drew_more hW.out _⟩
          case measure => simp [intOf]; omega
      · go_wp2_with fail
        go_quiet (fail)
        go_wp2
        go_roundw
        case rel => exact ⟨k + 1, by omega, by go_num, by rw [hts.out]; simp [htk.out, Ne.symm h1], drew_more hW.out _⟩
        case measure => simp [intOf]; omega
    · obtain rfl : k = n := by omega
      clear hw0
      go_wp2
      go_ret
      have h := htk.out
      rw [List.take_of_length_le (by rw [HL.out]; exact Nat.le_refl _)] at h
      refine ⟨by simp [h], ?_⟩
      obtain ⟨q, rfl⟩ := hW.out
      exact ((Far.refl w).alloc _).drewN q

end
end Go.Proofs.Ytddfbcknehfpaaa
