/- FugueStays: its walk. -/
import Derived.Test.YtnmdcdphpcpojaaGreatDoorFgSame
import Derived.Shelf.SlSortCmp.QuietGrown
import Derived.BigQuiet
import Derived.WalkKit
import Derived.WalkSpells
import Derived.WalkLawsBesides
import Derived.Test.YtnmdcdphpcpojaaGreatDoorFgRIns
import Derived.Test.YtnmdcdphpcpojaaGreatDoorTrMath
import Derived.Deep.RegionHeld
import Derived.Sort.AtCall
namespace Go.Proofs.YtnmdcdphpcpojaaGreatDoor
section
open Go.RowKit
open Go.Sort (grow)

theorem insAt3 (d : Dt) : ∀ (L : List Dt) (k : Nat), k ≤ L.length → (∀ e ∈ L.take k, dl e d = true) → (∀ e, L[k]? = some e → dl e d = false) → ins L d = if L[k]? = some d then L else L.take k ++ d :: L.drop k
  | [], k, hk, _, _ => by
    have : k = 0 := by simpa using hk
    subst this
    simp [ins]
  | x :: r, 0, _, _, hstop => by
    have hx : dl x d = false := hstop x (by simp)
    unfold ins
    rw [hx]
    by_cases h : x = d
    · simp [h]
    · simp [h]
  | x :: r, k + 1, hk, hlt, hstop => by
    have hx : dl x d = true := hlt x (by simp)
    have ih := insAt3 d r k (by simpa using hk) (fun e he => hlt e (by simp [he])) (fun e he => hstop e (by simpa using he))
    unfold ins
    rw [hx, ih]
    by_cases h : r[k]? = some d
    · simp [h]
    · simp [h]

theorem fbox_of {w w3 : World} {x y : Int} (h : RowKit.Below (w.heap.size + 1) (w.alloc (.cells #[.int .i64 x, .int .i64 y] 24)) w3) :
    w3.cell? ⟨w.heap.size, 0, none⟩ = some (.int .i64 x) ∧ w3.cell? ⟨w.heap.size, 1, none⟩ = some (.int .i64 y) :=
  ⟨(h.cell (p := ⟨w.heap.size, 0, none⟩) (show w.heap.size < w.heap.size + 1 by omega)).trans (by go_simp), (h.cell (p := ⟨w.heap.size, 1, none⟩) (show w.heap.size < w.heap.size + 1 by omega)).trans (by go_simp)⟩

theorem fins_len {L : List Dt} {x : Dt} {k : Nat} (h : ins L x = L.take k ++ x :: L.drop k) (hk : k ≤ L.length) : (ins L x).length = k + 1 + (L.length - k) := by
  rw [h]
  simp
  omega

theorem fput1_fin {w5 : World} {v5 : Value} {B n k : Nat} {L : List Dt} {x : Dt} (HI : ins L x = L.take k ++ x :: L.drop k) (hl : L.length = n) (hk : k ≤ n)
    (ho : w5.ownsRow B 24 2 v5 (0 + k + 1 + (n - k)) ([] ++ flat (L.take k) ++ flat [x] ++ flat (L.drop k))) : ∃ a' c', v5 = .slice a' (ins L x).length c' ∧ PS w5 a' (ins L x).length c' (ins L x) ∧ ∀ ad, a' = some ad → B ≤ ad.block := by
  have e1 := fins_len HI (by rw [hl]; exact hk)
  have e2 : [] ++ flat (L.take k) ++ flat [x] ++ flat (L.drop k) = flat (ins L x) := by
    rw [HI, flat_append]
    simp [flat]
  rw [e2] at ho
  have hlt := ho.lt
  obtain ⟨a', c', rfl, h2⟩ := owned_ps (n := (ins L x).length) (by rw [e1, hl]; simpa using ho) rfl
  refine ⟨a', c', rfl, h2, fun ad ha => ?_⟩
  subst ha
  exact (hlt ad.block (by simp [Value.ownBlock])).1

set_option maxRecDepth 100000 in
set_option maxHeartbeats 4000000 in
theorem fput1_any (a : Option Addr) (n c : Nat) (L : List Dt) (x : Dt) (w : World) (hs : PS w a n c L) (hn : n ≤ 1000000) :
    Calls Tryz.prog 196 #[.slice a n c, dv x] w fun e w' => ∃ a' c', e = .returned (.slice a' (ins L x).length c') ∧ PS w' a' (ins L x).length c' (ins L x) ∧ RowKit.Below w.heap.size w w' ∧ ∀ ad, a' = some ad → a = some ad ∨ w.heap.size ≤ ad.block := by
  obtain ⟨x1, x2⟩ := x
  have mixed : Tryz.prog.follows .mixedOrders = true := by kernel_rfl
  have HL := hid hs.len
  have hb0 : RowKit.Below w.heap.size w (w.alloc (.cells #[.int .i64 x1, .int .i64 x2] 24)) := (Below.refl _ w).alloc (Nat.le_refl _) _
  go_enter Tryz.func196, Tryz.ntmps196
  go_wp2
  go_loopw [5] (fun i wr => ∃ k : Nat, k ≤ n ∧ i = .int .i64 k ∧ (∀ e ∈ L.take k, dl e (x1, x2) = true) ∧ Far (w.alloc (.cells #[.int .i64 x1, .int .i64 x2] 24)) wr) (fun i _ => n - (intOf i).toNat)
  case atStart => exact ⟨0, by omega, rfl, by simp, Far.refl _⟩
  case round =>
    obtain ⟨k, hk, rfl, htk0, hW⟩ := hrel
    have htk := hid htk0
    clear htk0
    have hbw := hW.below
    have hx0 : wr.cell? ⟨w.heap.size, 0, none⟩ = some (.int .i64 x1) := (hbw.cell (p := ⟨w.heap.size, 0, none⟩) (by simp)).trans (by go_simp)
    have hx1 : wr.cell? ⟨w.heap.size, 1, none⟩ = some (.int .i64 x2) := (hbw.cell (p := ⟨w.heap.size, 1, none⟩) (by simp)).trans (by go_simp)
    have hs1 : PS wr a n c L := (hs.below hb0).below hbw
    have E0 := fun m os => cell_grown (cell_in hx0) hx0 m os
    have E1 := fun m os => cell_grown (cell_in hx1) hx1 m os
    have hl := HL.out
    by_cases hlt : k < n
    · obtain ⟨g, o, rfl, hg, hcell⟩ := hs1.at (by omega)
      obtain ⟨hc0, hc1⟩ := hcell k (by omega)
      have hts : Hid _ := hid (take_snoc (L := L) (k := k) (by omega))
      have hLk : Hid _ := hid (List.getElem?_eq_getElem (l := L) (i := k) (by omega))
      generalize (L[k]'(by omega)) = d at hc0 hc1 hts hLk
      obtain ⟨d1, d2⟩ := d
      have C0 := fun m os => cell_grown (a := ⟨g, o + k * 2, none⟩) hg hc0 m os
      have C1 := fun m os => cell_grown (a := ⟨g, o + k * 2 + 1, none⟩) hg hc1 m os
      have hk1 : (k : Int) < (n : Int) := by omega
      have hk0 : (0 : Int) ≤ (k : Int) := by omega
      have hlss := fun m os => Calls.grown_of (w := wr) (n := m) (os := os) ((rless_any (d1, d2) (x1, x2) (grow (wr.drewN m) os)).mono fun _ _ ⟨he, q, os', hw⟩ => ⟨he, q, os', hw⟩)
      generalize hr : dl (d1, d2) (x1, x2) = r at hlss
      have HR := hid hr
      have hcap := hs.cap
      clear hl hcell hr hx0 hx1 hc0 hc1
      cases r
      · go_wp2_with fail
        go_quiet_grown (first | (go_at_call 78; exact hlss _ _))
        have hW1 := hW.more nq osq
        have hx0 := E0 nq osq
        have hx1 := E1 nq osq
        have hd0 := C0 nq osq
        have hd1 := C1 nq osq
        simp only []
        generalize grow (wr.drewN nq) osq = W1 at hW1 hx0 hx1 hd0 hd1 ⊢
        have F0 : ∀ m, (W1.drewN m).cell? ⟨w.heap.size, 0, none⟩ = some (.int .i64 x1) := fun _ => hx0
        have F1 : ∀ m, (W1.drewN m).cell? ⟨w.heap.size, 1, none⟩ = some (.int .i64 x2) := fun _ => hx1
        have G0 : ∀ m, (W1.drewN m).cell? ⟨g, o + k * 2, none⟩ = some (.int .i64 d1) := fun _ => hd0
        have G1 : ∀ m, (W1.drewN m).cell? ⟨g, o + k * 2 + 1, none⟩ = some (.int .i64 d2) := fun _ => hd1
        clear E0 E1 C0 C1 hlss hx0 hx1 hd0 hd1 hs1 hg
        have hins := hid (insAt3 (x1, x2) L k (by rw [HL.out]; exact hk) htk.out (fun e he => by
          rw [hLk.out] at he
          cases he
          exact HR.out))
        by_cases h1 : d1 = x1 ∧ d2 = x2
        · obtain ⟨rfl, rfl⟩ := h1
          go_wp2_with fail
          go_quiet (fail)
          go_wp2
          go_ret
          have hi : ins L (d1, d2) = L := by rw [hins.out, hLk.out]; simp
          have hbb : RowKit.Below w.heap.size w (W1.drewN nq) := hb0.trans ((hW1.drewN nq).below.mono (by simp))
          rw [hi]
          exact ⟨_, c, by rw [HL.out]; rfl, by rw [HL.out]; exact hs.below hbb, hbb, fun ad e => Or.inl e⟩
        · have hi : ins L (x1, x2) = L.take k ++ (x1, x2) :: L.drop k := by
            rw [hins.out, hLk.out]
            simp [h1]
          have HI := hid hi
          have h1' := hid h1
          clear hi hins h1
          have hcmp : (d1 = x1 ∧ ¬ d2 = x2) ∨ ¬ d1 = x1 := by
            by_cases h : d1 = x1
            · exact .inl ⟨h, fun e => h1'.out ⟨h, e⟩⟩
            · exact .inr h
          rcases hcmp with ⟨rfl, hne⟩ | hne
          all_goals
            go_wp2_with fail
            go_quiet (fail)
            have hW2 := hW1.drewN nq
            have hy0 := F0 nq
            have hy1 := F1 nq
            clear F0 F1 G0 G1 hW1
            generalize W1.drewN nq = W2 at hW2 hy0 hy1 ⊢
            have bW : RowKit.Below (w.heap.size + 1) (w.alloc (.cells #[.int .i64 _, .int .i64 x2] 24)) W2 := hW2.below.mono (by simp)
            have hsW2 := (hs.below hb0).below hW2.below
            have hB2 := bW.size
            simp only [World.size_alloc] at hB2
            go_wp2_with (first
              | (at_builtin; have hq := ho3; refine wpList_append_dots rfl _ _ 32 Tryz.underlying32 rfl (w.heap.size + 1) v4 _ _ rfl ho3 (some ⟨g, o + k * 2, none⟩) (n - k) (c - k) (L.drop k) (by first | rfl | skip) (hs4.drop k hk) (by omega) (by omega) ?_; intro v5 w5 ho5 hg5)
              | (at_builtin; have hq := ho2; refine wpList_append_dots rfl _ _ 32 Tryz.underlying32 rfl (w.heap.size + 1) v3 _ _ rfl (ho2.alloc _) (some ⟨w3.heap.size, 0, none⟩) 1 1 [(_, x2)] rfl (ps_one w3 (_, x2)) (by omega) (by simp; omega) ?_; intro v4 w4 ho3 hg3; have b4 := (b3.alloc (by omega) (.cells #[.int .i64 _, .int .i64 x2] 24)).grown hg3 (by simp; omega) (fun j hj => (ho2.lt j hj).1); have hB4 := b4.size; simp only [World.size_alloc] at hB4; have hs4 := (hs.below hb0).below (b4.mono (by simp)))
              | (at_builtin; refine wpList_append_dots rfl _ _ 32 Tryz.underlying32 rfl (w.heap.size + 1) (.slice none 0 0) 0 [] rfl (World.ownsRow_nil _ _ _ _) (some ⟨g, o, none⟩) k c (L.take k) rfl (hsW2.take k hk) (by omega) hB2 ?_; intro v3 w3 ho2 hg2; have b3 := bW.grown hg2 hB2 (fun j hj => by simp [Value.ownBlock] at hj); have hB3 := b3.size; simp only [World.size_alloc] at hB3; obtain ⟨hz0, hz1⟩ := fbox_of b3))
            go_ret
            obtain ⟨a5, c5, rfl, hp5, hf5⟩ := fput1_fin HI.out HL.out hk ho5
            exact ⟨a5, c5, rfl, hp5, hb0.trans ((b4.grown hg5 hB4 (fun j hj => (ho3.lt j hj).1)).mono (by omega)), fun ad e => Or.inr (Nat.le_trans (Nat.le_succ _) (hf5 ad e))⟩
      · go_wp2_with fail
        go_quiet_grown (first | (go_at_call 78; exact hlss _ _))
        go_wp2
        go_roundw
        case rel =>
          refine ⟨k + 1, by omega, by go_num, ?_, hW.more _ _⟩
          rw [hts.out]
          intro e he
          rcases List.mem_append.1 he with he | he
          · exact htk.out e he
          · simp at he
            rw [he]
            exact HR.out
        case measure => simp [intOf]; omega
    · obtain rfl : k = n := by omega
      have hdec : decide ((k : Int) < (k : Int)) = false := by simp
      have hins := hid (insAt3 (x1, x2) L k (by rw [HL.out]; exact hk) htk.out (fun e he => by
        rw [List.getElem?_eq_none (by rw [HL.out]; exact Nat.le_refl _)] at he
        cases he))
      have hi : ins L (x1, x2) = L.take k ++ (x1, x2) :: L.drop k := by
        rw [hins.out, List.getElem?_eq_none (by rw [HL.out]; exact Nat.le_refl _)]
        simp
      have HI := hid hi
      have hcap := hs.cap
      have hmax := hs.max
      have hmax2 : c ≤ 9223372036854775807 := by unfold maxLen at hmax; omega
      clear hi hins hl hx0 hx1
      have hsh : (a = none ∧ k = 0 ∧ c = 0) ∨ ∃ ad, a = some ad := by
        cases a with
        | none => exact .inl ⟨rfl, (hs.nil rfl).1, (hs.nil rfl).2⟩
        | some ad => exact .inr ⟨ad, rfl⟩
      rcases hsh with ⟨rfl, rfl, rfl⟩ | ⟨ad, rfl⟩
      · skip
        go_wp2_with fail
        go_quiet_grown (fail)
        have hW1 := hW.more nq osq
        simp only []
        clear E0 E1
        generalize grow (wr.drewN nq) osq = W1 at hW1 ⊢
        go_wp2_with fail
        go_quiet (fail)
        have hW2 := hW1.drewN nq
        clear hW1
        generalize W1.drewN nq = W2 at hW2 ⊢
        have bW : RowKit.Below (w.heap.size + 1) (w.alloc (.cells #[.int .i64 x1, .int .i64 x2] 24)) W2 := hW2.below.mono (by simp)
        have hsW2 := (hs.below hb0).below hW2.below
        have hB2 := bW.size
        simp only [World.size_alloc] at hB2
        go_wp2_with (first
          | (at_builtin; have hq := ho3; refine wpList_append_dots rfl _ _ 32 Tryz.underlying32 rfl (w.heap.size + 1) v4 _ _ rfl ho3 none 0 (0 - 0) [] rfl (PS.no _ _ _ (by simp) (by have := hs.max; omega)) (by omega) (by omega) ?_; intro v5 w5 ho5 hg5)
          | (at_builtin; have hq := ho2; refine wpList_append_dots rfl _ _ 32 Tryz.underlying32 rfl (w.heap.size + 1) v3 _ _ rfl (ho2.alloc _) (some ⟨w3.heap.size, 0, none⟩) 1 1 [(_, x2)] rfl (ps_one w3 (_, x2)) (by omega) (by simp; omega) ?_; intro v4 w4 ho3 hg3; have b4 := (b3.alloc (by omega) (.cells #[.int .i64 _, .int .i64 x2] 24)).grown hg3 (by simp; omega) (fun j hj => (ho2.lt j hj).1); have hB4 := b4.size; simp only [World.size_alloc] at hB4)
          | (at_builtin; refine wpList_append_dots rfl _ _ 32 Tryz.underlying32 rfl (w.heap.size + 1) (.slice none 0 0) 0 [] rfl (World.ownsRow_nil _ _ _ _) none 0 0 (L.take 0) rfl (hsW2.take 0 hk) (by omega) hB2 ?_; intro v3 w3 ho2 hg2; have b3 := bW.grown hg2 hB2 (fun j hj => by simp [Value.ownBlock] at hj); have hB3 := b3.size; simp only [World.size_alloc] at hB3; obtain ⟨hz0, hz1⟩ := fbox_of b3))
        all_goals
          go_ret
          obtain ⟨a5, c5, rfl, hp5, hf5⟩ := fput1_fin HI.out HL.out hk (by
            rw [Nat.sub_self, List.drop_eq_nil_of_le (by rw [HL.out]; exact Nat.le_refl _)]
            simpa [flat] using ho5)
          exact ⟨a5, c5, rfl, hp5, hb0.trans ((b4.grown hg5 hB4 (fun j hj => (ho3.lt j hj).1)).mono (by omega)), fun ad e => Or.inr (Nat.le_trans (Nat.le_succ _) (hf5 ad e))⟩
      · by_cases hck : c = k
        · subst hck
          go_wp2_with fail
          go_quiet_grown (fail)
          have hW1 := hW.more nq osq
          simp only []
          clear E0 E1
          generalize grow (wr.drewN nq) osq = W1 at hW1 ⊢
          go_wp2_with fail
          go_quiet (fail)
          have hW2 := hW1.drewN nq
          clear hW1
          generalize W1.drewN nq = W2 at hW2 ⊢
          have bW : RowKit.Below (w.heap.size + 1) (w.alloc (.cells #[.int .i64 x1, .int .i64 x2] 24)) W2 := hW2.below.mono (by simp)
          have hsW2 := (hs.below hb0).below hW2.below
          have hB2 := bW.size
          simp only [World.size_alloc] at hB2
          go_wp2_with (first
            | (at_builtin; have hq := ho3; refine wpList_append_dots rfl _ _ 32 Tryz.underlying32 rfl (w.heap.size + 1) v4 _ _ rfl ho3 _ 0 _ [] rfl (PS.no _ _ _ (fun e => by first | rfl | (cases e; done)) (by first | exact Nat.zero_le _ | (have := hs.max; omega))) (by omega) (by omega) ?_; intro v5 w5 ho5 hg5)
            | (at_builtin; have hq := ho2; refine wpList_append_dots rfl _ _ 32 Tryz.underlying32 rfl (w.heap.size + 1) v3 _ _ rfl (ho2.alloc _) (some ⟨w3.heap.size, 0, none⟩) 1 1 [(_, x2)] rfl (ps_one w3 (_, x2)) (by omega) (by simp; omega) ?_; intro v4 w4 ho3 hg3; have b4 := (b3.alloc (by omega) (.cells #[.int .i64 _, .int .i64 x2] 24)).grown hg3 (by simp; omega) (fun j hj => (ho2.lt j hj).1); have hB4 := b4.size; simp only [World.size_alloc] at hB4)
            | (at_builtin; refine wpList_append_dots rfl _ _ 32 Tryz.underlying32 rfl (w.heap.size + 1) (.slice none 0 0) 0 [] rfl (World.ownsRow_nil _ _ _ _) (some ad) c c (L.take c) rfl (hsW2.take c hk) (by omega) hB2 ?_; intro v3 w3 ho2 hg2; have b3 := bW.grown hg2 hB2 (fun j hj => by simp [Value.ownBlock] at hj); have hB3 := b3.size; simp only [World.size_alloc] at hB3; obtain ⟨hz0, hz1⟩ := fbox_of b3))
          all_goals
            go_ret
            obtain ⟨a5, c5, rfl, hp5, hf5⟩ := fput1_fin HI.out HL.out hk (by
              rw [Nat.sub_self, List.drop_eq_nil_of_le (by rw [HL.out]; exact Nat.le_refl _)]
              simpa [flat] using ho5)
            exact ⟨a5, c5, rfl, hp5, hb0.trans ((b4.grown hg5 hB4 (fun j hj => (ho3.lt j hj).1)).mono (by omega)), fun ad e => Or.inr (Nat.le_trans (Nat.le_succ _) (hf5 ad e))⟩
        · skip
          go_wp2_with fail
          go_quiet_grown (fail)
          have hW1 := hW.more nq osq
          simp only []
          clear E0 E1
          generalize grow (wr.drewN nq) osq = W1 at hW1 ⊢
          go_wp2_with fail
          go_quiet (fail)
          have hW2 := hW1.drewN nq
          clear hW1
          generalize W1.drewN nq = W2 at hW2 ⊢
          have bW : RowKit.Below (w.heap.size + 1) (w.alloc (.cells #[.int .i64 x1, .int .i64 x2] 24)) W2 := hW2.below.mono (by simp)
          have hsW2 := (hs.below hb0).below hW2.below
          have hB2 := bW.size
          simp only [World.size_alloc] at hB2
          go_wp2_with (first
            | (at_builtin; have hq := ho3; refine wpList_append_dots rfl _ _ 32 Tryz.underlying32 rfl (w.heap.size + 1) v4 _ _ rfl ho3 _ 0 _ [] rfl (PS.no _ _ _ (fun e => by first | rfl | (cases e; done)) (by first | exact Nat.zero_le _ | (have := hs.max; omega))) (by omega) (by omega) ?_; intro v5 w5 ho5 hg5)
            | (at_builtin; have hq := ho2; refine wpList_append_dots rfl _ _ 32 Tryz.underlying32 rfl (w.heap.size + 1) v3 _ _ rfl (ho2.alloc _) (some ⟨w3.heap.size, 0, none⟩) 1 1 [(_, x2)] rfl (ps_one w3 (_, x2)) (by omega) (by simp; omega) ?_; intro v4 w4 ho3 hg3; have b4 := (b3.alloc (by omega) (.cells #[.int .i64 _, .int .i64 x2] 24)).grown hg3 (by simp; omega) (fun j hj => (ho2.lt j hj).1); have hB4 := b4.size; simp only [World.size_alloc] at hB4)
            | (at_builtin; refine wpList_append_dots rfl _ _ 32 Tryz.underlying32 rfl (w.heap.size + 1) (.slice none 0 0) 0 [] rfl (World.ownsRow_nil _ _ _ _) (some ad) k c (L.take k) rfl (hsW2.take k hk) (by omega) hB2 ?_; intro v3 w3 ho2 hg2; have b3 := bW.grown hg2 hB2 (fun j hj => by simp [Value.ownBlock] at hj); have hB3 := b3.size; simp only [World.size_alloc] at hB3; obtain ⟨hz0, hz1⟩ := fbox_of b3))
          all_goals
            go_ret
            obtain ⟨a5, c5, rfl, hp5, hf5⟩ := fput1_fin HI.out HL.out hk (by
              rw [Nat.sub_self, List.drop_eq_nil_of_le (by rw [HL.out]; exact Nat.le_refl _)]
              simpa [flat] using ho5)
            exact ⟨a5, c5, rfl, hp5, hb0.trans ((b4.grown hg5 hB4 (fun j hj => (ho3.lt j hj).1)).mono (by omega)), fun ad e => Or.inr (Nat.le_trans (Nat.le_succ _) (hf5 ad e))⟩
end

section
set_option linter.unusedVariables false
open Go.RowKit
open Go.Sort (grow)

/-- Those of a row that lie at a side of one, put in one by one. -/
def kidI (T : List Cr) (d : Dt) (s : Int) : List Dt := rise ((T.filter (fun c => decide (c.at_ = d) && decide ((if c.sd then (1 : Int) else 0) = s))).map Cr.id)

theorem kidI_left (T : List Cr) (d : Dt) : kidI T d 0 = kids T d false := by
  unfold kidI kids
  congr 2
  apply List.filter_congr
  intro c _
  cases c.sd <;> simp
theorem kidI_right (T : List Cr) (d : Dt) : kidI T d 1 = kids T d true := by
  unfold kidI kids
  congr 2
  apply List.filter_congr
  intro c _
  cases c.sd <;> simp

theorem kidI_yes {T : List Cr} {c : Cr} {d : Dt} {s : Int} (h1 : c.at_ = d) (h2 : (if c.sd then (1 : Int) else 0) = s) : kidI (T ++ [c]) d s = ins (kidI T d s) c.id := by
  unfold kidI
  rw [List.filter_append, List.filter_cons_of_pos (by simp [h1, h2]), List.filter_nil, List.map_append, List.map_cons, List.map_nil, rise_snoc]
theorem kidI_no {T : List Cr} {c : Cr} {d : Dt} {s : Int} (h : ¬ (c.at_ = d ∧ (if c.sd then (1 : Int) else 0) = s)) : kidI (T ++ [c]) d s = kidI T d s := by
  unfold kidI
  rw [List.filter_append, List.filter_cons_of_neg (by simp only [Bool.and_eq_true, decide_eq_true_eq]; exact h), List.filter_nil, List.append_nil]
theorem kidI_len (T : List Cr) (d : Dt) (s : Int) : (kidI T d s).length ≤ T.length := by
  unfold kidI
  refine Nat.le_trans (rise_length _) ?_
  rw [List.length_map]
  exact List.length_filter_le _ _

set_option maxRecDepth 100000 in
set_option maxHeartbeats 4000000 in
theorem rkids_any (a : Option Addr) (n c : Nat) (T : List Cr) (d : Dt) (s : Int) (w : World) (h : RT w a n c T) (hn : n ≤ 1000000) :
    Calls Tryz.prog 186 #[.agg #[.slice a n c], dv d, .int .i64 s] w fun e w' => ∃ a' n' c', e = .returned (.slice a' n' c') ∧ PS w' a' n' c' (kidI T d s) ∧ Below w.heap.size w w' ∧ ∀ ad, a' = some ad → w.heap.size ≤ ad.block := by
  obtain ⟨d1, d2⟩ := d
  have mixed := mixed
  obtain ⟨W0, hW0⟩ : ∃ W0, W0 = (w.alloc (.cells #[.slice a n c] 62)).alloc (.cells #[.int .i64 d1, .int .i64 d2] 24) := ⟨_, rfl⟩
  have hB0 : Below w.heap.size w W0 := by rw [hW0]; exact ((Below.refl _ w).alloc (Nat.le_refl _) _).alloc (by simp) _
  have hb1 : W0.heap[w.heap.size]? = some (.cells #[.slice a n c] 62 (0, 0)) := by rw [hW0]; exact (Below.heap_alloc _ _ _ (by simp)).trans (World.alloc_heap_new w _)
  have hb2 : W0.heap[w.heap.size + 1]? = some (.cells #[.int .i64 d1, .int .i64 d2] 24 (0, 0)) := by
    rw [hW0]
    have := World.alloc_heap_new (w.alloc (.cells #[.slice a n c] 62)) (.cells #[.int .i64 d1, .int .i64 d2] 24)
    rwa [World.size_alloc] at this
  have hl1 := (Array.getElem?_eq_some_iff.1 hb1).1
  have hl2 := (Array.getElem?_eq_some_iff.1 hb2).1
  have hcap := h.cap
  have hmax := h.max
  unfold maxLen at hmax
  have HL := hid h.len
  go_enter Tryz.func186, Tryz.ntmps186
  go_wp2
  rw [← hW0]
  clear hW0
  go_loopw [7, 8] (fun v i wr => ∃ (k : Nat) (a' : Option Addr) (n' c' : Nat), k ≤ n ∧ i = .int .i64 k ∧ v = .slice a' n' c' ∧ Hid (PS wr a' n' c' (kidI (T.take k) (d1, d2) s)) ∧ Hid (Below W0.heap.size W0 wr) ∧ Hid (∀ ad, a' = some ad → w.heap.size ≤ ad.block)) (fun _ i _ => n - (intOf i).toNat)
  case atStart => exact ⟨0, none, 0, 0, by omega, rfl, rfl, hid (by simpa [kidI, rise] using PS.none W0), hid (Below.refl _ _), hid (fun ad e => by cases e)⟩
  case round =>
    obtain ⟨k, a', n', c', hk, rfl, rfl, hps, hbw, hnew⟩ := hrel
    have hBr : Below w.heap.size w wr := hB0.trans (hbw.out.mono hB0.size)
    have g1 : wr.heap[w.heap.size]? = _ := (hbw.out.block _ hl1).trans hb1
    have g2 : wr.heap[w.heap.size + 1]? = _ := (hbw.out.block _ hl2).trans hb2
    have e10 : wr.cell? ⟨w.heap.size, 0, none⟩ = some (.slice a n c) := by simp [World.cell?, g1]
    have e20 : wr.cell? ⟨w.heap.size + 1, 0, none⟩ = some (.int .i64 d1) := by simp [World.cell?, g2]
    have e30 : wr.cell? ⟨w.heap.size + 1, 1, none⟩ = some (.int .i64 d2) := by simp [World.cell?, g2]
    have e1 : ∀ m, (wr.drewN m).cell? ⟨w.heap.size, 0, none⟩ = some (.slice a n c) := fun m => e10
    have e2 : ∀ m, (wr.drewN m).cell? ⟨w.heap.size + 1, 0, none⟩ = some (.int .i64 d1) := fun m => e20
    have e3 : ∀ m, (wr.drewN m).cell? ⟨w.heap.size + 1, 1, none⟩ = some (.int .i64 d2) := fun m => e30
    have hbD : ∀ m, Below W0.heap.size W0 (wr.drewN m) := fun m => hbw.out.trans (((Far.refl wr).drewN m).below.mono hbw.out.size)
    clear g1 g2
    by_cases hlt : k < n
    · obtain ⟨g, o, rfl, hat⟩ := (h.below hBr).at hlt
      have hkT : k < T.length := by rw [HL.out]; exact hlt
      obtain ⟨x, hx⟩ : ∃ x, x = T[k]'hkT := ⟨_, rfl⟩
      have hts : Hid (T.take (k + 1) = T.take k ++ [x]) := hid (by rw [hx]; exact List.take_succ_eq_append_getElem hkT)
      rw [← hx] at hat
      clear hx hkT
      have hp : ∀ m, Calls Tryz.prog 196 #[.slice a' n' c', .agg #[.int .i64 x.id.1, .int .i64 x.id.2]] (wr.drewN m) fun e w' => ∃ a'' n'' c'', e = .returned (.slice a'' n'' c'') ∧ Hid (PS w' a'' n'' c'' (ins (kidI (T.take k) (d1, d2) s) x.id)) ∧ Hid (Below W0.heap.size W0 w') ∧ Hid (∀ ad, a'' = some ad → w.heap.size ≤ ad.block) := fun m =>
        (fput1_any a' n' c' _ x.id (wr.drewN m) (hps.out.far ((Far.refl wr).drewN m)) (by have h1 := hps.out.len; have h2 := kidI_len (T.take k) (d1, d2) s; rw [List.length_take] at h2; omega)).mono (fun e w' ⟨a'', c'', k1, k2, k3, k4⟩ => ⟨a'', _, c'', k1, hid k2, hid ((hbD m).trans (k3.mono (hbD m).size)), hid (fun ad e => by
          rcases k4 ad e with h | h
          · exact hnew.out ad h
          · exact Nat.le_trans hB0.size (Nat.le_trans (hbD m).size h))⟩)
      have C0 : ∀ m, (wr.drewN m).cell? ⟨g, o + k * 7, none⟩ = some (.int .i64 x.id.1) := fun _ => hat.c0
      have C1 : ∀ m, (wr.drewN m).cell? ⟨g, o + k * 7 + 1, none⟩ = some (.int .i64 x.id.2) := fun _ => hat.c1
      have C2 : ∀ m, (wr.drewN m).cell? ⟨g, o + k * 7 + 2, none⟩ = some (.int .i64 x.at_.1) := fun _ => hat.c2
      have C3 : ∀ m, (wr.drewN m).cell? ⟨g, o + k * 7 + 3, none⟩ = some (.int .i64 x.at_.2) := fun _ => hat.c3
      have C4 : ∀ m, (wr.drewN m).cell? ⟨g, o + k * 7 + 4, none⟩ = some (.int .i64 (if x.sd then 1 else 0)) := fun _ => hat.c4
      obtain ⟨x1, hx1⟩ : ∃ x1, x1 = x.at_.1 := ⟨_, rfl⟩
      obtain ⟨x2, hx2⟩ : ∃ x2, x2 = x.at_.2 := ⟨_, rfl⟩
      obtain ⟨sd, hsd⟩ : ∃ sd : Int, sd = (if x.sd then 1 else 0) := ⟨_, rfl⟩
      have hxi : Hid (x.at_ = (x1, x2)) := hid (by rw [hx1, hx2])
      have hsi : Hid ((if x.sd then (1 : Int) else 0) = sd) := hid hsd.symm
      rw [← hx1] at C2
      rw [← hx2] at C3
      rw [← hsd] at C4
      clear hx1 hx2 hsd hat
      have hk1 : (k : Int) < (n : Int) := by omega
      have hk0 : (0 : Int) ≤ (k : Int) := by omega
      by_cases hyes : (x1 = d1 ∧ x2 = d2) ∧ sd = s
      · obtain ⟨⟨rfl, rfl⟩, rfl⟩ := hyes
        have hnx := hid (show kidI (T.take (k + 1)) (x1, x2) sd = ins (kidI (T.take k) (x1, x2) sd) x.id by rw [hts.out]; exact kidI_yes hxi.out hsi.out)
        go_wp2_with fail
        go_quiet (fail)
        go_wp2_with (go_at_call 196; refine (hp _).mono ?_; rintro e w3 ⟨a3, n3, c3, rfl, p3, b3, f3⟩)
        go_roundw
        case rel => exact ⟨k + 1, a3, n3, c3, by omega, by go_num, rfl, hid (by rw [hnx.out]; exact p3.out), b3, f3⟩
        case measure => simp [intOf]; omega
      · have hnx := hid (show kidI (T.take (k + 1)) (d1, d2) s = kidI (T.take k) (d1, d2) s by
          rw [hts.out]
          refine kidI_no (fun ⟨ha, hb⟩ => hyes ⟨?_, by rw [← hsi.out]; exact hb⟩)
          rw [hxi.out] at ha
          exact Prod.mk.inj ha)
        have hend : ∀ m, Hid (PS (wr.drewN m) a' n' c' (kidI (T.take (k + 1)) (d1, d2) s) ∧ Below W0.heap.size W0 (wr.drewN m)) := fun m => hid ⟨by rw [hnx.out]; exact hps.out.far ((Far.refl wr).drewN m), hbD m⟩
        clear hp
        by_cases h1 : x1 = d1
        · subst h1
          by_cases h2 : x2 = d2
          · subst h2
            have h3 : ¬ sd = s := fun e => hyes ⟨⟨rfl, rfl⟩, e⟩
            have hb3 : (sd == s) = false := by simpa using h3
            clear hyes
            go_wp2_with fail
            go_quiet (fail)
            go_wp2
            go_roundw
            case rel => exact ⟨k + 1, a', n', c', by omega, by go_num, rfl, hid (hend _).out.1, hid (hend _).out.2, hnew⟩
            case measure => simp [intOf]; omega
          · clear hyes
            go_wp2_with fail
            go_quiet (fail)
            go_wp2
            go_roundw
            case rel => exact ⟨k + 1, a', n', c', by omega, by go_num, rfl, hid (hend _).out.1, hid (hend _).out.2, hnew⟩
            case measure => simp [intOf]; omega
        · clear hyes
          go_wp2_with fail
          go_quiet (fail)
          go_wp2
          go_roundw
          case rel => exact ⟨k + 1, a', n', c', by omega, by go_num, rfl, hid (hend _).out.1, hid (hend _).out.2, hnew⟩
          case measure => simp [intOf]; omega
    · obtain rfl : k = n := by omega
      have hps' : PS wr a' n' c' (kidI T (d1, d2) s) := by have := hps.out; rw [List.take_of_length_le (by rw [HL.out]; exact Nat.le_refl _)] at this; exact this
      have hpH := hid hps'
      clear hps'
      go_wp2
      go_ret
      exact ⟨a', n', c', rfl, hpH.out, hBr, hnew.out⟩
end

section
set_option linter.unusedVariables false
set_option linter.unusedSimpArgs false
open Go.RowKit

/-- A row of dots outlasts a text's turn. -/
theorem own_fr {t base n : Nat} {w w' : World} {v : Value} {xs : List Value} (h : w.ownsRow base 24 2 v n xs) (hf : FrW t w w') : w'.ownsRow base 24 2 v n xs := by
  refine ⟨h.1, ?_⟩
  rcases h.2 with h0 | ⟨g, cap, cur, h1, h2, h3, h4⟩
  · exact Or.inl h0
  · exact Or.inr ⟨g, cap, cur, h1, h2, (hf.block g (Array.getElem?_eq_some_iff.1 h3).1 (Or.inr ⟨_, _, h3, by decide, by decide, by decide⟩)).trans h3, h4⟩
end
end Go.Proofs.YtnmdcdphpcpojaaGreatDoor
