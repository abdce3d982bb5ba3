/- The reference: its blocks, in a row of one's own. -/
import Derived.Test.YtplcohjpchfkkaaTrMRow
import Derived.Test.YtplcohjpchfkkaaTrSRow
import Derived.Shelf.SlSortCmp.QuietGrown
import Derived.BigQuiet
import Derived.WalkKit
import Derived.WalkSpells
import Derived.WalkLawsBesides
namespace Go.Proofs.Ytplcohjpchfkkaa
section
set_option linter.unusedVariables false
open Go.RowKit

/-- The reference's tree: its moves, what comes of them, which took effect. -/
structure R3 (w : World) (la : Option Addr) (n lc : Nat) (sa : Option Addr) (ns sc : Nat) (ka : Option Addr) (nk kc : Nat) (l : List Mv) : Prop where
  mv : MvS w la n lc l
  sp : SpR w sa ns sc (run l)
  tk : PS w ka nk kc (tkL l)

/-- The blocks that it lies in. -/
def B3 (la : Option Addr) (n : Nat) (sa : Option Addr) (ns : Nat) (ka : Option Addr) (nk j : Nat) : Prop := (0 < n ∧ ∃ ad, la = some ad ∧ ad.block = j) ∨ (0 < ns ∧ ∃ ad, sa = some ad ∧ ad.block = j) ∨ (0 < nk ∧ ∃ ad, ka = some ad ∧ ad.block = j)

theorem SpR.same {w w' : World} {a : Option Addr} {n c : Nat} {T : List Sp} (h : SpR w a n c T) (hz : w.heap.size ≤ w'.heap.size) (hb : ∀ ad, a = some ad → w'.heap[ad.block]? = w.heap[ad.block]?) : SpR w' a n c T :=
  ⟨h.len, h.cap, h.max, h.nil, fun hp => by
    obtain ⟨g, o, e, hg, hx⟩ := h.at_ hp
    refine ⟨g, o, e, Nat.lt_of_lt_of_le hg hz, fun i hi j u hj => ?_⟩
    have := hx i hi j u hj
    simp only [World.cell?] at this ⊢
    rw [hb _ e]
    exact this⟩

theorem R3.same {w w' : World} {la sa ka : Option Addr} {n lc ns sc nk kc : Nat} {l : List Mv} (h : R3 w la n lc sa ns sc ka nk kc l) (hz : w.heap.size ≤ w'.heap.size) (hb : ∀ j, B3 la n sa ns ka nk j → w'.heap[j]? = w.heap[j]?) : R3 w' la n lc sa ns sc ka nk kc l := by
  refine ⟨⟨h.mv.len, h.mv.cap, h.mv.max, h.mv.nil, fun hp => ?_⟩, ⟨h.sp.len, h.sp.cap, h.sp.max, h.sp.nil, fun hp => ?_⟩, ?_⟩
  · exact (h.mv.same hz (fun ad e => hb _ (Or.inl ⟨hp, ad, e, rfl⟩))).at_ hp
  · exact (h.sp.same hz (fun ad e => hb _ (Or.inr (Or.inl ⟨hp, ad, e, rfl⟩)))).at_ hp
  · rcases Nat.eq_zero_or_pos nk with h0 | h0
    · have hl := h.tk.len
      have e0 : tkL l = [] := List.eq_nil_of_length_eq_zero (by omega)
      rw [e0]
      exact ⟨h0.symm, h.tk.cap, h.tk.max, h.tk.nil, fun ad _ j u hj => by simp [flat] at hj⟩
    · exact h.tk.same (fun ad e => hb _ (Or.inr (Or.inr ⟨h0, ad, e, rfl⟩)))

theorem R3.lt {w : World} {la sa ka : Option Addr} {n lc ns sc nk kc : Nat} {l : List Mv} (h : R3 w la n lc sa ns sc ka nk kc l) {j : Nat} (hj : B3 la n sa ns ka nk j) : j < w.heap.size := by
  rcases hj with ⟨hp, ad, e, rfl⟩ | ⟨hp, ad, e, rfl⟩ | ⟨hp, ad, e, rfl⟩
  · obtain ⟨g, o, e', hg, _⟩ := h.mv.at_ hp
    rw [e] at e'
    cases e'
    exact hg
  · obtain ⟨g, o, e', hg, _⟩ := h.sp.at_ hp
    rw [e] at e'
    cases e'
    exact hg
  · obtain ⟨g, o, e', hg, _⟩ := h.tk.at (by omega)
    rw [e] at e'
    cases e'
    exact hg

theorem MvS.belo {w w' : World} {a : Option Addr} {n c : Nat} {L : List Mv} (h : MvS w a n c L) (hb : Below w.heap.size w w') : MvS w' a n c L :=
  ⟨h.len, h.cap, h.max, h.nil, fun hp => by
    obtain ⟨g, o, e, hg, hx⟩ := h.at_ hp
    exact ⟨g, o, e, Nat.lt_of_lt_of_le hg hb.size, fun i hi j u hj => by rw [hb.cell (p := ⟨g, o + i * 8 + j, none⟩) hg]; exact hx i hi j u hj⟩⟩

theorem R3.below {w w' : World} {la sa ka : Option Addr} {n lc ns sc nk kc : Nat} {l : List Mv} (h : R3 w la n lc sa ns sc ka nk kc l) (hb : Below w.heap.size w w') : R3 w' la n lc sa ns sc ka nk kc l :=
  ⟨h.mv.belo hb, h.sp.below hb, h.tk.below hb⟩

theorem MvS.take {w : World} {a : Option Addr} {n c : Nat} {L : List Mv} (h : MvS w a n c L) (k : Nat) (hk : k ≤ n) : MvS w a k c (L.take k) :=
  ⟨by rw [List.length_take, h.len]; omega, Nat.le_trans hk h.cap, h.max, fun e => ⟨by have := (h.nil e).1; omega, (h.nil e).2⟩, fun hp => by
    obtain ⟨g, o, e, hg, hx⟩ := h.at_ (by omega)
    refine ⟨g, o, e, hg, fun i hi j u hj => ?_⟩
    rw [List.length_take] at hi
    rw [List.getElem_take] at hj
    exact hx i (by omega) j u hj⟩

theorem MvS.drop {w : World} {g o n c : Nat} {L : List Mv} (h : MvS w (some ⟨g, o, none⟩) n c L) (k : Nat) (hk : k ≤ n) : MvS w (some ⟨g, o + k * 8, none⟩) (n - k) (c - k) (L.drop k) :=
  ⟨by rw [List.length_drop, h.len], by have := h.cap; omega, by have := h.max; omega, fun e => (by cases e), fun hp => by
    obtain ⟨g', o', e, hg, hx⟩ := h.at_ (by omega)
    cases e
    refine ⟨g, o + k * 8, rfl, hg, fun i hi j u hj => ?_⟩
    rw [List.length_drop] at hi
    rw [List.getElem_drop] at hj
    have := hx (k + i) (by omega) j u hj
    rw [show o + k * 8 + i * 8 + j = o + (k + i) * 8 + j by omega]
    exact this⟩

theorem MvS.no (w : World) (a : Option Addr) (c : Nat) (h : a = none → c = 0) (hm : c ≤ maxLen) : MvS w a 0 c [] :=
  ⟨rfl, Nat.zero_le _, hm, fun e => ⟨rfl, h e⟩, fun hp => absurd hp (by omega)⟩

theorem mvs_one (w : World) (m : Mv) : MvS (w.alloc (.cells #[.int .i64 m.id.1, .int .i64 m.id.2, .int .i64 m.time, .int .i64 m.block.1, .int .i64 m.block.2, .int .i64 m.parent.1, .int .i64 m.parent.2, .string m.key] 33)) (some ⟨w.heap.size, 0, none⟩) 1 1 [m] :=
  ⟨rfl, Nat.le_refl _, by decide, (fun e => by cases e), fun _ => ⟨w.heap.size, 0, rfl, by simp, fun i hi j u hj => by
    have hi0 : i = 0 := by simpa using hi
    subst hi0
    have e := World.alloc_heap_new w (.cells #[.int .i64 m.id.1, .int .i64 m.id.2, .int .i64 m.time, .int .i64 m.block.1, .int .i64 m.block.2, .int .i64 m.parent.1, .int .i64 m.parent.2, .string m.key] 33)
    simp only [World.cell?]
    rw [e]
    simpa [Mv.cells] using hj⟩⟩

/-- What is put together is the row with one more at its place. -/
theorem rmove_fin {w5 : World} {v5 : Value} {B n k : Nat} {L : List Mv} {m : Mv} (hl : L.length = n) (hk : k ≤ n) (he : k = rkL mvl L m) (ho : w5.ownsRow B 33 8 v5 (0 + k + 1 + (n - k)) (flM ([] ++ L.take k ++ [m] ++ L.drop k))) : ∃ a5 c5, v5 = .slice a5 (n + 1) c5 ∧ MvS w5 a5 (n + 1) c5 (insL mvl L m) ∧ ∀ ad, a5 = some ad → B ≤ ad.block := by
  have e1 : 0 + k + 1 + (n - k) = n + 1 := by omega
  have e2 : [] ++ L.take k ++ [m] ++ L.drop k = insL mvl L m := by unfold insL; rw [← he]; simp
  rw [e1, e2] at ho
  have hlt := ho.lt
  obtain ⟨a5, c5, rfl, h⟩ := own_mvs ho
  exact ⟨a5, c5, rfl, h, fun ad e => (hlt ad.block (by rw [e]; rfl)).1⟩

theorem rk_next {L : List Mv} {m x : Mv} {k : Nat} (hx : L[k]? = some x) : ((L.take (k + 1)).filter (fun y => mvl y m)).length = ((L.take k).filter (fun y => mvl y m)).length + (if mvl x m then 1 else 0) := by
  rw [List.take_succ_eq_append_getElem (List.getElem?_eq_some_iff.1 hx).1, (List.getElem?_eq_some_iff.1 hx).2, List.filter_append, List.length_append]
  congr 1
  by_cases h : mvl x m = true
  · simp [h]
  · simp [h]
end

section
open Go.RowKit
open Go.Sort (grow)

theorem fput1o_fin {w5 : World} {v5 : Value} {B n k : Nat} {L : List Dt} {x : Dt} (HI : ins L x = L.take k ++ x :: L.drop k) (hl : L.length = n) (hk : k ≤ n)
    (ho : w5.ownsRow B 24 2 v5 (0 + k + 1 + (n - k)) ([] ++ flat (L.take k) ++ flat [x] ++ flat (L.drop k))) : ∃ a' c', v5 = .slice a' (ins L x).length c' ∧ PS w5 a' (ins L x).length c' (ins L x) ∧ w5.ownsRow B 24 2 (.slice a' (ins L x).length c') (ins L x).length (flat (ins L x)) := by
  have e1 := fins_len HI (by rw [hl]; exact hk)
  have e2 : [] ++ flat (L.take k) ++ flat [x] ++ flat (L.drop k) = flat (ins L x) := by
    rw [HI, flat_append]
    simp [flat]
  rw [e2] at ho
  have ho' : w5.ownsRow B 24 2 v5 (ins L x).length (flat (ins L x)) := by rw [e1, hl]; simpa using ho
  obtain ⟨a', c', rfl, h2⟩ := owned_ps ho' rfl
  exact ⟨a', c', rfl, h2, ho'⟩

theorem own_lowD {w : World} {b b' n size : Nat} {ty : TypeId} {v : Value} {xs : List Value} (h : w.ownsRow b ty size v n xs) (hb : b' ≤ b) : w.ownsRow b' ty size v n xs := by
  refine ⟨h.1, ?_⟩
  rcases h.2 with h' | ⟨g', cap, cur, e, hb', r⟩
  · exact Or.inl h'
  · exact Or.inr ⟨g', cap, cur, e, Nat.le_trans hb hb', r⟩

set_option maxRecDepth 100000 in
set_option maxHeartbeats 4000000 in
theorem fput1o_any (a : Option Addr) (n c : Nat) (L : List Dt) (x : Dt) (w : World) (hs : PS w a n c L) (hn : n ≤ 1000000) :
    Calls Try.prog 42 #[.slice a n c, dv x] w fun e w' => ∃ a' c', e = .returned (.slice a' (ins L x).length c') ∧ PS w' a' (ins L x).length c' (ins L x) ∧ RowKit.Below w.heap.size w w' ∧ ((a' = a ∧ c' = c ∧ ins L x = L) ∨ w'.ownsRow w.heap.size 24 2 (.slice a' (ins L x).length c') (ins L x).length (flat (ins L x))) := by
  obtain ⟨x1, x2⟩ := x
  have mixed : Try.prog.follows .mixedOrders = true := by kernel_rfl
  have HL := hid hs.len
  have hb0 : RowKit.Below w.heap.size w (w.alloc (.cells #[.int .i64 x1, .int .i64 x2] 24)) := (Below.refl _ w).alloc (Nat.le_refl _) _
  go_enter Try.func42, Try.ntmps42
  go_wp2
  go_loopw [5] (fun i wr => ∃ k : Nat, k ≤ n ∧ i = .int .i64 k ∧ (∀ e ∈ L.take k, dl e (x1, x2) = true) ∧ Far (w.alloc (.cells #[.int .i64 x1, .int .i64 x2] 24)) wr) (fun i _ => n - (intOf i).toNat)
  case atStart => exact ⟨0, by omega, rfl, by simp, Far.refl _⟩
  case round =>
    obtain ⟨k, hk, rfl, htk0, hW⟩ := hrel
    have htk := hid htk0
    clear htk0
    have hbw := hW.below
    have hx0 : wr.cell? ⟨w.heap.size, 0, none⟩ = some (.int .i64 x1) := (hbw.cell (p := ⟨w.heap.size, 0, none⟩) (by simp)).trans (by go_simp)
    have hx1 : wr.cell? ⟨w.heap.size, 1, none⟩ = some (.int .i64 x2) := (hbw.cell (p := ⟨w.heap.size, 1, none⟩) (by simp)).trans (by go_simp)
    have hs1 : PS wr a n c L := (hs.below hb0).below hbw
    have E0 := fun m os => cell_grown (cell_in hx0) hx0 m os
    have E1 := fun m os => cell_grown (cell_in hx1) hx1 m os
    have hl := HL.out
    by_cases hlt : k < n
    · obtain ⟨g, o, rfl, hg, hcell⟩ := hs1.at (by omega)
      obtain ⟨hc0, hc1⟩ := hcell k (by omega)
      have hts : Hid _ := hid (take_snoc (L := L) (k := k) (by omega))
      have hLk : Hid _ := hid (List.getElem?_eq_getElem (l := L) (i := k) (by omega))
      generalize (L[k]'(by omega)) = d at hc0 hc1 hts hLk
      obtain ⟨d1, d2⟩ := d
      have C0 := fun m os => cell_grown (a := ⟨g, o + k * 2, none⟩) hg hc0 m os
      have C1 := fun m os => cell_grown (a := ⟨g, o + k * 2 + 1, none⟩) hg hc1 m os
      have hk1 : (k : Int) < (n : Int) := by omega
      have hk0 : (0 : Int) ≤ (k : Int) := by omega
      have hlss := fun m os => Calls.grown_of (w := wr) (n := m) (os := os) ((rless_any (d1, d2) (x1, x2) (grow (wr.drewN m) os)).mono fun _ _ ⟨he, q, os', hw⟩ => ⟨he, q, os', hw⟩)
      generalize hr : dl (d1, d2) (x1, x2) = r at hlss
      have HR := hid hr
      have hcap := hs.cap
      clear hl hcell hr hx0 hx1 hc0 hc1
      cases r
      · go_wp2_with fail
        go_quiet_grown (first | (go_at_call 24; exact hlss _ _))
        have hW1 := hW.more nq osq
        have hx0 := E0 nq osq
        have hx1 := E1 nq osq
        have hd0 := C0 nq osq
        have hd1 := C1 nq osq
        simp only []
        generalize grow (wr.drewN nq) osq = W1 at hW1 hx0 hx1 hd0 hd1 ⊢
        have F0 : ∀ m, (W1.drewN m).cell? ⟨w.heap.size, 0, none⟩ = some (.int .i64 x1) := fun _ => hx0
        have F1 : ∀ m, (W1.drewN m).cell? ⟨w.heap.size, 1, none⟩ = some (.int .i64 x2) := fun _ => hx1
        have G0 : ∀ m, (W1.drewN m).cell? ⟨g, o + k * 2, none⟩ = some (.int .i64 d1) := fun _ => hd0
        have G1 : ∀ m, (W1.drewN m).cell? ⟨g, o + k * 2 + 1, none⟩ = some (.int .i64 d2) := fun _ => hd1
        clear E0 E1 C0 C1 hlss hx0 hx1 hd0 hd1 hs1 hg
        have hins := hid (insAt3 (x1, x2) L k (by rw [HL.out]; exact hk) htk.out (fun e he => by
          rw [hLk.out] at he
          cases he
          exact HR.out))
        by_cases h1 : d1 = x1 ∧ d2 = x2
        · obtain ⟨rfl, rfl⟩ := h1
          go_wp2_with fail
          go_quiet (fail)
          go_wp2
          go_ret
          have hi : ins L (d1, d2) = L := by rw [hins.out, hLk.out]; simp
          have hbb : RowKit.Below w.heap.size w (W1.drewN nq) := hb0.trans ((hW1.drewN nq).below.mono (by simp))
          rw [hi]
          exact ⟨_, c, by rw [HL.out]; rfl, by rw [HL.out]; exact hs.below hbb, hbb, Or.inl ⟨rfl, rfl, rfl⟩⟩
        · have hi : ins L (x1, x2) = L.take k ++ (x1, x2) :: L.drop k := by
            rw [hins.out, hLk.out]
            simp [h1]
          have HI := hid hi
          have h1' := hid h1
          clear hi hins h1
          have hcmp : (d1 = x1 ∧ ¬ d2 = x2) ∨ ¬ d1 = x1 := by
            by_cases h : d1 = x1
            · exact .inl ⟨h, fun e => h1'.out ⟨h, e⟩⟩
            · exact .inr h
          rcases hcmp with ⟨rfl, hne⟩ | hne
          all_goals
            go_wp2_with fail
            go_quiet (fail)
            have hW2 := hW1.drewN nq
            have hy0 := F0 nq
            have hy1 := F1 nq
            clear F0 F1 G0 G1 hW1
            generalize W1.drewN nq = W2 at hW2 hy0 hy1 ⊢
            have bW : RowKit.Below (w.heap.size + 1) (w.alloc (.cells #[.int .i64 _, .int .i64 x2] 24)) W2 := hW2.below.mono (by simp)
            have hsW2 := (hs.below hb0).below hW2.below
            have hB2 := bW.size
            simp only [World.size_alloc] at hB2
            go_wp2_with (first
              | (at_builtin; have hq := ho3; refine wpList_append_dots rfl _ _ 29 Try.underlying29 rfl (w.heap.size + 1) v4 _ _ rfl ho3 (some ⟨g, o + k * 2, none⟩) (n - k) (c - k) (L.drop k) (by first | rfl | skip) (hs4.drop k hk) (by omega) (by omega) ?_; intro v5 w5 ho5 hg5)
              | (at_builtin; have hq := ho2; refine wpList_append_dots rfl _ _ 29 Try.underlying29 rfl (w.heap.size + 1) v3 _ _ rfl (ho2.alloc _) (some ⟨w3.heap.size, 0, none⟩) 1 1 [(_, x2)] rfl (ps_one w3 (_, x2)) (by omega) (by simp; omega) ?_; intro v4 w4 ho3 hg3; have b4 := (b3.alloc (by omega) (.cells #[.int .i64 _, .int .i64 x2] 24)).grown hg3 (by simp; omega) (fun j hj => (ho2.lt j hj).1); have hB4 := b4.size; simp only [World.size_alloc] at hB4; have hs4 := (hs.below hb0).below (b4.mono (by simp)))
              | (at_builtin; refine wpList_append_dots rfl _ _ 29 Try.underlying29 rfl (w.heap.size + 1) (.slice none 0 0) 0 [] rfl (World.ownsRow_nil _ _ _ _) (some ⟨g, o, none⟩) k c (L.take k) rfl (hsW2.take k hk) (by omega) hB2 ?_; intro v3 w3 ho2 hg2; have b3 := bW.grown hg2 hB2 (fun j hj => by simp [Value.ownBlock] at hj); have hB3 := b3.size; simp only [World.size_alloc] at hB3; obtain ⟨hz0, hz1⟩ := fbox_of b3))
            go_ret
            obtain ⟨a5, c5, rfl, hp5, hf5⟩ := fput1o_fin HI.out HL.out hk ho5
            exact ⟨a5, c5, rfl, hp5, hb0.trans ((b4.grown hg5 hB4 (fun j hj => (ho3.lt j hj).1)).mono (by omega)), Or.inr (own_lowD hf5 (Nat.le_succ _))⟩
      · go_wp2_with fail
        go_quiet_grown (first | (go_at_call 24; exact hlss _ _))
        go_wp2
        go_roundw
        case rel =>
          refine ⟨k + 1, by omega, by go_num, ?_, hW.more _ _⟩
          rw [hts.out]
          intro e he
          rcases List.mem_append.1 he with he | he
          · exact htk.out e he
          · simp at he
            rw [he]
            exact HR.out
        case measure => simp [intOf]; omega
    · obtain rfl : k = n := by omega
      have hdec : decide ((k : Int) < (k : Int)) = false := by simp
      have hins := hid (insAt3 (x1, x2) L k (by rw [HL.out]; exact hk) htk.out (fun e he => by
        rw [List.getElem?_eq_none (by rw [HL.out]; exact Nat.le_refl _)] at he
        cases he))
      have hi : ins L (x1, x2) = L.take k ++ (x1, x2) :: L.drop k := by
        rw [hins.out, List.getElem?_eq_none (by rw [HL.out]; exact Nat.le_refl _)]
        simp
      have HI := hid hi
      have hcap := hs.cap
      have hmax := hs.max
      have hmax2 : c ≤ 9223372036854775807 := by unfold maxLen at hmax; omega
      clear hi hins hl hx0 hx1
      have hsh : (a = none ∧ k = 0 ∧ c = 0) ∨ ∃ ad, a = some ad := by
        cases a with
        | none => exact .inl ⟨rfl, (hs.nil rfl).1, (hs.nil rfl).2⟩
        | some ad => exact .inr ⟨ad, rfl⟩
      rcases hsh with ⟨rfl, rfl, rfl⟩ | ⟨ad, rfl⟩
      · skip
        go_wp2_with fail
        go_quiet_grown (fail)
        have hW1 := hW.more nq osq
        simp only []
        clear E0 E1
        generalize grow (wr.drewN nq) osq = W1 at hW1 ⊢
        go_wp2_with fail
        go_quiet (fail)
        have hW2 := hW1.drewN nq
        clear hW1
        generalize W1.drewN nq = W2 at hW2 ⊢
        have bW : RowKit.Below (w.heap.size + 1) (w.alloc (.cells #[.int .i64 x1, .int .i64 x2] 24)) W2 := hW2.below.mono (by simp)
        have hsW2 := (hs.below hb0).below hW2.below
        have hB2 := bW.size
        simp only [World.size_alloc] at hB2
        go_wp2_with (first
          | (at_builtin; have hq := ho3; refine wpList_append_dots rfl _ _ 29 Try.underlying29 rfl (w.heap.size + 1) v4 _ _ rfl ho3 none 0 (0 - 0) [] rfl (PS.no _ _ _ (by simp) (by have := hs.max; omega)) (by omega) (by omega) ?_; intro v5 w5 ho5 hg5)
          | (at_builtin; have hq := ho2; refine wpList_append_dots rfl _ _ 29 Try.underlying29 rfl (w.heap.size + 1) v3 _ _ rfl (ho2.alloc _) (some ⟨w3.heap.size, 0, none⟩) 1 1 [(_, x2)] rfl (ps_one w3 (_, x2)) (by omega) (by simp; omega) ?_; intro v4 w4 ho3 hg3; have b4 := (b3.alloc (by omega) (.cells #[.int .i64 _, .int .i64 x2] 24)).grown hg3 (by simp; omega) (fun j hj => (ho2.lt j hj).1); have hB4 := b4.size; simp only [World.size_alloc] at hB4)
          | (at_builtin; refine wpList_append_dots rfl _ _ 29 Try.underlying29 rfl (w.heap.size + 1) (.slice none 0 0) 0 [] rfl (World.ownsRow_nil _ _ _ _) none 0 0 (L.take 0) rfl (hsW2.take 0 hk) (by omega) hB2 ?_; intro v3 w3 ho2 hg2; have b3 := bW.grown hg2 hB2 (fun j hj => by simp [Value.ownBlock] at hj); have hB3 := b3.size; simp only [World.size_alloc] at hB3; obtain ⟨hz0, hz1⟩ := fbox_of b3))
        all_goals
          go_ret
          obtain ⟨a5, c5, rfl, hp5, hf5⟩ := fput1o_fin HI.out HL.out hk (by
            rw [Nat.sub_self, List.drop_eq_nil_of_le (by rw [HL.out]; exact Nat.le_refl _)]
            simpa [flat] using ho5)
          exact ⟨a5, c5, rfl, hp5, hb0.trans ((b4.grown hg5 hB4 (fun j hj => (ho3.lt j hj).1)).mono (by omega)), Or.inr (own_lowD hf5 (Nat.le_succ _))⟩
      · by_cases hck : c = k
        · subst hck
          go_wp2_with fail
          go_quiet_grown (fail)
          have hW1 := hW.more nq osq
          simp only []
          clear E0 E1
          generalize grow (wr.drewN nq) osq = W1 at hW1 ⊢
          go_wp2_with fail
          go_quiet (fail)
          have hW2 := hW1.drewN nq
          clear hW1
          generalize W1.drewN nq = W2 at hW2 ⊢
          have bW : RowKit.Below (w.heap.size + 1) (w.alloc (.cells #[.int .i64 x1, .int .i64 x2] 24)) W2 := hW2.below.mono (by simp)
          have hsW2 := (hs.below hb0).below hW2.below
          have hB2 := bW.size
          simp only [World.size_alloc] at hB2
          go_wp2_with (first
            | (at_builtin; have hq := ho3; refine wpList_append_dots rfl _ _ 29 Try.underlying29 rfl (w.heap.size + 1) v4 _ _ rfl ho3 _ 0 _ [] rfl (PS.no _ _ _ (fun e => by first | rfl | (cases e; done)) (by first | exact Nat.zero_le _ | (have := hs.max; omega))) (by omega) (by omega) ?_; intro v5 w5 ho5 hg5)
            | (at_builtin; have hq := ho2; refine wpList_append_dots rfl _ _ 29 Try.underlying29 rfl (w.heap.size + 1) v3 _ _ rfl (ho2.alloc _) (some ⟨w3.heap.size, 0, none⟩) 1 1 [(_, x2)] rfl (ps_one w3 (_, x2)) (by omega) (by simp; omega) ?_; intro v4 w4 ho3 hg3; have b4 := (b3.alloc (by omega) (.cells #[.int .i64 _, .int .i64 x2] 24)).grown hg3 (by simp; omega) (fun j hj => (ho2.lt j hj).1); have hB4 := b4.size; simp only [World.size_alloc] at hB4)
            | (at_builtin; refine wpList_append_dots rfl _ _ 29 Try.underlying29 rfl (w.heap.size + 1) (.slice none 0 0) 0 [] rfl (World.ownsRow_nil _ _ _ _) (some ad) c c (L.take c) rfl (hsW2.take c hk) (by omega) hB2 ?_; intro v3 w3 ho2 hg2; have b3 := bW.grown hg2 hB2 (fun j hj => by simp [Value.ownBlock] at hj); have hB3 := b3.size; simp only [World.size_alloc] at hB3; obtain ⟨hz0, hz1⟩ := fbox_of b3))
          all_goals
            go_ret
            obtain ⟨a5, c5, rfl, hp5, hf5⟩ := fput1o_fin HI.out HL.out hk (by
              rw [Nat.sub_self, List.drop_eq_nil_of_le (by rw [HL.out]; exact Nat.le_refl _)]
              simpa [flat] using ho5)
            exact ⟨a5, c5, rfl, hp5, hb0.trans ((b4.grown hg5 hB4 (fun j hj => (ho3.lt j hj).1)).mono (by omega)), Or.inr (own_lowD hf5 (Nat.le_succ _))⟩
        · skip
          go_wp2_with fail
          go_quiet_grown (fail)
          have hW1 := hW.more nq osq
          simp only []
          clear E0 E1
          generalize grow (wr.drewN nq) osq = W1 at hW1 ⊢
          go_wp2_with fail
          go_quiet (fail)
          have hW2 := hW1.drewN nq
          clear hW1
          generalize W1.drewN nq = W2 at hW2 ⊢
          have bW : RowKit.Below (w.heap.size + 1) (w.alloc (.cells #[.int .i64 x1, .int .i64 x2] 24)) W2 := hW2.below.mono (by simp)
          have hsW2 := (hs.below hb0).below hW2.below
          have hB2 := bW.size
          simp only [World.size_alloc] at hB2
          go_wp2_with (first
            | (at_builtin; have hq := ho3; refine wpList_append_dots rfl _ _ 29 Try.underlying29 rfl (w.heap.size + 1) v4 _ _ rfl ho3 _ 0 _ [] rfl (PS.no _ _ _ (fun e => by first | rfl | (cases e; done)) (by first | exact Nat.zero_le _ | (have := hs.max; omega))) (by omega) (by omega) ?_; intro v5 w5 ho5 hg5)
            | (at_builtin; have hq := ho2; refine wpList_append_dots rfl _ _ 29 Try.underlying29 rfl (w.heap.size + 1) v3 _ _ rfl (ho2.alloc _) (some ⟨w3.heap.size, 0, none⟩) 1 1 [(_, x2)] rfl (ps_one w3 (_, x2)) (by omega) (by simp; omega) ?_; intro v4 w4 ho3 hg3; have b4 := (b3.alloc (by omega) (.cells #[.int .i64 _, .int .i64 x2] 24)).grown hg3 (by simp; omega) (fun j hj => (ho2.lt j hj).1); have hB4 := b4.size; simp only [World.size_alloc] at hB4)
            | (at_builtin; refine wpList_append_dots rfl _ _ 29 Try.underlying29 rfl (w.heap.size + 1) (.slice none 0 0) 0 [] rfl (World.ownsRow_nil _ _ _ _) (some ad) k c (L.take k) rfl (hsW2.take k hk) (by omega) hB2 ?_; intro v3 w3 ho2 hg2; have b3 := bW.grown hg2 hB2 (fun j hj => by simp [Value.ownBlock] at hj); have hB3 := b3.size; simp only [World.size_alloc] at hB3; obtain ⟨hz0, hz1⟩ := fbox_of b3))
          all_goals
            go_ret
            obtain ⟨a5, c5, rfl, hp5, hf5⟩ := fput1o_fin HI.out HL.out hk (by
              rw [Nat.sub_self, List.drop_eq_nil_of_le (by rw [HL.out]; exact Nat.le_refl _)]
              simpa [flat] using ho5)
            exact ⟨a5, c5, rfl, hp5, hb0.trans ((b4.grown hg5 hB4 (fun j hj => (ho3.lt j hj).1)).mono (by omega)), Or.inr (own_lowD hf5 (Nat.le_succ _))⟩
end

section
set_option linter.unusedVariables false
open Go.RowKit
open Go.Sort (grow)

set_option maxRecDepth 100000 in
set_option maxHeartbeats 2000000 in
theorem trblkso_any (la ka : Option Addr) (ln lc kn kc : Nat) (a : Option Addr) (n c : Nat) (T : List Sp) (w : World) (h : SpR w a n c T) (hn : n ≤ 100000) :
    Calls Try.prog 32 #[.agg #[.slice la ln lc, .slice a n c, .slice ka kn kc]] w fun e w' => ∃ v, e = .returned v ∧ w'.ownsRow w.heap.size 24 2 v (rise (T.map Sp.b)).length (flat (rise (T.map Sp.b))) ∧ Below w.heap.size w w' := by
  have mixed := mixed
  obtain ⟨W0, hW0⟩ : ∃ W0, W0 = w.alloc (.cells #[.slice la ln lc, .slice a n c, .slice ka kn kc] 31) := ⟨_, rfl⟩
  have hB0 : Below w.heap.size w W0 := by rw [hW0]; exact (Below.refl _ w).alloc (Nat.le_refl _) _
  have hz0 : w.heap.size < W0.heap.size := by rw [hW0]; simp
  have hb1 : W0.heap[w.heap.size]? = some (.cells #[.slice la ln lc, .slice a n c, .slice ka kn kc] 31 (0, 0)) := by rw [hW0]; exact World.alloc_heap_new w _
  have hcap := h.cap
  have hmax := h.max
  unfold maxLen at hmax
  have HL := hid h.len
  have HS := hid h
  have HB0 := hid hB0
  have Hb1 := hid hb1
  have Hz0 := hid hz0
  clear hB0 hb1 hz0 h
  go_enter Try.func32, Try.ntmps32
  go_wp2
  rw [← hW0]
  clear hW0
  go_loopw [3, 4] (fun u i wr => ∃ (k : Nat) (b : Option Addr) (m d : Nat), k ≤ n ∧ i = .int .i64 k ∧ u = .slice b m d ∧ Hid (m = (rise ((T.map Sp.b).take k)).length ∧ PS wr b m d (rise ((T.map Sp.b).take k)) ∧ wr.ownsRow w.heap.size 24 2 (.slice b m d) m (flat (rise ((T.map Sp.b).take k)))) ∧ m ≤ 100000 ∧ Hid (Below W0.heap.size W0 wr)) (fun _ i _ => n - (intOf i).toNat)
  case atStart => exact ⟨0, none, 0, 0, by omega, rfl, rfl, hid ⟨by simp [rise], by simpa [rise] using PS.none W0, World.ownsRow_nil _ _ _ _⟩, by omega, hid (Below.refl _ _)⟩
  case round =>
    obtain ⟨k, b, m, d, hk, rfl, rfl, HP, hm, HB⟩ := hrel
    have hBw : Below w.heap.size w wr := HB0.out.trans (HB.out.mono HB0.out.size)
    have e1 : wr.cell? ⟨w.heap.size, 1, none⟩ = some (.slice a n c) := by
      rw [HB.out.cell (p := ⟨w.heap.size, 1, none⟩) Hz0.out]
      simp [World.cell?, Hb1.out]
    by_cases hlt : k < n
    · have hl := HL.out
      obtain ⟨g, o, rfl, hat⟩ := (HS.out.below hBw).at hlt
      have hkT : k < T.length := by rw [hl]; exact hlt
      have hts : Hid ((T.map Sp.b).take (k + 1) = (T.map Sp.b).take k ++ [(T[k]'hkT).b]) := hid (by rw [List.take_succ_eq_append_getElem (by rw [List.length_map]; exact hkT), List.getElem_map])
      generalize (T[k]'hkT) = x at hat hts
      obtain ⟨⟨x1, x2⟩, ⟨p1, p2⟩, ky⟩ := x
      have hc0 := hat.c0
      have hc1 := hat.c1
      have hput := fput1o_any b m d (rise ((T.map Sp.b).take k)) (x1, x2) wr HP.out.2.1 (by omega)
      rw [← rise_snoc, ← hts.out] at hput
      have hle : (rise ((T.map Sp.b).take (k + 1))).length ≤ 100000 := by
        refine Nat.le_trans (rise_length _) ?_
        rw [List.length_take, List.length_map]
        omega
      obtain ⟨R', hR'⟩ : ∃ R', R' = rise ((T.map Sp.b).take (k + 1)) := ⟨_, rfl⟩
      rw [← hR'] at hput hle
      have HP2 := hput.mono (R' := fun e w' => ∃ a' m' c', e = .returned (.slice a' m' c') ∧ m' ≤ 100000 ∧ Hid (m' = R'.length ∧ PS w' a' m' c' R' ∧ w'.ownsRow w.heap.size 24 2 (.slice a' m' c') m' (flat R')) ∧ Hid (Below W0.heap.size W0 w')) (fun e w' h => by
        obtain ⟨a', c', e1, h1, h2, h3⟩ := h
        refine ⟨a', _, c', e1, hle, hid ⟨rfl, h1, ?_⟩, hid (HB.out.trans (h2.mono HB.out.size))⟩
        rcases h3 with ⟨q1, q2, q3⟩ | h3
        · subst q1 q2
          have ho := HP.out.2.2
          rw [q3, ← HP.out.1]
          refine ⟨ho.1, ?_⟩
          rcases ho.2 with h' | ⟨g', cap, cur, e, hb', hg, r⟩
          · exact Or.inl h'
          · exact Or.inr ⟨g', cap, cur, e, hb', (h2.block g' (Array.getElem?_eq_some_iff.1 hg).1).trans hg, r⟩
        · exact own_lowD h3 hBw.size)
      have HR := hid hR'
      clear hat hl hput HP HB hR' hle hBw
      have hk1 : (k : Int) < (n : Int) := by omega
      go_wp2_with (go_at_call 42; refine HP2.mono ?_; rintro e W2 ⟨a', m', c', rfl, hm', HQ, HB2⟩)
      go_roundw
      case rel => exact ⟨k + 1, a', m', c', by omega, by go_num, rfl, by rw [← HR.out]; exact HQ, hm', HB2⟩
      case measure => simp [intOf]; omega
    · obtain rfl : k = n := by omega
      go_wp2
      go_ret
      have h1 := HP.out
      rw [List.take_of_length_le (by rw [List.length_map, HL.out]; exact Nat.le_refl _)] at h1
      obtain ⟨rfl, h2, h3⟩ := h1
      exact ⟨_, rfl, h3, hBw⟩
end
end Go.Proofs.Ytplcohjpchfkkaa
