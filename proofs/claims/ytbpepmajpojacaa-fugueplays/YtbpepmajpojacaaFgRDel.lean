/- The reference: Delete. -/
import Derived.Test.YtbpepmajpojacaaFgRRow
set_option linter.unusedVariables false
set_option linter.unusedSimpArgs false
namespace Go.Proofs.Ytbpepmajpojacaa
open Go.RowKit

theorem flatC_set : ∀ (T : List Cr) (i : Nat) (x : Cr), T[i]? = some x → (flatC T).set (i * 7 + 6) (.bool false) = flatC (T.set i { x with seen := false })
  | [], i, x, h => by simp at h
  | c :: r, 0, x, h => by
    simp only [List.getElem?_cons_zero, Option.some.injEq] at h
    subst h
    rfl
  | c :: r, i + 1, x, h => by
    have ih := flatC_set r i x (by simpa using h)
    unfold flatC at ih ⊢
    rw [List.set_cons_succ, List.flatMap_cons, List.flatMap_cons, ← ih, List.set_append_right _ _ (by rw [rc_len]; omega), rc_len, show (i + 1) * 7 + 6 - 7 = i * 7 + 6 by omega]

theorem hide_set {T : List Cr} (hT : (T.map Cr.id).Nodup) {i : Nat} {x : Cr} (hx : T[i]? = some x) : T.set i { x with seen := false } = hide T x.id := by
  have hi := (List.getElem?_eq_some_iff.1 hx).1
  have hxe := (List.getElem?_eq_some_iff.1 hx).2
  refine List.ext_getElem (by simp [hide]) (fun j h1 h2 => ?_)
  have hj : j < T.length := by simpa using h1
  rw [List.getElem_set]
  simp only [hide, List.getElem_map]
  by_cases e : i = j
  · subst e
    rw [if_pos rfl, hxe, if_pos rfl]
  · rw [if_neg e, if_neg]
    intro he
    have he := he.trans (congrArg Cr.id hxe.symm)
    have hne : ∀ (p q : Nat) (hp : p < T.length) (hq : q < T.length), p < q → (T[p]).id ≠ (T[q]).id := fun p q hp hq hpq => by
      have := List.pairwise_iff_getElem.1 hT p q (by simpa using hp) (by simpa using hq) hpq
      simpa using this
    rcases Nat.lt_or_gt_of_ne e with h | h
    · exact hne i j hi hj h he.symm
    · exact hne j i hj hi h he

theorem atI_nd {T : List Cr} (hT : (T.map Cr.id).Nodup) {x : Cr} (hx : x ∈ T) : ∃ i : Nat, T[i]? = some x ∧ atI T x.id = (i : Int) := by
  obtain ⟨i, hi⟩ := List.mem_iff_getElem?.1 hx
  refine ⟨i, hi, atI_at hi rfl (fun c hc e => ?_)⟩
  obtain ⟨j, hj, rfl⟩ := List.mem_take_iff_getElem.1 hc
  have hil := (List.getElem?_eq_some_iff.1 hi).1
  have h1 : (T.map Cr.id)[j]'(by simp; omega) = (T.map Cr.id)[i]'(by simp; omega) := by
    rw [List.getElem_map, List.getElem_map, (List.getElem?_eq_some_iff.1 hi).2]
    exact e
  exact List.pairwise_iff_getElem.1 hT j i (by simp; omega) (by simp; omega) (by omega) h1

theorem ne_far {p q g : Nat} (h : q ≤ g) (k : p < q) : ¬ (g = p) := by omega

/-- A row that was made, written out. -/
theorem own_out {w : World} {base n m : Nat} {v : Value} {T U : List Cr} (h : w.ownsRow base 75 7 v m (flatC U)) (he : U = T) (hm : m = n) (hp : 0 < n) : ∃ g cap, v = .slice (some ⟨g, 0, none⟩) n cap ∧ base ≤ g ∧ g < w.heap.size ∧ n ≤ cap ∧ cap ≤ 9223372036854775807 ∧ (∀ j, w.frozen? ⟨g, j, none⟩ = false) ∧ Hid (w.ownsRow base 75 7 (.slice (some ⟨g, 0, none⟩) n cap) n (flatC T)) := by
  subst he
  subst hm
  have hh := h
  rcases h.2 with ⟨rfl, h0⟩ | ⟨g, cap, cur, rfl, hB, hg, hn, hc, hcs, ht⟩
  · omega
  · exact ⟨g, cap, rfl, hB, (Array.getElem?_eq_some_iff.1 hg).1, hn, by unfold maxLen at hc; omega, fun j => by simp [World.frozen?, hg], hid hh⟩

/-- The row's block is one of characters. -/
def CT (w : World) (a : Option Addr) : Prop := ∀ ad, a = some ad → ∃ cs, w.heap[ad.block]? = some (.cells cs 75 (0, 0))

theorem own_ct {w : World} {base n m c : Nat} {a : Option Addr} {xs : List Value} (h : w.ownsRow base 75 7 (.slice a m c) n xs) : CT w a := by
  rcases h.2 with ⟨e, _⟩ | ⟨g, cap, cur, e, _, hg, _⟩
  · cases e; intro ad h; cases h
  · cases e; intro ad h; cases h; exact ⟨_, hg⟩

set_option maxRecDepth 100000 in
set_option maxHeartbeats 4000000 in
theorem rdelete_any (a : Option Addr) (n c : Nat) (T : List Cr) (hT : (T.map Cr.id).Nodup) (hn : n ≤ 100000) (d : Dt) (w : World) (h : RT w a n c T) :
    Calls Try.prog 11 #[.agg #[.slice a n c], dv d] w fun e w' => ∃ a' n' c', e = .returned (.tuple #[.agg #[.slice a' n' c'], .int .i64 (delP T d).1]) ∧ RT w' a' n' c' (delP T d).2 ∧ (a' = a ∨ CT w' a') ∧ Below w.heap.size w w' := by
  obtain ⟨d1, d2⟩ := d
  have mixed := mixed
  obtain ⟨W0, hW0⟩ : ∃ W0, W0 = ((w.alloc (.cells #[.slice a n c] 30)).alloc (.cells #[.int .i64 d1, .int .i64 d2] 24)).alloc (.cells #[.slice none 0 0] 30) := ⟨_, rfl⟩
  have hB0 : Below w.heap.size w W0 := by rw [hW0]; exact (((Below.refl _ w).alloc (Nat.le_refl _) _).alloc (by simp) _).alloc (by simp; omega) _
  have hs0 : W0.heap.size = w.heap.size + 3 := by rw [hW0]; simp
  have hb1 : W0.heap[w.heap.size]? = some (.cells #[.slice a n c] 30 (0, 0)) := by
    rw [hW0]
    exact (Below.heap_alloc _ _ _ (by simp; omega)).trans ((Below.heap_alloc _ _ _ (by simp)).trans (World.alloc_heap_new w _))
  have hb2 : W0.heap[w.heap.size + 1]? = some (.cells #[.int .i64 d1, .int .i64 d2] 24 (0, 0)) := by
    rw [hW0]
    have := World.alloc_heap_new (w.alloc (.cells #[.slice a n c] 30)) (.cells #[.int .i64 d1, .int .i64 d2] 24)
    rw [World.size_alloc] at this
    exact (Below.heap_alloc _ _ _ (by simp)).trans this
  have hb3 : W0.heap[w.heap.size + 1 + 1]? = some (.cells #[.slice none 0 0] 30 (0, 0)) := by
    rw [hW0]
    have := World.alloc_heap_new ((w.alloc (.cells #[.slice a n c] 30)).alloc (.cells #[.int .i64 d1, .int .i64 d2] 24)) (.cells #[.slice none 0 0] 30)
    rw [World.size_alloc, World.size_alloc] at this
    exact this
  have hat := rat_any a n c T (d1, d2) W0 (h.below hB0) (by omega)
  have hcall : Calls Try.prog 30 #[.agg #[.slice a n c], .agg #[.int .i64 d1, .int .i64 d2]] W0 fun e w1 => e = .returned (.int .i64 (atI T (d1, d2))) ∧ w1.cell? ⟨w.heap.size, 0, none⟩ = some (.slice a n c) ∧ w1.cell? ⟨w.heap.size + 1 + 1, 0, none⟩ = some (.slice none 0 0) ∧ w1.frozen? ⟨w.heap.size + 1 + 1, 0, none⟩ = false ∧ w.heap.size + 1 + 1 < w1.heap.size ∧ Hid (Below w.heap.size w w1 ∧ w1.heap[w.heap.size + 1 + 1]? = some (.cells #[.slice none 0 0] 30 (0, 0))) := hat.mono (fun e w1 ⟨he, hb⟩ => by
    have g1 := (hb.block (w.heap.size) (by omega)).trans hb1
    have g3 := (hb.block (w.heap.size + 1 + 1) (by omega)).trans hb3
    exact ⟨he, by simp [World.cell?, g1], by simp [World.cell?, g3], by simp [World.frozen?, g3], (Array.getElem?_eq_some_iff.1 g3).1, hid ⟨hB0.trans (hb.mono hB0.size), g3⟩⟩)
  have c1 : W0.cell? ⟨w.heap.size, 0, none⟩ = some (.slice a n c) := by simp [World.cell?, hb1]
  have c2 : W0.cell? ⟨w.heap.size + 1, 0, none⟩ = some (.int .i64 d1) := by simp [World.cell?, hb2]
  have c3 : W0.cell? ⟨w.heap.size + 1, 1, none⟩ = some (.int .i64 d2) := by simp [World.cell?, hb2]
  have HW := hid hW0
  have Hh := hid h
  clear hat hb1 hb2 hb3 hs0 hW0 h
  by_cases hex : ∃ x ∈ T, x.id = (d1, d2)
  · obtain ⟨x, hxT, hxid⟩ := hex
    obtain ⟨i, hi, hati⟩ := atI_nd hT hxT
    have hil := (List.getElem?_eq_some_iff.1 hi).1
    have hin : i < n := by rw [← Hh.out.len]; exact hil
    rw [hxid] at hati
    have hdp : Hid (delP T (d1, d2) = (0, hide T (d1, d2))) := hid (by unfold delP; rw [if_pos ⟨x, hxT, hxid⟩])
    have hset : Hid ((flatC T).set (i * 7 + 6) (.bool false) = flatC (hide T (d1, d2))) := hid (by rw [flatC_set T i x hi, hide_set hT hi, hxid])
    have hc6 : Hid ((flatC T)[i * 7 + 6]? = some (.bool x.seen)) := hid (by
      rw [flatC_get T i hil 6 (by omega), (List.getElem?_eq_some_iff.1 hi).2]
      rfl)
    rw [hati] at hcall
    rw [hdp.out]
    have hin' : (i : Int) < (n : Int) := by omega
    have hi0 : (0 : Int) ≤ (i : Int) := by omega
    have hi1 : ¬ ((i : Int) < 0) := by omega
    have hend : Hid (∀ (w1 w2 : World) (g cap : Nat), Below w.heap.size w w1 → w1.grownBy w2 none → w1.heap.size ≤ g → w.heap.size + 1 + 1 < w1.heap.size → w2.ownsRow w1.heap.size 75 7 (.slice (some ⟨g, 0, none⟩) n cap) n (flatC T) →
        RT ((w2.setCell ⟨g, i * 7 + 6, none⟩ (.bool false)).setCell ⟨w.heap.size + 1 + 1, 0, none⟩ (.slice (some ⟨g, 0, none⟩) n cap)) (some ⟨g, 0, none⟩) n cap (hide T (d1, d2)) ∧ CT ((w2.setCell ⟨g, i * 7 + 6, none⟩ (.bool false)).setCell ⟨w.heap.size + 1 + 1, 0, none⟩ (.slice (some ⟨g, 0, none⟩) n cap)) (some ⟨g, 0, none⟩) ∧ Below w.heap.size w ((w2.setCell ⟨g, i * 7 + 6, none⟩ (.bool false)).setCell ⟨w.heap.size + 1 + 1, 0, none⟩ (.slice (some ⟨g, 0, none⟩) n cap))) := hid (fun w1 w2 g cap hb hg hgl hl ho => by
      have h1 := (ho.stored (i * 7 + 6) (.bool false)).1
      rw [hset.out] at h1
      have h2 := World.ownsRow.kept h1 (grownBy_setCell' (w2.setCell ⟨g, i * 7 + 6, none⟩ (.bool false)) (w.heap.size + 1 + 1) (.slice (some ⟨g, 0, none⟩) n cap)) (Or.inr (by simp [Value.ownBlock]; omega))
      obtain ⟨a', c', e, hr⟩ := own_rt h2
      cases e
      have hb2 : Below w.heap.size w w2 := hb.grown hg hb.size (fun j hj => by cases hj)
      exact ⟨hr, own_ct h2, (hb2.setCell (p := ⟨g, i * 7 + 6, none⟩) (Nat.le_trans hb.size hgl) _).setCell (p := ⟨w.heap.size + 1 + 1, 0, none⟩) (by show w.heap.size ≤ w.heap.size + 1 + 1; omega) _⟩)
    have HA : Hid (∀ (w1 w2 : World), w1.grownBy w2 none → w.heap.size + 1 + 1 < w1.heap.size → w1.cell? ⟨w.heap.size + 1 + 1, 0, none⟩ = some (.slice none 0 0) → w1.frozen? ⟨w.heap.size + 1 + 1, 0, none⟩ = false → w2.cell? ⟨w.heap.size + 1 + 1, 0, none⟩ = some (.slice none 0 0) ∧ w2.frozen? ⟨w.heap.size + 1 + 1, 0, none⟩ = false ∧ w.heap.size + 1 + 1 < w2.heap.size) := hid (fun w1 w2 hg hl h1 h2 => by
      have hb := hg.block (w.heap.size + 1 + 1) hl (by simp)
      exact ⟨(World.cell?_of_block (a := ⟨w.heap.size + 1 + 1, 0, none⟩) hb).trans h1, (World.frozen?_of_block (a := ⟨w.heap.size + 1 + 1, 0, none⟩) hb).trans h2, Nat.lt_of_lt_of_le hl hg.size⟩)
    have HB : Hid (∀ (w1 w2 : World) (g cap : Nat), w2.ownsRow w1.heap.size 75 7 (.slice (some ⟨g, 0, none⟩) n cap) n (flatC T) → w2.cell? ⟨g, i * 7 + 6, none⟩ = some (.bool x.seen)) := hid (fun w1 w2 g cap ho => by
      have := ho.cells (g := g) rfl (i * 7 + 6) _ hc6.out
      simpa [Addr.add] using this)
    clear hxT hxid hi hil hati
    go_enter Try.func11, Try.ntmps11
    go_wp2_with (first
      | (go_at_call 30; rw [← HW.out]; refine hcall.mono ?_; rintro e w1 ⟨rfl, k0, k1, k2, k4, hbH⟩)
      | (at_builtin; refine wpList_append_chars rfl _ _ 28 Try.underlying28 rfl w1.heap.size (.slice none 0 0) 0 [] rfl (World.ownsRow_nil _ _ _ _) a n c T rfl (Hh.out.below hbH.out.1) (by omega) (Nat.le_refl _) ?_; intro v2 w2 ho2 hg2; obtain ⟨g, cap, rfl, hgl, hgs, hnc, hcm, hfr, Ho⟩ := own_out (n := n) ho2 (List.nil_append T) (Nat.zero_add n) (by omega); obtain ⟨k5, k6, k7⟩ := HA.out w1 w2 hg2 k4 k1 k2; have k8 := HB.out w1 w2 g cap Ho.out; have k9 := hfr (i * 7 + 6); have hgne : ¬ (g = w.heap.size + 1 + 1) := ne_far hgl k4; have hgne2 : ¬ (w.heap.size + 1 + 1 = g) := fun e => hgne e.symm; have Hend := hid (hend.out w1 w2 g cap hbH.out.1 hg2 hgl k4 Ho.out); have HF := hid hfr; clear k0 k1 k2 hg2 hfr ho2))
    have q0 : ((w2.setCell ⟨g, i * 7 + 6, none⟩ (.bool false)).setCell ⟨w.heap.size + 1 + 1, 0, none⟩ (.slice (some ⟨g, 0, none⟩) n cap)).cell? ⟨w.heap.size + 1 + 1, 0, none⟩ = some (.slice (some ⟨g, 0, none⟩) n cap) := by go_simp
    exact bodyPost_ret (v := .tuple #[.agg #[.slice (some ⟨g, 0, none⟩) n cap], .int .i64 0]) (by simp [results, Try.results11, go_sem, q0]) rfl ⟨_, n, cap, rfl, Hend.out.1, Or.inr Hend.out.2.1, Hend.out.2.2⟩
  · have hne : atI T (d1, d2) = -1 := atI_no (fun x hx e => hex ⟨x, hx, e⟩)
    have hdp : Hid (delP T (d1, d2) = (41, T)) := hid (by unfold delP; rw [if_neg hex])
    rw [hne] at hcall
    rw [hdp.out]
    clear hex hne
    go_enter Try.func11, Try.ntmps11
    go_wp2_with (go_at_call 30; rw [← HW.out]; refine hcall.mono ?_; rintro e w1 ⟨rfl, k0, k1, k2, k4, hbH⟩)
    have q0 : (w1.setCell ⟨w.heap.size + 1 + 1, 0, none⟩ (.slice a n c)).cell? ⟨w.heap.size + 1 + 1, 0, none⟩ = some (.slice a n c) := by go_simp
    have hbf : Below w.heap.size w (w1.setCell ⟨w.heap.size + 1 + 1, 0, none⟩ (.slice a n c)) := hbH.out.1.setCell (p := ⟨w.heap.size + 1 + 1, 0, none⟩) (by show w.heap.size ≤ w.heap.size + 1 + 1; omega) _
    exact bodyPost_ret (v := .tuple #[.agg #[.slice a n c], .int .i64 41]) (by simp [results, Try.results11, go_sem, q0]) rfl ⟨a, n, c, rfl, Hh.out.below hbf, Or.inl rfl, hbf⟩
end Go.Proofs.Ytbpepmajpojacaa
