/- put: a move is put into the log (its first steps). -/
import Derived.Test.YtplcohjpchfkkaaTrPutF
import Derived.Test.YtplcohjpchfkkaaTrInsE
namespace Go.Proofs.Ytplcohjpchfkkaa
section
set_option linter.unusedVariables false
open Go.RowKit

theorem TR.log_at {w : World} {t : Nat} {l : List Mv} {k : Nat} {gs : List Nat} {S : List Sp} {lg fd pl kd : Value} {fl : List (Mv × Nat)} {B A : Nat → Prop} (h : TR w t l k gs S lg fd pl kd fl B A) {i : Nat} (hi : i < l.length) : ∃ rb ro c g m, lg = .slice (some ⟨rb, ro, none⟩) l.length c ∧ w.cell? ⟨rb, ro + i, none⟩ = some (.pointer (some ⟨g, 0, none⟩)) ∧ gs[i]? = some g ∧ l[i]? = some m := by
  obtain ⟨a, c, e, hpp⟩ := own_pp h.row
  have hig : i < gs.length := by rw [h.len]; exact hi
  obtain ⟨rb, ro, e1, _, e2⟩ := hpp.at_ (by omega)
  subst e1
  exact ⟨rb, ro, c, gs[i], l[i], by rw [e, h.len], e2 i hig, List.getElem?_eq_getElem hig, List.getElem?_eq_getElem hi⟩

/-- The log is searched. -/
theorem TR.search {w : World} {t : Nat} {l : List Mv} {k : Nat} {gs : List Nat} {S : List Sp} {lg fd pl kd : Value} {fl : List (Mv × Nat)} {B A : Nat → Prop} (h : TR w t l k gs S lg fd pl kd fl B A) {ge : Nat} {m : Mv} {tk : Bool} {q : Pl} (hE : EN w ge m tk q) (hf : ∀ x ∈ l, x.id ≠ m.id) :
    Calls Try.prog 53 #[lg, pvF ge, .func (.func 54) #[] #[]] w fun e w' => e = .returned (.tuple #[.int .i64 (rkL mvl l m : Nat), .bool false]) ∧ Below w.heap.size w w' := by
  have ent : ∀ (g : Nat) (x : Mv) (tk : Bool) (q : Pl), EN w g x tk q → EnT w g x := fun g x tk q he => by
    unfold EN at he
    exact ⟨by simp [World.cell?, he], by simp [World.cell?, he], by simp [World.cell?, he]⟩
  obtain ⟨a, c, e, hpp⟩ := own_pp h.row
  rw [e]
  have hs := h.small
  refine trsearch_any a gs.length c gs l ge m w hpp ⟨h.len, fun i g x h1 h2 => ?_⟩ (ent ge m tk q hE) (by rw [h.len]; omega) h.log.srt hf
  obtain ⟨tk', o, h3, _⟩ := h.en i g x h1 h2
  exact ent _ _ _ _ h3

/-- One move is undone. -/
theorem TR.undone {w : World} {t : Nat} {l : List Mv} {k : Nat} {gs : List Nat} {S : List Sp} {lg fd pl kd : Value} {fl : List (Mv × Nat)} {B A : Nat → Prop} (h : TR w t l (k + 1) gs S lg fd pl kd fl B A) {g : Nat} {m : Mv} (hg : gs[k]? = some g) (hm : l[k]? = some m) :
    Calls Try.prog 55 #[.pointer (some ⟨t, 3, none⟩), .pointer (some ⟨g, 0, none⟩)] (w.setCell ⟨t, 2, none⟩ (.int .i64 (k : Int))).drew fun e w' => e = .returned (.tuple #[]) ∧ ∃ S' pl' kd' B' A', TR w' t l k gs S' lg fd pl' kd' fl B' A' ∧ KA w w' A A' := by
  obtain ⟨hT1, g1⟩ := h.told
  obtain ⟨w1, hw1⟩ : ∃ w1, w1 = (w.setCell ⟨t, 2, none⟩ (.int .i64 (k : Int))).drew := ⟨_, rfl⟩
  have g1' : w.grownBy w1 (some t) := by rw [hw1]; exact g1.trans (grownBy_drew1 _ _)
  have hT1' : TB w1 t lg fd (.int .i64 (k : Int)) pl kd := by rw [hw1]; exact hT1
  have hzz : w1.heap.size = w.heap.size := by rw [hw1]; simp [World.drew, World.setCell]
  rw [← hw1]
  obtain ⟨tk, o, hE, hx⟩ := h.en k g m hg hm
  obtain ⟨hx1, hx2⟩ := hx (by omega)
  obtain ⟨r, hr⟩ := h.tk
  obtain ⟨s1, s2, s3⟩ := h.spots
  have hml := List.mem_of_getElem? hm
  have hgl := List.mem_of_getElem? hg
  have hgt : g ≠ t := fun e => by
    have h1 := h.tb
    unfold TB at h1
    unfold EN at hE
    rw [← e, hE] at h1
    simp at h1
  have hE1 : EN w1 g m tk (Option.getD o pl0) := (g1'.block g (h.as_ g (h.ag g hgl)) (by simpa using hgt)).trans hE
  have hS1 : SB w1 pl kd S B := h.sb.kept (fun j hj => g1'.block j (h.bs j hj) (by intro e; exact h.bt (Option.some.inj e ▸ hj)))
  refine (undo_any t g lg fd (.int .i64 (k : Int)) pl kd S B m tk o w1 hr.nd hT1' hS1 hE1 h.bt (h.bg g hgl) (fun j hj => by rw [hzz]; exact h.bs j hj) s1 s2 (h.dw m hml).2.1 (fun q hq => h.was k m.block q (by rw [← hx2]; exact hq)) (by omega)).mono ?_
  rintro e w' ⟨rfl, pl', kd', hT', hS', hE', hKB⟩
  have hz : w.heap.size ≤ w'.heap.size := by have := hKB.size; omega
  have hkp : ∀ j, j < w.heap.size → ¬ B j → j ≠ t → w'.heap[j]? = w.heap[j]? := fun j hj hB hjt => (hKB.keep j (by omega) hB hjt).trans (g1'.block j hj (by simpa using hjt))
  have hS'' : SB w' pl' kd' (undS S m.block tk o) (Bn w w' B) := hS'.mono (fun j hj => hj.imp id (fun x => ⟨by have := x.1; omega, x.2⟩))
  refine ⟨rfl, _, pl', kd', _, _, h.prev hg hm hx1 hx2 hT' hS'' hE' hz hkp, hz, fun j hj hA => hkp j hj (fun e => hA (h.ab j e)) (fun e => hA (e ▸ h.at_)), fun j hj => ?_, (Sm.g g1').trans hKB.sm⟩
  rcases hj with hj | hj
  · exact Or.inl hj
  · exact Or.inr hj.1
end

section
set_option linter.unusedVariables false
open Go.RowKit

theorem prow_ins (l : List Mv) (gs : List Nat) (m : Mv) (ge : Nat) : (prow gs).take (rkL mvl l m) ++ [pvF ge] ++ (prow gs).drop (rkL mvl l m) = prow (insG l gs m ge) := by
  unfold prow insG
  simp [List.map_take, List.map_drop]

theorem TR.inserted {w : World} {t : Nat} {l : List Mv} {k : Nat} {gs : List Nat} {S : List Sp} {lg fd pl kd : Value} {fl : List (Mv × Nat)} {B A : Nat → Prop} (h : TR w t l k gs S lg fd pl kd fl B A) {ge : Nat} {m : Mv} {tk : Bool} {q : Pl} (hk : k ≤ rkL mvl l m) (hE : EN w ge m tk (Option.getD (some q) pl0)) (hgA : ¬ A ge)
    (hf : ∀ x ∈ l, x.id ≠ m.id) (hb : m.block ≠ (0, 0) ∧ ¬ isEnd m.block) (hi : m.id ≠ (0, 0) ∧ ¬ isEnd m.id) (hd : Dw m.id ∧ Dw m.block ∧ Dw m.parent) (hs : l.length + 1 ≤ 1000) :
    Calls Try.prog 56 #[lg, .int .i64 (rkL mvl l m : Nat), .slice (some ⟨w.heap.size, 0, none⟩) 1 1] (w.alloc (.cells #[.pointer (some ⟨ge, 0, none⟩)] 71)) fun e w' => ∃ rg c v0, e = .returned (.slice (some ⟨rg, 0, none⟩) (l.length + 1) c) ∧ w'.cell? ⟨t, 0, none⟩ = some v0 ∧ w'.frozen? ⟨t, 0, none⟩ = false ∧
      Hid (∃ A', TR (w'.setCell ⟨t, 0, none⟩ (.slice (some ⟨rg, 0, none⟩) (l.length + 1) c)) t (insL mvl l m) k (insG l gs m ge) S (.slice (some ⟨rg, 0, none⟩) (l.length + 1) c) fd pl kd fl B A' ∧ KA w (w'.setCell ⟨t, 0, none⟩ (.slice (some ⟨rg, 0, none⟩) (l.length + 1) c)) (fun j => A j ∨ j = ge) A') := by
  obtain ⟨w1, hw1⟩ : ∃ w1, w1 = w.alloc (.cells #[.pointer (some ⟨ge, 0, none⟩)] 71) := ⟨_, rfl⟩
  have hz1 : w1.heap.size = w.heap.size + 1 := by rw [hw1]; simp
  have g1 : w.grownBy w1 none := by rw [hw1]; exact World.grownBy_alloc w _ none
  have hv : w1.heap[w.heap.size]? = some (.cells #[.pointer (some ⟨ge, 0, none⟩)] 71 (0, 0)) := by rw [hw1]; exact World.alloc_heap_new w _
  have hgw : ge < w.heap.size := (Array.getElem?_eq_some_iff.1 hE).1
  have htw := h.as_ t h.at_
  have hob : lg.ownBlock ≠ some w.heap.size := fun e => absurd (h.as_ _ (h.al _ e)) (by omega)
  have hlt : lg.ownBlock ≠ some t := fun e => by
    rcases h.row.2 with ⟨e', _⟩ | ⟨g', cap, cur, e', hb, hgg, _⟩
    · rw [e'] at e; simp [Value.ownBlock] at e
    · rw [e'] at e
      simp only [Value.ownBlock, Option.some.injEq] at e
      have h1 := h.tb
      unfold TB at h1
      rw [← e, hgg] at h1
      simp at h1
  have hrow1 : w1.ownsRow 0 71 1 lg gs.length (prow gs) := erow_kept h.row (fun j hj => g1.block j (h.as_ j (h.al j hj)) (by simp))
  rw [← hw1]
  have hsm := h.small
  refine (efginsert_any 0 lg gs.length (rkL mvl l m) w.heap.size (prow gs) (pvF ge) w1 (by rw [h.len]; exact rk_le _ _ _) (by rw [h.len]; omega) (Nat.zero_le _) hrow1 hob hv (fun y hy => by unfold prow at hy; obtain ⟨x, _, rfl⟩ := List.mem_map.1 hy; rfl) rfl).mono ?_
  rintro e w' ⟨rg, c, rfl, ho, g2, hrg⟩
  rw [prow_ins] at ho
  have hz2 := g2.size
  have hkeep : ∀ j, j < w.heap.size → lg.ownBlock ≠ some j → w'.heap[j]? = w.heap[j]? := fun j hj hne => (g2.block j (by omega) (fun e => hne e.symm)).trans (g1.block j hj (by simp))
  have hT' : TB w' t lg fd (.int .i64 (k : Int)) pl kd := (hkeep t htw hlt).trans h.tb
  have g3 := grownBy_setCell w' t 0 (.slice (some ⟨rg, 0, none⟩) (gs.length + 1) c)
  have hT6 : TB (w'.setCell ⟨t, 0, none⟩ (.slice (some ⟨rg, 0, none⟩) (gs.length + 1) c)) t (.slice (some ⟨rg, 0, none⟩) (gs.length + 1) c) fd (.int .i64 (k : Int)) pl kd := by
    have h2 := set_blk (j := 0) hT' (.slice (some ⟨rg, 0, none⟩) (gs.length + 1) c)
    unfold TB
    simpa using h2
  have hrgt : rg ≠ t := fun e => by
    rcases hrg with e' | e'
    · exact hlt (e ▸ e')
    · omega
  have ho6 := erow_kept (w' := w'.setCell ⟨t, 0, none⟩ (.slice (some ⟨rg, 0, none⟩) (gs.length + 1) c)) ho (fun j hj => g3.block j (by
    simp only [Value.ownBlock, Option.some.injEq] at hj
    subst hj
    rcases ho.2 with ⟨e, _⟩ | ⟨g', cap, cur, e, _, hgg, _⟩
    · simp at e
    · simp only [Value.slice.injEq, Option.some.injEq, Addr.mk.injEq] at e
      rw [e.1.1]
      exact (Array.getElem?_eq_some_iff.1 hgg).1) (by
    simp only [Value.ownBlock, Option.some.injEq] at hj
    subst hj
    simpa using hrgt))
  have hK6 : ∀ j, j < w.heap.size → j ≠ t → lg.ownBlock ≠ some j → (w'.setCell ⟨t, 0, none⟩ (.slice (some ⟨rg, 0, none⟩) (gs.length + 1) c)).heap[j]? = w.heap[j]? := fun j hj hjt hne => (g3.block j (by omega) (by simpa using hjt)).trans (hkeep j hj hne)
  have hz6 : w.heap.size ≤ (w'.setCell ⟨t, 0, none⟩ (.slice (some ⟨rg, 0, none⟩) (gs.length + 1) c)).heap.size := by have := g3.size; omega
  have hrg' : lg.ownBlock = some rg ∨ w.heap.size ≤ rg := hrg.imp id (fun e => by omega)
  have hfin := h.put (lg' := .slice (some ⟨rg, 0, none⟩) (gs.length + 1) c) hk hE hgA hgw hf hb hi hd hs hz6 hT6 ho6 rfl hrg' hK6
  have hTT := hT'
  unfold TB at hTT
  rw [h.len] at hfin hz6 hK6
  refine ⟨rg, c, lg, by rw [h.len], by simp [World.cell?, hTT], by simp [World.frozen?, hTT], hid ⟨_, hfin, hz6, fun j hj hA => ?_, fun j hj => ?_, (Sm.g g1).trans ((Sm.g g2).trans ⟨rfl, rfl, rfl⟩)⟩⟩
  · exact hK6 j hj (fun e => hA (Or.inl (e ▸ h.at_))) (fun e => hA (Or.inl (h.al j e)))
  · rcases hj with hj | rfl | rfl
    · exact Or.inl (Or.inl hj)
    · exact Or.inl (Or.inr rfl)
    · rcases hrg' with e | e
      · exact Or.inl (Or.inl (h.al _ e))
      · exact Or.inr e
end

section
set_option linter.unusedVariables false
set_option linter.unusedSimpArgs false
open Go.RowKit

theorem enmap_none (W : World) : (binOp .eql 62 (.map none) (.map none)).run Try.prog W = .ok (.bool true) W := by
  have hd : Op.maxDepth = (Op.maxDepth - 1) + 1 := by decide
  simp only [binOp, Op.equal]
  rw [hd]
  simp [Op.equalIn, run_underlying Try.underlying62]
theorem enmap_some (b : Nat) (W : World) : (binOp .eql 62 (.map (some b)) (.map none)).run Try.prog W = .ok (.bool false) W := by
  have hd : Op.maxDepth = (Op.maxDepth - 1) + 1 := by decide
  simp only [binOp, Op.equal]
  rw [hd]
  simp [Op.equalIn, run_underlying Try.underlying62]

/-- The entry is found: what comes of it. -/
theorem TR.find {w : World} {t : Nat} {l : List Mv} {k : Nat} {gs : List Nat} {S : List Sp} {lg pl kd : Value} {fl : List (Mv × Nat)} {B A : Nat → Prop} {fm : Nat} (h : TR w t l k gs S lg (.map (some fm)) pl kd fl B A) {m : Mv} {ge : Nat} {tk : Bool} {q : Pl} (hE : EN w ge m tk q) (hf : ∀ x ∈ fl, x.1.id ≠ m.id) (hd : Dw m.id) (hs : fl.length ≤ 1000) :
    ∃ w', (Instr.mapUpdate 62 (.map (some fm)) (dv m.id) (pvF ge)).run Try.prog w = .ok () w' ∧ TR w' t l k gs S lg (.map (some fm)) pl kd (fl ++ [(m, ge)]) B A ∧ EN w' ge m tk q ∧ KA w w' A A := by
  rcases h.fnd with ⟨e, _⟩ | ⟨fm', G, e, h2, h3, h4, h5, h6⟩
  · cases e
  · cases e
    obtain ⟨w', hr, hP, hg⟩ := h4.put hd ge (by unfold maxLen; omega)
    refine ⟨w', hr, h.found hf h4 h5 h6 h2 h3 hP hg, ?_, ⟨hg.size, fun j hj hA => hg.block j hj (by intro e; exact hA (Option.some.inj e ▸ h3)), fun j hj => Or.inl hj, Sm.g hg⟩⟩
    obtain ⟨D, ho, _⟩ := h4
    exact (hg.block ge (Array.getElem?_eq_some_iff.1 hE).1 (by intro e; exact map_cells ho hE (Option.some.inj e))).trans hE
end
end Go.Proofs.Ytplcohjpchfkkaa
