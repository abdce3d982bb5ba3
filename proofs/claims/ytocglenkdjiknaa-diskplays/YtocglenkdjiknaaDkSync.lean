/- Sync: the closure. -/
import Derived.Test.YtocglenkdjiknaaDkShelf
namespace Go.Proofs.Ytocglenkdjiknaa
section
set_option linter.unusedVariables false
set_option linter.unusedSimpArgs false
open Go.RowKit Go.Sort Go.Maps

set_option maxRecDepth 100000 in
set_option maxHeartbeats 4000000 in
theorem sclone_any (n : Nm) (w : World) (hn : n.length ≤ 1000000) : Calls Try.prog 48 #[encStr n] w fun e w' => e = .returned (encStr n) ∧ Below w.heap.size w w' := by
  have hc := Try.stringslite_Clone ⟨n.toArray⟩ w (by show n.toArray.size ≤ _; simp; omega)
  show Calls Try.prog _ #[.string ⟨n.toArray⟩] w _
  go_enter Try.func48, Try.ntmps48
  go_wp2_with (go_at_call 55; refine hc.mono ?_; rintro e w1 ⟨rfl, hb⟩)
  go_ret
  exact ⟨rfl, hb⟩

/-- A disk whose map tells of S, and whose files are to be S'. -/
structure DB (w : World) (d m : Nat) (cv : Value) (room : Nat) (off : Bool) (S S' : List (Nm × Fi)) (A : Nat → Prop) : Prop where
  blk : w.heap[d]? = some (.cells #[.int .i64 (room : Int), .map (some m), .bool off, cv] 55 (0, 0))
  map : MP w m S
  files : FW w (lk S') A
  ascS : Asc S
  short : S.length ≤ 1000
  few : S'.length ≤ 100
  fits : sm (fun f => f.b.length) S' ≤ room
  small : room ≤ 1000000
  nice : ∀ n f, lk S' n = some f → n.length ≤ 32
  own : A d ∧ A m
  lt : ∀ j, A j → j < w.heap.size

theorem map_ne {w : World} {m : Nat} {S : List (Nm × Fi)} (h : MP w m S) {j : Nat} {cs : Array Value} {ty : TypeId} {f : Nat × Nat} (hj : w.heap[j]? = some (.cells cs ty f)) : j ≠ m := by
  obtain ⟨D, ⟨es, clock, hm, _⟩, _⟩ := h
  intro e
  rw [e, hm] at hj
  cases hj

/-- Where the map alone turned, the files stay. -/
theorem FW.mapped {w w' : World} {M : Nm → Option Fi} {A : Nat → Prop} (h : FW w M A) {m : Nat} {S : List (Nm × Fi)} (hm : MP w m S) (hg : w.grownBy w' (some m)) : FW w' M A :=
  h.keep2 (fun n f e => ⟨hg.block _ (Array.getElem?_eq_some_iff.1 (h.file n f e)).1 (fun e' => map_ne hm (h.file n f e) (by simpa using e')), fun i hi => by
    obtain ⟨hl, cs, hc⟩ := row_lt5 (h.row n f e) hi
    exact hg.block _ hl (fun e' => map_ne hm hc (by simpa using e'))⟩)

set_option maxRecDepth 100000 in
set_option maxHeartbeats 4000000 in
theorem name_any (d m : Nat) (cv : Value) (room : Nat) (off : Bool) (S : List (Nm × Fi)) (A : Nat → Prop) (n : Nm) (f : Fi) (w : World) (h : DB w d m cv room off S (put S n f) A) (hn : n.length ≤ 32) :
    Calls Try.prog 36 #[.pointer (some ⟨d, 0, none⟩), .pointer (some ⟨f.g, 0, none⟩), encStr n] w fun e w' => e = .returned (.tuple #[]) ∧ DA w' d m cv room off (put S n f) A ∧ KA w w' A A := by
  have c1 : w.cell? ⟨d, 1, none⟩ = some (.map (some m)) := cell_blk h.blk rfl
  have hn' : n.length ≤ maxLen := by unfold maxLen; omega
  have hcl := hid (sclone_any n w.drew (by omega))
  have hup : ∀ w1 : World, Below w.heap.size w w1 → ∃ w2, (Instr.mapUpdate 52 (.map (some m)) (encStr n) (.pointer (some ⟨f.g, 0, none⟩))).run Try.prog w1 = .ok () w2 ∧ w2.cell? ⟨d, 1, none⟩ = some (.map (some m)) ∧ DA w2 d m cv room off (put S n f) A ∧ KA w w2 A A := fun w1 hb => by
    have hm1 : MP w1 m S := h.map.same (hb.block m (h.lt m h.own.2))
    obtain ⟨w2, hr, hM, hg⟩ := hm1.ins h.ascS hn' f h.short
    have hd1 := (hb.block d (h.lt d h.own.1)).trans h.blk
    have hd2 : w2.heap[d]? = some (.cells #[.int .i64 (room : Int), .map (some m), .bool off, cv] 55 (0, 0)) := (hg.block d (Array.getElem?_eq_some_iff.1 hd1).1 (fun e => map_ne hm1 hd1 (by simpa using e))).trans hd1
    have hF1 : FW w1 (lk (put S n f)) A := h.files.kept (fun j hj => hb.block j (h.lt j hj))
    refine ⟨w2, hr, cell_blk hd2 rfl, ⟨hd2, hM, hF1.mapped hm1 hg, asc_put n f h.ascS, h.few, h.fits, h.small, h.nice, h.own, fun j hj => ?_⟩, ⟨Nat.le_trans hb.size hg.size, fun j hj hA => ?_, fun j hj => Or.inl hj, (Sm.b hb).trans (Sm.g hg)⟩⟩
    · have := h.lt j hj
      have := hb.size
      have := hg.size
      omega
    · exact (hg.block j (Nat.lt_of_lt_of_le hj hb.size) (fun e => hA (by have e' : j = m := by simpa using e
                                                                         rw [e']; exact h.own.2))).trans (hb.block j hj)
  have hmxo : Try.prog.follows .mixedOrders = true := by kernel_rfl
  have HU := hid hup
  have hdl := h.lt d h.own.1
  have S0 : w.drew.cell? ⟨d, 1, none⟩ = some (.map (some m)) := c1
  clear h hup
  go_enter Try.func36, Try.ntmps36
  go_wp2_with fail
  refine wp_region_held_drew (S := fun w' => w'.cell? ⟨d, 1, none⟩ = some (.map (some m))) hmxo S0 ?_
  intro _
  refine wpAnyH_take (i := 0) (v := .pointer (some ⟨d, 0, none⟩)) rfl (by kernel_rfl) (by kernel_rfl) (by kernel_rfl) (fun _ _ _ h => h) (Or.inl ⟨by kernel_rfl, fun w hSw => ?_⟩) S0 ?_
  · have e1 := hSw; go_simp
  simp only [Act.put, List.getElem_toArray, List.getElem_cons_succ, List.getElem_cons_zero, List.setIfInBounds_toArray, List.set_cons_zero, List.set_cons_succ]
  refine wpAnyH_take (i := 1) (v := .pointer (some ⟨d, 0, none⟩)) rfl (by kernel_rfl) (by kernel_rfl) (by kernel_rfl) (fun _ _ _ h => h) (Or.inl ⟨by kernel_rfl, fun w hSw => ?_⟩) S0 ?_
  · have e1 := hSw; go_simp
  simp only [Act.put, List.getElem_toArray, List.getElem_cons_succ, List.getElem_cons_zero, List.setIfInBounds_toArray, List.set_cons_zero, List.set_cons_succ]
  refine wpAnyH_take (i := 2) (v := .pointer (some ⟨d, 1, none⟩)) rfl (by kernel_rfl) (by kernel_rfl) (by kernel_rfl) (fun _ _ _ h => h) (Or.inl ⟨by kernel_rfl, fun w hSw => ?_⟩) S0 ?_
  · have e1 := hSw; go_simp
  simp only [Act.put, List.getElem_toArray, List.getElem_cons_succ, List.getElem_cons_zero, List.setIfInBounds_toArray, List.set_cons_zero, List.set_cons_succ]
  refine wpAnyH_take (i := 3) (v := .map (some m)) rfl (by kernel_rfl) (by kernel_rfl) (by kernel_rfl) (fun _ _ _ h => h) (Or.inl ⟨by kernel_rfl, fun w hSw => ?_⟩) S0 ?_
  · have e1 := hSw; go_simp
  simp only [Act.put, List.getElem_toArray, List.getElem_cons_succ, List.getElem_cons_zero, List.setIfInBounds_toArray, List.set_cons_zero, List.set_cons_succ]
  refine wpAnyH_take (i := 4) (v := encStr n) rfl (by kernel_rfl) (by kernel_rfl) (by kernel_rfl) (fun _ _ _ h => h) (Or.inl ⟨by kernel_rfl, fun w hSw => ?_⟩) S0 ?_
  · have e1 := hSw; go_simp
  simp only [Act.put, List.getElem_toArray, List.getElem_cons_succ, List.getElem_cons_zero, List.setIfInBounds_toArray, List.set_cons_zero, List.set_cons_succ]
  refine wpAnyH_take (i := 6) (v := .pointer (some ⟨f.g, 0, none⟩)) rfl (by kernel_rfl) (by kernel_rfl) (by kernel_rfl) (fun _ _ _ h => h) (Or.inl ⟨by kernel_rfl, fun w hSw => ?_⟩) S0 ?_
  · have e1 := hSw; go_simp
  simp only [Act.put, List.getElem_toArray, List.getElem_cons_succ, List.getElem_cons_zero, List.setIfInBounds_toArray, List.set_cons_zero, List.set_cons_succ]
  refine wpAnyH_ready (rs := [5]) (by kernel_rfl) (by simp) ?_
  refine AllReadyH.cons rfl (fun K hK => ?_) AllReadyH.nil
  go_simp
  refine hcl.out.mono ?_
  rintro e w1 ⟨rfl, hb⟩
  have S1 : w1.cell? ⟨d, 1, none⟩ = some (.map (some m)) := (hb.cell (by exact hdl)).trans S0
  obtain ⟨w2, hr2, S2, R⟩ := HU.out w1 ⟨hb.os, hb.tape, hb.output, hb.size, hb.block⟩
  have R2 := hid R
  clear R hb
  refine hK.out _ _ S1 (fun _ => ?_)
  clear hK K
  try simp only [Act.put, List.getElem_toArray, List.getElem_cons_succ, List.getElem_cons_zero, List.setIfInBounds_toArray, List.set_cons_zero, List.set_cons_succ]
  refine wpAnyH_ready (rs := [7]) (by kernel_rfl) (by simp) ?_
  refine AllReadyH.cons rfl (fun K hK => ?_) AllReadyH.nil
  go_simp
  refine hK.out _ _ S2 (fun _ => ?_)
  clear hK K
  refine wpAnyH_done (by kernel_rfl) ?_ _
  go_wp2
  all_goals go_end0
  exact ⟨rfl, R2.out⟩
end

section
set_option linter.unusedVariables false
set_option linter.unusedSimpArgs false
open Go.RowKit Go.Sort Go.Maps

/-- A new file. -/
def fNew (g : Nat) : Fi := ⟨[], 0, g, .slice none 0 0⟩

theorem len_put {α : Type} {S : List (Nm × α)} (n : Nm) (a : α) (h : Asc S) : (put S n a).length = if (lk S n).isSome = true then S.length else S.length + 1 := by
  have h1 := sm_put (fun _ : α => 1) n a h
  rw [sm_len, sm_len] at h1
  cases h2 : lk S n with
  | none => simp [h2, at_] at h1 ⊢; omega
  | some x => simp [h2, at_] at h1 ⊢; omega

theorem lk_put_eq {α : Type} (S : List (Nm × α)) (n : Nm) (a : α) : lk (put S n a) = fun m => if m = n then some a else lk S m := by
  funext m
  exact lk_put S n a m

theorem map_some (b : Nat) (W : World) : (binOp .eql 52 (.map (some b)) (.map none)).run Try.prog W = .ok (.bool false) W := by
  have hd : Op.maxDepth = (Op.maxDepth - 1) + 1 := by decide
  simp only [binOp, Op.equal]
  rw [hd]
  simp [Op.equalIn, run_underlying Try.underlying52]
theorem heap_new (w : World) (o : Obj) : (w.alloc o).heap[w.heap.size]? = some o := by
  show (w.heap.push o)[w.heap.size]? = some o
  simp

set_option maxRecDepth 100000 in
set_option maxHeartbeats 4000000 in
theorem add_any (d m : Nat) (cv : Value) (room : Nat) (off : Bool) (S : List (Nm × Fi)) (A : Nat → Prop) (n : Nm) (w : World) (h : DA w d m cv room off S A) (hn : n.length ≤ 32) (h0 : lk S n = none) (h1 : S.length < 100) :
    Calls Try.prog 32 #[.pointer (some ⟨d, 0, none⟩), encStr n] w fun e w' => e = .returned (.pointer (some ⟨w.heap.size, 0, none⟩)) ∧ DA w' d m cv room off (put S n (fNew w.heap.size)) (fun j => A j ∨ j = w.heap.size) ∧ KA w w' A (fun j => A j ∨ j = w.heap.size) := by
  have c1 : w.cell? ⟨d, 1, none⟩ = some (.map (some m)) := cell_blk h.blk rfl
  have hb : Below w.heap.size w (w.alloc (.cells #[.slice none 0 0, .int .i64 0] 68)) := (Below.refl _ w).alloc (Nat.le_refl _) _
  have hD : DA (w.alloc (.cells #[.slice none 0 0, .int .i64 0] 68)) d m cv room off S A := h.below hb
  have hg : (w.alloc (.cells #[.slice none 0 0, .int .i64 0] 68)).heap[w.heap.size]? = some (.cells #[.slice none 0 0, .int .i64 0] 68 (0, 0)) := heap_new w _
  have hF : FW (w.alloc (.cells #[.slice none 0 0, .int .i64 0] 68)) (lk (put S n (fNew w.heap.size))) (fun j => A j ∨ j = w.heap.size) := by
    rw [lk_put_eq]
    refine hD.files.upd n (fNew w.heap.size) (fun j hj => Or.inl hj) hg (World.ownsRow_nil _ _ _ _) ⟨Or.inr rfl, fun k hk => by cases hk⟩ ⟨Bts.nil, Nat.le_refl _⟩ (fun k f' hk e => ⟨rfl, fun e' => ?_, fun i hi => ⟨rfl, fun e' => by cases e'⟩⟩)
    have := h.lt _ (h.files.own k f' e).1
    have e'' : f'.g = w.heap.size := e'
    omega
  have hB : DB (w.alloc (.cells #[.slice none 0 0, .int .i64 0] 68)) d m cv room off S (put S n (fNew w.heap.size)) (fun j => A j ∨ j = w.heap.size) := by
    refine ⟨hD.blk, hD.map, hF, h.asc, by have := h.few; omega, by rw [len_put n _ h.asc, h0]; simp; omega, ?_, h.small, fun k f e => ?_, ⟨Or.inl h.own.1, Or.inl h.own.2⟩, fun j hj => ?_⟩
    · have := sm_put (fun f : Fi => f.b.length) n (fNew w.heap.size) h.asc
      have e0 : (fNew w.heap.size).b.length = 0 := rfl
      have := h.fits
      omega
    · rw [lk_put] at e
      split at e
      · rename_i e'
        rw [e']; exact hn
      · exact h.nice k f e
    · rcases hj with hj | hj
      · have := hD.lt j hj
        exact this
      · simp; omega
  have hnm := hid (name_any d m cv room off S _ n (fNew w.heap.size) _ hB hn)
  have HB := hid hb
  have hmz := fun w => map_some m w
  clear h hD hg hF hB hb
  go_enter Try.func32, Try.ntmps32
  go_wp2_with (go_at_call 36; refine hnm.out.mono ?_; rintro e w1 ⟨rfl, R⟩; have R1 := hid R; clear R)
  go_ret
  refine ⟨rfl, R1.out.1, ⟨Nat.le_trans HB.out.size R1.out.2.size, fun j hj hA => (R1.out.2.keep j (Nat.lt_of_lt_of_le hj HB.out.size) (fun e => ?_)).trans (HB.out.block j hj), fun j hj => hj.imp id (fun e => by omega), (Sm.b HB.out).trans R1.out.2.sm⟩⟩
  rcases e with e | e
  · exact hA e
  · omega
end

section
set_option linter.unusedVariables false
set_option linter.unusedSimpArgs false
open Go.RowKit Go.Sort Go.Maps

theorem MP.regive {w : World} {m : Nat} {S : List (Nm × Fi)} (h : MP w m S) (hA : Asc S) {n : Nm} {f f' : Fi} (hf : lk S n = some f) (hg : f'.g = f.g) : MP w m (put S n f') := by
  obtain ⟨D, ho, hT⟩ := h
  refine ⟨D, by rw [len_put n f' hA, hf]; simpa using ho, fun k => ?_⟩
  rw [lk_put]
  by_cases e : k = n
  · subst e
    rw [if_pos rfl]
    refine ⟨by rw [(hT k).1, hf]; rfl, ?_⟩
    rw [(hT k).2, hf]
    simp [hg]
  · rw [if_neg e]
    exact hT k

/-- One's own, and what is new. -/
def An (A : Nat → Prop) (w w' : World) : Nat → Prop := fun j => A j ∨ (w.heap.size ≤ j ∧ j < w'.heap.size)

theorem DA.upd {w w' : World} {d m : Nat} {cv : Value} {room : Nat} {off : Bool} {S : List (Nm × Fi)} {A : Nat → Prop} (h : DA w d m cv room off S A) {n : Nm} {f : Fi} (hf : lk S n = some f) (f' : Fi) (hg : f'.g = f.g) (hz : w.heap.size ≤ w'.heap.size)
    (hk : ∀ j, j < w.heap.size → j ≠ f.g → f.v.ownBlock ≠ some j → w'.heap[j]? = w.heap[j]?) (hfl : w'.heap[f'.g]? = some (.cells #[f'.v, .int .i64 (f'.s : Int)] 68 (0, 0))) (hr : w'.ownsRow 0 5 1 f'.v f'.b.length (f'.b.map (Value.int .u8)))
    (ho : ∀ i, f'.v.ownBlock = some i → f.v.ownBlock = some i ∨ w.heap.size ≤ i) (hb : Bts f'.b ∧ f'.s ≤ f'.b.length) (hsum : sm (fun f => f.b.length) S + f'.b.length ≤ room + f.b.length) (hsm : Sm w w') : DA w' d m cv room off (put S n f') (An A w w') ∧ KA w w' A (An A w w') := by
  obtain ⟨hne, hfi⟩ := h.ne
  have hof := hfi n f hf
  have hAf := h.files.own n f hf
  have hd' : w'.heap[d]? = w.heap[d]? := hk d (h.lt d h.own.1) (Ne.symm hof.1) hof.2.2.1
  have hm' : w'.heap[m]? = w.heap[m]? := hk m (h.lt m h.own.2) (Ne.symm hof.2.1) hof.2.2.2.1
  refine ⟨⟨hd'.trans h.blk, (h.map.same hm').regive h.asc hf hg, ?_, asc_put n f' h.asc, by rw [len_put n f' h.asc, hf]; simpa using h.few, ?_, h.small, fun k x e => ?_, ⟨Or.inl h.own.1, Or.inl h.own.2⟩, fun j hj => ?_⟩, ⟨hz, fun j hj hA => hk j hj (fun e => hA (by rw [e]; exact hAf.1)) (fun e => hA (hAf.2 j e)), fun j hj => hj.imp id (fun e => e.1), hsm⟩⟩
  · rw [lk_put_eq]
    refine h.files.upd n f' (fun j hj => Or.inl hj) hfl hr ⟨Or.inl (by rw [hg]; exact hAf.1), fun i hi => ?_⟩ hb (fun k f2 hkn e => ?_)
    · rcases ho i hi with h1 | h1
      · exact Or.inl (hAf.2 i h1)
      · exact Or.inr ⟨h1, (row_lt5 hr hi).1⟩
    · have hA2 := h.files.own k f2 e
      have hg2 : f2.g ≠ f.g := fun e' => hkn (h.files.apg k n f2 f e hf e')
      refine ⟨hk _ (h.lt _ hA2.1) hg2 (h.files.gv e hf), by rw [hg]; exact hg2, fun i hi => ⟨hk i (h.lt i (hA2.2 i hi)) (fun e' => h.files.gv hf e (by rw [hi, e'])) (fun e' => hkn (h.files.apv k n f2 f i e hf hi e')), fun e' => ?_⟩⟩
      rcases ho i e' with h1 | h1
      · exact hkn (h.files.apv k n f2 f i e hf hi h1)
      · have := h.lt i (hA2.2 i hi)
        omega
  · have := sm_put (fun f : Fi => f.b.length) n f' h.asc
    rw [hf] at this
    simp only [at_] at this
    omega
  · rw [lk_put] at e
    split at e
    · rename_i e'
      rw [e']; exact h.nice n f hf
    · exact h.nice k x e
  · rcases hj with hj | hj
    · have := h.lt j hj; omega
    · exact hj.2

theorem len_wo {α : Type} {S : List (Nm × α)} (n : Nm) (h : Asc S) : (wo S n).length ≤ S.length := by
  have h1 := sm_wo (fun _ : α => 1) n h
  rw [sm_len, sm_len] at h1
  omega
theorem len_wo1 {α : Type} {S : List (Nm × α)} {n : Nm} {a : α} (h : Asc S) (hf : lk S n = some a) : (wo S n).length + 1 = S.length := by
  have h1 := sm_wo (fun _ : α => 1) n h
  rw [sm_len, sm_len, hf] at h1
  simpa [at_] using h1

/-- Without one of its files: the map has turned. -/
theorem DA.gone {w w' : World} {d m : Nat} {cv : Value} {room : Nat} {off : Bool} {S : List (Nm × Fi)} {A : Nat → Prop} (h : DA w d m cv room off S A) (n : Nm) (hM : MP w' m (wo S n)) (hg : w.grownBy w' (some m)) : DA w' d m cv room off (wo S n) A ∧ KA w w' A A := by
  have hd' := (hg.block d (h.lt d h.own.1) (fun e => h.ne.1 (by simpa using e))).trans h.blk
  refine ⟨⟨hd', hM, (h.files.mapped h.map hg).sub (fun k f e => ?_), asc_wo n h.asc, Nat.le_trans (len_wo n h.asc) h.few, ?_, h.small, fun k f e => ?_, h.own, fun j hj => Nat.lt_of_lt_of_le (h.lt j hj) hg.size⟩, ⟨hg.size, fun j hj hA => hg.block j hj (fun e => hA ((Option.some.inj e).symm ▸ h.own.2)), fun j hj => Or.inl hj, Sm.g hg⟩⟩
  · rw [lk_wo] at e
    split at e
    · cases e
    · exact e
  · have := sm_wo (fun f : Fi => f.b.length) n h.asc
    have := h.fits
    omega
  · rw [lk_wo] at e
    split at e
    · cases e
    · exact h.nice k f e

/-- A file under another name. -/
theorem FW.moved {w : World} {S : List (Nm × Fi)} {A : Nat → Prop} (h : FW w (lk S) A) {n : Nm} {f : Fi} (hf : lk S n = some f) (t : Nm) : FW w (lk (put (wo S n) t f)) A := by
  rw [lk_put_eq]
  have hM : ∀ m f', (if m = t then some f else lk (wo S n) m) = some f' → (m = t ∧ f' = f) ∨ (m ≠ t ∧ m ≠ n ∧ lk S m = some f') := fun m f' e => by
    by_cases hm : m = t
    · rw [if_pos hm] at e; exact Or.inl ⟨hm, (Option.some.inj e).symm⟩
    · rw [if_neg hm, lk_wo] at e
      split at e
      · cases e
      · rename_i hn
        exact Or.inr ⟨hm, hn, e⟩
  have h1 : ∀ m f', (if m = t then some f else lk (wo S n) m) = some f' → ∃ k, lk S k = some f' := fun m f' e => by
    rcases hM m f' e with ⟨_, rfl⟩ | ⟨_, _, e⟩
    · exact ⟨n, hf⟩
    · exact ⟨m, e⟩
  refine ⟨fun m f' e => ?_, fun m f' e => ?_, fun m f' e => ?_, fun m f' e => ?_, fun m m' f1 f2 e e' eg => ?_, fun m m' f1 f2 k e e' k1 k2 => ?_⟩
  · obtain ⟨k, hk⟩ := h1 m f' e
    exact h.file k f' hk
  · obtain ⟨k, hk⟩ := h1 m f' e
    exact h.row k f' hk
  · obtain ⟨k, hk⟩ := h1 m f' e
    exact h.own k f' hk
  · obtain ⟨k, hk⟩ := h1 m f' e
    exact h.ok k f' hk
  · rcases hM m f1 e with ⟨hm, x1⟩ | ⟨_, hn, y1⟩ <;> rcases hM m' f2 e' with ⟨hm', x2⟩ | ⟨_, hn', y2⟩
    · rw [hm, hm']
    · rw [x1] at eg
      exact absurd (h.apg m' n f2 f y2 hf eg.symm) hn'
    · rw [x2] at eg
      exact absurd (h.apg m n f1 f y1 hf eg) hn
    · exact h.apg m m' f1 f2 y1 y2 eg
  · rcases hM m f1 e with ⟨hm, x1⟩ | ⟨_, hn, y1⟩ <;> rcases hM m' f2 e' with ⟨hm', x2⟩ | ⟨_, hn', y2⟩
    · rw [hm, hm']
    · rw [x1] at k1
      exact absurd (h.apv m' n f2 f k y2 hf k2 k1) hn'
    · rw [x2] at k2
      exact absurd (h.apv m n f1 f k y1 hf k1 k2) hn
    · exact h.apv m m' f1 f2 k y1 y2 k1 k2
end

section
set_option linter.unusedVariables false
set_option linter.unusedSimpArgs false
open Go.RowKit Go.Sort Go.Maps

/-- How much is done: whole (below 0), or so many. -/
def pv : Option Nat → Value
  | none => .int .i64 (-1)
  | some p => .int .i64 (p : Int)

theorem nl {n : Nm} (h : n.length ≤ 1000000) : n.length ≤ maxLen := by unfold maxLen; omega

theorem look_run {w : World} {m : Nat} {S : List (Nm × Fi)} (h : MP w m S) {n : Nm} (hn : n.length ≤ maxLen) {o : Option Fi} (e : lk S n = o) : (Instr.lookup 52 (.map (some m)) (encStr n) false).run Try.prog w = .ok (pvo (o.map Fi.g)) w := by
  rw [h.look (n := n) hn, e]

theorem lk_F {D : Dk} {S : List (Nm × Fi)} (hF : mp Fi.fl S = D.F) (n : Nm) {o : Option Fi} (e : lk S n = o) : lk D.F n = o.map Fi.fl := by rw [← hF, lk_mp, e]

/-- Nothing was done. -/
theorem DK.none {w : World} {d : Nat} {D : Dk} {P : Nat → Prop} (h : DK w d D P) (hoff : D.off = false) {e : Nat} {x : List (Nm × Fl) × Nat} (hx : x = (D.F, e)) : e = x.2 ∧ DK w.drew d ⟨D.room, false, D.due, x.1⟩ P ∧ KP w w.drew P := by
  subst hx
  refine ⟨rfl, ?_, ⟨Nat.le_refl _, fun _ _ _ => rfl, ⟨rfl, rfl, rfl⟩⟩⟩
  obtain ⟨m, cv, S, A, hD, hc, hF, hP⟩ := h
  refine ⟨m, cv, S, A, ?_, hc, hF, hP⟩
  rw [hoff] at hD
  exact hD.same (fun _ _ => rfl) (Nat.le_refl _)
theorem DK.none0 {w : World} {d : Nat} {D : Dk} {P : Nat → Prop} (h : DK w d D P) (hoff : D.off = false) {e : Nat} {x : List (Nm × Fl) × Nat} (hx : x = (D.F, e)) : e = x.2 ∧ DK w d ⟨D.room, false, D.due, x.1⟩ P ∧ KP w w P := by
  subst hx
  refine ⟨rfl, ?_, KP.refl _ _⟩
  obtain ⟨m, cv, S, A, hD, hc, hF, hP⟩ := h
  rw [hoff] at hD
  exact ⟨m, cv, S, A, hD, hc, hF, hP⟩
theorem DA.drew {w : World} {d m : Nat} {cv : Value} {room : Nat} {off : Bool} {S : List (Nm × Fi)} {A : Nat → Prop} (h : DA w d m cv room off S A) : DA w.drew d m cv room off S A := h.same (fun _ _ => rfl) (Nat.le_refl _)
theorem KA.drew {w w' : World} {A A' : Nat → Prop} (h : KA w.drew w' A A') : KA w w' A A' := ⟨h.size, h.keep, h.new, h.sm⟩
theorem CT.drew {w : World} {cv : Value} {due : Option (Nat × Nat × Nat)} {A P : Nat → Prop} (h : CT w cv due A P) : CT w.drew cv due A P := h
end

section
set_option linter.unusedVariables false
set_option linter.unusedSimpArgs false
open Go.RowKit Go.Sort Go.Maps

set_option maxRecDepth 100000 in
set_option maxHeartbeats 4000000 in
theorem sync1_any (d : Nat) (n : Nm) (pt : Option Nat) (D : Dk) (P : Nat → Prop) (w : World) (h : DK w d D P) (hoff : D.off = false) (xd xn : Nat) (hxd : w.heap[xd]? = some (.cells #[.pointer (some ⟨d, 0, none⟩)] 24 (0, 0))) (hxn : w.heap[xn]? = some (.cells #[encStr n] 9 (0, 0))) (hp : ∀ p, pt = some p → p ≤ 9223372036854775807) (hn : n.length ≤ maxLen) :
    Calls Try.prog 33 #[pv pt, .pointer (some ⟨xd, 0, none⟩), .pointer (some ⟨xn, 0, none⟩)] w fun e w' => ∃ x : Nat, e = .returned (.int .i64 (x : Int)) ∧ x = (eSync n pt D.F).2 ∧ DK w' d ⟨D.room, false, D.due, (eSync n pt D.F).1⟩ P ∧ KP w w' P := by
  have hDK := h
  obtain ⟨m, cv, S, A, hD, hc, hF, hP⟩ := h
  have S0 : w.drew.cell? ⟨xd, 0, none⟩ = some (.pointer (some ⟨d, 0, none⟩)) ∧ w.drew.cell? ⟨d, 1, none⟩ = some (.map (some m)) ∧ w.drew.cell? ⟨xn, 0, none⟩ = some (encStr n) := ⟨cell_blk (w := w.drew) hxd rfl, cell_blk (w := w.drew) hD.blk rfl, cell_blk (w := w.drew) hxn rfl⟩
  obtain ⟨room, off, due, F⟩ := D
  simp only at hoff hD hc hF ⊢
  subst hoff
  have hmxo : Try.prog.follows .mixedOrders = true := by kernel_rfl
  cases hl : lk S n with
  | none =>
    have hlk := look_run hD.drew.map hn hl
    have hlF := lk_F (D := ⟨room, false, due, F⟩) hF n hl
    have R := hid (hDK.none rfl (e := 70) (x := eSync n pt F) (by unfold eSync; rw [hlF]; rfl))
    simp only [Option.map_none, pvo] at hlk
    clear hDK hD hc hF hl hlF hxd hxn
    go_enter Try.func33, Try.ntmps33
    go_wp2_with fail
    refine wp_region_held_drew (S := fun w' => w'.cell? ⟨xd, 0, none⟩ = some (.pointer (some ⟨d, 0, none⟩)) ∧ w'.cell? ⟨d, 1, none⟩ = some (.map (some m)) ∧ w'.cell? ⟨xn, 0, none⟩ = some (encStr n)) hmxo S0 ?_
    intro _
    refine wpAnyH_take (i := 0) (v := .pointer (some ⟨d, 0, none⟩)) rfl (by kernel_rfl) (by kernel_rfl) (by kernel_rfl) (fun _ _ _ h => h) (Or.inl ⟨by kernel_rfl, fun w hSw => ?_⟩) S0 ?_
    · obtain ⟨e1, e2, e3⟩ := hSw; go_simp
    simp only [Act.put, List.getElem_toArray, List.getElem_cons_succ, List.getElem_cons_zero, List.setIfInBounds_toArray, List.set_cons_zero, List.set_cons_succ]
    refine wpAnyH_take (i := 1) (v := .pointer (some ⟨d, 0, none⟩)) rfl (by kernel_rfl) (by kernel_rfl) (by kernel_rfl) (fun _ _ _ h => h) (Or.inl ⟨by kernel_rfl, fun w hSw => ?_⟩) S0 ?_
    · obtain ⟨e1, e2, e3⟩ := hSw; go_simp
    simp only [Act.put, List.getElem_toArray, List.getElem_cons_succ, List.getElem_cons_zero, List.setIfInBounds_toArray, List.set_cons_zero, List.set_cons_succ]
    refine wpAnyH_take (i := 2) (v := .pointer (some ⟨d, 1, none⟩)) rfl (by kernel_rfl) (by kernel_rfl) (by kernel_rfl) (fun _ _ _ h => h) (Or.inl ⟨by kernel_rfl, fun w hSw => ?_⟩) S0 ?_
    · obtain ⟨e1, e2, e3⟩ := hSw; go_simp
    simp only [Act.put, List.getElem_toArray, List.getElem_cons_succ, List.getElem_cons_zero, List.setIfInBounds_toArray, List.set_cons_zero, List.set_cons_succ]
    refine wpAnyH_take (i := 3) (v := .map (some m)) rfl (by kernel_rfl) (by kernel_rfl) (by kernel_rfl) (fun _ _ _ h => h) (Or.inl ⟨by kernel_rfl, fun w hSw => ?_⟩) S0 ?_
    · obtain ⟨e1, e2, e3⟩ := hSw; go_simp
    simp only [Act.put, List.getElem_toArray, List.getElem_cons_succ, List.getElem_cons_zero, List.setIfInBounds_toArray, List.set_cons_zero, List.set_cons_succ]
    refine wpAnyH_take (i := 4) (v := encStr n) rfl (by kernel_rfl) (by kernel_rfl) (by kernel_rfl) (fun _ _ _ h => h) (Or.inl ⟨by kernel_rfl, fun w hSw => ?_⟩) S0 ?_
    · obtain ⟨e1, e2, e3⟩ := hSw; go_simp
    simp only [Act.put, List.getElem_toArray, List.getElem_cons_succ, List.getElem_cons_zero, List.setIfInBounds_toArray, List.set_cons_zero, List.set_cons_succ]
    refine wpAnyH_ready (rs := [5]) (by kernel_rfl) (by simp) ?_
    refine AllReadyH.cons rfl (fun K hK => ?_) AllReadyH.nil
    go_simp
    refine hK.out _ _ S0 (fun _ => ?_)
    clear hK K
    try simp only [Act.put, List.getElem_toArray, List.getElem_cons_succ, List.getElem_cons_zero, List.setIfInBounds_toArray, List.set_cons_zero, List.set_cons_succ]
    refine wpAnyH_take (i := 6) (v := .pointer none) rfl (by kernel_rfl) (by kernel_rfl) (by kernel_rfl) (fun _ _ _ h => h) (Or.inl ⟨by kernel_rfl, fun w hSw => ?_⟩) S0 ?_
    · obtain ⟨e1, e2, e3⟩ := hSw; go_simp
    simp only [Act.put, List.getElem_toArray, List.getElem_cons_succ, List.getElem_cons_zero, List.setIfInBounds_toArray, List.set_cons_zero, List.set_cons_succ]
    refine wpAnyH_done (by kernel_rfl) ?_ _
    go_wp2
    go_ret
    exact ⟨70, rfl, R.out⟩
  | some f =>
    have hlk := look_run hD.drew.map hn hl
    have hlF := lk_F (D := ⟨room, false, due, F⟩) hF n hl
    simp only [Option.map_some, pvo] at hlk
    have g0 := hD.files.file n f hl
    have hrow := hD.files.row n f hl
    obtain ⟨a, cc, hav, _⟩ := own_src hrow
    have b0 : w.drew.cell? ⟨f.g, 0, none⟩ = some (.slice a f.b.length cc) := by rw [cell_blk (w := w.drew) g0 rfl, hav]; rfl
    have b1 : w.drew.cell? ⟨f.g, 1, none⟩ = some (.int .i64 (f.s : Int)) := cell_blk (w := w.drew) g0 rfl
    have u1 := frz_blk (w := w.drew) (i := 1) g0
    have hfl : f.b.length ≤ 1000000 := Nat.le_trans (sm_at (fun f : Fi => f.b.length) hl) (Nat.le_trans hD.fits hD.small)
    cases pt with
    | some p =>
      have hp := hp p rfl
      have R := hid (hDK.none rfl (e := 0) (x := eSync n (some p) F) (by unfold eSync; rw [hlF]; rfl))
      simp only [pv]
      clear hDK hD hc hF hl hlF hxd hxn g0 hrow hav
      go_enter Try.func33, Try.ntmps33
      go_wp2_with fail
      refine wp_region_held_drew (S := fun w' => w'.cell? ⟨xd, 0, none⟩ = some (.pointer (some ⟨d, 0, none⟩)) ∧ w'.cell? ⟨d, 1, none⟩ = some (.map (some m)) ∧ w'.cell? ⟨xn, 0, none⟩ = some (encStr n)) hmxo S0 ?_
      intro _
      refine wpAnyH_take (i := 0) (v := .pointer (some ⟨d, 0, none⟩)) rfl (by kernel_rfl) (by kernel_rfl) (by kernel_rfl) (fun _ _ _ h => h) (Or.inl ⟨by kernel_rfl, fun w hSw => ?_⟩) S0 ?_
      · obtain ⟨e1, e2, e3⟩ := hSw; go_simp
      simp only [Act.put, List.getElem_toArray, List.getElem_cons_succ, List.getElem_cons_zero, List.setIfInBounds_toArray, List.set_cons_zero, List.set_cons_succ]
      refine wpAnyH_take (i := 1) (v := .pointer (some ⟨d, 0, none⟩)) rfl (by kernel_rfl) (by kernel_rfl) (by kernel_rfl) (fun _ _ _ h => h) (Or.inl ⟨by kernel_rfl, fun w hSw => ?_⟩) S0 ?_
      · obtain ⟨e1, e2, e3⟩ := hSw; go_simp
      simp only [Act.put, List.getElem_toArray, List.getElem_cons_succ, List.getElem_cons_zero, List.setIfInBounds_toArray, List.set_cons_zero, List.set_cons_succ]
      refine wpAnyH_take (i := 2) (v := .pointer (some ⟨d, 1, none⟩)) rfl (by kernel_rfl) (by kernel_rfl) (by kernel_rfl) (fun _ _ _ h => h) (Or.inl ⟨by kernel_rfl, fun w hSw => ?_⟩) S0 ?_
      · obtain ⟨e1, e2, e3⟩ := hSw; go_simp
      simp only [Act.put, List.getElem_toArray, List.getElem_cons_succ, List.getElem_cons_zero, List.setIfInBounds_toArray, List.set_cons_zero, List.set_cons_succ]
      refine wpAnyH_take (i := 3) (v := .map (some m)) rfl (by kernel_rfl) (by kernel_rfl) (by kernel_rfl) (fun _ _ _ h => h) (Or.inl ⟨by kernel_rfl, fun w hSw => ?_⟩) S0 ?_
      · obtain ⟨e1, e2, e3⟩ := hSw; go_simp
      simp only [Act.put, List.getElem_toArray, List.getElem_cons_succ, List.getElem_cons_zero, List.setIfInBounds_toArray, List.set_cons_zero, List.set_cons_succ]
      refine wpAnyH_take (i := 4) (v := encStr n) rfl (by kernel_rfl) (by kernel_rfl) (by kernel_rfl) (fun _ _ _ h => h) (Or.inl ⟨by kernel_rfl, fun w hSw => ?_⟩) S0 ?_
      · obtain ⟨e1, e2, e3⟩ := hSw; go_simp
      simp only [Act.put, List.getElem_toArray, List.getElem_cons_succ, List.getElem_cons_zero, List.setIfInBounds_toArray, List.set_cons_zero, List.set_cons_succ]
      refine wpAnyH_ready (rs := [5]) (by kernel_rfl) (by simp) ?_
      refine AllReadyH.cons rfl (fun K hK => ?_) AllReadyH.nil
      go_simp
      refine hK.out _ _ S0 (fun _ => ?_)
      clear hK K
      try simp only [Act.put, List.getElem_toArray, List.getElem_cons_succ, List.getElem_cons_zero, List.setIfInBounds_toArray, List.set_cons_zero, List.set_cons_succ]
      refine wpAnyH_take (i := 6) (v := .pointer (some ⟨f.g, 0, none⟩)) rfl (by kernel_rfl) (by kernel_rfl) (by kernel_rfl) (fun _ _ _ h => h) (Or.inl ⟨by kernel_rfl, fun w hSw => ?_⟩) S0 ?_
      · obtain ⟨e1, e2, e3⟩ := hSw; go_simp
      simp only [Act.put, List.getElem_toArray, List.getElem_cons_succ, List.getElem_cons_zero, List.setIfInBounds_toArray, List.set_cons_zero, List.set_cons_succ]
      refine wpAnyH_done (by kernel_rfl) ?_ _
      go_wp2
      go_ret
      exact ⟨0, rfl, R.out⟩
    | none =>
      have hu := hD.upd (w' := w.drew.setCell ⟨f.g, 1, none⟩ (.int .i64 (f.b.length : Int))) hl ⟨f.b, f.b.length, f.g, f.v⟩ rfl (by simp) (fun j hj h1 h2 => Below.heap_setCell _ _ _ _ (by simp; exact h1)) (by rw [set_blk (i := 1) _ (w := w.drew) g0]; simp) (row_kept5 hrow (fun k hk => Below.heap_setCell _ _ _ _ (fun e => hD.files.gv hl hl (by rw [hk]; exact congrArg some e)))) (fun i hi => Or.inl hi) ⟨(hD.files.ok n f hl).1, Nat.le_refl _⟩ (by have := hD.fits; simp; omega) ⟨rfl, rfl, rfl⟩
      have R := hid (DK.of (due := due) (F := (eSync n none F).1) hc hP hu.2 hu.1 (by unfold eSync; rw [hlF, put_mp, hF]; rfl))
      have R2 : Hid (0 = (eSync n none F).2) := hid (by unfold eSync; rw [hlF]; rfl)
      simp only [pv]
      clear hDK hD hc hF hl hlF hxd hxn g0 hrow hav hu
      go_enter Try.func33, Try.ntmps33
      go_wp2_with fail
      refine wp_region_held_drew (S := fun w' => w'.cell? ⟨xd, 0, none⟩ = some (.pointer (some ⟨d, 0, none⟩)) ∧ w'.cell? ⟨d, 1, none⟩ = some (.map (some m)) ∧ w'.cell? ⟨xn, 0, none⟩ = some (encStr n)) hmxo S0 ?_
      intro _
      refine wpAnyH_take (i := 0) (v := .pointer (some ⟨d, 0, none⟩)) rfl (by kernel_rfl) (by kernel_rfl) (by kernel_rfl) (fun _ _ _ h => h) (Or.inl ⟨by kernel_rfl, fun w hSw => ?_⟩) S0 ?_
      · obtain ⟨e1, e2, e3⟩ := hSw; go_simp
      simp only [Act.put, List.getElem_toArray, List.getElem_cons_succ, List.getElem_cons_zero, List.setIfInBounds_toArray, List.set_cons_zero, List.set_cons_succ]
      refine wpAnyH_take (i := 1) (v := .pointer (some ⟨d, 0, none⟩)) rfl (by kernel_rfl) (by kernel_rfl) (by kernel_rfl) (fun _ _ _ h => h) (Or.inl ⟨by kernel_rfl, fun w hSw => ?_⟩) S0 ?_
      · obtain ⟨e1, e2, e3⟩ := hSw; go_simp
      simp only [Act.put, List.getElem_toArray, List.getElem_cons_succ, List.getElem_cons_zero, List.setIfInBounds_toArray, List.set_cons_zero, List.set_cons_succ]
      refine wpAnyH_take (i := 2) (v := .pointer (some ⟨d, 1, none⟩)) rfl (by kernel_rfl) (by kernel_rfl) (by kernel_rfl) (fun _ _ _ h => h) (Or.inl ⟨by kernel_rfl, fun w hSw => ?_⟩) S0 ?_
      · obtain ⟨e1, e2, e3⟩ := hSw; go_simp
      simp only [Act.put, List.getElem_toArray, List.getElem_cons_succ, List.getElem_cons_zero, List.setIfInBounds_toArray, List.set_cons_zero, List.set_cons_succ]
      refine wpAnyH_take (i := 3) (v := .map (some m)) rfl (by kernel_rfl) (by kernel_rfl) (by kernel_rfl) (fun _ _ _ h => h) (Or.inl ⟨by kernel_rfl, fun w hSw => ?_⟩) S0 ?_
      · obtain ⟨e1, e2, e3⟩ := hSw; go_simp
      simp only [Act.put, List.getElem_toArray, List.getElem_cons_succ, List.getElem_cons_zero, List.setIfInBounds_toArray, List.set_cons_zero, List.set_cons_succ]
      refine wpAnyH_take (i := 4) (v := encStr n) rfl (by kernel_rfl) (by kernel_rfl) (by kernel_rfl) (fun _ _ _ h => h) (Or.inl ⟨by kernel_rfl, fun w hSw => ?_⟩) S0 ?_
      · obtain ⟨e1, e2, e3⟩ := hSw; go_simp
      simp only [Act.put, List.getElem_toArray, List.getElem_cons_succ, List.getElem_cons_zero, List.setIfInBounds_toArray, List.set_cons_zero, List.set_cons_succ]
      refine wpAnyH_ready (rs := [5]) (by kernel_rfl) (by simp) ?_
      refine AllReadyH.cons rfl (fun K hK => ?_) AllReadyH.nil
      go_simp
      refine hK.out _ _ S0 (fun _ => ?_)
      clear hK K
      try simp only [Act.put, List.getElem_toArray, List.getElem_cons_succ, List.getElem_cons_zero, List.setIfInBounds_toArray, List.set_cons_zero, List.set_cons_succ]
      refine wpAnyH_take (i := 6) (v := .pointer (some ⟨f.g, 0, none⟩)) rfl (by kernel_rfl) (by kernel_rfl) (by kernel_rfl) (fun _ _ _ h => h) (Or.inl ⟨by kernel_rfl, fun w hSw => ?_⟩) S0 ?_
      · obtain ⟨e1, e2, e3⟩ := hSw; go_simp
      simp only [Act.put, List.getElem_toArray, List.getElem_cons_succ, List.getElem_cons_zero, List.setIfInBounds_toArray, List.set_cons_zero, List.set_cons_succ]
      refine wpAnyH_done (by kernel_rfl) ?_ _
      go_wp2
      go_ret
      exact ⟨0, rfl, R2.out, R.out⟩
end
end Go.Proofs.Ytocglenkdjiknaa
