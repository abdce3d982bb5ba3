/- Append: what is there in the end. -/
import Derived.Test.YtocglenkdjiknaaDkAdd
namespace Go.Proofs.Ytocglenkdjiknaa
section
set_option linter.unusedVariables false
set_option linter.unusedSimpArgs false
open Go.RowKit Go.Sort Go.Maps

theorem MP.regive {w : World} {m : Nat} {S : List (Nm × Fi)} (h : MP w m S) (hA : Asc S) {n : Nm} {f f' : Fi} (hf : lk S n = some f) (hg : f'.g = f.g) : MP w m (put S n f') := by
  obtain ⟨D, ho, hT⟩ := h
  refine ⟨D, by rw [len_put n f' hA, hf]; simpa using ho, fun k => ?_⟩
  rw [lk_put]
  by_cases e : k = n
  · subst e
    rw [if_pos rfl]
    refine ⟨by rw [(hT k).1, hf]; rfl, ?_⟩
    rw [(hT k).2, hf]
    simp [hg]
  · rw [if_neg e]
    exact hT k

/-- One's own, and what is new. -/
def An (A : Nat → Prop) (w w' : World) : Nat → Prop := fun j => A j ∨ (w.heap.size ≤ j ∧ j < w'.heap.size)

theorem DA.upd {w w' : World} {d m : Nat} {cv : Value} {room : Nat} {off : Bool} {S : List (Nm × Fi)} {A : Nat → Prop} (h : DA w d m cv room off S A) {n : Nm} {f : Fi} (hf : lk S n = some f) (f' : Fi) (hg : f'.g = f.g) (hz : w.heap.size ≤ w'.heap.size)
    (hk : ∀ j, j < w.heap.size → j ≠ f.g → f.v.ownBlock ≠ some j → w'.heap[j]? = w.heap[j]?) (hfl : w'.heap[f'.g]? = some (.cells #[f'.v, .int .i64 (f'.s : Int)] 68 (0, 0))) (hr : w'.ownsRow 0 5 1 f'.v f'.b.length (f'.b.map (Value.int .u8)))
    (ho : ∀ i, f'.v.ownBlock = some i → f.v.ownBlock = some i ∨ w.heap.size ≤ i) (hb : Bts f'.b ∧ f'.s ≤ f'.b.length) (hsum : sm (fun f => f.b.length) S + f'.b.length ≤ room + f.b.length) (hsm : Sm w w') : DA w' d m cv room off (put S n f') (An A w w') ∧ KA w w' A (An A w w') := by
  obtain ⟨hne, hfi⟩ := h.ne
  have hof := hfi n f hf
  have hAf := h.files.own n f hf
  have hd' : w'.heap[d]? = w.heap[d]? := hk d (h.lt d h.own.1) (Ne.symm hof.1) hof.2.2.1
  have hm' : w'.heap[m]? = w.heap[m]? := hk m (h.lt m h.own.2) (Ne.symm hof.2.1) hof.2.2.2.1
  refine ⟨⟨hd'.trans h.blk, (h.map.same hm').regive h.asc hf hg, ?_, asc_put n f' h.asc, by rw [len_put n f' h.asc, hf]; simpa using h.few, ?_, h.small, fun k x e => ?_, ⟨Or.inl h.own.1, Or.inl h.own.2⟩, fun j hj => ?_⟩, ⟨hz, fun j hj hA => hk j hj (fun e => hA (by rw [e]; exact hAf.1)) (fun e => hA (hAf.2 j e)), fun j hj => hj.imp id (fun e => e.1), hsm⟩⟩
  · rw [lk_put_eq]
    refine h.files.upd n f' (fun j hj => Or.inl hj) hfl hr ⟨Or.inl (by rw [hg]; exact hAf.1), fun i hi => ?_⟩ hb (fun k f2 hkn e => ?_)
    · rcases ho i hi with h1 | h1
      · exact Or.inl (hAf.2 i h1)
      · exact Or.inr ⟨h1, (row_lt5 hr hi).1⟩
    · have hA2 := h.files.own k f2 e
      have hg2 : f2.g ≠ f.g := fun e' => hkn (h.files.apg k n f2 f e hf e')
      refine ⟨hk _ (h.lt _ hA2.1) hg2 (h.files.gv e hf), by rw [hg]; exact hg2, fun i hi => ⟨hk i (h.lt i (hA2.2 i hi)) (fun e' => h.files.gv hf e (by rw [hi, e'])) (fun e' => hkn (h.files.apv k n f2 f i e hf hi e')), fun e' => ?_⟩⟩
      rcases ho i e' with h1 | h1
      · exact hkn (h.files.apv k n f2 f i e hf hi h1)
      · have := h.lt i (hA2.2 i hi)
        omega
  · have := sm_put (fun f : Fi => f.b.length) n f' h.asc
    rw [hf] at this
    simp only [at_] at this
    omega
  · rw [lk_put] at e
    split at e
    · rename_i e'
      rw [e']; exact h.nice n f hf
    · exact h.nice k x e
  · rcases hj with hj | hj
    · have := h.lt j hj; omega
    · exact hj.2

theorem len_wo {α : Type} {S : List (Nm × α)} (n : Nm) (h : Asc S) : (wo S n).length ≤ S.length := by
  have h1 := sm_wo (fun _ : α => 1) n h
  rw [sm_len, sm_len] at h1
  omega
theorem len_wo1 {α : Type} {S : List (Nm × α)} {n : Nm} {a : α} (h : Asc S) (hf : lk S n = some a) : (wo S n).length + 1 = S.length := by
  have h1 := sm_wo (fun _ : α => 1) n h
  rw [sm_len, sm_len, hf] at h1
  simpa [at_] using h1

/-- Without one of its files: the map has turned. -/
theorem DA.gone {w w' : World} {d m : Nat} {cv : Value} {room : Nat} {off : Bool} {S : List (Nm × Fi)} {A : Nat → Prop} (h : DA w d m cv room off S A) (n : Nm) (hM : MP w' m (wo S n)) (hg : w.grownBy w' (some m)) : DA w' d m cv room off (wo S n) A ∧ KA w w' A A := by
  have hd' := (hg.block d (h.lt d h.own.1) (fun e => h.ne.1 (by simpa using e))).trans h.blk
  refine ⟨⟨hd', hM, (h.files.mapped h.map hg).sub (fun k f e => ?_), asc_wo n h.asc, Nat.le_trans (len_wo n h.asc) h.few, ?_, h.small, fun k f e => ?_, h.own, fun j hj => Nat.lt_of_lt_of_le (h.lt j hj) hg.size⟩, ⟨hg.size, fun j hj hA => hg.block j hj (fun e => hA ((Option.some.inj e).symm ▸ h.own.2)), fun j hj => Or.inl hj, Sm.g hg⟩⟩
  · rw [lk_wo] at e
    split at e
    · cases e
    · exact e
  · have := sm_wo (fun f : Fi => f.b.length) n h.asc
    have := h.fits
    omega
  · rw [lk_wo] at e
    split at e
    · cases e
    · exact h.nice k f e

/-- A file under another name. -/
theorem FW.moved {w : World} {S : List (Nm × Fi)} {A : Nat → Prop} (h : FW w (lk S) A) {n : Nm} {f : Fi} (hf : lk S n = some f) (t : Nm) : FW w (lk (put (wo S n) t f)) A := by
  rw [lk_put_eq]
  have hM : ∀ m f', (if m = t then some f else lk (wo S n) m) = some f' → (m = t ∧ f' = f) ∨ (m ≠ t ∧ m ≠ n ∧ lk S m = some f') := fun m f' e => by
    by_cases hm : m = t
    · rw [if_pos hm] at e; exact Or.inl ⟨hm, (Option.some.inj e).symm⟩
    · rw [if_neg hm, lk_wo] at e
      split at e
      · cases e
      · rename_i hn
        exact Or.inr ⟨hm, hn, e⟩
  have h1 : ∀ m f', (if m = t then some f else lk (wo S n) m) = some f' → ∃ k, lk S k = some f' := fun m f' e => by
    rcases hM m f' e with ⟨_, rfl⟩ | ⟨_, _, e⟩
    · exact ⟨n, hf⟩
    · exact ⟨m, e⟩
  refine ⟨fun m f' e => ?_, fun m f' e => ?_, fun m f' e => ?_, fun m f' e => ?_, fun m m' f1 f2 e e' eg => ?_, fun m m' f1 f2 k e e' k1 k2 => ?_⟩
  · obtain ⟨k, hk⟩ := h1 m f' e
    exact h.file k f' hk
  · obtain ⟨k, hk⟩ := h1 m f' e
    exact h.row k f' hk
  · obtain ⟨k, hk⟩ := h1 m f' e
    exact h.own k f' hk
  · obtain ⟨k, hk⟩ := h1 m f' e
    exact h.ok k f' hk
  · rcases hM m f1 e with ⟨hm, x1⟩ | ⟨_, hn, y1⟩ <;> rcases hM m' f2 e' with ⟨hm', x2⟩ | ⟨_, hn', y2⟩
    · rw [hm, hm']
    · rw [x1] at eg
      exact absurd (h.apg m' n f2 f y2 hf eg.symm) hn'
    · rw [x2] at eg
      exact absurd (h.apg m n f1 f y1 hf eg) hn
    · exact h.apg m m' f1 f2 y1 y2 eg
  · rcases hM m f1 e with ⟨hm, x1⟩ | ⟨_, hn, y1⟩ <;> rcases hM m' f2 e' with ⟨hm', x2⟩ | ⟨_, hn', y2⟩
    · rw [hm, hm']
    · rw [x1] at k1
      exact absurd (h.apv m' n f2 f k y2 hf k2 k1) hn'
    · rw [x2] at k2
      exact absurd (h.apv m n f1 f k y1 hf k1 k2) hn
    · exact h.apv m m' f1 f2 k y1 y2 k1 k2
end

section
set_option linter.unusedVariables false
set_option linter.unusedSimpArgs false
open Go.RowKit Go.Sort Go.Maps

/-- How much is done: whole (below 0), or so many. -/
def pv : Option Nat → Value
  | none => .int .i64 (-1)
  | some p => .int .i64 (p : Int)

theorem look_run {w : World} {m : Nat} {S : List (Nm × Fi)} (h : MP w m S) {n : Nm} (hn : n.length ≤ 1000000) {o : Option Fi} (e : lk S n = o) : (Instr.lookup 52 (.map (some m)) (encStr n) false).run Try.prog w = .ok (pvo (o.map Fi.g)) w := by
  rw [h.look (n := n) (by unfold maxLen; omega), e]

theorem lk_F {D : Dk} {S : List (Nm × Fi)} (hF : mp Fi.fl S = D.F) (n : Nm) {o : Option Fi} (e : lk S n = o) : lk D.F n = o.map Fi.fl := by rw [← hF, lk_mp, e]

/-- Nothing was done. -/
theorem DK.none {w : World} {d : Nat} {D : Dk} {P : Nat → Prop} (h : DK w d D P) (hoff : D.off = false) {e : Nat} {x : List (Nm × Fl) × Nat} (hx : x = (D.F, e)) : e = x.2 ∧ DK w.drew d ⟨D.room, false, D.due, x.1⟩ P ∧ KP w w.drew P := by
  subst hx
  refine ⟨rfl, ?_, ⟨Nat.le_refl _, fun _ _ _ => rfl, ⟨rfl, rfl, rfl⟩⟩⟩
  obtain ⟨m, cv, S, A, hD, hc, hF, hP⟩ := h
  refine ⟨m, cv, S, A, ?_, hc, hF, hP⟩
  rw [hoff] at hD
  exact hD.same (fun _ _ => rfl) (Nat.le_refl _)
theorem DK.none0 {w : World} {d : Nat} {D : Dk} {P : Nat → Prop} (h : DK w d D P) (hoff : D.off = false) {e : Nat} {x : List (Nm × Fl) × Nat} (hx : x = (D.F, e)) : e = x.2 ∧ DK w d ⟨D.room, false, D.due, x.1⟩ P ∧ KP w w P := by
  subst hx
  refine ⟨rfl, ?_, KP.refl _ _⟩
  obtain ⟨m, cv, S, A, hD, hc, hF, hP⟩ := h
  rw [hoff] at hD
  exact ⟨m, cv, S, A, hD, hc, hF, hP⟩
theorem DA.drew {w : World} {d m : Nat} {cv : Value} {room : Nat} {off : Bool} {S : List (Nm × Fi)} {A : Nat → Prop} (h : DA w d m cv room off S A) : DA w.drew d m cv room off S A := h.same (fun _ _ => rfl) (Nat.le_refl _)
theorem KA.drew {w w' : World} {A A' : Nat → Prop} (h : KA w.drew w' A A') : KA w w' A A' := ⟨h.size, h.keep, h.new, h.sm⟩
theorem CT.drew {w : World} {cv : Value} {due : Option (Nat × Nat × Nat)} {A P : Nat → Prop} (h : CT w cv due A P) : CT w.drew cv due A P := h
end

section
set_option linter.unusedVariables false
set_option linter.unusedSimpArgs false
open Go.RowKit Go.Sort Go.Maps

set_option maxRecDepth 100000 in
set_option maxHeartbeats 4000000 in
theorem sync1_any (d : Nat) (n : Nm) (pt : Option Nat) (D : Dk) (P : Nat → Prop) (w : World) (h : DK w d D P) (hoff : D.off = false) (xd xn : Nat) (hxd : w.heap[xd]? = some (.cells #[.pointer (some ⟨d, 0, none⟩)] 24 (0, 0))) (hxn : w.heap[xn]? = some (.cells #[encStr n] 9 (0, 0))) (hp : ∀ p, pt = some p → p ≤ 9223372036854775807) (hn : n.length ≤ 1000000) :
    Calls Try.prog 33 #[pv pt, .pointer (some ⟨xd, 0, none⟩), .pointer (some ⟨xn, 0, none⟩)] w fun e w' => ∃ x : Nat, e = .returned (.int .i64 (x : Int)) ∧ x = (eSync n pt D.F).2 ∧ DK w' d ⟨D.room, false, D.due, (eSync n pt D.F).1⟩ P ∧ KP w w' P := by
  have hDK := h
  obtain ⟨m, cv, S, A, hD, hc, hF, hP⟩ := h
  have S0 : w.drew.cell? ⟨xd, 0, none⟩ = some (.pointer (some ⟨d, 0, none⟩)) ∧ w.drew.cell? ⟨d, 1, none⟩ = some (.map (some m)) ∧ w.drew.cell? ⟨xn, 0, none⟩ = some (encStr n) := ⟨cell_blk (w := w.drew) hxd rfl, cell_blk (w := w.drew) hD.blk rfl, cell_blk (w := w.drew) hxn rfl⟩
  obtain ⟨room, off, due, F⟩ := D
  simp only at hoff hD hc hF ⊢
  subst hoff
  have hmxo : Try.prog.follows .mixedOrders = true := by kernel_rfl
  cases hl : lk S n with
  | none =>
    have hlk := look_run hD.drew.map hn hl
    have hlF := lk_F (D := ⟨room, false, due, F⟩) hF n hl
    have R := hid (hDK.none rfl (e := 70) (x := eSync n pt F) (by unfold eSync; rw [hlF]; rfl))
    simp only [Option.map_none, pvo] at hlk
    clear hDK hD hc hF hl hlF hxd hxn
    go_enter Try.func33, Try.ntmps33
    go_wp2_with fail
    refine wp_region_held_drew (S := fun w' => w'.cell? ⟨xd, 0, none⟩ = some (.pointer (some ⟨d, 0, none⟩)) ∧ w'.cell? ⟨d, 1, none⟩ = some (.map (some m)) ∧ w'.cell? ⟨xn, 0, none⟩ = some (encStr n)) hmxo S0 ?_
    intro _
    refine wpAnyH_take (i := 0) (v := .pointer (some ⟨d, 0, none⟩)) rfl (by kernel_rfl) (by kernel_rfl) (by kernel_rfl) (fun _ _ _ h => h) (Or.inl ⟨by kernel_rfl, fun w hSw => ?_⟩) S0 ?_
    · obtain ⟨e1, e2, e3⟩ := hSw; go_simp
    simp only [Act.put, List.getElem_toArray, List.getElem_cons_succ, List.getElem_cons_zero, List.setIfInBounds_toArray, List.set_cons_zero, List.set_cons_succ]
    refine wpAnyH_take (i := 1) (v := .pointer (some ⟨d, 0, none⟩)) rfl (by kernel_rfl) (by kernel_rfl) (by kernel_rfl) (fun _ _ _ h => h) (Or.inl ⟨by kernel_rfl, fun w hSw => ?_⟩) S0 ?_
    · obtain ⟨e1, e2, e3⟩ := hSw; go_simp
    simp only [Act.put, List.getElem_toArray, List.getElem_cons_succ, List.getElem_cons_zero, List.setIfInBounds_toArray, List.set_cons_zero, List.set_cons_succ]
    refine wpAnyH_take (i := 2) (v := .pointer (some ⟨d, 1, none⟩)) rfl (by kernel_rfl) (by kernel_rfl) (by kernel_rfl) (fun _ _ _ h => h) (Or.inl ⟨by kernel_rfl, fun w hSw => ?_⟩) S0 ?_
    · obtain ⟨e1, e2, e3⟩ := hSw; go_simp
    simp only [Act.put, List.getElem_toArray, List.getElem_cons_succ, List.getElem_cons_zero, List.setIfInBounds_toArray, List.set_cons_zero, List.set_cons_succ]
    refine wpAnyH_take (i := 3) (v := .map (some m)) rfl (by kernel_rfl) (by kernel_rfl) (by kernel_rfl) (fun _ _ _ h => h) (Or.inl ⟨by kernel_rfl, fun w hSw => ?_⟩) S0 ?_
    · obtain ⟨e1, e2, e3⟩ := hSw; go_simp
    simp only [Act.put, List.getElem_toArray, List.getElem_cons_succ, List.getElem_cons_zero, List.setIfInBounds_toArray, List.set_cons_zero, List.set_cons_succ]
    refine wpAnyH_take (i := 4) (v := encStr n) rfl (by kernel_rfl) (by kernel_rfl) (by kernel_rfl) (fun _ _ _ h => h) (Or.inl ⟨by kernel_rfl, fun w hSw => ?_⟩) S0 ?_
    · obtain ⟨e1, e2, e3⟩ := hSw; go_simp
    simp only [Act.put, List.getElem_toArray, List.getElem_cons_succ, List.getElem_cons_zero, List.setIfInBounds_toArray, List.set_cons_zero, List.set_cons_succ]
    refine wpAnyH_ready (rs := [5]) (by kernel_rfl) (by simp) ?_
    refine AllReadyH.cons rfl (fun K hK => ?_) AllReadyH.nil
    go_simp
    refine hK.out _ _ S0 (fun _ => ?_)
    clear hK K
    try simp only [Act.put, List.getElem_toArray, List.getElem_cons_succ, List.getElem_cons_zero, List.setIfInBounds_toArray, List.set_cons_zero, List.set_cons_succ]
    refine wpAnyH_take (i := 6) (v := .pointer none) rfl (by kernel_rfl) (by kernel_rfl) (by kernel_rfl) (fun _ _ _ h => h) (Or.inl ⟨by kernel_rfl, fun w hSw => ?_⟩) S0 ?_
    · obtain ⟨e1, e2, e3⟩ := hSw; go_simp
    simp only [Act.put, List.getElem_toArray, List.getElem_cons_succ, List.getElem_cons_zero, List.setIfInBounds_toArray, List.set_cons_zero, List.set_cons_succ]
    refine wpAnyH_done (by kernel_rfl) ?_ _
    go_wp2
    go_ret
    exact ⟨70, rfl, R.out⟩
  | some f =>
    have hlk := look_run hD.drew.map hn hl
    have hlF := lk_F (D := ⟨room, false, due, F⟩) hF n hl
    simp only [Option.map_some, pvo] at hlk
    have g0 := hD.files.file n f hl
    have hrow := hD.files.row n f hl
    obtain ⟨a, cc, hav, _⟩ := own_src hrow
    have b0 : w.drew.cell? ⟨f.g, 0, none⟩ = some (.slice a f.b.length cc) := by rw [cell_blk (w := w.drew) g0 rfl, hav]; rfl
    have b1 : w.drew.cell? ⟨f.g, 1, none⟩ = some (.int .i64 (f.s : Int)) := cell_blk (w := w.drew) g0 rfl
    have u1 := frz_blk (w := w.drew) (i := 1) g0
    have hfl : f.b.length ≤ 1000000 := Nat.le_trans (sm_at (fun f : Fi => f.b.length) hl) (Nat.le_trans hD.fits hD.small)
    cases pt with
    | some p =>
      have hp := hp p rfl
      have R := hid (hDK.none rfl (e := 0) (x := eSync n (some p) F) (by unfold eSync; rw [hlF]; rfl))
      simp only [pv]
      clear hDK hD hc hF hl hlF hxd hxn g0 hrow hav
      go_enter Try.func33, Try.ntmps33
      go_wp2_with fail
      refine wp_region_held_drew (S := fun w' => w'.cell? ⟨xd, 0, none⟩ = some (.pointer (some ⟨d, 0, none⟩)) ∧ w'.cell? ⟨d, 1, none⟩ = some (.map (some m)) ∧ w'.cell? ⟨xn, 0, none⟩ = some (encStr n)) hmxo S0 ?_
      intro _
      refine wpAnyH_take (i := 0) (v := .pointer (some ⟨d, 0, none⟩)) rfl (by kernel_rfl) (by kernel_rfl) (by kernel_rfl) (fun _ _ _ h => h) (Or.inl ⟨by kernel_rfl, fun w hSw => ?_⟩) S0 ?_
      · obtain ⟨e1, e2, e3⟩ := hSw; go_simp
      simp only [Act.put, List.getElem_toArray, List.getElem_cons_succ, List.getElem_cons_zero, List.setIfInBounds_toArray, List.set_cons_zero, List.set_cons_succ]
      refine wpAnyH_take (i := 1) (v := .pointer (some ⟨d, 0, none⟩)) rfl (by kernel_rfl) (by kernel_rfl) (by kernel_rfl) (fun _ _ _ h => h) (Or.inl ⟨by kernel_rfl, fun w hSw => ?_⟩) S0 ?_
      · obtain ⟨e1, e2, e3⟩ := hSw; go_simp
      simp only [Act.put, List.getElem_toArray, List.getElem_cons_succ, List.getElem_cons_zero, List.setIfInBounds_toArray, List.set_cons_zero, List.set_cons_succ]
      refine wpAnyH_take (i := 2) (v := .pointer (some ⟨d, 1, none⟩)) rfl (by kernel_rfl) (by kernel_rfl) (by kernel_rfl) (fun _ _ _ h => h) (Or.inl ⟨by kernel_rfl, fun w hSw => ?_⟩) S0 ?_
      · obtain ⟨e1, e2, e3⟩ := hSw; go_simp
      simp only [Act.put, List.getElem_toArray, List.getElem_cons_succ, List.getElem_cons_zero, List.setIfInBounds_toArray, List.set_cons_zero, List.set_cons_succ]
      refine wpAnyH_take (i := 3) (v := .map (some m)) rfl (by kernel_rfl) (by kernel_rfl) (by kernel_rfl) (fun _ _ _ h => h) (Or.inl ⟨by kernel_rfl, fun w hSw => ?_⟩) S0 ?_
      · obtain ⟨e1, e2, e3⟩ := hSw; go_simp
      simp only [Act.put, List.getElem_toArray, List.getElem_cons_succ, List.getElem_cons_zero, List.setIfInBounds_toArray, List.set_cons_zero, List.set_cons_succ]
      refine wpAnyH_take (i := 4) (v := encStr n) rfl (by kernel_rfl) (by kernel_rfl) (by kernel_rfl) (fun _ _ _ h => h) (Or.inl ⟨by kernel_rfl, fun w hSw => ?_⟩) S0 ?_
      · obtain ⟨e1, e2, e3⟩ := hSw; go_simp
      simp only [Act.put, List.getElem_toArray, List.getElem_cons_succ, List.getElem_cons_zero, List.setIfInBounds_toArray, List.set_cons_zero, List.set_cons_succ]
      refine wpAnyH_ready (rs := [5]) (by kernel_rfl) (by simp) ?_
      refine AllReadyH.cons rfl (fun K hK => ?_) AllReadyH.nil
      go_simp
      refine hK.out _ _ S0 (fun _ => ?_)
      clear hK K
      try simp only [Act.put, List.getElem_toArray, List.getElem_cons_succ, List.getElem_cons_zero, List.setIfInBounds_toArray, List.set_cons_zero, List.set_cons_succ]
      refine wpAnyH_take (i := 6) (v := .pointer (some ⟨f.g, 0, none⟩)) rfl (by kernel_rfl) (by kernel_rfl) (by kernel_rfl) (fun _ _ _ h => h) (Or.inl ⟨by kernel_rfl, fun w hSw => ?_⟩) S0 ?_
      · obtain ⟨e1, e2, e3⟩ := hSw; go_simp
      simp only [Act.put, List.getElem_toArray, List.getElem_cons_succ, List.getElem_cons_zero, List.setIfInBounds_toArray, List.set_cons_zero, List.set_cons_succ]
      refine wpAnyH_done (by kernel_rfl) ?_ _
      go_wp2
      go_ret
      exact ⟨0, rfl, R.out⟩
    | none =>
      have hu := hD.upd (w' := w.drew.setCell ⟨f.g, 1, none⟩ (.int .i64 (f.b.length : Int))) hl ⟨f.b, f.b.length, f.g, f.v⟩ rfl (by simp) (fun j hj h1 h2 => Below.heap_setCell _ _ _ _ (by simp; exact h1)) (by rw [set_blk (i := 1) _ (w := w.drew) g0]; simp) (row_kept5 hrow (fun k hk => Below.heap_setCell _ _ _ _ (fun e => hD.files.gv hl hl (by rw [hk]; exact congrArg some e)))) (fun i hi => Or.inl hi) ⟨(hD.files.ok n f hl).1, Nat.le_refl _⟩ (by have := hD.fits; simp; omega) ⟨rfl, rfl, rfl⟩
      have R := hid (DK.of (due := due) (F := (eSync n none F).1) hc hP hu.2 hu.1 (by unfold eSync; rw [hlF, put_mp, hF]; rfl))
      have R2 : Hid (0 = (eSync n none F).2) := hid (by unfold eSync; rw [hlF]; rfl)
      simp only [pv]
      clear hDK hD hc hF hl hlF hxd hxn g0 hrow hav hu
      go_enter Try.func33, Try.ntmps33
      go_wp2_with fail
      refine wp_region_held_drew (S := fun w' => w'.cell? ⟨xd, 0, none⟩ = some (.pointer (some ⟨d, 0, none⟩)) ∧ w'.cell? ⟨d, 1, none⟩ = some (.map (some m)) ∧ w'.cell? ⟨xn, 0, none⟩ = some (encStr n)) hmxo S0 ?_
      intro _
      refine wpAnyH_take (i := 0) (v := .pointer (some ⟨d, 0, none⟩)) rfl (by kernel_rfl) (by kernel_rfl) (by kernel_rfl) (fun _ _ _ h => h) (Or.inl ⟨by kernel_rfl, fun w hSw => ?_⟩) S0 ?_
      · obtain ⟨e1, e2, e3⟩ := hSw; go_simp
      simp only [Act.put, List.getElem_toArray, List.getElem_cons_succ, List.getElem_cons_zero, List.setIfInBounds_toArray, List.set_cons_zero, List.set_cons_succ]
      refine wpAnyH_take (i := 1) (v := .pointer (some ⟨d, 0, none⟩)) rfl (by kernel_rfl) (by kernel_rfl) (by kernel_rfl) (fun _ _ _ h => h) (Or.inl ⟨by kernel_rfl, fun w hSw => ?_⟩) S0 ?_
      · obtain ⟨e1, e2, e3⟩ := hSw; go_simp
      simp only [Act.put, List.getElem_toArray, List.getElem_cons_succ, List.getElem_cons_zero, List.setIfInBounds_toArray, List.set_cons_zero, List.set_cons_succ]
      refine wpAnyH_take (i := 2) (v := .pointer (some ⟨d, 1, none⟩)) rfl (by kernel_rfl) (by kernel_rfl) (by kernel_rfl) (fun _ _ _ h => h) (Or.inl ⟨by kernel_rfl, fun w hSw => ?_⟩) S0 ?_
      · obtain ⟨e1, e2, e3⟩ := hSw; go_simp
      simp only [Act.put, List.getElem_toArray, List.getElem_cons_succ, List.getElem_cons_zero, List.setIfInBounds_toArray, List.set_cons_zero, List.set_cons_succ]
      refine wpAnyH_take (i := 3) (v := .map (some m)) rfl (by kernel_rfl) (by kernel_rfl) (by kernel_rfl) (fun _ _ _ h => h) (Or.inl ⟨by kernel_rfl, fun w hSw => ?_⟩) S0 ?_
      · obtain ⟨e1, e2, e3⟩ := hSw; go_simp
      simp only [Act.put, List.getElem_toArray, List.getElem_cons_succ, List.getElem_cons_zero, List.setIfInBounds_toArray, List.set_cons_zero, List.set_cons_succ]
      refine wpAnyH_take (i := 4) (v := encStr n) rfl (by kernel_rfl) (by kernel_rfl) (by kernel_rfl) (fun _ _ _ h => h) (Or.inl ⟨by kernel_rfl, fun w hSw => ?_⟩) S0 ?_
      · obtain ⟨e1, e2, e3⟩ := hSw; go_simp
      simp only [Act.put, List.getElem_toArray, List.getElem_cons_succ, List.getElem_cons_zero, List.setIfInBounds_toArray, List.set_cons_zero, List.set_cons_succ]
      refine wpAnyH_ready (rs := [5]) (by kernel_rfl) (by simp) ?_
      refine AllReadyH.cons rfl (fun K hK => ?_) AllReadyH.nil
      go_simp
      refine hK.out _ _ S0 (fun _ => ?_)
      clear hK K
      try simp only [Act.put, List.getElem_toArray, List.getElem_cons_succ, List.getElem_cons_zero, List.setIfInBounds_toArray, List.set_cons_zero, List.set_cons_succ]
      refine wpAnyH_take (i := 6) (v := .pointer (some ⟨f.g, 0, none⟩)) rfl (by kernel_rfl) (by kernel_rfl) (by kernel_rfl) (fun _ _ _ h => h) (Or.inl ⟨by kernel_rfl, fun w hSw => ?_⟩) S0 ?_
      · obtain ⟨e1, e2, e3⟩ := hSw; go_simp
      simp only [Act.put, List.getElem_toArray, List.getElem_cons_succ, List.getElem_cons_zero, List.setIfInBounds_toArray, List.set_cons_zero, List.set_cons_succ]
      refine wpAnyH_done (by kernel_rfl) ?_ _
      go_wp2
      go_ret
      exact ⟨0, rfl, R2.out, R.out⟩
end

section
set_option linter.unusedVariables false
set_option linter.unusedSimpArgs false
open Go.RowKit Go.Sort Go.Maps

theorem may_nm (t : Nm) (w : World) (ht : t.length ≤ 1000000) (b : Bool) (hb : mayB t = b) : Calls Try.prog 31 #[encStr t] w fun e w' => e = .returned (.bool b) ∧ w = w' := by
  have := may_any ⟨t.toArray⟩ w (by show t.toArray.size ≤ _; simp; unfold maxLen; omega)
  rw [← hb]
  exact this
theorem mayB_len {t : Nm} (h : mayB t = true) : t.length ≤ 32 := by
  unfold mayB at h
  simp at h
  exact h.1.2

set_option maxRecDepth 100000 in
set_option maxHeartbeats 4000000 in
theorem rename1_any (d : Nat) (n : Nm) (pt : Option Nat) (t : Nm) (D : Dk) (P : Nat → Prop) (w : World) (h : DK w d D P) (hoff : D.off = false) (xd xn xt : Nat) (hxd : w.heap[xd]? = some (.cells #[.pointer (some ⟨d, 0, none⟩)] 24 (0, 0))) (hxn : w.heap[xn]? = some (.cells #[encStr n] 9 (0, 0))) (hxt : w.heap[xt]? = some (.cells #[encStr t] 9 (0, 0))) (hp : ∀ p, pt = some p → p ≤ 9223372036854775807) (hn : n.length ≤ 1000000) (hpt : P xt) (htl : t.length ≤ 1000000) :
    Calls Try.prog 35 #[pv pt, .pointer (some ⟨xt, 0, none⟩), .pointer (some ⟨xd, 0, none⟩), .pointer (some ⟨xn, 0, none⟩)] w fun e w' => ∃ x : Nat, e = .returned (.int .i64 (x : Int)) ∧ x = (eRen n t pt D.F).2 ∧ DK w' d ⟨D.room, false, D.due, (eRen n t pt D.F).1⟩ P ∧ KP w w' P := by
  have hDK := h
  obtain ⟨m, cv, S, A, hD, hc, hF, hP⟩ := h
  have S0 : w.drew.cell? ⟨xd, 0, none⟩ = some (.pointer (some ⟨d, 0, none⟩)) ∧ w.drew.cell? ⟨d, 1, none⟩ = some (.map (some m)) ∧ w.drew.cell? ⟨xn, 0, none⟩ = some (encStr n) := ⟨cell_blk (w := w.drew) hxd rfl, cell_blk (w := w.drew) hD.blk rfl, cell_blk (w := w.drew) hxn rfl⟩
  obtain ⟨room, off, due, F⟩ := D
  simp only at hoff hD hc hF ⊢
  subst hoff
  have hmxo : Try.prog.follows .mixedOrders = true := by kernel_rfl
  have t0 : w.cell? ⟨xt, 0, none⟩ = some (encStr t) := cell_blk hxt rfl
  cases hm : mayB t with
  | false =>
    have R := hid (hDK.none0 rfl (e := 61) (x := eRen n t pt F) (by unfold eRen; rw [hm]; rfl))
    have hmy := hid (may_nm t w htl false hm)
    clear hDK hD hc hF hxd hxn hxt
    go_enter Try.func35, Try.ntmps35
    go_wp2_with (go_at_call 31; refine hmy.out.mono ?_; rintro e w1 ⟨rfl, rfl⟩)
    go_ret
    exact ⟨61, rfl, R.out.1, R.out.2.1, R.out.2.2⟩
  | true =>
  have hmy := hid (may_nm t w htl true hm)
  cases hl : lk S n with
  | none =>
    have hlk := look_run hD.drew.map hn hl
    have hlF := lk_F (D := ⟨room, false, due, F⟩) hF n hl
    have R := hid (hDK.none rfl (e := 70) (x := eRen n t pt F) (by unfold eRen; rw [hm, hlF]; rfl))
    simp only [Option.map_none, pvo] at hlk
    clear hDK hD hc hF hl hlF hxd hxn hxt
    go_enter Try.func35, Try.ntmps35
    go_wp2_with (go_at_call 31; refine hmy.out.mono ?_; rintro e w1 ⟨rfl, rfl⟩)
    refine wp_region_held_drew (S := fun w' => w'.cell? ⟨xd, 0, none⟩ = some (.pointer (some ⟨d, 0, none⟩)) ∧ w'.cell? ⟨d, 1, none⟩ = some (.map (some m)) ∧ w'.cell? ⟨xn, 0, none⟩ = some (encStr n)) hmxo S0 ?_
    intro _
    refine wpAnyH_take (i := 0) (v := .pointer (some ⟨d, 0, none⟩)) rfl (by kernel_rfl) (by kernel_rfl) (by kernel_rfl) (fun _ _ _ h => h) (Or.inl ⟨by kernel_rfl, fun w hSw => ?_⟩) S0 ?_
    · obtain ⟨e1, e2, e3⟩ := hSw; go_simp
    simp only [Act.put, List.getElem_toArray, List.getElem_cons_succ, List.getElem_cons_zero, List.setIfInBounds_toArray, List.set_cons_zero, List.set_cons_succ]
    refine wpAnyH_take (i := 1) (v := .pointer (some ⟨d, 0, none⟩)) rfl (by kernel_rfl) (by kernel_rfl) (by kernel_rfl) (fun _ _ _ h => h) (Or.inl ⟨by kernel_rfl, fun w hSw => ?_⟩) S0 ?_
    · obtain ⟨e1, e2, e3⟩ := hSw; go_simp
    simp only [Act.put, List.getElem_toArray, List.getElem_cons_succ, List.getElem_cons_zero, List.setIfInBounds_toArray, List.set_cons_zero, List.set_cons_succ]
    refine wpAnyH_take (i := 2) (v := .pointer (some ⟨d, 1, none⟩)) rfl (by kernel_rfl) (by kernel_rfl) (by kernel_rfl) (fun _ _ _ h => h) (Or.inl ⟨by kernel_rfl, fun w hSw => ?_⟩) S0 ?_
    · obtain ⟨e1, e2, e3⟩ := hSw; go_simp
    simp only [Act.put, List.getElem_toArray, List.getElem_cons_succ, List.getElem_cons_zero, List.setIfInBounds_toArray, List.set_cons_zero, List.set_cons_succ]
    refine wpAnyH_take (i := 3) (v := .map (some m)) rfl (by kernel_rfl) (by kernel_rfl) (by kernel_rfl) (fun _ _ _ h => h) (Or.inl ⟨by kernel_rfl, fun w hSw => ?_⟩) S0 ?_
    · obtain ⟨e1, e2, e3⟩ := hSw; go_simp
    simp only [Act.put, List.getElem_toArray, List.getElem_cons_succ, List.getElem_cons_zero, List.setIfInBounds_toArray, List.set_cons_zero, List.set_cons_succ]
    refine wpAnyH_take (i := 4) (v := encStr n) rfl (by kernel_rfl) (by kernel_rfl) (by kernel_rfl) (fun _ _ _ h => h) (Or.inl ⟨by kernel_rfl, fun w hSw => ?_⟩) S0 ?_
    · obtain ⟨e1, e2, e3⟩ := hSw; go_simp
    simp only [Act.put, List.getElem_toArray, List.getElem_cons_succ, List.getElem_cons_zero, List.setIfInBounds_toArray, List.set_cons_zero, List.set_cons_succ]
    refine wpAnyH_ready (rs := [5]) (by kernel_rfl) (by simp) ?_
    refine AllReadyH.cons rfl (fun K hK => ?_) AllReadyH.nil
    go_simp
    refine hK.out _ _ S0 (fun _ => ?_)
    clear hK K
    try simp only [Act.put, List.getElem_toArray, List.getElem_cons_succ, List.getElem_cons_zero, List.setIfInBounds_toArray, List.set_cons_zero, List.set_cons_succ]
    refine wpAnyH_take (i := 6) (v := .pointer none) rfl (by kernel_rfl) (by kernel_rfl) (by kernel_rfl) (fun _ _ _ h => h) (Or.inl ⟨by kernel_rfl, fun w hSw => ?_⟩) S0 ?_
    · obtain ⟨e1, e2, e3⟩ := hSw; go_simp
    simp only [Act.put, List.getElem_toArray, List.getElem_cons_succ, List.getElem_cons_zero, List.setIfInBounds_toArray, List.set_cons_zero, List.set_cons_succ]
    refine wpAnyH_done (by kernel_rfl) ?_ _
    go_wp2
    go_ret
    exact ⟨70, rfl, R.out⟩
  | some f =>
    have hlk := look_run hD.drew.map hn hl
    have hlF := lk_F (D := ⟨room, false, due, F⟩) hF n hl
    simp only [Option.map_some, pvo] at hlk
    by_cases hz : pt = some 0
    · subst hz
      have R := hid (hDK.none rfl (e := 0) (x := eRen n t (some 0) F) (by unfold eRen; rw [hm, hlF]; rfl))
      simp only [pv]
      clear hDK hD hc hF hl hlF hxd hxn hxt
      go_enter Try.func35, Try.ntmps35
      go_wp2_with (go_at_call 31; refine hmy.out.mono ?_; rintro e w1 ⟨rfl, rfl⟩)
      refine wp_region_held_drew (S := fun w' => w'.cell? ⟨xd, 0, none⟩ = some (.pointer (some ⟨d, 0, none⟩)) ∧ w'.cell? ⟨d, 1, none⟩ = some (.map (some m)) ∧ w'.cell? ⟨xn, 0, none⟩ = some (encStr n)) hmxo S0 ?_
      intro _
      refine wpAnyH_take (i := 0) (v := .pointer (some ⟨d, 0, none⟩)) rfl (by kernel_rfl) (by kernel_rfl) (by kernel_rfl) (fun _ _ _ h => h) (Or.inl ⟨by kernel_rfl, fun w hSw => ?_⟩) S0 ?_
      · obtain ⟨e1, e2, e3⟩ := hSw; go_simp
      simp only [Act.put, List.getElem_toArray, List.getElem_cons_succ, List.getElem_cons_zero, List.setIfInBounds_toArray, List.set_cons_zero, List.set_cons_succ]
      refine wpAnyH_take (i := 1) (v := .pointer (some ⟨d, 0, none⟩)) rfl (by kernel_rfl) (by kernel_rfl) (by kernel_rfl) (fun _ _ _ h => h) (Or.inl ⟨by kernel_rfl, fun w hSw => ?_⟩) S0 ?_
      · obtain ⟨e1, e2, e3⟩ := hSw; go_simp
      simp only [Act.put, List.getElem_toArray, List.getElem_cons_succ, List.getElem_cons_zero, List.setIfInBounds_toArray, List.set_cons_zero, List.set_cons_succ]
      refine wpAnyH_take (i := 2) (v := .pointer (some ⟨d, 1, none⟩)) rfl (by kernel_rfl) (by kernel_rfl) (by kernel_rfl) (fun _ _ _ h => h) (Or.inl ⟨by kernel_rfl, fun w hSw => ?_⟩) S0 ?_
      · obtain ⟨e1, e2, e3⟩ := hSw; go_simp
      simp only [Act.put, List.getElem_toArray, List.getElem_cons_succ, List.getElem_cons_zero, List.setIfInBounds_toArray, List.set_cons_zero, List.set_cons_succ]
      refine wpAnyH_take (i := 3) (v := .map (some m)) rfl (by kernel_rfl) (by kernel_rfl) (by kernel_rfl) (fun _ _ _ h => h) (Or.inl ⟨by kernel_rfl, fun w hSw => ?_⟩) S0 ?_
      · obtain ⟨e1, e2, e3⟩ := hSw; go_simp
      simp only [Act.put, List.getElem_toArray, List.getElem_cons_succ, List.getElem_cons_zero, List.setIfInBounds_toArray, List.set_cons_zero, List.set_cons_succ]
      refine wpAnyH_take (i := 4) (v := encStr n) rfl (by kernel_rfl) (by kernel_rfl) (by kernel_rfl) (fun _ _ _ h => h) (Or.inl ⟨by kernel_rfl, fun w hSw => ?_⟩) S0 ?_
      · obtain ⟨e1, e2, e3⟩ := hSw; go_simp
      simp only [Act.put, List.getElem_toArray, List.getElem_cons_succ, List.getElem_cons_zero, List.setIfInBounds_toArray, List.set_cons_zero, List.set_cons_succ]
      refine wpAnyH_ready (rs := [5]) (by kernel_rfl) (by simp) ?_
      refine AllReadyH.cons rfl (fun K hK => ?_) AllReadyH.nil
      go_simp
      refine hK.out _ _ S0 (fun _ => ?_)
      clear hK K
      try simp only [Act.put, List.getElem_toArray, List.getElem_cons_succ, List.getElem_cons_zero, List.setIfInBounds_toArray, List.set_cons_zero, List.set_cons_succ]
      refine wpAnyH_take (i := 6) (v := .pointer (some ⟨f.g, 0, none⟩)) rfl (by kernel_rfl) (by kernel_rfl) (by kernel_rfl) (fun _ _ _ h => h) (Or.inl ⟨by kernel_rfl, fun w hSw => ?_⟩) S0 ?_
      · obtain ⟨e1, e2, e3⟩ := hSw; go_simp
      simp only [Act.put, List.getElem_toArray, List.getElem_cons_succ, List.getElem_cons_zero, List.setIfInBounds_toArray, List.set_cons_zero, List.set_cons_succ]
      refine wpAnyH_done (by kernel_rfl) ?_ _
      go_wp2
      go_ret
      exact ⟨0, rfl, R.out⟩
    · have htl2 := mayB_len hm
      obtain ⟨w2, hdel, hM, ht⟩ := hD.drew.drew.map.rem (w := w.drew.drew) (n := n) hD.asc (by unfold maxLen; omega) 0
      have hg := hD.drew.drew.gone (w' := w2) n hM ht.grown
      have hB : DB w2 d m cv room false (wo S n) (put (wo S n) t f) A := by
        refine ⟨hg.1.blk, hM, (hD.drew.drew.files.moved hl t).mapped hD.drew.drew.map ht.grown, hg.1.asc, by have := hg.1.few; omega, ?_, ?_, hD.small, fun k x e => ?_, hD.own, hg.1.lt⟩
        · have h1 := len_wo1 hD.asc hl
          have h2 := hD.few
          rw [len_put t f hg.1.asc]
          split <;> omega
        · have h1 := sm_wo (fun f : Fi => f.b.length) n hD.asc
          have h2 := sm_put (fun f : Fi => f.b.length) t f hg.1.asc
          have h3 := hD.fits
          rw [hl] at h1
          simp only [at_] at h1
          omega
        · rw [lk_put] at e
          split at e
          · rename_i e'
            rw [e']; exact htl2
          · exact hg.1.nice k x e
      have hnm := hid (name_any d m cv room false (wo S n) A t f w2 hB htl2)
      have hend : ∀ w3 : World, DA w3 d m cv room false (put (wo S n) t f) A → KA w2 w3 A A → DK w3 d ⟨room, false, due, (eRen n t pt F).1⟩ P ∧ KP w w3 P := fun w3 h3 k3 =>
        DK.of (due := due) (F := (eRen n t pt F).1) hc hP (hg.2.drew.drew.trans k3) h3 (by unfold eRen; rw [hm, hlF]; simp only [Option.map_some]; rw [if_neg (by decide), if_neg hz, put_mp, wo_mp, hF])
      have HE := hid hend
      have R2 : Hid (0 = (eRen n t pt F).2) := hid (by unfold eRen; rw [hm, hlF]; simp only [Option.map_some]; rw [if_neg (by decide), if_neg hz])
      have S4 : w.drew.drew.cell? ⟨xd, 0, none⟩ = some (.pointer (some ⟨d, 0, none⟩)) ∧ w.drew.drew.cell? ⟨d, 1, none⟩ = some (.map (some m)) ∧ w.drew.drew.cell? ⟨xn, 0, none⟩ = some (encStr n) := ⟨cell_blk (w := w.drew.drew) hxd rfl, cell_blk (w := w.drew.drew) hD.blk rfl, cell_blk (w := w.drew.drew) hxn rfl⟩
      have hxd2 : w2.cell? ⟨xd, 0, none⟩ = some (.pointer (some ⟨d, 0, none⟩)) ∧ w2.cell? ⟨d, 1, none⟩ = some (.map (some m)) ∧ w2.cell? ⟨xn, 0, none⟩ = some (encStr n) :=
        ⟨cell_blk ((ht.grown.block xd (Array.getElem?_eq_some_iff.1 hxd).1 (fun e => map_ne hD.map hxd (by simpa using e))).trans hxd) rfl, cell_blk hg.1.blk rfl, cell_blk ((ht.grown.block xn (Array.getElem?_eq_some_iff.1 hxn).1 (fun e => map_ne hD.map hxn (by simpa using e))).trans hxn) rfl⟩
      have hxt2 : w2.cell? ⟨xt, 0, none⟩ = some (encStr t) := cell_blk ((ht.grown.block xt (Array.getElem?_eq_some_iff.1 hxt).1 (fun e => map_ne hD.map hxt (by simpa using e))).trans hxt) rfl
      have hxd3 := hxd2.1
      obtain ⟨q, hq, hq0⟩ : ∃ q : Int, pv pt = .int .i64 q ∧ q ≠ 0 := by
        cases pt with
        | none => exact ⟨-1, rfl, by omega⟩
        | some p => exact ⟨p, rfl, fun e => hz (by rw [show p = 0 by omega])⟩
      rw [hq]
      clear hDK hD hc hF hl hlF hxd hxn hxt hg ht hM hq hB hend
      go_enter Try.func35, Try.ntmps35
      go_wp2_with (go_at_call 31; refine hmy.out.mono ?_; rintro e w1 ⟨rfl, rfl⟩)
      refine wp_region_held_drew (S := fun w' => w'.cell? ⟨xd, 0, none⟩ = some (.pointer (some ⟨d, 0, none⟩)) ∧ w'.cell? ⟨d, 1, none⟩ = some (.map (some m)) ∧ w'.cell? ⟨xn, 0, none⟩ = some (encStr n)) hmxo S0 ?_
      intro _
      refine wpAnyH_take (i := 0) (v := .pointer (some ⟨d, 0, none⟩)) rfl (by kernel_rfl) (by kernel_rfl) (by kernel_rfl) (fun _ _ _ h => h) (Or.inl ⟨by kernel_rfl, fun w hSw => ?_⟩) S0 ?_
      · obtain ⟨e1, e2, e3⟩ := hSw; go_simp
      simp only [Act.put, List.getElem_toArray, List.getElem_cons_succ, List.getElem_cons_zero, List.setIfInBounds_toArray, List.set_cons_zero, List.set_cons_succ]
      refine wpAnyH_take (i := 1) (v := .pointer (some ⟨d, 0, none⟩)) rfl (by kernel_rfl) (by kernel_rfl) (by kernel_rfl) (fun _ _ _ h => h) (Or.inl ⟨by kernel_rfl, fun w hSw => ?_⟩) S0 ?_
      · obtain ⟨e1, e2, e3⟩ := hSw; go_simp
      simp only [Act.put, List.getElem_toArray, List.getElem_cons_succ, List.getElem_cons_zero, List.setIfInBounds_toArray, List.set_cons_zero, List.set_cons_succ]
      refine wpAnyH_take (i := 2) (v := .pointer (some ⟨d, 1, none⟩)) rfl (by kernel_rfl) (by kernel_rfl) (by kernel_rfl) (fun _ _ _ h => h) (Or.inl ⟨by kernel_rfl, fun w hSw => ?_⟩) S0 ?_
      · obtain ⟨e1, e2, e3⟩ := hSw; go_simp
      simp only [Act.put, List.getElem_toArray, List.getElem_cons_succ, List.getElem_cons_zero, List.setIfInBounds_toArray, List.set_cons_zero, List.set_cons_succ]
      refine wpAnyH_take (i := 3) (v := .map (some m)) rfl (by kernel_rfl) (by kernel_rfl) (by kernel_rfl) (fun _ _ _ h => h) (Or.inl ⟨by kernel_rfl, fun w hSw => ?_⟩) S0 ?_
      · obtain ⟨e1, e2, e3⟩ := hSw; go_simp
      simp only [Act.put, List.getElem_toArray, List.getElem_cons_succ, List.getElem_cons_zero, List.setIfInBounds_toArray, List.set_cons_zero, List.set_cons_succ]
      refine wpAnyH_take (i := 4) (v := encStr n) rfl (by kernel_rfl) (by kernel_rfl) (by kernel_rfl) (fun _ _ _ h => h) (Or.inl ⟨by kernel_rfl, fun w hSw => ?_⟩) S0 ?_
      · obtain ⟨e1, e2, e3⟩ := hSw; go_simp
      simp only [Act.put, List.getElem_toArray, List.getElem_cons_succ, List.getElem_cons_zero, List.setIfInBounds_toArray, List.set_cons_zero, List.set_cons_succ]
      refine wpAnyH_ready (rs := [5]) (by kernel_rfl) (by simp) ?_
      refine AllReadyH.cons rfl (fun K hK => ?_) AllReadyH.nil
      go_simp
      refine hK.out _ _ S0 (fun _ => ?_)
      clear hK K
      try simp only [Act.put, List.getElem_toArray, List.getElem_cons_succ, List.getElem_cons_zero, List.setIfInBounds_toArray, List.set_cons_zero, List.set_cons_succ]
      refine wpAnyH_take (i := 6) (v := .pointer (some ⟨f.g, 0, none⟩)) rfl (by kernel_rfl) (by kernel_rfl) (by kernel_rfl) (fun _ _ _ h => h) (Or.inl ⟨by kernel_rfl, fun w hSw => ?_⟩) S0 ?_
      · obtain ⟨e1, e2, e3⟩ := hSw; go_simp
      simp only [Act.put, List.getElem_toArray, List.getElem_cons_succ, List.getElem_cons_zero, List.setIfInBounds_toArray, List.set_cons_zero, List.set_cons_succ]
      refine wpAnyH_done (by kernel_rfl) ?_ _
      go_wp2_with fail
      refine wp_region_held_drew (S := fun w' => w'.cell? ⟨xd, 0, none⟩ = some (.pointer (some ⟨d, 0, none⟩)) ∧ w'.cell? ⟨d, 1, none⟩ = some (.map (some m)) ∧ w'.cell? ⟨xn, 0, none⟩ = some (encStr n)) hmxo S4 ?_
      intro _
      refine wpAnyH_take (i := 0) (v := .pointer (some ⟨d, 0, none⟩)) rfl (by kernel_rfl) (by kernel_rfl) (by kernel_rfl) (fun _ _ _ h => h) (Or.inl ⟨by kernel_rfl, fun w hSw => ?_⟩) S4 ?_
      · obtain ⟨e1, e2, e3⟩ := hSw; go_simp
      simp only [Act.put, List.getElem_toArray, List.getElem_cons_succ, List.getElem_cons_zero, List.setIfInBounds_toArray, List.set_cons_zero, List.set_cons_succ]
      refine wpAnyH_take (i := 1) (v := .pointer (some ⟨d, 0, none⟩)) rfl (by kernel_rfl) (by kernel_rfl) (by kernel_rfl) (fun _ _ _ h => h) (Or.inl ⟨by kernel_rfl, fun w hSw => ?_⟩) S4 ?_
      · obtain ⟨e1, e2, e3⟩ := hSw; go_simp
      simp only [Act.put, List.getElem_toArray, List.getElem_cons_succ, List.getElem_cons_zero, List.setIfInBounds_toArray, List.set_cons_zero, List.set_cons_succ]
      refine wpAnyH_take (i := 2) (v := .pointer (some ⟨d, 1, none⟩)) rfl (by kernel_rfl) (by kernel_rfl) (by kernel_rfl) (fun _ _ _ h => h) (Or.inl ⟨by kernel_rfl, fun w hSw => ?_⟩) S4 ?_
      · obtain ⟨e1, e2, e3⟩ := hSw; go_simp
      simp only [Act.put, List.getElem_toArray, List.getElem_cons_succ, List.getElem_cons_zero, List.setIfInBounds_toArray, List.set_cons_zero, List.set_cons_succ]
      refine wpAnyH_take (i := 3) (v := .map (some m)) rfl (by kernel_rfl) (by kernel_rfl) (by kernel_rfl) (fun _ _ _ h => h) (Or.inl ⟨by kernel_rfl, fun w hSw => ?_⟩) S4 ?_
      · obtain ⟨e1, e2, e3⟩ := hSw; go_simp
      simp only [Act.put, List.getElem_toArray, List.getElem_cons_succ, List.getElem_cons_zero, List.setIfInBounds_toArray, List.set_cons_zero, List.set_cons_succ]
      refine wpAnyH_take (i := 4) (v := encStr n) rfl (by kernel_rfl) (by kernel_rfl) (by kernel_rfl) (fun _ _ _ h => h) (Or.inl ⟨by kernel_rfl, fun w hSw => ?_⟩) S4 ?_
      · obtain ⟨e1, e2, e3⟩ := hSw; go_simp
      simp only [Act.put, List.getElem_toArray, List.getElem_cons_succ, List.getElem_cons_zero, List.setIfInBounds_toArray, List.set_cons_zero, List.set_cons_succ]
      refine wpAnyH_ready (rs := [5]) (by kernel_rfl) (by simp) ?_
      refine AllReadyH.cons rfl (fun K hK => ?_) AllReadyH.nil
      go_simp
      refine hK.out _ _ hxd2 (fun _ => ?_)
      clear hK K
      refine wpAnyH_done (by kernel_rfl) ?_ _
      go_wp2_with (go_at_call 36; refine hnm.out.mono ?_; rintro e w3 ⟨rfl, q1, q2⟩; have R := hid (HE.out w3 q1 q2); clear q1 q2)
      go_ret
      exact ⟨0, rfl, R2.out, R.out⟩
end

section
set_option linter.unusedVariables false
set_option linter.unusedSimpArgs false
open Go.RowKit Go.Sort Go.Maps

theorem app_end {d m : Nat} {cv : Value} {room : Nat} {due : Option (Nat × Nat × Nat)} {n : Nm} {L : List Int} {pt : Option Nat} {F : List (Nm × Fl)} {P A A6 : Nat → Prop} {w w6 w7 : World} {S6 : List (Nm × Fi)} {f : Fi} {k : Nat} {a' : Option Addr} {c' : Nat}
    (hc : CT w cv due A P) (hP : ∀ j, P j → j < w.heap.size ∧ ¬ A j) (h6 : DA w6 d m cv room false S6 A6) (hka : KA w w6 A A6) (hf : lk S6 n = some f) (hfl : f.fl = fz (lk F n)) (hput : ∀ f', mp Fi.fl (put S6 n f') = put F n f'.fl) (hsum : sm (fun f => f.b.length) S6 = sm Fl.n F) (hfit : sm Fl.n F + L.length ≤ room)
    (hmay : mayB n = true) (hno : ¬ (room - sm Fl.n F < L.length ∨ (lk F n = none ∧ 100 ≤ F.length))) (hkk : k = min (pt.getD L.length) L.length) (hL : Bts L)
    (q1 : w7.ownsRow 0 5 1 (.slice a' (f.b.length + k) c') (f.b.length + k) (f.b.map (Value.int .u8) ++ (L.take k).map (Value.int .u8))) (q2 : w6.drew.grownBy w7 f.v.ownBlock) (q3 : (Value.slice a' (f.b.length + k) c').ownBlock = f.v.ownBlock ∨ (Value.slice a' (f.b.length + k) c').ownBlock = some w6.drew.heap.size) :
    0 = (eApp room n L pt F).2 ∧ DK (w7.setCell ⟨f.g, 0, none⟩ (.slice a' (f.b.length + k) c')) d ⟨room, false, due, (eApp room n L pt F).1⟩ P ∧ KP w (w7.setCell ⟨f.g, 0, none⟩ (.slice a' (f.b.length + k) c')) P := by
  have hz : w6.heap.size ≤ w7.heap.size := q2.size
  have hgl := h6.lt _ (h6.files.own n f hf).1
  have hgv := h6.files.gv hf hf
  have g7 : w7.heap[f.g]? = some (.cells #[f.v, .int .i64 (f.s : Int)] 68 (0, 0)) := (q2.block f.g hgl (fun e => hgv e.symm)).trans (h6.files.file n f hf)
  have hlen : (f.b ++ L.take k).length = f.b.length + k := by rw [List.length_append, List.length_take]; omega
  have hof := h6.files.ok n f hf
  have hu := h6.upd (w' := w7.setCell ⟨f.g, 0, none⟩ (.slice a' (f.b.length + k) c')) hf ⟨f.b ++ L.take k, f.s, f.g, .slice a' (f.b.length + k) c'⟩ rfl (by simp; exact hz)
    (fun j hj h1 h2 => (Below.heap_setCell _ _ _ _ h1).trans (q2.block j hj (fun e => h2 e.symm)))
    (by rw [set_blk (i := 0) _ g7]; simp)
    (by
      have q1' : w7.ownsRow 0 5 1 (.slice a' (f.b.length + k) c') (f.b ++ L.take k).length ((f.b ++ L.take k).map (Value.int .u8)) := by rw [hlen, List.map_append]; exact q1
      refine row_kept5 q1' (fun i hi => Below.heap_setCell _ _ _ _ (fun e => ?_))
      rcases q3 with h | h
      · exact hgv (by rw [← h, hi]; exact congrArg some e)
      · rw [hi] at h
        have e1 := Option.some.inj h
        have e2 : i = f.g := e
        have e3 : w6.drew.heap.size = w6.heap.size := rfl
        omega)
    (fun i hi => by
      rcases q3 with h | h
      · exact Or.inl (by rw [← h]; exact hi)
      · have hi' : (Value.slice a' (f.b.length + k) c').ownBlock = some i := hi
        rw [hi'] at h
        have e1 := Option.some.inj h
        exact Or.inr (Nat.le_of_eq e1.symm))
    ⟨hof.1.app (fun x hx => hL x (List.mem_of_mem_take hx)), by rw [hlen]; have := hof.2; simp; omega⟩
    (by
      show sm (fun f : Fi => f.b.length) S6 + (f.b ++ L.take k).length ≤ room + f.b.length
      rw [hlen, hsum]
      omega)
    ⟨q2.os, q2.tape, q2.output⟩
  have hx : eApp room n L pt F = (put F n ⟨f.b ++ L.take k, f.s⟩, 0) := by
    unfold eApp
    rw [if_neg (by rw [hmay]; decide), if_neg hno, ← hfl]
    have : L.take (pt.getD L.length) = L.take k := by
      rw [hkk]
      cases pt with
      | none => simp
      | some p =>
        simp only [Option.getD_some]
        by_cases h : p ≤ L.length
        · rw [show min p L.length = p by omega]
        · rw [show min p L.length = L.length by omega, List.take_of_length_le (Nat.le_refl _), List.take_of_length_le (by omega)]
    rw [this]
    rfl
  rw [hx]
  refine ⟨rfl, DK.of hc hP (hka.trans hu.2) hu.1 ?_⟩
  exact hput _
end
end Go.Proofs.Ytocglenkdjiknaa
