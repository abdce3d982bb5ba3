/- Texts, in numbers: what comes next to a character; one more at a place; where a place is. No function of the program. -/
import Derived.Test.YtbpepmajpojacaaFgWalk
import Derived.Test.YtbpepmajpojacaaFgTree
namespace Go.Proofs.Ytbpepmajpojacaa
section
set_option linter.unusedVariables false
open Go.RowKit Go.Shelf

/-- What a method that is ranged over does: it hands elements to yield, one by one, till a round says 'no more'. fs: what is bound. -/
def SeqM {α : Type} (n : Nat) (P : Program) (gf : Nat) (fs : Array Value) (encs : α → Array Value) (Kp : World → World → Prop) (S Sp : List α → Prop) (N : Nat) (w : World) : Prop :=
  ∀ (l : Nat) (J Jx : List α → World → Prop) (W : World), Below w.heap.size w W → OwnFrom W.heap.size J → OwnFrom W.heap.size Jx →
    (∀ pre x W1, J pre W1 → pre.length < N → YieldAt Fence.wide (n - 1) P l (encs x) W1 fun e W' =>
      (e = .returned (.bool true) ∧ J (pre ++ [x]) W' ∧ Kp W1 W' ∧ KeepsFrom W.heap.size W1 W') ∨ (e = .returned (.bool false) ∧ Jx (pre ++ [x]) W' ∧ KeepsFrom W.heap.size W1 W')) →
    J [] W →
    CallsIn Fence.wide n P gf (fs ++ #[.func (.yield l) #[] #[]]) W fun e W' => (∃ v, e = .returned v) ∧ ((∃ xs, S xs ∧ J xs W') ∨ (∃ pre, Sp pre ∧ Jx pre W'))

variable {n : Nat} {P : Program}

theorem range_method {α : Type} {g : Operand} {ps : Array Tmp} {assign body : Code} {Q : Exit → Act → World → Prop} {a : Act} {w : World}
    {gf : Nat} {fs : Array Value} (hg : a.eval g = .func (.func gf) fs #[]) (eg : ∀ args w, (callFunc gf args).run P w = .ok (.enter gf args) w)
    {encs : α → Array Value} {Kp : World → World → Prop} {S Sp : List α → Prop} {N : Nat} {w0 : World} (hseq : SeqM (n - 1) P gf fs encs Kp S Sp N w0)
    (hKt : ∀ {A B C : World}, Kp A B → Kp B C → Kp A C) (hKb : ∀ (W : World) (l : Nat) (o o' : Obj), w.heap.size ≤ l → W.heap[l]? = some o → o.isCells = false → o.isWalk = false → Kp W (W.putObj l o')) (hb0 : Below w0.heap.size w0 w) (hps : ∀ x, (encs x).size = ps.size)
    (I : List α → World → Prop) (Ix : Code → List α → World → Prop) (hI : OwnFrom w.heap.size I) (hIx : ∀ c, OwnFrom w.heap.size (Ix c)) (h0 : I [] w) (a₁ : α → Act)
    (hassign : ∀ (l : Nat) (x : α) (W : World) (K : Act → World → Prop), K (a₁ x) W →
      assign.wpIn (Fence.wide.inRound l) (n - 1 - 1) P (Exit.then K (fun _ _ _ => False)) { tmps := (ps.zip (encs x)).foldl (fun t (p, v) => t.setIfInBounds p v) a.tmps, defers := [] } W)
    (hbody : ∀ (l : Nat) (pre : List α) (x : α) (W : World), I pre W → pre.length < N → body.wpIn (Fence.wide.inRound l) (n - 1 - 1) P (ownPostG w.heap.size Kp I Ix (pre ++ [x]) W) (a₁ x) W)
    (hdone : ∀ (D : Nat) (xs : List α) (W : World), w.heap.size ≤ D → S xs → I xs W → W.heap[D]? = some (.deferred (some [])) → Q .normal { a with defers := { target := .collected D, args := #[] } :: a.defers } W)
    (hstop : ∀ (D : Nat) (c : Code) (pre : List α) (W : World), w.heap.size ≤ D → Sp pre → Ix c pre W → W.heap[D]? = some (.deferred (some [])) → c.wpIn Fence.wide n P Q { a with defers := { target := .collected D, args := #[] } :: a.defers } W) :
    (Code.rangeFunc g ps assign body).wpIn Fence.wide n P Q a w := by
  refine wpIn_rangeFunc fun fn hfn => ?_
  obtain ⟨lp, hlp⟩ : ∃ lp : LoopState → Option Code → Loop, lp = fun st pe => { state := st, pending := pe, fn, tmps := a.tmps, params := ps, assign, body, defers := w.heap.size } := ⟨_, rfl⟩
  obtain ⟨V, hV⟩ : ∃ V, (w.alloc (.deferred (some []))).alloc (.loop (lp .ready none)) = V := ⟨_, rfl⟩
  have hVs : V.heap.size = w.heap.size + 2 := by rw [← hV]; simp
  have hVl : V.heap[w.heap.size + 1]? = some (.loop (lp .ready none)) := by
    rw [← hV]
    have := World.alloc_heap_new (w.alloc (.deferred (some []))) (.loop (lp .ready none))
    rwa [World.size_alloc] at this
  have hVd : V.heap[w.heap.size]? = some (.deferred (some [])) := by
    rw [← hV]
    exact (Below.heap_alloc _ _ _ (by simp)).trans (World.alloc_heap_new w _)
  have hVI : I [] V := by rw [← hV]; exact hI.alloc _ (hI.alloc _ h0)
  have hVb : Below w0.heap.size w0 V := by
    rw [← hV]
    exact hb0.trans ((((Below.refl _ w).alloc (Nat.le_refl _) _).alloc (by simp) _).mono hb0.size)
  refine ⟨w.heap.size + 1, [{ target := .collected w.heap.size, args := #[] }], V, { target := .fn (.func gf) #[], args := fs ++ #[.func (.yield (w.heap.size + 1)) #[] #[]] }, V, gf, fs ++ #[.func (.yield (w.heap.size + 1)) #[] #[]], V, ?_, ?_, ?_, ?_, ?_, ?_⟩
  · rw [← hV, hlp]; exact run_enterLoop_outer _ _ _ _ _
  · simp only [resolve, hg]
    simp [go_sem]
  · intro f' _; trivial
  · simp [invoke, go_sem, eg]
  · intro h; simp [Fence.wide] at h
  · have hnw : ∀ {A : World} {row : Option Nat}, (∀ r, row = some r → V.heap.size ≤ r ∧ ∃ o : Obj, A.heap[r]? = some o ∧ o.isCells = false) → (∀ r, row = some r → w.heap.size ≤ r ∧ ∃ o : Obj, A.heap[r]? = some o ∧ o.isCells = false) := fun hr r e => by
      obtain ⟨hB, o, ho, hw⟩ := hr r e
      exact ⟨by omega, o, ho, hw⟩
    have hst : ∀ {A B : World} {row : Option Nat} {k : Nat} {o : Obj}, A.grownBy B row → (∀ r, row = some r → V.heap.size ≤ r ∧ ∃ o : Obj, A.heap[r]? = some o ∧ o.isCells = false) → k < V.heap.size → A.heap[k]? = some o → B.heap[k]? = some o := fun {A B row k o} hg' hr hk ho =>
      (hg'.block k (Array.getElem?_eq_some_iff.1 ho).1 (fun e => by have := (hr k e.symm).1; omega)).trans ho
    have hput : ∀ (A : World) (o' : Obj), KeepsFrom V.heap.size A (A.putObj (w.heap.size + 1) o') := fun A o' => ⟨by simp [World.putObj], fun k o hk ho _ => (World.putObj_heap_other (by omega)).trans ho⟩
    have hround : ∀ pre x W, (I pre W ∧ W.heap[w.heap.size + 1]? = some (.loop (lp .ready none)) ∧ W.heap[w.heap.size]? = some (.deferred (some []))) → pre.length < N → YieldAt Fence.wide (n - 1 - 1) P (w.heap.size + 1) (encs x) W fun e W' =>
        (e = .returned (.bool true) ∧ (I (pre ++ [x]) W' ∧ W'.heap[w.heap.size + 1]? = some (.loop (lp .ready none)) ∧ W'.heap[w.heap.size]? = some (.deferred (some []))) ∧ Kp W W' ∧ KeepsFrom V.heap.size W W') ∨ (e = .returned (.bool false) ∧ (∃ c, Ix c (pre ++ [x]) W' ∧ W'.heap[w.heap.size + 1]? = some (.loop (lp .done (some c))) ∧ W'.heap[w.heap.size]? = some (.deferred (some []))) ∧ KeepsFrom V.heap.size W W') := by
      rintro pre x W ⟨hi, hl, hk⟩ hlen
      have hlt : w.heap.size + 1 < W.heap.size := (Array.getElem?_eq_some_iff.1 hl).1
      have hy := run_yield (P := P) (args := encs x) hl (by rw [hlp]; exact hps x)
      rw [hlp] at hy
      refine ⟨fn, _, assign, body, hy, roundIn_of_wpIn hfn (hassign _ x W _ ⟨_, run_beginRound hl (by rw [hlp]), ?_⟩)⟩
      obtain ⟨W2, hW2⟩ : ∃ W2, W2 = W.putObj (w.heap.size + 1) (.loop { lp .ready none with state := .busy }) := ⟨_, rfl⟩
      have hl2 : W2.heap[w.heap.size + 1]? = some (.loop { lp .ready none with state := .busy }) := by rw [hW2]; exact World.putObj_heap_same hlt
      have hk2 : W2.heap[w.heap.size]? = some (.deferred (some [])) := by rw [hW2]; exact (World.putObj_heap_other (by omega)).trans hk
      have hw2 : Kp W W2 := by rw [hW2]; exact hKb _ _ _ _ (by omega) hl rfl rfl
      have hi2 : I pre W2 := by rw [hW2]; exact hI.putObj _ hi (by omega) hl rfl
      have hf2 : KeepsFrom V.heap.size W W2 := by rw [hW2]; exact hput _ _
      rw [← hW2]
      refine wpIn_mono (hbody _ pre x W2 hi2 hlen) ?_
      have fin : ∀ (jump : Option Code) (W3 : World), KeepsFrom w.heap.size W2 W3 →
          (Instr.endRound (w.heap.size + 1) jump).run P W3 = .ok (.bool jump.isNone) (W3.putObj (w.heap.size + 1) (.loop (lp (if jump.isNone then .ready else .done) jump))) ∧
          W3.heap[w.heap.size + 1]? = some (.loop { lp .ready none with state := .busy }) ∧
          (W3.putObj (w.heap.size + 1) (.loop (lp (if jump.isNone then .ready else .done) jump))).heap[w.heap.size + 1]? = some (.loop (lp (if jump.isNone then .ready else .done) jump)) ∧
          (W3.putObj (w.heap.size + 1) (.loop (lp (if jump.isNone then .ready else .done) jump))).heap[w.heap.size]? = some (.deferred (some [])) := fun jump W3 hk3 => by
        have hl3 := hk3.same _ _ (by omega) hl2 rfl
        have hrun := run_endRound (P := P) jump hl3
        rw [hlp] at hrun ⊢
        exact ⟨hrun, by rw [hlp] at hl3; exact hl3, World.putObj_heap_same (Array.getElem?_eq_some_iff.1 hl3).1, (World.putObj_heap_other (by omega)).trans (hk3.same _ _ (Nat.le_refl _) hk2 rfl)⟩
      have leave : ∀ (c : Code) (W3 : World), KeepsFrom w.heap.size W2 W3 → Ix c (pre ++ [x]) W3 → ∃ v W4, (Instr.endRound (w.heap.size + 1) (some c)).run P W3 = .ok v W4 ∧ ((Ending.returned v = .returned (.bool true) ∧ (I (pre ++ [x]) W4 ∧ W4.heap[w.heap.size + 1]? = some (.loop (lp .ready none)) ∧ W4.heap[w.heap.size]? = some (.deferred (some []))) ∧ Kp W W4 ∧ KeepsFrom V.heap.size W W4) ∨ (Ending.returned v = .returned (.bool false) ∧ (∃ c, Ix c (pre ++ [x]) W4 ∧ W4.heap[w.heap.size + 1]? = some (.loop (lp .done (some c))) ∧ W4.heap[w.heap.size]? = some (.deferred (some []))) ∧ KeepsFrom V.heap.size W W4)) := fun c W3 hk3 hi3 => by
        obtain ⟨hr, hl3, hl4, hk4⟩ := fin (some c) W3 hk3
        exact ⟨_, _, hr, .inr ⟨rfl, ⟨c, (hIx _).putObj _ hi3 (by omega) hl3 rfl, hl4, hk4⟩, (hf2.trans ⟨hk3.size, fun k o hk ho hc => hk3.same k o (by omega) ho hc⟩).trans (hput _ _)⟩⟩
      rintro e a3 W3 hp
      cases e with
      | normal =>
        obtain ⟨hk3, hkp3, hi3⟩ := hp
        obtain ⟨hr, hl3, hl4, hk4⟩ := fin none W3 hk3
        exact ⟨_, _, hr, .inl ⟨rfl, ⟨hI.putObj _ hi3 (by omega) hl3 rfl, hl4, hk4⟩, hKt (hKt hw2 hkp3) (hKb _ _ _ _ (by omega) hl3 rfl rfl), (hf2.trans ⟨hk3.size, fun k o hk ho hc => hk3.same k o (by omega) ho hc⟩).trans (hput _ _)⟩⟩
      | ret => exact leave _ W3 hp.1 hp.2
      | exit id => exact leave _ W3 hp.1 hp.2
      | goto t => exact leave _ W3 hp.1 hp.2
      | panic ch => exact hp.elim
      | outgrown => exact hp.elim
    refine (hseq (w.heap.size + 1)
      (fun pre W => I pre W ∧ W.heap[w.heap.size + 1]? = some (.loop (lp .ready none)) ∧ W.heap[w.heap.size]? = some (.deferred (some [])))
      (fun pre W => ∃ c, Ix c pre W ∧ W.heap[w.heap.size + 1]? = some (.loop (lp .done (some c))) ∧ W.heap[w.heap.size]? = some (.deferred (some [])))
      V hVb
      (fun s A B row hs hg' hr => ⟨hI s A B row hs.1 hg' (hnw hr), hst hg' hr (by omega) hs.2.1, hst hg' hr (by omega) hs.2.2⟩)
      (fun s A B row hs hg' hr => by
        obtain ⟨c, hc, hl, hk⟩ := hs
        exact ⟨c, hIx c s A B row hc hg' (hnw hr), hst hg' hr (by omega) hl, hst hg' hr (by omega) hk⟩)
      hround ⟨hVI, hVl, hVd⟩).mono ?_
    rintro e W2 ⟨⟨v, rfl⟩, (⟨xs, hS, hi, hl, hk⟩ | ⟨pre, hSp, c, hi, hl, hk⟩)⟩
    · exact ⟨none, _, by have hrun := run_endLoop (P := P) hl (by rw [hlp]; simp); rw [hlp] at hrun; exact hrun, hdone _ xs _ (Nat.le_refl _) hS (hI.putObj _ hi (by omega) hl rfl) ((World.putObj_heap_other (by omega)).trans hk)⟩
    · exact ⟨some c, _, by have hrun := run_endLoop (P := P) hl (by rw [hlp]; simp); rw [hlp] at hrun; exact hrun, hstop _ c pre _ (Nat.le_refl _) hSp ((hIx c).putObj _ hi (by omega) hl rfl) ((World.putObj_heap_other (by omega)).trans hk)⟩
end

section

theorem trF_kid {T : List Cr} {f : Nat} {d k : Dt} {s : Bool} (hk : k ∈ kids T d s) : ∀ x ∈ trF T f k, x ∈ trF T (f + 1) d := fun x hx => by
  show x ∈ (kids T d false).flatMap (trF T f) ++ (if d = (0, 0) then [] else [d]) ++ (kids T d true).flatMap (trF T f)
  cases s with
  | false => exact List.mem_append_left _ (List.mem_append_left _ (List.mem_flatMap.2 ⟨k, hk, hx⟩))
  | true => exact List.mem_append_right _ (List.mem_flatMap.2 ⟨k, hk, hx⟩)

theorem trF_self {T : List Cr} {f : Nat} {d : Dt} (h : dep T f d) (hz : d ≠ (0, 0)) : d ∈ trF T f d := by
  cases f with
  | zero => exact h.elim
  | succ f =>
    show d ∈ (kids T d false).flatMap (trF T f) ++ (if d = (0, 0) then [] else [d]) ++ (kids T d true).flatMap (trF T f)
    rw [if_neg hz]
    simp

/-- A character's tree is among all. -/
theorem WT.sub_all {T : List Cr} (h : WT T) : ∀ (i : Nat) (c : Cr), T[i]? = some c → ∀ x ∈ trF T T.length c.id, x ∈ allT T := by
  intro i
  induction i using Nat.strongRecOn with
  | ind i ih =>
    intro c hc x hx
    have hcm := List.mem_of_getElem? hc
    have hk : c.id ∈ kids T c.at_ c.sd := mem_kids.2 ⟨c, hcm, rfl, rfl, rfl⟩
    rcases h.under i c hc with e | ⟨p, hp, e⟩
    · rw [e] at hk
      exact trF_kid hk x hx
    · obtain ⟨j, hj⟩ := List.mem_iff_getElem?.1 hp
      have hji : j < i := by
        have := (List.getElem?_eq_some_iff.1 hj).1
        rw [List.length_take] at this
        omega
      rw [List.getElem?_take, if_pos hji] at hj
      refine ih j hji p hj x ?_
      have hd := h.dep_all (List.mem_of_getElem? hj)
      obtain ⟨m, hm⟩ : ∃ m, T.length = m + 1 := by
        have := (List.getElem?_eq_some_iff.1 hj).1
        exact ⟨T.length - 1, by omega⟩
      rw [hm] at hd hx ⊢
      rw [← e] at hk
      have hdk : Proofs.Ytbpepmajpojacaa.dep T m c.id := hd c.sd c.id hk
      rw [trF_stable hdk] at hx
      exact trF_kid hk x hx

theorem mem_allT {T : List Cr} (h : WT T) {k : Dt} : k ∈ allT T ↔ ∃ c ∈ T, c.id = k := by
  constructor
  · intro hk
    rcases mem_trF h hk with ⟨_, hz⟩ | hc
    · exact absurd rfl hz
    · exact hc
  · rintro ⟨c, hc, rfl⟩
    obtain ⟨i, hi⟩ := List.mem_iff_getElem?.1 hc
    exact h.sub_all i c hi _ (trF_self (h.dep_all hc) (h.nz c hc))

end

section

/-- Whatever is in a tree is its own root, or lies under something in it. -/
theorem trF_up {T : List Cr} (hT : WT T) : ∀ {f : Nat} {k : Dt} {x : Cr}, x ∈ T → k ≠ (0, 0) → x.id ∈ trF T f k → x.id = k ∨ x.at_ ∈ trF T f k
  | 0, _, _, _, _, h => by simp [trF] at h
  | f + 1, k, x, hx, hz, h => by
    have hself : k ∈ trF T (f + 1) k := by unfold trF; rw [if_neg hz]; simp
    have one : ∀ s, x.id ∈ (kids T k s).flatMap (trF T f) → x.id = k ∨ x.at_ ∈ trF T (f + 1) k := fun s hs => by
      obtain ⟨k', hk', hm⟩ := List.mem_flatMap.1 hs
      obtain ⟨c, hc, h1, _, h3⟩ := mem_kids.1 hk'
      have hz' : k' ≠ (0, 0) := by rw [← h3]; exact hT.nz c hc
      rcases trF_up hT hx hz' hm with e | e
      · have : x = c := ids_one hT.ids hx hc (by rw [e, h3])
        rw [this, h1]
        exact Or.inr hself
      · exact Or.inr (trF_kid hk' _ e)
    unfold trF at h
    rcases List.mem_append.1 h with h | h
    · rcases List.mem_append.1 h with h | h
      · exact one false h
      · rw [if_neg hz] at h
        exact Or.inl (by simpa using h)
    · exact one true h

theorem under_lt {T : List Cr} (hT : WT T) {i j : Nat} {c x : Cr} (hc : T[i]? = some c) (hx : T[j]? = some x) (e : x.at_ = c.id) : i < j := by
  rcases hT.under j x hx with h0 | ⟨y, hy, e'⟩
  · exact absurd (by rw [← e, h0]) (hT.nz c (List.mem_of_getElem? hc))
  · have : y = c := ids_one hT.ids (List.mem_of_mem_take hy) (List.mem_of_getElem? hc) (by rw [e', e])
    subst this
    obtain ⟨m, hm⟩ := List.mem_iff_getElem?.1 hy
    have hmj : m < j := by
      have := (List.getElem?_eq_some_iff.1 hm).1
      rw [List.length_take] at this
      omega
    rw [List.getElem?_take, if_pos hmj] at hm
    have hil : i < (T.map Cr.id).length := by simpa using (List.getElem?_eq_some_iff.1 hc).1
    have := (List.getElem?_inj hil hT.ids).1 (show (T.map Cr.id)[i]? = (T.map Cr.id)[m]? by rw [List.getElem?_map, List.getElem?_map, hc, hm])
    omega

theorem at_one {T : List Cr} (hT : WT T) {i j : Nat} {c x : Cr} (hc : T[i]? = some c) (hx : T[j]? = some x) (e : c.id = x.id) : i = j := by
  have hil : i < (T.map Cr.id).length := by simpa using (List.getElem?_eq_some_iff.1 hc).1
  exact (List.getElem?_inj hil hT.ids).1 (show (T.map Cr.id)[i]? = (T.map Cr.id)[j]? by rw [List.getElem?_map, List.getElem?_map, hc, hx]; simp [e])

/-- What is in a tree came no earlier than its root. -/
theorem trF_later {T : List Cr} (hT : WT T) : ∀ {f : Nat} {i j : Nat} {c x : Cr}, T[i]? = some c → T[j]? = some x → x.id ∈ trF T f c.id → i ≤ j
  | 0, _, _, _, _, _, _, h => by simp [trF] at h
  | f + 1, i, j, c, x, hc, hx, h => by
    have one : ∀ s, x.id ∈ (kids T c.id s).flatMap (trF T f) → i ≤ j := fun s hs => by
      obtain ⟨k', hk', hm⟩ := List.mem_flatMap.1 hs
      obtain ⟨y, hy, h1, _, rfl⟩ := mem_kids.1 hk'
      obtain ⟨m, hm'⟩ := List.mem_iff_getElem?.1 hy
      have := under_lt hT hc hm' h1
      have := trF_later hT hm' hx hm
      omega
    unfold trF at h
    rcases List.mem_append.1 h with h | h
    · rcases List.mem_append.1 h with h | h
      · exact one false h
      · rw [if_neg (hT.nz c (List.mem_of_getElem? hc))] at h
        have := at_one hT hx hc (by simpa using h)
        omega
    · exact one true h

/-- Of two trees with something in common one has the other one's root. -/
theorem trF_meet {T : List Cr} (hT : WT T) {f : Nat} {k1 k2 : Dt} (hz1 : k1 ≠ (0, 0)) (hz2 : k2 ≠ (0, 0)) : ∀ (i : Nat) (x : Cr), T[i]? = some x → x.id ∈ trF T f k1 → x.id ∈ trF T f k2 → k1 ∈ trF T f k2 ∨ k2 ∈ trF T f k1 := by
  intro i
  induction i using Nat.strongRecOn with
  | ind i ih =>
    intro x hx h1 h2
    have hxm := List.mem_of_getElem? hx
    rcases trF_up hT hxm hz1 h1 with e | e1
    · rw [e] at h2; exact Or.inl h2
    · rcases trF_up hT hxm hz2 h2 with e | e2
      · rw [e] at h1; exact Or.inr h1
      · rcases hT.under i x hx with h0 | ⟨p, hp, e⟩
        · rcases mem_trF hT e1 with ⟨_, h⟩ | ⟨c, hc, e⟩
          · exact absurd (by simp_all) h
          · exact absurd (by rw [e, h0]) (hT.nz c hc)
        · obtain ⟨m, hm⟩ := List.mem_iff_getElem?.1 hp
          have hmi : m < i := by
            have := (List.getElem?_eq_some_iff.1 hm).1
            rw [List.length_take] at this
            omega
          rw [List.getElem?_take, if_pos hmi] at hm
          rw [← e] at e1 e2
          exact ih m hmi p hm e1 e2

/-- Two that lie under one have nothing in common. -/
theorem trF_apart {T : List Cr} (hT : WT T) {f : Nat} {a b : Cr} (ha : a ∈ T) (hb : b ∈ T) (he : a.at_ = b.at_) (hne : a.id ≠ b.id) {y : Dt} (h1 : y ∈ trF T f a.id) (h2 : y ∈ trF T f b.id) : False := by
  have no : ∀ {a b : Cr}, a ∈ T → b ∈ T → a.at_ = b.at_ → a.id ≠ b.id → a.id ∈ trF T f b.id → False := fun {a b} ha hb he hne h => by
    rcases trF_up hT ha (hT.nz b hb) h with e | e
    · exact hne e
    · obtain ⟨j, hj⟩ := List.mem_iff_getElem?.1 hb
      rcases mem_trF hT e with ⟨e', _⟩ | ⟨c, hc, e'⟩
      · have := under_lt hT hj hj (by rw [← he, e'])
        omega
      · obtain ⟨i, hi⟩ := List.mem_iff_getElem?.1 hc
        rw [← e'] at e
        have h3 := trF_later hT hj hi e
        have h4 := under_lt hT hi hj (by rw [← he, e'])
        omega
  have hy : ∃ c ∈ T, c.id = y := by
    rcases mem_trF hT h1 with ⟨e, _⟩ | h
    · exact ⟨a, ha, e.symm⟩
    · exact h
  obtain ⟨c, hc, rfl⟩ := hy
  obtain ⟨i, hi⟩ := List.mem_iff_getElem?.1 hc
  rcases trF_meet hT (hT.nz a ha) (hT.nz b hb) i c hi h1 h2 with h | h
  · exact no ha hb he hne h
  · exact no hb ha he.symm (Ne.symm hne) h

theorem flat_nodup9 {l : List Dt} {f : Dt → List Dt} (hl : l.Nodup) (hf : ∀ k ∈ l, (f k).Nodup) (hd : ∀ k ∈ l, ∀ k' ∈ l, k ≠ k' → ∀ y, y ∈ f k → y ∈ f k' → False) : (l.flatMap f).Nodup := by
  induction l with
  | nil => simp
  | cons a r ih =>
    rw [List.flatMap_cons, List.nodup_append]
    have hl' := List.nodup_cons.1 hl
    refine ⟨hf a (by simp), ih hl'.2 (fun k hk => hf k (List.mem_cons_of_mem _ hk)) (fun k hk k' hk' => hd k (List.mem_cons_of_mem _ hk) k' (List.mem_cons_of_mem _ hk')), fun x hx y hy e => ?_⟩
    subst e
    obtain ⟨k, hk, hm⟩ := List.mem_flatMap.1 hy
    exact hd a (by simp) k (List.mem_cons_of_mem _ hk) (fun e => hl'.1 (e ▸ hk)) x hx hm

/-- Each character stands once in the order. -/
theorem trF_once {T : List Cr} (hT : WT T) : ∀ (f : Nat) (d : Dt), nodes T d → (trF T f d).Nodup
  | 0, _, _ => by simp [trF]
  | f + 1, d, hd => by
    have hrow : ∀ s, ((kids T d s).flatMap (trF T f)).Nodup := fun s =>
      flat_nodup9 (up_nodup (kids_up T d s)) (fun k hk => by
        obtain ⟨c, hc, _, _, e⟩ := mem_kids.1 hk
        exact trF_once hT f k (Or.inr ⟨c, hc, e⟩)) (fun k hk k' hk' hne y h1 h2 => by
        obtain ⟨c, hc, e1, _, rfl⟩ := mem_kids.1 hk
        obtain ⟨c', hc', e1', _, rfl⟩ := mem_kids.1 hk'
        exact trF_apart hT hc hc' (by rw [e1, e1']) hne h1 h2)
    have hnd : ∀ s, d ≠ (0, 0) → d ∉ (kids T d s).flatMap (trF T f) := fun s hz h => by
      obtain ⟨k, hk, hm⟩ := List.mem_flatMap.1 h
      obtain ⟨c, hc, e1, _, rfl⟩ := mem_kids.1 hk
      rcases hd with e | ⟨x, hx, rfl⟩
      · exact hz e
      · obtain ⟨i, hi⟩ := List.mem_iff_getElem?.1 hx
        obtain ⟨j, hj⟩ := List.mem_iff_getElem?.1 hc
        have := under_lt hT hi hj e1
        have := trF_later hT hj hi hm
        omega
    unfold trF
    rw [List.nodup_append, List.nodup_append]
    refine ⟨⟨hrow false, ?_, fun x hx y hy e => ?_⟩, hrow true, fun x hx y hy e => ?_⟩
    · split <;> simp
    · subst e
      split at hy
      · simp at hy
      · rename_i hz
        simp at hy
        subst hy
        exact hnd false hz hx
    · subst e
      rcases List.mem_append.1 hx with hx | hx
      · obtain ⟨k, hk, hm⟩ := List.mem_flatMap.1 hx
        obtain ⟨k', hk', hm'⟩ := List.mem_flatMap.1 hy
        obtain ⟨c, hc, e1, s1, rfl⟩ := mem_kids.1 hk
        obtain ⟨c', hc', e1', s1', rfl⟩ := mem_kids.1 hk'
        refine trF_apart hT hc hc' (by rw [e1, e1']) (fun e => ?_) hm hm'
        have := ids_one hT.ids hc hc' e
        rw [this, s1'] at s1
        cases s1
      · split at hx
        · simp at hx
        · rename_i hz
          simp at hx
          subst hx
          exact hnd true hz hy

theorem allT_once {T : List Cr} (hT : WT T) : (allT T).Nodup := trF_once hT _ _ (Or.inl rfl)

theorem allT_perm_ids {T : List Cr} (hT : WT T) : (allT T).Perm (T.map Cr.id) := by
  refine (List.perm_ext_iff_of_nodup (allT_once hT) hT.ids).2 (fun d => ?_)
  rw [mem_allT hT, List.mem_map]

theorem allT_len {T : List Cr} (hT : WT T) : (allT T).length = T.length := by
  have := (allT_perm_ids hT).length_eq
  simpa using this

/-- The character of an identity. -/
def fnd (T : List Cr) (d : Dt) : Option Cr := T.find? (fun c => decide (c.id = d))

theorem fnd_of {T : List Cr} (hT : WT T) {c : Cr} (hc : c ∈ T) : fnd T c.id = some c := by
  unfold fnd
  cases h : T.find? (fun x => decide (x.id = c.id)) with
  | none => exact absurd (List.find?_eq_none.1 h c hc) (by simp)
  | some x =>
    have h1 := List.find?_some h
    have h2 := List.mem_of_find?_eq_some h
    rw [ids_one hT.ids h2 hc (by simpa using h1)]

theorem fnd_some {T : List Cr} {d : Dt} {c : Cr} (h : fnd T d = some c) : c ∈ T ∧ c.id = d := ⟨List.mem_of_find?_eq_some h, by simpa using List.find?_some h⟩

theorem fnd_none {T : List Cr} {d : Dt} : fnd T d = none ↔ ∀ c ∈ T, c.id ≠ d := by
  unfold fnd
  rw [List.find?_eq_none]
  simp

/-- All characters, in order, themselves. -/
def allC (T : List Cr) : List Cr := (allT T).filterMap (fnd T)

theorem filterMap_ids {T : List Cr} : ∀ (l : List Dt), (∀ d ∈ l, ∃ c, fnd T d = some c) → (l.filterMap (fnd T)).map Cr.id = l
  | [], _ => rfl
  | d :: r, h => by
    obtain ⟨c, hc⟩ := h d (by simp)
    rw [List.filterMap_cons_some hc, List.map_cons, (fnd_some hc).2, filterMap_ids r (fun x hx => h x (List.mem_cons_of_mem _ hx))]

theorem allC_ids {T : List Cr} (hT : WT T) : (allC T).map Cr.id = allT T := filterMap_ids _ (fun d hd => by
  obtain ⟨c, hc, rfl⟩ := (mem_allT hT).1 hd
  exact ⟨c, fnd_of hT hc⟩)

theorem allC_mem {T : List Cr} {c : Cr} (h : c ∈ allC T) : c ∈ T := by
  obtain ⟨d, _, hd⟩ := List.mem_filterMap.1 h
  exact (fnd_some hd).1

theorem mem_allC {T : List Cr} (hT : WT T) {c : Cr} (h : c ∈ T) : c ∈ allC T := List.mem_filterMap.2 ⟨c.id, (mem_allT hT).2 ⟨c, h, rfl⟩, fnd_of hT h⟩

theorem allC_len {T : List Cr} (hT : WT T) : (allC T).length = T.length := by
  rw [← allT_len hT, ← allC_ids hT, List.length_map]

/-- Characters are told by their identities. -/
theorem chars_of_ids {T : List Cr} (hT : WT T) : ∀ (l m : List Cr), (∀ c ∈ l, c ∈ T) → (∀ c ∈ m, c ∈ T) → l.map Cr.id = m.map Cr.id → l = m
  | [], [], _, _, _ => rfl
  | [], _ :: _, _, _, h => by simp at h
  | _ :: _, [], _, _, h => by simp at h
  | a :: l, b :: m, hl, hm, h => by
    rw [List.map_cons, List.map_cons] at h
    injection h with h1 h2
    rw [ids_one hT.ids (hl a (by simp)) (hm b (by simp)) h1, chars_of_ids hT l m (fun c hc => hl c (List.mem_cons_of_mem _ hc)) (fun c hc => hm c (List.mem_cons_of_mem _ hc)) h2]

end

section

theorem flat_split9 {α β : Type} {l : List α} {a : α} {f : α → List β} (h : a ∈ l) : ∃ A B, l.flatMap f = A ++ f a ++ B := by
  obtain ⟨p, q, rfl⟩ := List.append_of_mem h
  exact ⟨p.flatMap f, q.flatMap f, by simp⟩

/-- Behind a character comes what lies at its right side. -/
theorem trF_split {T : List Cr} (hT : WT T) : ∀ {f : Nat} {d x : Dt}, dep T f d → x ∈ trF T f d → ∃ A B g, trF T f d = A ++ (x :: ((kids T x true).flatMap (trF T g) ++ B)) ∧ ∀ s, ∀ k ∈ kids T x s, dep T g k
  | 0, _, _, h, _ => h.elim
  | f + 1, d, x, hd, hx => by
    have one : ∀ s, x ∈ (kids T d s).flatMap (trF T f) → ∃ A B g, (kids T d s).flatMap (trF T f) = A ++ (x :: ((kids T x true).flatMap (trF T g) ++ B)) ∧ ∀ s, ∀ k ∈ kids T x s, dep T g k := fun s hs => by
      obtain ⟨k, hk, hm⟩ := List.mem_flatMap.1 hs
      obtain ⟨A, B, g, e, hg⟩ := trF_split hT (hd s k hk) hm
      obtain ⟨A', B', e'⟩ := flat_split9 (f := trF T f) hk
      refine ⟨A' ++ A, B ++ B', g, ?_, hg⟩
      rw [e', e]
      simp
    unfold trF at hx ⊢
    rcases List.mem_append.1 hx with hx | hx
    · rcases List.mem_append.1 hx with hx | hx
      · obtain ⟨A, B, g, e, hg⟩ := one false hx
        refine ⟨A, B ++ ((if d = (0, 0) then [] else [d]) ++ (kids T d true).flatMap (trF T f)), g, ?_, hg⟩
        rw [e]
        simp
      · split at hx
        · simp at hx
        · simp at hx
          subst hx
          refine ⟨(kids T x false).flatMap (trF T f), [], f, ?_, fun s k hk => hd s k hk⟩
          rename_i hz
          rw [if_neg hz]
          simp
    · obtain ⟨A, B, g, e, hg⟩ := one true hx
      refine ⟨(kids T d false).flatMap (trF T f) ++ (if d = (0, 0) then [] else [d]) ++ A, B, g, ?_, hg⟩
      rw [e]
      simp

/-- The first one of a tree. -/
def frst (T : List Cr) : Nat → Dt → Dt
  | 0, d => d
  | f + 1, d => match kids T d false with
    | [] => d
    | k :: _ => frst T f k

theorem frst_head {T : List Cr} (hT : WT T) : ∀ {f : Nat} {d : Dt}, dep T f d → d ≠ (0, 0) → (trF T f d).head? = some (frst T f d)
  | 0, _, h, _ => h.elim
  | f + 1, d, h, hz => by
    unfold trF frst
    cases hk : kids T d false with
    | nil => rw [if_neg hz]; simp
    | cons k r =>
      have hm : k ∈ kids T d false := by rw [hk]; simp
      obtain ⟨c, hc, _, _, e⟩ := mem_kids.1 hm
      have ih := frst_head hT (h false k hm) (by rw [← e]; exact hT.nz c hc)
      rw [List.flatMap_cons]
      cases ht : trF T f k with
      | nil => rw [ht] at ih; simp at ih
      | cons a b => rw [ht] at ih; simpa using ih

theorem frst_bare {T : List Cr} : ∀ {f : Nat} {d : Dt}, dep T f d → kids T (frst T f d) false = []
  | 0, _, h => h.elim
  | f + 1, d, h => by
    unfold frst
    cases hk : kids T d false with
    | nil => exact hk
    | cons k r => exact frst_bare (h false k (by rw [hk]; simp))

theorem frst_stable {T : List Cr} : ∀ {f : Nat} {d : Dt}, dep T f d → frst T (f + 1) d = frst T f d
  | 0, _, h => h.elim
  | f + 1, d, h => by
    cases hk : kids T d false with
    | nil => simp [frst, hk]
    | cons k r =>
      have := frst_stable (h false k (by rw [hk]; simp))
      unfold frst
      rw [hk]
      exact this

theorem frst_le {T : List Cr} {f f' : Nat} {d : Dt} (h : dep T f d) (hf : f ≤ f') : frst T f' d = frst T f d := by
  induction hf with
  | refl => rfl
  | step hle ih => rw [frst_stable (dep_le h hle), ih]

theorem frst_mem {T : List Cr} : ∀ {f : Nat} {d : Dt}, (∃ c ∈ T, c.id = d) → ∃ c ∈ T, c.id = frst T f d
  | 0, _, h => h
  | f + 1, d, h => by
    unfold frst
    cases hk : kids T d false with
    | nil => exact h
    | cons k r =>
      obtain ⟨c, hc, _, _, e⟩ := mem_kids.1 (show k ∈ kids T d false by rw [hk]; simp)
      exact frst_mem ⟨c, hc, e⟩

/-- Where a character that is to stand next to left is put in: under which one, and at which side (true: the right one). -/
def plc (T : List Cr) (left : Dt) : Dt × Bool := match kids T left true with
  | [] => (left, true)
  | k :: _ => (frst T T.length k, false)

/-- What stands next to one; of the root: the first one. -/
def nextT (T : List Cr) (left : Dt) (r : List Dt) : Prop := (left = (0, 0) ∧ r = allT T) ∨ ∃ A, allT T = A ++ left :: r

theorem right_next {T : List Cr} (hT : WT T) {left : Dt} {r : List Dt} (h : nextT T left r) {k : Dt} {ks : List Dt} (hk : kids T left true = k :: ks) : r.head? = some (frst T T.length k) := by
  have hkm : k ∈ kids T left true := by rw [hk]; simp
  obtain ⟨c, hc, hat, hsd, rfl⟩ := mem_kids.1 hkm
  have hz := hT.nz c hc
  rcases h with ⟨rfl, rfl⟩ | ⟨A, e⟩
  · have hf : kids T (0, 0) false = [] := List.eq_nil_iff_forall_not_mem.2 (fun x hx => by
      obtain ⟨y, hy, h1, h2, _⟩ := mem_kids.1 hx
      rw [hT.root y hy h1] at h2
      cases h2)
    have hh := frst_head hT (hT.dep_all hc) hz
    unfold allT trF
    rw [hf, hk, if_pos rfl, List.flatMap_nil, List.flatMap_cons]
    cases ht : trF T T.length c.id with
    | nil => rw [ht] at hh; simp at hh
    | cons a b => rw [ht] at hh; simpa using hh
  · have hlm : left ∈ allT T := by rw [e]; simp
    obtain ⟨A', B, g, e', hg⟩ := trF_split hT hT.dep_root hlm
    have e2 : allT T = A' ++ (left :: ((kids T left true).flatMap (trF T g) ++ B)) := e'
    have hnd := allT_once hT
    have hr : r = (kids T left true).flatMap (trF T g) ++ B := by
      have h1 : A ++ left :: r = A' ++ (left :: ((kids T left true).flatMap (trF T g) ++ B)) := by rw [← e, e2]
      have hl1 : left ∉ A := fun hm => by
        rw [e, List.nodup_append] at hnd
        exact hnd.2.2 left hm left (by simp) rfl
      have hl2 : left ∉ A' := fun hm => by
        rw [e2, List.nodup_append] at hnd
        exact hnd.2.2 left hm left (by simp) rfl
      have : ∀ (P Q X Y : List Dt), left ∉ P → left ∉ Q → P ++ left :: X = Q ++ left :: Y → X = Y := by
        intro P
        induction P with
        | nil =>
          intro Q X Y _ hQ h
          cases Q with
          | nil => simpa using h
          | cons q Q => simp at h; exact absurd (by rw [h.1]; simp) hQ
        | cons p P ih =>
          intro Q X Y hP hQ h
          cases Q with
          | nil => simp at h; exact absurd (by rw [h.1]; simp) hP
          | cons q Q =>
            simp at h
            exact ih Q X Y (fun hm => hP (List.mem_cons_of_mem _ hm)) (fun hm => hQ (List.mem_cons_of_mem _ hm)) h.2
      exact this _ _ _ _ hl1 hl2 h1
    have hgk := hg true c.id hkm
    have hh := frst_head hT hgk hz
    have hfe : frst T g c.id = frst T T.length c.id := by
      rcases Nat.le_total g T.length with hle | hle
      · exact (frst_le hgk hle).symm
      · exact frst_le (hT.dep_all hc) hle
    rw [hr, hk, List.flatMap_cons, ← hfe]
    cases ht : trF T g c.id with
    | nil => rw [ht] at hh; simp at hh
    | cons a b => rw [ht] at hh; simpa using hh

theorem flatMap_flat9 {α β γ : Type} (l : List α) (f : α → List β) (g : β → List γ) : (l.flatMap f).flatMap g = l.flatMap (fun x => (f x).flatMap g) := by
  induction l with
  | nil => rfl
  | cons a r ih => simp [ih]

/-- One more beside one that has none at that side. -/
theorem trF_beside {T : List Cr} (hT : WT T) {c : Cr} (hfr : ∀ x ∈ T, x.id ≠ c.id) (hnz : c.id ≠ (0, 0)) (hat : ∃ p ∈ T, p.id = c.at_) (hbare : kids T c.at_ c.sd = []) :
    ∀ (f : Nat) (d : Dt), dep T f d → d ≠ c.id → trF (T ++ [c]) (f + 1) d = (trF T f d).flatMap (fun k => if k = c.at_ then (if c.sd then [c.at_, c.id] else [c.id, c.at_]) else [k])
  | 0, _, h, _ => h.elim
  | f + 1, d, hd, hdc => by
    obtain ⟨p, hp, hpe⟩ := hat
    have hpz : c.at_ ≠ (0, 0) := by rw [← hpe]; exact hT.nz p hp
    have hca : c.at_ ≠ c.id := by rw [← hpe]; exact hfr p hp
    have hself : ∀ f', trF (T ++ [c]) (f' + 1) c.id = [c.id] := fun f' => by
      have hk : ∀ s, kids (T ++ [c]) c.id s = [] := fun s => by rw [kids_snoc, if_neg (fun e => hca e.1), hT.fresh hfr hnz]
      unfold trF
      rw [hk, hk, if_neg hnz]
      simp
    have hrow : ∀ s, (kids T d s).flatMap (trF (T ++ [c]) (f + 1)) = ((kids T d s).flatMap (trF T f)).flatMap (fun k => if k = c.at_ then (if c.sd then [c.at_, c.id] else [c.id, c.at_]) else [k]) := fun s => by
      rw [flatMap_flat9]
      exact flatMap_congr9 (fun k hk => trF_beside hT hfr hnz ⟨p, hp, hpe⟩ hbare f k (hd s k hk) (fun e => by
        obtain ⟨y, hy, _, _, e'⟩ := mem_kids.1 hk
        exact hfr y hy (by rw [e', e])))
    show (kids (T ++ [c]) d false).flatMap (trF (T ++ [c]) (f + 1)) ++ (if d = (0, 0) then [] else [d]) ++ (kids (T ++ [c]) d true).flatMap (trF (T ++ [c]) (f + 1)) = ((kids T d false).flatMap (trF T f) ++ (if d = (0, 0) then [] else [d]) ++ (kids T d true).flatMap (trF T f)).flatMap _
    rw [List.flatMap_append, List.flatMap_append, ← hrow, ← hrow, kids_snoc, kids_snoc]
    by_cases hda : c.at_ = d
    · subst hda
      rw [if_neg hpz]
      cases hs : c.sd with
      | false =>
        rw [hs] at hbare
        rw [if_pos ⟨rfl, rfl⟩, if_neg (by simp), hbare]
        simp [ins, hself]
      | true =>
        rw [hs] at hbare
        rw [if_neg (by simp), if_pos ⟨rfl, rfl⟩, hbare]
        simp [ins, hself]
    · have hno : ∀ s, (if c.at_ = d ∧ c.sd = s then ins (kids T d s) c.id else kids T d s) = kids T d s := fun s => if_neg (fun e => hda e.1)
      have hmid : (if d = (0, 0) then [] else [d]).flatMap (fun k => if k = c.at_ then (if c.sd then [c.at_, c.id] else [c.id, c.at_]) else [k]) = (if d = (0, 0) then [] else [d]) := by
        by_cases hz : d = (0, 0)
        · rw [if_pos hz]; rfl
        · rw [if_neg hz, List.flatMap_cons, if_neg (Ne.symm hda)]; rfl
      rw [hno, hno, hmid]

theorem beside_split {A r : List Dt} {p c : Dt} {b : Bool} (hA : p ∉ A) (hr : p ∉ r) : (A ++ p :: r).flatMap (fun k => if k = p then (if b then [p, c] else [c, p]) else [k]) = A ++ (if b then [p, c] else [c, p]) ++ r := by
  have h : ∀ l : List Dt, p ∉ l → l.flatMap (fun k => if k = p then (if b then [p, c] else [c, p]) else [k]) = l := fun l hl => by
    induction l with
    | nil => rfl
    | cons a s ih =>
      rw [List.flatMap_cons, if_neg (fun e => hl (by rw [e]; simp)), ih (fun hm => hl (List.mem_cons_of_mem _ hm))]
      rfl
  rw [List.flatMap_append, List.flatMap_cons, h A hA, h r hr, if_pos rfl]
  simp

theorem allT_beside {T : List Cr} (hT : WT T) {c : Cr} (hfr : ∀ x ∈ T, x.id ≠ c.id) (hnz : c.id ≠ (0, 0)) {A r : List Dt} (he : allT T = A ++ c.at_ :: r) (hbare : kids T c.at_ c.sd = []) : allT (T ++ [c]) = A ++ (if c.sd then [c.at_, c.id] else [c.id, c.at_]) ++ r := by
  have hm : c.at_ ∈ allT T := by rw [he]; simp
  have hnd := allT_once hT
  rw [he, List.nodup_append] at hnd
  have hA : c.at_ ∉ A := fun h => hnd.2.2 _ h _ (by simp) rfl
  have hr : c.at_ ∉ r := (List.nodup_cons.1 hnd.2.1).1
  have := trF_beside hT hfr hnz ((mem_allT hT).1 hm) hbare _ (0, 0) hT.dep_root (Ne.symm hnz)
  rw [← beside_split (c := c.id) hA hr, ← he]
  unfold allT at this ⊢
  rw [List.length_append, List.length_singleton]
  exact this

/-- One more at the place next to one stands next to it. -/
theorem allT_placed {T : List Cr} (hT : WT T) {c : Cr} (hfr : ∀ x ∈ T, x.id ≠ c.id) (hnz : c.id ≠ (0, 0)) {left : Dt} {A r : List Dt} (he : (left = (0, 0) ∧ A = []) ∧ r = allT T ∨ allT T = A ++ r ∧ ∃ A', A = A' ++ [left]) (hp : (c.at_, c.sd) = plc T left) : allT (T ++ [c]) = A ++ c.id :: r := by
  have hnext : nextT T left r := by
    rcases he with ⟨⟨rfl, rfl⟩, rfl⟩ | ⟨e, A', rfl⟩
    · exact Or.inl ⟨rfl, rfl⟩
    · exact Or.inr ⟨A', by rw [e]; simp⟩
  cases hk : kids T left true with
  | nil =>
    rw [plc, hk] at hp
    obtain ⟨h1, h2⟩ := Prod.mk.inj hp
    rcases he with ⟨⟨rfl, rfl⟩, rfl⟩ | ⟨e, A', rfl⟩
    · have hTn : T = [] := by
        cases T with
        | nil => rfl
        | cons y T' =>
          rcases hT.under 0 y rfl with h0 | ⟨z, hz, _⟩
          · have : y.id ∈ kids (y :: T') (0, 0) true := mem_kids.2 ⟨y, by simp, h0, hT.root y (by simp) h0, rfl⟩
            rw [hk] at this
            simp at this
          · simp at hz
      subst hTn
      have e : ∀ s, kids ([] ++ [c]) (0, 0) s = if s = true then [c.id] else [] := fun s => by
        rw [kids_snoc, h1, h2]
        cases s <;> simp [kids, rise, ins]
      have e2 : ∀ s, kids ([] ++ [c]) c.id s = [] := fun s => by
        rw [kids_snoc, h1, if_neg (fun h => hnz h.1.symm)]
        simp [kids, rise]
      have e3 : allT ([] : List Cr) = [] := by simp [allT, trF, kids, rise]
      rw [e3]
      unfold allT
      show trF ([] ++ [c]) 2 (0, 0) = [c.id]
      unfold trF
      rw [e, e]
      show ([] : List Dt) ++ [] ++ (trF ([] ++ [c]) 1 c.id ++ []) = [c.id]
      unfold trF
      rw [e2, e2, if_neg hnz]
      rfl
    · have he2 : allT T = A' ++ c.at_ :: r := by rw [e, h1]; simp
      have := allT_beside hT hfr hnz he2 (by rw [h1, h2]; exact hk)
      rw [this, h2, h1]
      simp
  | cons k ks =>
    rw [plc, hk] at hp
    obtain ⟨h1, h2⟩ := Prod.mk.inj hp
    have hh := right_next hT hnext hk
    have hkm : k ∈ kids T left true := by rw [hk]; simp
    obtain ⟨y, hy, _, _, hye⟩ := mem_kids.1 hkm
    have hbare : kids T c.at_ c.sd = [] := by
      rw [h1, h2]
      exact frst_bare (by rw [← hye]; exact hT.dep_all hy)
    cases r with
    | nil => simp at hh
    | cons a r =>
      have ha : a = c.at_ := by rw [h1]; simpa using hh
      have he2 : allT T = A ++ c.at_ :: r := by
        rcases he with ⟨⟨_, rfl⟩, e⟩ | ⟨e, _⟩
        · rw [← e, ha]; rfl
        · rw [e, ha]
      have := allT_beside hT hfr hnz he2 hbare
      rw [this, h2, ha]
      simp

end
end Go.Proofs.Ytbpepmajpojacaa
