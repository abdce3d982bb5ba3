/- sight, as what is ranged over: the characters that are seen, in order. -/
import Derived.Test.YtnmdcdphpcpojaaGreatDoorFgWalk
import Derived.Test.YtnmdcdphpcpojaaGreatDoorFgTree
import Derived.Laws.EntriesVeiled
namespace Go.Proofs.YtnmdcdphpcpojaaGreatDoor
section
set_option linter.unusedVariables false
open Go.RowKit Go.Shelf

/-- What a method that is ranged over does: it hands elements to yield, one by one, till a round says 'no more'. fs: what is bound. -/
def SeqM {α : Type} (n : Nat) (P : Program) (gf : Nat) (fs : Array Value) (encs : α → Array Value) (Kp : World → World → Prop) (S Sp : List α → Prop) (N : Nat) (w : World) : Prop :=
  ∀ (l : Nat) (J Jx : List α → World → Prop) (W : World), Below w.heap.size w W → OwnFrom W.heap.size J → OwnFrom W.heap.size Jx →
    (∀ pre x W1, J pre W1 → pre.length < N → YieldAt Fence.wide (n - 1) P l (encs x) W1 fun e W' =>
      (e = .returned (.bool true) ∧ J (pre ++ [x]) W' ∧ Kp W1 W' ∧ KeepsFrom W.heap.size W1 W') ∨ (e = .returned (.bool false) ∧ Jx (pre ++ [x]) W' ∧ KeepsFrom W.heap.size W1 W')) →
    J [] W →
    CallsIn Fence.wide n P gf (fs ++ #[.func (.yield l) #[] #[]]) W fun e W' => (∃ v, e = .returned v) ∧ ((∃ xs, S xs ∧ J xs W') ∨ (∃ pre, Sp pre ∧ Jx pre W'))

variable {n : Nat} {P : Program}

theorem range_method {α : Type} {g : Operand} {ps : Array Tmp} {assign body : Code} {Q : Exit → Act → World → Prop} {a : Act} {w : World}
    {gf : Nat} {fs : Array Value} (hg : a.eval g = .func (.func gf) fs #[]) (eg : ∀ args w, (callFunc gf args).run P w = .ok (.enter gf args) w)
    {encs : α → Array Value} {Kp : World → World → Prop} {S Sp : List α → Prop} {N : Nat} {w0 : World} (hseq : SeqM (n - 1) P gf fs encs Kp S Sp N w0)
    (hKt : ∀ {A B C : World}, Kp A B → Kp B C → Kp A C) (hKb : ∀ (W : World) (l : Nat) (o o' : Obj), w.heap.size ≤ l → W.heap[l]? = some o → o.isCells = false → o.isWalk = false → Kp W (W.putObj l o')) (hb0 : Below w0.heap.size w0 w) (hps : ∀ x, (encs x).size = ps.size)
    (I : List α → World → Prop) (Ix : Code → List α → World → Prop) (hI : OwnFrom w.heap.size I) (hIx : ∀ c, OwnFrom w.heap.size (Ix c)) (h0 : I [] w) (a₁ : α → Act)
    (hassign : ∀ (l : Nat) (x : α) (W : World) (K : Act → World → Prop), K (a₁ x) W →
      assign.wpIn (Fence.wide.inRound l) (n - 1 - 1) P (Exit.then K (fun _ _ _ => False)) { tmps := (ps.zip (encs x)).foldl (fun t (p, v) => t.setIfInBounds p v) a.tmps, defers := [] } W)
    (hbody : ∀ (l : Nat) (pre : List α) (x : α) (W : World), I pre W → pre.length < N → body.wpIn (Fence.wide.inRound l) (n - 1 - 1) P (ownPostG w.heap.size Kp I Ix (pre ++ [x]) W) (a₁ x) W)
    (hdone : ∀ (D : Nat) (xs : List α) (W : World), w.heap.size ≤ D → S xs → I xs W → W.heap[D]? = some (.deferred (some [])) → Q .normal { a with defers := { target := .collected D, args := #[] } :: a.defers } W)
    (hstop : ∀ (D : Nat) (c : Code) (pre : List α) (W : World), w.heap.size ≤ D → Sp pre → Ix c pre W → W.heap[D]? = some (.deferred (some [])) → c.wpIn Fence.wide n P Q { a with defers := { target := .collected D, args := #[] } :: a.defers } W) :
    (Code.rangeFunc g ps assign body).wpIn Fence.wide n P Q a w := by
  refine wpIn_rangeFunc fun fn hfn => ?_
  obtain ⟨lp, hlp⟩ : ∃ lp : LoopState → Option Code → Loop, lp = fun st pe => { state := st, pending := pe, fn, tmps := a.tmps, params := ps, assign, body, defers := w.heap.size } := ⟨_, rfl⟩
  obtain ⟨V, hV⟩ : ∃ V, (w.alloc (.deferred (some []))).alloc (.loop (lp .ready none)) = V := ⟨_, rfl⟩
  have hVs : V.heap.size = w.heap.size + 2 := by rw [← hV]; simp
  have hVl : V.heap[w.heap.size + 1]? = some (.loop (lp .ready none)) := by
    rw [← hV]
    have := World.alloc_heap_new (w.alloc (.deferred (some []))) (.loop (lp .ready none))
    rwa [World.size_alloc] at this
  have hVd : V.heap[w.heap.size]? = some (.deferred (some [])) := by
    rw [← hV]
    exact (Below.heap_alloc _ _ _ (by simp)).trans (World.alloc_heap_new w _)
  have hVI : I [] V := by rw [← hV]; exact hI.alloc _ (hI.alloc _ h0)
  have hVb : Below w0.heap.size w0 V := by
    rw [← hV]
    exact hb0.trans ((((Below.refl _ w).alloc (Nat.le_refl _) _).alloc (by simp) _).mono hb0.size)
  refine ⟨w.heap.size + 1, [{ target := .collected w.heap.size, args := #[] }], V, { target := .fn (.func gf) #[], args := fs ++ #[.func (.yield (w.heap.size + 1)) #[] #[]] }, V, gf, fs ++ #[.func (.yield (w.heap.size + 1)) #[] #[]], V, ?_, ?_, ?_, ?_, ?_, ?_⟩
  · rw [← hV, hlp]; exact run_enterLoop_outer _ _ _ _ _
  · simp only [resolve, hg]
    simp [go_sem]
  · intro f' _; trivial
  · simp [invoke, go_sem, eg]
  · intro h; simp [Fence.wide] at h
  · have hnw : ∀ {A : World} {row : Option Nat}, (∀ r, row = some r → V.heap.size ≤ r ∧ ∃ o : Obj, A.heap[r]? = some o ∧ o.isCells = false) → (∀ r, row = some r → w.heap.size ≤ r ∧ ∃ o : Obj, A.heap[r]? = some o ∧ o.isCells = false) := fun hr r e => by
      obtain ⟨hB, o, ho, hw⟩ := hr r e
      exact ⟨by omega, o, ho, hw⟩
    have hst : ∀ {A B : World} {row : Option Nat} {k : Nat} {o : Obj}, A.grownBy B row → (∀ r, row = some r → V.heap.size ≤ r ∧ ∃ o : Obj, A.heap[r]? = some o ∧ o.isCells = false) → k < V.heap.size → A.heap[k]? = some o → B.heap[k]? = some o := fun {A B row k o} hg' hr hk ho =>
      (hg'.block k (Array.getElem?_eq_some_iff.1 ho).1 (fun e => by have := (hr k e.symm).1; omega)).trans ho
    have hput : ∀ (A : World) (o' : Obj), KeepsFrom V.heap.size A (A.putObj (w.heap.size + 1) o') := fun A o' => ⟨by simp [World.putObj], fun k o hk ho _ => (World.putObj_heap_other (by omega)).trans ho⟩
    have hround : ∀ pre x W, (I pre W ∧ W.heap[w.heap.size + 1]? = some (.loop (lp .ready none)) ∧ W.heap[w.heap.size]? = some (.deferred (some []))) → pre.length < N → YieldAt Fence.wide (n - 1 - 1) P (w.heap.size + 1) (encs x) W fun e W' =>
        (e = .returned (.bool true) ∧ (I (pre ++ [x]) W' ∧ W'.heap[w.heap.size + 1]? = some (.loop (lp .ready none)) ∧ W'.heap[w.heap.size]? = some (.deferred (some []))) ∧ Kp W W' ∧ KeepsFrom V.heap.size W W') ∨ (e = .returned (.bool false) ∧ (∃ c, Ix c (pre ++ [x]) W' ∧ W'.heap[w.heap.size + 1]? = some (.loop (lp .done (some c))) ∧ W'.heap[w.heap.size]? = some (.deferred (some []))) ∧ KeepsFrom V.heap.size W W') := by
      rintro pre x W ⟨hi, hl, hk⟩ hlen
      have hlt : w.heap.size + 1 < W.heap.size := (Array.getElem?_eq_some_iff.1 hl).1
      have hy := run_yield (P := P) (args := encs x) hl (by rw [hlp]; exact hps x)
      rw [hlp] at hy
      refine ⟨fn, _, assign, body, hy, roundIn_of_wpIn hfn (hassign _ x W _ ⟨_, run_beginRound hl (by rw [hlp]), ?_⟩)⟩
      obtain ⟨W2, hW2⟩ : ∃ W2, W2 = W.putObj (w.heap.size + 1) (.loop { lp .ready none with state := .busy }) := ⟨_, rfl⟩
      have hl2 : W2.heap[w.heap.size + 1]? = some (.loop { lp .ready none with state := .busy }) := by rw [hW2]; exact World.putObj_heap_same hlt
      have hk2 : W2.heap[w.heap.size]? = some (.deferred (some [])) := by rw [hW2]; exact (World.putObj_heap_other (by omega)).trans hk
      have hw2 : Kp W W2 := by rw [hW2]; exact hKb _ _ _ _ (by omega) hl rfl rfl
      have hi2 : I pre W2 := by rw [hW2]; exact hI.putObj _ hi (by omega) hl rfl
      have hf2 : KeepsFrom V.heap.size W W2 := by rw [hW2]; exact hput _ _
      rw [← hW2]
      refine wpIn_mono (hbody _ pre x W2 hi2 hlen) ?_
      have fin : ∀ (jump : Option Code) (W3 : World), KeepsFrom w.heap.size W2 W3 →
          (Instr.endRound (w.heap.size + 1) jump).run P W3 = .ok (.bool jump.isNone) (W3.putObj (w.heap.size + 1) (.loop (lp (if jump.isNone then .ready else .done) jump))) ∧
          W3.heap[w.heap.size + 1]? = some (.loop { lp .ready none with state := .busy }) ∧
          (W3.putObj (w.heap.size + 1) (.loop (lp (if jump.isNone then .ready else .done) jump))).heap[w.heap.size + 1]? = some (.loop (lp (if jump.isNone then .ready else .done) jump)) ∧
          (W3.putObj (w.heap.size + 1) (.loop (lp (if jump.isNone then .ready else .done) jump))).heap[w.heap.size]? = some (.deferred (some [])) := fun jump W3 hk3 => by
        have hl3 := hk3.same _ _ (by omega) hl2 rfl
        have hrun := run_endRound (P := P) jump hl3
        rw [hlp] at hrun ⊢
        exact ⟨hrun, by rw [hlp] at hl3; exact hl3, World.putObj_heap_same (Array.getElem?_eq_some_iff.1 hl3).1, (World.putObj_heap_other (by omega)).trans (hk3.same _ _ (Nat.le_refl _) hk2 rfl)⟩
      have leave : ∀ (c : Code) (W3 : World), KeepsFrom w.heap.size W2 W3 → Ix c (pre ++ [x]) W3 → ∃ v W4, (Instr.endRound (w.heap.size + 1) (some c)).run P W3 = .ok v W4 ∧ ((Ending.returned v = .returned (.bool true) ∧ (I (pre ++ [x]) W4 ∧ W4.heap[w.heap.size + 1]? = some (.loop (lp .ready none)) ∧ W4.heap[w.heap.size]? = some (.deferred (some []))) ∧ Kp W W4 ∧ KeepsFrom V.heap.size W W4) ∨ (Ending.returned v = .returned (.bool false) ∧ (∃ c, Ix c (pre ++ [x]) W4 ∧ W4.heap[w.heap.size + 1]? = some (.loop (lp .done (some c))) ∧ W4.heap[w.heap.size]? = some (.deferred (some []))) ∧ KeepsFrom V.heap.size W W4)) := fun c W3 hk3 hi3 => by
        obtain ⟨hr, hl3, hl4, hk4⟩ := fin (some c) W3 hk3
        exact ⟨_, _, hr, .inr ⟨rfl, ⟨c, (hIx _).putObj _ hi3 (by omega) hl3 rfl, hl4, hk4⟩, (hf2.trans ⟨hk3.size, fun k o hk ho hc => hk3.same k o (by omega) ho hc⟩).trans (hput _ _)⟩⟩
      rintro e a3 W3 hp
      cases e with
      | normal =>
        obtain ⟨hk3, hkp3, hi3⟩ := hp
        obtain ⟨hr, hl3, hl4, hk4⟩ := fin none W3 hk3
        exact ⟨_, _, hr, .inl ⟨rfl, ⟨hI.putObj _ hi3 (by omega) hl3 rfl, hl4, hk4⟩, hKt (hKt hw2 hkp3) (hKb _ _ _ _ (by omega) hl3 rfl rfl), (hf2.trans ⟨hk3.size, fun k o hk ho hc => hk3.same k o (by omega) ho hc⟩).trans (hput _ _)⟩⟩
      | ret => exact leave _ W3 hp.1 hp.2
      | exit id => exact leave _ W3 hp.1 hp.2
      | goto t => exact leave _ W3 hp.1 hp.2
      | panic ch => exact hp.elim
      | outgrown => exact hp.elim
    refine (hseq (w.heap.size + 1)
      (fun pre W => I pre W ∧ W.heap[w.heap.size + 1]? = some (.loop (lp .ready none)) ∧ W.heap[w.heap.size]? = some (.deferred (some [])))
      (fun pre W => ∃ c, Ix c pre W ∧ W.heap[w.heap.size + 1]? = some (.loop (lp .done (some c))) ∧ W.heap[w.heap.size]? = some (.deferred (some [])))
      V hVb
      (fun s A B row hs hg' hr => ⟨hI s A B row hs.1 hg' (hnw hr), hst hg' hr (by omega) hs.2.1, hst hg' hr (by omega) hs.2.2⟩)
      (fun s A B row hs hg' hr => by
        obtain ⟨c, hc, hl, hk⟩ := hs
        exact ⟨c, hIx c s A B row hc hg' (hnw hr), hst hg' hr (by omega) hl, hst hg' hr (by omega) hk⟩)
      hround ⟨hVI, hVl, hVd⟩).mono ?_
    rintro e W2 ⟨⟨v, rfl⟩, (⟨xs, hS, hi, hl, hk⟩ | ⟨pre, hSp, c, hi, hl, hk⟩)⟩
    · exact ⟨none, _, by have hrun := run_endLoop (P := P) hl (by rw [hlp]; simp); rw [hlp] at hrun; exact hrun, hdone _ xs _ (Nat.le_refl _) hS (hI.putObj _ hi (by omega) hl rfl) ((World.putObj_heap_other (by omega)).trans hk)⟩
    · exact ⟨some c, _, by have hrun := run_endLoop (P := P) hl (by rw [hlp]; simp); rw [hlp] at hrun; exact hrun, hstop _ c pre _ (Nat.le_refl _) hSp ((hIx c).putObj _ hi (by omega) hl rfl) ((World.putObj_heap_other (by omega)).trans hk)⟩
end

section

theorem trF_kid {T : List Cr} {f : Nat} {d k : Dt} {s : Bool} (hk : k ∈ kids T d s) : ∀ x ∈ trF T f k, x ∈ trF T (f + 1) d := fun x hx => by
  show x ∈ (kids T d false).flatMap (trF T f) ++ (if d = (0, 0) then [] else [d]) ++ (kids T d true).flatMap (trF T f)
  cases s with
  | false => exact List.mem_append_left _ (List.mem_append_left _ (List.mem_flatMap.2 ⟨k, hk, hx⟩))
  | true => exact List.mem_append_right _ (List.mem_flatMap.2 ⟨k, hk, hx⟩)

theorem trF_self {T : List Cr} {f : Nat} {d : Dt} (h : dep T f d) (hz : d ≠ (0, 0)) : d ∈ trF T f d := by
  cases f with
  | zero => exact h.elim
  | succ f =>
    show d ∈ (kids T d false).flatMap (trF T f) ++ (if d = (0, 0) then [] else [d]) ++ (kids T d true).flatMap (trF T f)
    rw [if_neg hz]
    simp

/-- A character's tree is among all. -/
theorem WT.sub_all {T : List Cr} (h : WT T) : ∀ (i : Nat) (c : Cr), T[i]? = some c → ∀ x ∈ trF T T.length c.id, x ∈ allT T := by
  intro i
  induction i using Nat.strongRecOn with
  | ind i ih =>
    intro c hc x hx
    have hcm := List.mem_of_getElem? hc
    have hk : c.id ∈ kids T c.at_ c.sd := mem_kids.2 ⟨c, hcm, rfl, rfl, rfl⟩
    rcases h.under i c hc with e | ⟨p, hp, e⟩
    · rw [e] at hk
      exact trF_kid hk x hx
    · obtain ⟨j, hj⟩ := List.mem_iff_getElem?.1 hp
      have hji : j < i := by
        have := (List.getElem?_eq_some_iff.1 hj).1
        rw [List.length_take] at this
        omega
      rw [List.getElem?_take, if_pos hji] at hj
      refine ih j hji p hj x ?_
      have hd := h.dep_all (List.mem_of_getElem? hj)
      obtain ⟨m, hm⟩ : ∃ m, T.length = m + 1 := by
        have := (List.getElem?_eq_some_iff.1 hj).1
        exact ⟨T.length - 1, by omega⟩
      rw [hm] at hd hx ⊢
      rw [← e] at hk
      have hdk : Proofs.YtnmdcdphpcpojaaGreatDoor.dep T m c.id := hd c.sd c.id hk
      rw [trF_stable hdk] at hx
      exact trF_kid hk x hx

theorem mem_allT {T : List Cr} (h : WT T) {k : Dt} : k ∈ allT T ↔ ∃ c ∈ T, c.id = k := by
  constructor
  · intro hk
    rcases mem_trF h hk with ⟨_, hz⟩ | hc
    · exact absurd rfl hz
    · exact hc
  · rintro ⟨c, hc, rfl⟩
    obtain ⟨i, hi⟩ := List.mem_iff_getElem?.1 hc
    exact h.sub_all i c hi _ (trF_self (h.dep_all hc) (h.nz c hc))
end

section

/-- Whatever is in a tree is its own root, or lies under something in it. -/
theorem trF_up {T : List Cr} (hT : WT T) : ∀ {f : Nat} {k : Dt} {x : Cr}, x ∈ T → k ≠ (0, 0) → x.id ∈ trF T f k → x.id = k ∨ x.at_ ∈ trF T f k
  | 0, _, _, _, _, h => by simp [trF] at h
  | f + 1, k, x, hx, hz, h => by
    have hself : k ∈ trF T (f + 1) k := by unfold trF; rw [if_neg hz]; simp
    have one : ∀ s, x.id ∈ (kids T k s).flatMap (trF T f) → x.id = k ∨ x.at_ ∈ trF T (f + 1) k := fun s hs => by
      obtain ⟨k', hk', hm⟩ := List.mem_flatMap.1 hs
      obtain ⟨c, hc, h1, _, h3⟩ := mem_kids.1 hk'
      have hz' : k' ≠ (0, 0) := by rw [← h3]; exact hT.nz c hc
      rcases trF_up hT hx hz' hm with e | e
      · have : x = c := ids_one hT.ids hx hc (by rw [e, h3])
        rw [this, h1]
        exact Or.inr hself
      · exact Or.inr (trF_kid hk' _ e)
    unfold trF at h
    rcases List.mem_append.1 h with h | h
    · rcases List.mem_append.1 h with h | h
      · exact one false h
      · rw [if_neg hz] at h
        exact Or.inl (by simpa using h)
    · exact one true h

theorem under_lt {T : List Cr} (hT : WT T) {i j : Nat} {c x : Cr} (hc : T[i]? = some c) (hx : T[j]? = some x) (e : x.at_ = c.id) : i < j := by
  rcases hT.under j x hx with h0 | ⟨y, hy, e'⟩
  · exact absurd (by rw [← e, h0]) (hT.nz c (List.mem_of_getElem? hc))
  · have : y = c := ids_one hT.ids (List.mem_of_mem_take hy) (List.mem_of_getElem? hc) (by rw [e', e])
    subst this
    obtain ⟨m, hm⟩ := List.mem_iff_getElem?.1 hy
    have hmj : m < j := by
      have := (List.getElem?_eq_some_iff.1 hm).1
      rw [List.length_take] at this
      omega
    rw [List.getElem?_take, if_pos hmj] at hm
    have hil : i < (T.map Cr.id).length := by simpa using (List.getElem?_eq_some_iff.1 hc).1
    have := (List.getElem?_inj hil hT.ids).1 (show (T.map Cr.id)[i]? = (T.map Cr.id)[m]? by rw [List.getElem?_map, List.getElem?_map, hc, hm])
    omega

theorem at_one {T : List Cr} (hT : WT T) {i j : Nat} {c x : Cr} (hc : T[i]? = some c) (hx : T[j]? = some x) (e : c.id = x.id) : i = j := by
  have hil : i < (T.map Cr.id).length := by simpa using (List.getElem?_eq_some_iff.1 hc).1
  exact (List.getElem?_inj hil hT.ids).1 (show (T.map Cr.id)[i]? = (T.map Cr.id)[j]? by rw [List.getElem?_map, List.getElem?_map, hc, hx]; simp [e])

/-- What is in a tree came no earlier than its root. -/
theorem trF_later {T : List Cr} (hT : WT T) : ∀ {f : Nat} {i j : Nat} {c x : Cr}, T[i]? = some c → T[j]? = some x → x.id ∈ trF T f c.id → i ≤ j
  | 0, _, _, _, _, _, _, h => by simp [trF] at h
  | f + 1, i, j, c, x, hc, hx, h => by
    have one : ∀ s, x.id ∈ (kids T c.id s).flatMap (trF T f) → i ≤ j := fun s hs => by
      obtain ⟨k', hk', hm⟩ := List.mem_flatMap.1 hs
      obtain ⟨y, hy, h1, _, rfl⟩ := mem_kids.1 hk'
      obtain ⟨m, hm'⟩ := List.mem_iff_getElem?.1 hy
      have := under_lt hT hc hm' h1
      have := trF_later hT hm' hx hm
      omega
    unfold trF at h
    rcases List.mem_append.1 h with h | h
    · rcases List.mem_append.1 h with h | h
      · exact one false h
      · rw [if_neg (hT.nz c (List.mem_of_getElem? hc))] at h
        have := at_one hT hx hc (by simpa using h)
        omega
    · exact one true h

/-- Of two trees with something in common one has the other one's root. -/
theorem trF_meet {T : List Cr} (hT : WT T) {f : Nat} {k1 k2 : Dt} (hz1 : k1 ≠ (0, 0)) (hz2 : k2 ≠ (0, 0)) : ∀ (i : Nat) (x : Cr), T[i]? = some x → x.id ∈ trF T f k1 → x.id ∈ trF T f k2 → k1 ∈ trF T f k2 ∨ k2 ∈ trF T f k1 := by
  intro i
  induction i using Nat.strongRecOn with
  | ind i ih =>
    intro x hx h1 h2
    have hxm := List.mem_of_getElem? hx
    rcases trF_up hT hxm hz1 h1 with e | e1
    · rw [e] at h2; exact Or.inl h2
    · rcases trF_up hT hxm hz2 h2 with e | e2
      · rw [e] at h1; exact Or.inr h1
      · rcases hT.under i x hx with h0 | ⟨p, hp, e⟩
        · rcases mem_trF hT e1 with ⟨_, h⟩ | ⟨c, hc, e⟩
          · exact absurd (by simp_all) h
          · exact absurd (by rw [e, h0]) (hT.nz c hc)
        · obtain ⟨m, hm⟩ := List.mem_iff_getElem?.1 hp
          have hmi : m < i := by
            have := (List.getElem?_eq_some_iff.1 hm).1
            rw [List.length_take] at this
            omega
          rw [List.getElem?_take, if_pos hmi] at hm
          rw [← e] at e1 e2
          exact ih m hmi p hm e1 e2

/-- Two that lie under one have nothing in common. -/
theorem trF_apart {T : List Cr} (hT : WT T) {f : Nat} {a b : Cr} (ha : a ∈ T) (hb : b ∈ T) (he : a.at_ = b.at_) (hne : a.id ≠ b.id) {y : Dt} (h1 : y ∈ trF T f a.id) (h2 : y ∈ trF T f b.id) : False := by
  have no : ∀ {a b : Cr}, a ∈ T → b ∈ T → a.at_ = b.at_ → a.id ≠ b.id → a.id ∈ trF T f b.id → False := fun {a b} ha hb he hne h => by
    rcases trF_up hT ha (hT.nz b hb) h with e | e
    · exact hne e
    · obtain ⟨j, hj⟩ := List.mem_iff_getElem?.1 hb
      rcases mem_trF hT e with ⟨e', _⟩ | ⟨c, hc, e'⟩
      · have := under_lt hT hj hj (by rw [← he, e'])
        omega
      · obtain ⟨i, hi⟩ := List.mem_iff_getElem?.1 hc
        rw [← e'] at e
        have h3 := trF_later hT hj hi e
        have h4 := under_lt hT hi hj (by rw [← he, e'])
        omega
  have hy : ∃ c ∈ T, c.id = y := by
    rcases mem_trF hT h1 with ⟨e, _⟩ | h
    · exact ⟨a, ha, e.symm⟩
    · exact h
  obtain ⟨c, hc, rfl⟩ := hy
  obtain ⟨i, hi⟩ := List.mem_iff_getElem?.1 hc
  rcases trF_meet hT (hT.nz a ha) (hT.nz b hb) i c hi h1 h2 with h | h
  · exact no ha hb he hne h
  · exact no hb ha he.symm (Ne.symm hne) h

theorem flat_nodup9 {l : List Dt} {f : Dt → List Dt} (hl : l.Nodup) (hf : ∀ k ∈ l, (f k).Nodup) (hd : ∀ k ∈ l, ∀ k' ∈ l, k ≠ k' → ∀ y, y ∈ f k → y ∈ f k' → False) : (l.flatMap f).Nodup := by
  induction l with
  | nil => simp
  | cons a r ih =>
    rw [List.flatMap_cons, List.nodup_append]
    have hl' := List.nodup_cons.1 hl
    refine ⟨hf a (by simp), ih hl'.2 (fun k hk => hf k (List.mem_cons_of_mem _ hk)) (fun k hk k' hk' => hd k (List.mem_cons_of_mem _ hk) k' (List.mem_cons_of_mem _ hk')), fun x hx y hy e => ?_⟩
    subst e
    obtain ⟨k, hk, hm⟩ := List.mem_flatMap.1 hy
    exact hd a (by simp) k (List.mem_cons_of_mem _ hk) (fun e => hl'.1 (e ▸ hk)) x hx hm

/-- Each character stands once in the order. -/
theorem trF_once {T : List Cr} (hT : WT T) : ∀ (f : Nat) (d : Dt), nodes T d → (trF T f d).Nodup
  | 0, _, _ => by simp [trF]
  | f + 1, d, hd => by
    have hrow : ∀ s, ((kids T d s).flatMap (trF T f)).Nodup := fun s =>
      flat_nodup9 (up_nodup (kids_up T d s)) (fun k hk => by
        obtain ⟨c, hc, _, _, e⟩ := mem_kids.1 hk
        exact trF_once hT f k (Or.inr ⟨c, hc, e⟩)) (fun k hk k' hk' hne y h1 h2 => by
        obtain ⟨c, hc, e1, _, rfl⟩ := mem_kids.1 hk
        obtain ⟨c', hc', e1', _, rfl⟩ := mem_kids.1 hk'
        exact trF_apart hT hc hc' (by rw [e1, e1']) hne h1 h2)
    have hnd : ∀ s, d ≠ (0, 0) → d ∉ (kids T d s).flatMap (trF T f) := fun s hz h => by
      obtain ⟨k, hk, hm⟩ := List.mem_flatMap.1 h
      obtain ⟨c, hc, e1, _, rfl⟩ := mem_kids.1 hk
      rcases hd with e | ⟨x, hx, rfl⟩
      · exact hz e
      · obtain ⟨i, hi⟩ := List.mem_iff_getElem?.1 hx
        obtain ⟨j, hj⟩ := List.mem_iff_getElem?.1 hc
        have := under_lt hT hi hj e1
        have := trF_later hT hj hi hm
        omega
    unfold trF
    rw [List.nodup_append, List.nodup_append]
    refine ⟨⟨hrow false, ?_, fun x hx y hy e => ?_⟩, hrow true, fun x hx y hy e => ?_⟩
    · split <;> simp
    · subst e
      split at hy
      · simp at hy
      · rename_i hz
        simp at hy
        subst hy
        exact hnd false hz hx
    · subst e
      rcases List.mem_append.1 hx with hx | hx
      · obtain ⟨k, hk, hm⟩ := List.mem_flatMap.1 hx
        obtain ⟨k', hk', hm'⟩ := List.mem_flatMap.1 hy
        obtain ⟨c, hc, e1, s1, rfl⟩ := mem_kids.1 hk
        obtain ⟨c', hc', e1', s1', rfl⟩ := mem_kids.1 hk'
        refine trF_apart hT hc hc' (by rw [e1, e1']) (fun e => ?_) hm hm'
        have := ids_one hT.ids hc hc' e
        rw [this, s1'] at s1
        cases s1
      · split at hx
        · simp at hx
        · rename_i hz
          simp at hx
          subst hx
          exact hnd true hz hy

theorem allT_once {T : List Cr} (hT : WT T) : (allT T).Nodup := trF_once hT _ _ (Or.inl rfl)

theorem allT_perm_ids {T : List Cr} (hT : WT T) : (allT T).Perm (T.map Cr.id) := by
  refine (List.perm_ext_iff_of_nodup (allT_once hT) hT.ids).2 (fun d => ?_)
  rw [mem_allT hT, List.mem_map]

theorem allT_len {T : List Cr} (hT : WT T) : (allT T).length = T.length := by
  have := (allT_perm_ids hT).length_eq
  simpa using this

/-- The character of an identity. -/
def fnd (T : List Cr) (d : Dt) : Option Cr := T.find? (fun c => decide (c.id = d))

theorem fnd_of {T : List Cr} (hT : WT T) {c : Cr} (hc : c ∈ T) : fnd T c.id = some c := by
  unfold fnd
  cases h : T.find? (fun x => decide (x.id = c.id)) with
  | none => exact absurd (List.find?_eq_none.1 h c hc) (by simp)
  | some x =>
    have h1 := List.find?_some h
    have h2 := List.mem_of_find?_eq_some h
    rw [ids_one hT.ids h2 hc (by simpa using h1)]

theorem fnd_some {T : List Cr} {d : Dt} {c : Cr} (h : fnd T d = some c) : c ∈ T ∧ c.id = d := ⟨List.mem_of_find?_eq_some h, by simpa using List.find?_some h⟩

/-- All characters, in order, themselves. -/
def allC (T : List Cr) : List Cr := (allT T).filterMap (fnd T)

theorem filterMap_ids {T : List Cr} : ∀ (l : List Dt), (∀ d ∈ l, ∃ c, fnd T d = some c) → (l.filterMap (fnd T)).map Cr.id = l
  | [], _ => rfl
  | d :: r, h => by
    obtain ⟨c, hc⟩ := h d (by simp)
    rw [List.filterMap_cons_some hc, List.map_cons, (fnd_some hc).2, filterMap_ids r (fun x hx => h x (List.mem_cons_of_mem _ hx))]

theorem allC_ids {T : List Cr} (hT : WT T) : (allC T).map Cr.id = allT T := filterMap_ids _ (fun d hd => by
  obtain ⟨c, hc, rfl⟩ := (mem_allT hT).1 hd
  exact ⟨c, fnd_of hT hc⟩)

theorem allC_mem {T : List Cr} {c : Cr} (h : c ∈ allC T) : c ∈ T := by
  obtain ⟨d, _, hd⟩ := List.mem_filterMap.1 h
  exact (fnd_some hd).1

theorem mem_allC {T : List Cr} (hT : WT T) {c : Cr} (h : c ∈ T) : c ∈ allC T := List.mem_filterMap.2 ⟨c.id, (mem_allT hT).2 ⟨c, h, rfl⟩, fnd_of hT h⟩

theorem allC_len {T : List Cr} (hT : WT T) : (allC T).length = T.length := by
  rw [← allT_len hT, ← allC_ids hT, List.length_map]

/-- Characters are told by their identities. -/
theorem chars_of_ids {T : List Cr} (hT : WT T) : ∀ (l m : List Cr), (∀ c ∈ l, c ∈ T) → (∀ c ∈ m, c ∈ T) → l.map Cr.id = m.map Cr.id → l = m
  | [], [], _, _, _ => rfl
  | [], _ :: _, _, _, h => by simp at h
  | _ :: _, [], _, _, h => by simp at h
  | a :: l, b :: m, hl, hm, h => by
    rw [List.map_cons, List.map_cons] at h
    injection h with h1 h2
    rw [ids_one hT.ids (hl a (by simp)) (hm b (by simp)) h1, chars_of_ids hT l m (fun c hc => hl c (List.mem_cons_of_mem _ hc)) (fun c hc => hm c (List.mem_cons_of_mem _ hc)) h2]
end

section
set_option linter.unusedVariables false
open Go.RowKit Go.Shelf

attribute [local go_sem] Oper.semAt_some

/-- What lies below n₀ is as it was, and so is what is a function's box. -/
structure KT (n₀ : Nat) (W W' : World) : Prop where
  size : W.heap.size ≤ W'.heap.size
  low : ∀ k, k < n₀ → W'.heap[k]? = W.heap[k]?
  fn : ∀ (k : Nat) (cs : Array Value) (ty : TypeId) (fz : Nat × Nat), ty = 187 ∨ ty = 218 → W.heap[k]? = some (.cells cs ty fz) → W'.heap[k]? = some (.cells cs ty fz)

theorem KT.refl (n₀ : Nat) (W : World) : KT n₀ W W := ⟨Nat.le_refl _, fun _ _ => rfl, fun _ _ _ _ _ h => h⟩
theorem KT.trans {n₀ : Nat} {A B C : World} (h : KT n₀ A B) (k : KT n₀ B C) : KT n₀ A C := ⟨Nat.le_trans h.size k.size, fun i hi => (k.low i hi).trans (h.low i hi), fun i cs ty fz ht hi => k.fn i cs ty fz ht (h.fn i cs ty fz ht hi)⟩
theorem KT.put {n₀ : Nat} (W : World) (l : Nat) (o o' : Obj) (hl : n₀ ≤ l) (ho : W.heap[l]? = some o) (hc : o.isCells = false) : KT n₀ W (W.putObj l o') :=
  ⟨by simp [World.putObj], fun k hk => World.putObj_heap_other (by omega), fun k cs ty fz _ hk => (World.putObj_heap_other (fun e => by subst e; rw [hk] at ho; cases ho; cases hc)).trans hk⟩

/-- A character of some. -/
abbrev El (L : List Cr) : Type := { c : Cr // c ∈ L }
/-- Where it lies. -/
def encC (G : Dt → Option Nat) (L : List Cr) (x : El L) : Array Value := #[pvFc ((G x.1.id).getD 0)]

/-- What a method that is ranged over tells: these characters, in order. -/
def SeqL (f : Nat) (v : Value) (L : List Cr) (G : Dt → Option Nat) (N : Nat) (w : World) : Prop :=
  ∀ n, SeqM n Tryz.prog f #[v] (encC G L) (KT w.heap.size) (fun xs => xs.map (·.1) = L) (fun pre => pre.map (·.1) <+: L) N w

theorem yieldAt_wide {n m : Nat} {P : Program} {l : Nat} {args : Array Value} {W : World} {R : Ending → World → Prop} (h : YieldAt Fence.wide n P l args W R) : YieldAt Fence.wide m P l args W R := by
  obtain ⟨fn, tmps, assign, body, h1, h2⟩ := h
  exact ⟨fn, tmps, assign, body, h1, h2.1, fun c cs _ => h2.2 c cs (room_wide _)⟩

theorem ids_prefix {T : List Cr} (hT : WT T) {l : List Cr} (hl : ∀ c ∈ l, c ∈ T) {q : List Dt} (he : l.map Cr.id = q) (hq : q <+: allT T) : l <+: allC T := by
  have h1 : q = (allT T).take q.length := List.prefix_iff_eq_take.1 hq
  have h2 : l = (allC T).take q.length := by
    refine chars_of_ids hT _ _ hl (fun c hc => allC_mem (List.mem_of_mem_take hc)) ?_
    rw [he, List.map_take, allC_ids hT]
    exact h1
  rw [h2]
  exact List.take_prefix _ _

theorem El.in_T {T : List Cr} (l : List (El (allC T))) : ∀ c ∈ l.map (·.1), c ∈ T := fun c hc => by
  obtain ⟨x, _, rfl⟩ := List.mem_map.1 hc
  exact allC_mem x.2

set_option maxRecDepth 100000 in
set_option maxHeartbeats 4000000 in
theorem walk_seq {w : World} {t : Nat} {T : List Cr} {G M : Dt → Option Nat} {m : Nat} {R : Dt → Bool → Value} (h : TX w t T G M m R) (hTl : T.length ≤ 1000000) : SeqL 105 (.pointer (some ⟨t, 0, none⟩)) (allC T) G T.length w := by
  intro n l J Jx W hB hJ hJx hY h0
  have hmx : Tryz.prog.follows .mixedOrders = true := by kernel_rfl
  obtain ⟨fm, htb, hfm⟩ := h.tb
  have htl := h.lt
  have hWs := hB.size
  have ht := (hB.block t h.lt).trans htb
  have hcm : CM w.heap.size W T G R := h.cm.keep (own := fun k => w.heap.size ≤ k) (fun _ h => h) ⟨hWs, fun k cs ty fz hk hn => (hB.block k (by omega)).trans hk⟩
  obtain ⟨ra, rc, gs, hR, hgs, hPB⟩ := hcm.row (0, 0) true (Or.inl rfl)
  have c6 : W.cell? ⟨t, 6, none⟩ = some (.slice ra (kids T (0, 0) true).length rc) := by simp [World.cell?, ht, txCells, hR]
  have htW : t < W.heap.size := by omega
  have hkf : kids T (0, 0) false = [] := List.eq_nil_iff_forall_not_mem.2 (fun x hx => by
    obtain ⟨y, hy, h1, h2, _⟩ := mem_kids.1 hx
    rw [h.wt.root y hy h1] at h2
    cases h2)
  have hall : (kids T (0, 0) true).flatMap (trF T T.length) = allT T := by
    unfold allT
    rw [trF, hkf]
    simp
  obtain ⟨V, hV⟩ : ∃ V, V = ((W.alloc (.cells #[.func (.yield l) #[] #[]] 187)).alloc (.cells #[.func (.func 137) #[] #[.pointer (some ⟨W.heap.size + 1, 0, none⟩), .pointer (some ⟨W.heap.size, 0, none⟩)]] 218)) := ⟨_, rfl⟩
  refine callsIn_of_wp Tryz.func105 rfl trivial ?_ rfl
  simp only [Tryz.ntmps105, List.size_toArray, List.length_cons, List.length_nil, Nat.reduceAdd, Nat.reduceSub, Array.replicate_succ, Array.replicate_zero, List.push_toArray, List.append_toArray, List.nil_append, List.cons_append]
  have hVs : V.heap.size = W.heap.size + 2 := by rw [hV]; simp
  have hVy : V.heap[W.heap.size]? = some (.cells #[.func (.yield l) #[] #[]] 187 (0, 0)) := by rw [hV]; exact (Below.heap_alloc _ _ _ (by simp)).trans (World.alloc_heap_new W _)
  have hVt : V.heap[W.heap.size + 1]? = some (.cells #[.func (.func 137) #[] #[.pointer (some ⟨W.heap.size + 1, 0, none⟩), .pointer (some ⟨W.heap.size, 0, none⟩)]] 218 (0, 0)) := by
    rw [hV]
    have := World.alloc_heap_new (W.alloc (.cells #[.func (.yield l) #[] #[]] 187)) (.cells #[.func (.func 137) #[] #[.pointer (some ⟨W.heap.size + 1, 0, none⟩), .pointer (some ⟨W.heap.size, 0, none⟩)]] 218)
    rwa [World.size_alloc] at this
  have hVB : Below W.heap.size W V := by rw [hV]; exact ((Below.refl _ W).alloc (Nat.le_refl _) _).alloc (by simp) _
  have hJV : J [] V := by rw [hV]; exact hJ.alloc _ (hJ.alloc _ h0)
  obtain ⟨V2, hV2⟩ : ∃ V2, V2 = V.drew := ⟨_, rfl⟩
  have hdr : ∀ s A, J s A → J s A.drew := fun s A hs => hJ s A A.drew none hs ⟨rfl, rfl, rfl, Nat.le_refl _, fun _ _ _ => rfl⟩ (fun r e => by cases e)
  have hJ2 : J [] V2 := by rw [hV2]; exact hdr _ _ hJV
  have h2y : V2.heap[W.heap.size]? = some (.cells #[.func (.yield l) #[] #[]] 187 (0, 0)) := by rw [hV2]; exact hVy
  have h2t : V2.heap[W.heap.size + 1]? = some (.cells #[.func (.func 137) #[] #[.pointer (some ⟨W.heap.size + 1, 0, none⟩), .pointer (some ⟨W.heap.size, 0, none⟩)]] 218 (0, 0)) := by rw [hV2]; exact hVt
  have h2B : Below W.heap.size W V2 := by rw [hV2]; exact hVB.drew
  have hown : ∀ k, (w.heap.size ≤ k ∧ k ≠ W.heap.size + 1 ∧ k ≠ W.heap.size) → w.heap.size ≤ k := fun k h => h.1
  have hcm2 : CM w.heap.size V2 T G R := hcm.keep (own := fun k => w.heap.size ≤ k) (fun _ h => h) ⟨h2B.size, fun k cs ty fz hk hn => (h2B.block k (by omega)).trans hk⟩
  have hPB2 : PB w.heap.size V2 ra (kids T (0, 0) true).length rc gs := hPB.keep (own := fun k => w.heap.size ≤ k) (fun _ h => h) ⟨h2B.size, fun k cs ty fz hk hn => (h2B.block k (by omega)).trans hk⟩
  have c62 : V2.cell? ⟨t, 6, none⟩ = some (.slice ra (kids T (0, 0) true).length rc) := by rw [h2B.cell (p := ⟨t, 6, none⟩) htW]; exact c6
  have ct2 : V2.cell? ⟨W.heap.size + 1, 0, none⟩ = some (.func (.func 137) #[] #[.pointer (some ⟨W.heap.size + 1, 0, none⟩), .pointer (some ⟨W.heap.size, 0, none⟩)]) := by simp [World.cell?, h2t]
  have cy2 : V2.cell? ⟨W.heap.size, 0, none⟩ = some (.func (.yield l) #[] #[]) := by simp [World.cell?, h2y]
  have hkl := kids_len T (0, 0) true
  have hcall : ∀ n', CallsIn Fence.wide n' Tryz.prog 137 #[.slice ra (kids T (0, 0) true).length rc, .pointer (some ⟨W.heap.size + 1, 0, none⟩), .pointer (some ⟨W.heap.size, 0, none⟩)] V2 fun e W' => ∃ v, e = .returned v ∧ ((∃ xs : List (El (allC T)), xs.map (·.1) = allC T ∧ J xs W') ∨ (∃ pre : List (El (allC T)), pre.map (·.1) <+: allC T ∧ Jx pre W')) := fun n' => by
    refine (through_in l w.heap.size T.length (W.heap.size + 1) W.heap.size (fun k => w.heap.size ≤ k ∧ k ≠ W.heap.size + 1 ∧ k ≠ W.heap.size) hown (fun h => h.2.1 rfl) (fun h => h.2.2 rfl) T h.wt hTl G R
      (fun pre V' => ∃ xs : List (El (allC T)), xs.map (fun x => x.1.id) = pre ∧ J xs V' ∧ V'.heap[W.heap.size + 1]? = some (.cells #[.func (.func 137) #[] #[.pointer (some ⟨W.heap.size + 1, 0, none⟩), .pointer (some ⟨W.heap.size, 0, none⟩)]] 218 (0, 0)) ∧ V'.heap[W.heap.size]? = some (.cells #[.func (.yield l) #[] #[]] 187 (0, 0)))
      (fun pre V' => ∃ xs : List (El (allC T)), xs.map (fun x => x.1.id) = pre ∧ Jx xs V') ?_ ?_ T.length n' (kids T (0, 0) true) ra rc gs [] V2 hPB2 hgs ?_ (by omega) hcm2 ct2 cy2 ⟨[], rfl, hJ2, h2t, h2y⟩ ?_).mono ?_
    · rintro pre A ⟨xs, h1, h2, h3, h4⟩
      exact ⟨xs, h1, hdr _ _ h2, h3, h4⟩
    · rintro m' pre c g A hc hg ⟨xs, h1, h2, h3, h4⟩ hlen
      have hx : xs.length < T.length := by rw [← h1, List.length_map] at hlen; exact hlen
      have hy := hY xs ⟨c, mem_allC h.wt hc⟩ A h2 hx
      have he : encC G (allC T) ⟨c, mem_allC h.wt hc⟩ = #[pvFc g] := by simp [encC, hg]
      rw [he] at hy
      obtain ⟨fn, tmps, assign, body, y1, y2⟩ := yieldAt_wide (m := m') hy
      refine ⟨fn, tmps, assign, body, y1, y2.mono ?_⟩
      rintro e A' (⟨rfl, k1, k2, k3⟩ | ⟨rfl, k1, k3⟩)
      · refine Or.inl ⟨rfl, ⟨xs ++ [⟨c, mem_allC h.wt hc⟩], by simp [h1], k1, k2.fn _ _ _ _ (Or.inr rfl) h3, k2.fn _ _ _ _ (Or.inl rfl) h4⟩, k2.size, fun k cs ty fz hk hn => ?_⟩
        by_cases e1 : k = W.heap.size + 1
        · subst e1; rw [h3] at hk; rw [← hk]; exact k2.fn _ _ _ _ (Or.inr rfl) h3
        · by_cases e2 : k = W.heap.size
          · subst e2; rw [h4] at hk; rw [← hk]; exact k2.fn _ _ _ _ (Or.inl rfl) h4
          · exact (k2.low k (Nat.lt_of_not_le (fun h' => hn ⟨h', e1, e2⟩))).trans hk
      · exact Or.inr ⟨rfl, xs ++ [⟨c, mem_allC h.wt hc⟩], by simp [h1], k1⟩
    · intro k hk
      obtain ⟨y, hy, _, _, rfl⟩ := mem_kids.1 hk
      exact ⟨h.wt.dep_all hy, y, hy, rfl⟩
    · rw [hall, allT_len h.wt]
      simp
    · rintro e A (⟨rfl, ⟨xs, h1, h2, _⟩, _⟩ | ⟨rfl, q, hq, xs, h1, h2⟩)
      · refine ⟨_, rfl, Or.inl ⟨xs, chars_of_ids h.wt _ _ (El.in_T xs) (fun c hc => allC_mem hc) ?_, h2⟩⟩
        rw [allC_ids h.wt, ← hall, List.map_map]
        simpa using h1
      · refine ⟨_, rfl, Or.inr ⟨xs, ids_prefix h.wt (El.in_T xs) (q := q) ?_ (by rw [← hall]; exact hq), h2⟩⟩
        rw [List.map_map]
        simpa using h1
  gi_wp2
  rw [← hV]
  clear hV hVy hVt hVB hJV
  refine wpIn_region_any hmx ?_
  change wpAnyIn _ _ _ _ _ _ _ _ _ (World.drew _)
  rw [← hV2]
  clear hV2
  refine wpAnyIn_take (i := 1) (v := ?_) rfl rfl (by kernel_rfl) (by kernel_rfl) (by kernel_rfl) (fun _ _ _ h => h) ⟨Or.inl ⟨by kernel_rfl, ?_⟩, fun _ => rfl⟩ ?_
  rotate_left 1
  · intro w; go_simp; try (with_reducible rfl)
  refine wpAnyIn_take (i := 2) (v := ?_) rfl rfl (by kernel_rfl) (by kernel_rfl) (by kernel_rfl) (fun _ _ _ h => h) ⟨Or.inl ⟨by kernel_rfl, ?_⟩, fun _ => rfl⟩ ?_
  rotate_left 1
  · intro w; go_simp; try (with_reducible rfl)
  refine wpAnyIn_take (i := 3) (v := ?_) rfl rfl (by kernel_rfl) (by kernel_rfl) (by kernel_rfl) (fun _ _ _ h => h) ⟨Or.inl ⟨by kernel_rfl, ?_⟩, fun _ => rfl⟩ ?_
  rotate_left 1
  · intro w; go_simp; try (with_reducible rfl)
  refine wpAnyIn_take (i := 4) (v := ?_) rfl rfl (by kernel_rfl) (by kernel_rfl) (by kernel_rfl) (fun _ _ _ h => h) ⟨Or.inl ⟨by kernel_rfl, ?_⟩, fun _ => rfl⟩ ?_
  rotate_left 1
  · intro w; go_simp; try (with_reducible rfl)
  refine wpAnyIn_take (i := 5) (v := ?_) rfl rfl (by kernel_rfl) (by kernel_rfl) (by kernel_rfl) (fun _ _ _ h => h) ⟨Or.inl ⟨by kernel_rfl, ?_⟩, fun _ => rfl⟩ ?_
  rotate_left 1
  · intro w; go_simp; try (with_reducible rfl)
  refine wpAnyIn_ready (rs := [0, 6]) (by kernel_rfl) (by simp) ?_
  refine (AllReadyIn.cons rfl (fun K hK => ?_) (AllReadyIn.cons rfl (fun K hK => ?_) AllReadyIn.nil))
  · go_simp
    refine hK _ _ ?_
    clear hK K
    refine wpAnyIn_ready (rs := [6]) (by kernel_rfl) (by simp) ?_
    refine (AllReadyIn.cons rfl (fun K hK => ?_) AllReadyIn.nil)
    go_simp
    refine hK _ _ ?_
    clear hK K
    refine wpAnyIn_ready (rs := [7]) (by kernel_rfl) (by simp) ?_
    refine (AllReadyIn.cons rfl (fun K hK => ?_) AllReadyIn.nil)
    go_simp
    refine ⟨trivial, by simp [Fence.wide], ?_⟩
    refine (hcall _).mono ?_
    rintro e w4 ⟨v4, rfl, hfin⟩
    refine hK _ _ ?_
    clear hK K
    refine wpAnyIn_done (by kernel_rfl) ?_ _
    gi_wp2
    refine bodyPost_end (results_none rfl _ _ _) rfl ⟨⟨_, rfl⟩, hfin⟩
  · go_simp
    refine hK _ _ ?_
    clear hK K
    refine wpAnyIn_ready (rs := [0]) (by kernel_rfl) (by simp) ?_
    refine (AllReadyIn.cons rfl (fun K hK => ?_) AllReadyIn.nil)
    go_simp
    refine hK _ _ ?_
    clear hK K
    refine wpAnyIn_ready (rs := [7]) (by kernel_rfl) (by simp) ?_
    refine (AllReadyIn.cons rfl (fun K hK => ?_) AllReadyIn.nil)
    go_simp
    refine ⟨trivial, by simp [Fence.wide], ?_⟩
    refine (hcall _).mono ?_
    rintro e w4 ⟨v4, rfl, hfin⟩
    refine hK _ _ ?_
    clear hK K
    refine wpAnyIn_done (by kernel_rfl) ?_ _
    gi_wp2
    refine bodyPost_end (results_none rfl _ _ _) rfl ⟨⟨_, rfl⟩, hfin⟩
end

section
set_option linter.unusedVariables false
open Go.RowKit Go.Shelf

attribute [local go_sem] Oper.semAt_some

/-- Characters that can be read. -/
def RdC (w : World) (L : List Cr) (G : Dt → Option Nat) : Prop := ∀ c ∈ L, ∃ g l r, G c.id = some g ∧ g < w.heap.size ∧ w.heap[g]? = some (.cells (c.cells l r) 124 (0, 0))

theorem TX.rdc {w : World} {t : Nat} {T : List Cr} {G M : Dt → Option Nat} {n : Nat} {R : Dt → Bool → Value} (h : TX w t T G M n R) : RdC w (allC T) G := fun c hc => by
  obtain ⟨g, h1, _, h3⟩ := h.ch c (allC_mem hc)
  exact ⟨g, _, _, h1, (Array.getElem?_eq_some_iff.1 h3).1, h3⟩

/-- Those that are seen. -/
def filt {L : List Cr} (pre : List (El L)) : List (El (L.filter (·.seen))) := pre.filterMap (fun x => if h : x.1.seen = true then some ⟨x.1, List.mem_filter.2 ⟨x.2, h⟩⟩ else none)

theorem filt_map {L : List Cr} : ∀ pre : List (El L), (filt pre).map (·.1) = (pre.map (·.1)).filter (·.seen)
  | [] => rfl
  | x :: r => by
    have ih := filt_map r
    unfold filt at ih ⊢
    by_cases h : x.1.seen = true
    · rw [List.filterMap_cons_some (by rw [dif_pos h]), List.map_cons, List.map_cons, List.filter_cons_of_pos h, ih]
    · rw [List.filterMap_cons_none (by rw [dif_neg h]), List.map_cons, List.filter_cons_of_neg h, ih]

theorem filt_yes {L : List Cr} (pre : List (El L)) (x : El L) (h : x.1.seen = true) : filt (pre ++ [x]) = filt pre ++ [⟨x.1, List.mem_filter.2 ⟨x.2, h⟩⟩] := by
  unfold filt
  rw [List.filterMap_append, List.filterMap_cons_some (by rw [dif_pos h]), List.filterMap_nil]
theorem filt_no {L : List Cr} (pre : List (El L)) (x : El L) (h : x.1.seen = false) : filt (pre ++ [x]) = filt pre := by
  unfold filt
  rw [List.filterMap_append, List.filterMap_cons_none (by rw [dif_neg (by simp [h])]), List.filterMap_nil, List.append_nil]
theorem filt_len {L : List Cr} (pre : List (El L)) : (filt pre).length ≤ pre.length := List.length_filterMap_le _ _

theorem roundIn_wide {l' n m : Nat} {P : Program} {l : Nat} {f : FuncId} {tmps : Array Value} {assign body : Code} {W : World} {R : Ending → World → Prop} (h : RoundIn Fence.wide n P l f tmps assign body W R) : RoundIn (Fence.wide.inRound l') m P l f tmps assign body W R :=
  ⟨h.1, fun c cs _ => h.2 c cs (room_wide _)⟩

set_option maxRecDepth 100000 in
set_option maxHeartbeats 4000000 in
theorem sight_seq {w : World} {v : Value} {L : List Cr} {G : Dt → Option Nat} {N : Nat} (hs : SeqL 105 v L G N w) (hr : RdC w L G) : SeqL 75 v (L.filter (·.seen)) G N w := by
  intro n l J Jx W hB hJ hJx hY h0
  have hWs := hB.size
  refine callsIn_of_wp_marks Tryz.func75 rfl trivial ?_ rfl
  simp only [Tryz.ntmps75, List.size_toArray, List.length_cons, List.length_nil, Nat.reduceAdd, Nat.reduceSub, Array.replicate_succ, Array.replicate_zero, List.push_toArray, List.append_toArray, List.nil_append, List.cons_append]
  gi_wp2
  obtain ⟨W0, hW0⟩ : ∃ W0, W0 = W.alloc (.cells #[.func (.yield l) #[] #[]] 187) := ⟨_, rfl⟩
  have hsz : W0.heap.size = W.heap.size + 1 := by rw [hW0]; simp
  have hbox : W0.heap[W.heap.size]? = some (.cells #[.func (.yield l) #[] #[]] 187 (0, 0)) := by rw [hW0]; exact World.alloc_heap_new _ _
  have hB0 : Below w.heap.size w W0 := by rw [hW0]; exact hB.alloc hWs _
  have hJ0 : J [] W0 := by rw [hW0]; exact hJ.alloc _ h0
  rw [← hW0]
  clear hW0
  refine range_method (α := El L) (gf := 105) (fs := #[v]) rfl (enters_of Tryz.func105 (by kernel_rfl) rfl) (hs _) (fun h k => h.trans k) (fun W l o o' hl ho hc _ => KT.put W l o o' (by omega) ho hc) hB0 (fun _ => rfl)
    (fun pre W1 => J (filt pre) W1 ∧ W1.heap[W.heap.size]? = some (.cells #[.func (.yield l) #[] #[]] 187 (0, 0)) ∧ ∀ k, k < w.heap.size → W1.heap[k]? = w.heap[k]?)
    (fun c pre W1 => c = .ret ∧ Jx (filt pre) W1) ?own ?ownx ⟨hJ0, hbox, fun k hk => hB0.block k hk⟩
    (fun x => { tmps := #[v, .func (.yield l) #[] #[], undef, .pointer (some ⟨W.heap.size, 0, none⟩), pvFc ((G x.1.id).getD 0), v, .func (.func 105) #[v] #[], pvFc ((G x.1.id).getD 0), undef, undef, undef, undef, undef, undef, undef, undef, undef, undef], defers := [] }) ?assign ?body ?done ?stop
  case own =>
    rintro s A B row ⟨h1, h2, h3⟩ hg hrow
    have hlt : w.heap.size ≤ A.heap.size := by
      have := (Array.getElem?_eq_some_iff.1 h2).1
      omega
    exact ⟨hJ _ A B row h1 hg (fun r e => ⟨by have := (hrow r e).1; omega, (hrow r e).2⟩), (hg.block _ (Array.getElem?_eq_some_iff.1 h2).1 (fun e => by have := (hrow _ e.symm).1; omega)).trans h2, fun k hk => (hg.block k (by omega) (fun e => by have := (hrow _ e.symm).1; omega)).trans (h3 k hk)⟩
  case ownx =>
    rintro c s A B row ⟨h1, h2⟩ hg hrow
    exact ⟨h1, hJx _ A B row h2 hg (fun r e => ⟨by have := (hrow r e).1; omega, (hrow r e).2⟩)⟩
  case assign =>
    intro l x W K hK
    unfold encC
    gi_wp2
    exact hK
  case body =>
    rintro l' pre x W1 ⟨h1, h2, h3⟩ hlen
    obtain ⟨g, lv, rv, hG, hg, hblk⟩ := hr x.1 x.2
    have hgW := (h3 g hg).trans hblk
    have c3 : W1.cell? ⟨g, 3, none⟩ = some (.bool x.1.seen) := by simp [World.cell?, hgW, Cr.cells]
    have cy : W1.cell? ⟨W.heap.size, 0, none⟩ = some (.func (.yield l) #[] #[]) := by simp [World.cell?, h2]
    have hgd : pvFc ((G x.1.id).getD 0) = .pointer (some ⟨g, 0, none⟩) := by rw [hG]; rfl
    rw [hgd]
    have hdep : ∀ {m : Nat}, (Fence.wide.inRound l').depth.isSome = true → 1 ≤ m := fun h => by simp [Fence.wide] at h
    by_cases hsn : x.1.seen = true
    · rw [hsn] at c3
      have hlen' : (filt pre).length < N := by have := filt_len pre; omega
      obtain ⟨fn, tmps, assign, body, y1, y2⟩ := hY (filt pre) ⟨x.1, List.mem_filter.2 ⟨x.2, hsn⟩⟩ W1 h1 hlen'
      have he : encC G (L.filter (·.seen)) ⟨x.1, List.mem_filter.2 ⟨x.2, hsn⟩⟩ = #[.pointer (some ⟨g, 0, none⟩)] := by simp [encC, hG, pvFc]
      rw [he] at y1
      have hfy := hid (filt_yes pre x hsn)
      gi_wp2
      refine ⟨hdep, ?_⟩
      refine (roundIn_wide (l' := l') (m := n - 1 - 1 - 1) y2).mono ?_
      rintro e W2 (⟨rfl, k1, k2, k3⟩ | ⟨rfl, k1, k3⟩)
      · gi_wp2
        refine ⟨⟨k3.size, fun k o hk ho hc => k3.same k o (by omega) ho hc⟩, k2, ?_⟩
        exact ⟨(by rw [hfy.out]; exact k1), k2.fn _ _ _ _ (Or.inl rfl) h2, fun k hk => (k2.low k hk).trans (h3 k hk)⟩
      · gi_wp2
        refine ⟨⟨k3.size, fun k o hk ho hc => k3.same k o (by omega) ho hc⟩, rfl, (by rw [hfy.out]; exact k1)⟩
    · have hsn' : x.1.seen = false := by simpa using hsn
      rw [hsn'] at c3
      have hfn := hid (filt_no pre x hsn')
      gi_wp2
      refine ⟨fun _ h => (by cases h), ?_⟩
      gi_wp2
      exact ⟨KeepsFrom.refl _ _, KT.refl _ _, (by rw [hfn.out]; exact h1), h2, h3⟩
  case done =>
    rintro D ys W1 hD hS ⟨h1, h2, h3⟩ hK
    gi_wp2
    refine ⟨by simp, .inl ⟨_, _, rfl, run_takeDeferred hK, ?_⟩⟩
    refine ⟨_, results_none rfl _ _ _, ⟨_, rfl⟩, Or.inl ⟨filt ys, ?_, ?_⟩⟩
    · rw [filt_map, hS]
    · exact hJ.putObj _ h1 (by omega) hK rfl
  case stop =>
    rintro D c pre W1 hD hS ⟨rfl, h1⟩ hK
    gi_wp2
    refine ⟨by simp, .inl ⟨_, _, rfl, run_takeDeferred hK, ?_⟩⟩
    refine ⟨_, results_none rfl _ _ _, ⟨_, rfl⟩, Or.inr ⟨filt pre, ?_, ?_⟩⟩
    · rw [filt_map]
      exact hS.filter _
    · exact hJx.putObj _ h1 (by omega) hK rfl
end
end Go.Proofs.YtnmdcdphpcpojaaGreatDoor
