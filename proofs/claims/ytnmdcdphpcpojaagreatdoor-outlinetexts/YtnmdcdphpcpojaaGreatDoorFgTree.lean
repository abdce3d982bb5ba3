/- Texts, in numbers: all characters in order. No function of the program. -/
import Derived.Test.YtnmdcdphpcpojaaGreatDoorFgPutC
import Derived.Test.YtnmdcdphpcpojaaGreatDoorMKeys
namespace Go.Proofs.YtnmdcdphpcpojaaGreatDoor
section
set_option linter.unusedVariables false
open Go.RowKit Go.Maps
open Go.Sort (grow)

set_option maxRecDepth 100000 in
theorem new_any (w : World) : Calls Tryz.prog 25 #[] w fun e w' => e = .returned (.pointer (some ⟨w.heap.size, 0, none⟩)) ∧ TX w' w.heap.size [] (fun _ => none) (fun _ => none) 0 (fun _ _ => .slice none 0 0) ∧ RowKit.Below w.heap.size w w' := by
  have hb : RowKit.Below w.heap.size w (w.alloc (.cells (txCells (.map none) (.slice none 0 0) (.slice none 0 0)) 126)) := ((Far.refl w).alloc _).below
  have ht : (w.alloc (.cells (txCells (.map none) (.slice none 0 0) (.slice none 0 0)) 126)).heap[w.heap.size]? = some (.cells (txCells (.map none) (.slice none 0 0) (.slice none 0 0)) 126 (0, 0)) := (MapKept.heap_alloc w _).1
  have hTX : TX (w.alloc (.cells (txCells (.map none) (.slice none 0 0) (.slice none 0 0)) 126)) w.heap.size [] (fun _ => none) (fun _ => none) 0 (fun _ _ => .slice none 0 0) := by
    refine ⟨WT.nil, ⟨_, ht, Or.inl ⟨rfl, rfl⟩⟩, fun d _ => by simp, fun c hc => by simp at hc, fun d s _ => ⟨[], ?_, World.ownsRow_nil _ _ _ _⟩, fun _ _ _ _ _ _ _ => Or.inl rfl⟩
    rfl
  go_enter Tryz.func25, Tryz.ntmps25
  go_wp2
  go_ret
  exact ⟨rfl, hTX, hb⟩
end

section

/-- A character's tree, in order, so deep. -/
def trF (T : List Cr) : Nat → Dt → List Dt
  | 0, _ => []
  | f + 1, d => (kids T d false).flatMap (trF T f) ++ (if d = (0, 0) then [] else [d]) ++ (kids T d true).flatMap (trF T f)

/-- Is a tree at most so deep? -/
def dep (T : List Cr) : Nat → Dt → Prop
  | 0, _ => False
  | f + 1, d => ∀ s, ∀ k ∈ kids T d s, dep T f k

theorem flatMap_congr9 {α β : Type} {l : List α} {f g : α → List β} (h : ∀ x ∈ l, f x = g x) : l.flatMap f = l.flatMap g := by
  induction l with
  | nil => rfl
  | cons a r ih =>
    rw [List.flatMap_cons, List.flatMap_cons, h a (by simp), ih (fun x hx => h x (List.mem_cons_of_mem _ hx))]

/-- Deeper than it is tells nothing more. -/
theorem trF_stable {T : List Cr} : ∀ {f : Nat} {d : Dt}, dep T f d → trF T (f + 1) d = trF T f d
  | 0, _, h => h.elim
  | f + 1, d, h => by
    show (kids T d false).flatMap (trF T (f + 1)) ++ (if d = (0, 0) then [] else [d]) ++ (kids T d true).flatMap (trF T (f + 1)) = (kids T d false).flatMap (trF T f) ++ (if d = (0, 0) then [] else [d]) ++ (kids T d true).flatMap (trF T f)
    rw [flatMap_congr9 (fun k hk => trF_stable (h false k hk)), flatMap_congr9 (fun k hk => trF_stable (h true k hk))]

/-- A character that came as number i has less than so many below it. -/
theorem WT.dep {T : List Cr} (h : WT T) : ∀ (f i : Nat) (c : Cr), T[i]? = some c → T.length ≤ f + i → dep T f c.id := by
  intro f
  induction f with
  | zero =>
    intro i c hc hl
    have := (List.getElem?_eq_some_iff.1 hc).1
    omega
  | succ f ih =>
    intro i c hc hl s k hk
    obtain ⟨x, hx, e1, _, rfl⟩ := mem_kids.1 hk
    obtain ⟨j, hj⟩ := List.mem_iff_getElem?.1 hx
    have hij : i < j := by
      rcases h.under j x hj with e | ⟨y, hy, e⟩
      · exact absurd (by rw [← e1, e]) (h.nz c (List.mem_of_getElem? hc))
      · have : y = c := ids_one h.ids (List.mem_of_mem_take hy) (List.mem_of_getElem? hc) (by rw [e, e1])
        subst this
        obtain ⟨m, hm⟩ := List.mem_iff_getElem?.1 hy
        have hmj : m < j := by
          have := (List.getElem?_eq_some_iff.1 hm).1
          rw [List.length_take] at this
          omega
        rw [List.getElem?_take, if_pos hmj] at hm
        have hil : i < (T.map Cr.id).length := by simpa using (List.getElem?_eq_some_iff.1 hc).1
        have := (List.getElem?_inj hil h.ids).1 (show (T.map Cr.id)[i]? = (T.map Cr.id)[m]? by rw [List.getElem?_map, List.getElem?_map, hc, hm])
        omega
    exact ih j x hj (by omega)

theorem WT.dep_all {T : List Cr} (h : WT T) {c : Cr} (hc : c ∈ T) : Proofs.YtnmdcdphpcpojaaGreatDoor.dep T T.length c.id := by
  obtain ⟨i, hi⟩ := List.mem_iff_getElem?.1 hc
  exact h.dep _ i c hi (by omega)

theorem WT.dep_root {T : List Cr} (h : WT T) : Proofs.YtnmdcdphpcpojaaGreatDoor.dep T (T.length + 1) (0, 0) := fun s k hk => by
  obtain ⟨x, hx, _, _, rfl⟩ := mem_kids.1 hk
  exact h.dep_all hx

/-- All characters, in order. -/
def allT (T : List Cr) : List Dt := trF T (T.length + 1) (0, 0)

/-- What a tree has: itself, and what its kids' trees have. -/
theorem mem_trF {T : List Cr} (hT : WT T) : ∀ {f : Nat} {d k : Dt}, k ∈ trF T f d → (k = d ∧ d ≠ (0, 0)) ∨ ∃ c ∈ T, c.id = k
  | 0, _, _, h => by simp [trF] at h
  | f + 1, d, k, h => by
    unfold trF at h
    rcases List.mem_append.1 h with h | h
    · rcases List.mem_append.1 h with h | h
      · obtain ⟨x, hx, hk⟩ := List.mem_flatMap.1 h
        obtain ⟨c, hc, _, _, rfl⟩ := mem_kids.1 hx
        rcases mem_trF hT hk with ⟨e, _⟩ | h'
        · exact Or.inr ⟨c, hc, e.symm⟩
        · exact Or.inr h'
      · split at h
        · simp at h
        · rename_i hd
          simp at h
          exact Or.inl ⟨h, hd⟩
    · obtain ⟨x, hx, hk⟩ := List.mem_flatMap.1 h
      obtain ⟨c, hc, _, _, rfl⟩ := mem_kids.1 hx
      rcases mem_trF hT hk with ⟨e, _⟩ | h'
      · exact Or.inr ⟨c, hc, e.symm⟩
      · exact Or.inr h'
end
end Go.Proofs.YtnmdcdphpcpojaaGreatDoor
