/- The library's utf8.AppendRune and strings.Builder's String as they lie in this program: which number is which; copyCheck and WriteRune. -/
import Derived.Test.YtbpepmajpojacaaFgRows
import Derived.Shelf.Strings.BuilderF
import Derived.Shelf.Strings.BuilderK
import Derived.Shelf.Strings.BuilderRune
import Derived.Test.YtbpepmajpojacaaFgLen
namespace Go.Proofs.Ytbpepmajpojacaa
section
set_option linter.unusedVariables false
open Go.RowKit Go.Shelf

attribute [local go_sem] Oper.semAt_some

/-- The one ahead of an index, of those that are seen; at 0 the root; none: there is no such index. -/
def leftOf (L : List Cr) (i : Int) : Option Dt := if i = 0 then some (0, 0) else if 1 ≤ i then (L[(i - 1).toNat]?).map (·.id) else none

/-- Where it lies. -/
def ahdV (t : Nat) (G : Dt → Option Nat) : Option Dt → Value
  | none => .pointer none
  | some d => if d = (0, 0) then .pointer (some ⟨t, 1, none⟩) else pvF ((G d).getD 0)

/-- The last one is the one that was sought. -/
def AhX {L : List Cr} (B : Nat) (G : Dt → Option Nat) (i : Int) (pre : List (El L)) (W : World) : Prop := ∃ pre' x, pre = pre' ++ [x] ∧ i = (pre'.length : Int) + 1 ∧ Boxed W B 72 (pvF ((G x.1.id).getD 0))

set_option maxRecDepth 100000 in
set_option maxHeartbeats 4000000 in
theorem ahead_of {w : World} {t : Nat} {L : List Cr} {G : Dt → Option Nat} {N : Nat} (hs : SeqL 47 (.pointer (some ⟨t, 0, none⟩)) L G N w) (hr : RdC w L G) (hnz : ∀ c ∈ L, c.id ≠ (0, 0)) (hN : N ≤ 1000000) (i : Int) (hi : -9223372036854775808 ≤ i ∧ i ≤ 9223372036854775807) : Calls Try.prog 51 #[.pointer (some ⟨t, 0, none⟩), .int .i64 i] w fun e w' => e = .returned (ahdV t G (leftOf L i)) ∧ Below w.heap.size w w' := by
  have hmx : Try.prog.follows .mixedOrders = true := by kernel_rfl
  refine (callsIn_wide (n := 3)).1 ?_
  refine callsIn_of_wp_marks Try.func51 rfl trivial ?_ rfl
  simp only [Try.ntmps51, List.size_toArray, List.length_cons, List.length_nil, Nat.reduceAdd, Nat.reduceSub, Array.replicate_succ, Array.replicate_zero, List.push_toArray, List.append_toArray, List.nil_append, List.cons_append]
  by_cases hi0 : i = 0
  · subst hi0
    have hB1 : Below w.heap.size w ((w.alloc (.cells #[.int .i64 0] 3)).alloc (.cells #[.pointer (some ⟨t, 1, none⟩)] 72)) := ((Below.refl _ w).alloc (Nat.le_refl _) _).alloc (by simp) _
    have p1 : ((w.alloc (.cells #[.int .i64 0] 3)).alloc (.cells #[.pointer (some ⟨t, 1, none⟩)] 72)).cell? ⟨w.heap.size + 1, 0, none⟩ = some (.pointer (some ⟨t, 1, none⟩)) := by
      have := (Boxed.new (w.alloc (.cells #[.int .i64 0] 3)) 72 (.pointer (some ⟨t, 1, none⟩))).cell
      rwa [World.size_alloc] at this
    gi_wp2
    refine ⟨.pointer (some ⟨t, 1, none⟩), ?_, by simp [leftOf, ahdV], hB1⟩
    simp [results, Try.results51, go_sem, p1]
  · have hb0 : (i == 0) = false := by simpa using hi0
    gi_wp2
    obtain ⟨W0, hW0⟩ : ∃ W0, W0 = ((w.alloc (.cells #[.int .i64 i] 3)).alloc (.cells #[.pointer none] 72)).alloc (.cells #[.int .i64 0] 3) := ⟨_, rfl⟩
    rw [← hW0]
    have hsz : W0.heap.size = w.heap.size + 3 := by rw [hW0]; simp
    have hB0 : Below w.heap.size w W0 := by rw [hW0]; exact (((Below.refl _ w).alloc (Nat.le_refl _) _).alloc (by simp) _).alloc (by simp; omega) _
    have hb1 : Boxed W0 w.heap.size 3 (.int .i64 i) := by
      rw [hW0]
      exact ((Boxed.new w 3 (.int .i64 i)).alloc _).alloc _
    have hb2 : Boxed W0 (w.heap.size + 1) 72 (.pointer none) := by
      rw [hW0]
      have := Boxed.new (w.alloc (.cells #[.int .i64 i] 3)) 72 (.pointer none)
      rw [World.size_alloc] at this
      exact this.alloc _
    have hb3 : Boxed W0 (w.heap.size + 2) 3 (.int .i64 0) := by
      rw [hW0]
      have := Boxed.new ((w.alloc (.cells #[.int .i64 i] 3)).alloc (.cells #[.pointer none] 72)) 3 (.int .i64 0)
      rw [World.size_alloc, World.size_alloc] at this
      exact this
    clear hW0
    refine range_method (α := El L) (gf := 47) (fs := #[.pointer (some ⟨t, 0, none⟩)]) rfl (enters_of Try.func47 (by kernel_rfl) rfl) (hs _) (fun h k => h.trans k) (fun W l o o' hl ho hc _ => KT.put W l o o' (by omega) ho hc) hB0 (fun _ => rfl)
      (fun pre W => ¬ (1 ≤ i ∧ i ≤ (pre.length : Int)) ∧ Boxed W w.heap.size 3 (.int .i64 i) ∧ Boxed W (w.heap.size + 1) 72 (.pointer none) ∧ Boxed W (w.heap.size + 2) 3 (.int .i64 (pre.length : Int)) ∧ Below w.heap.size w W)
      (fun c pre W => c = .ret ∧ AhX (w.heap.size + 1) G i pre W ∧ Below w.heap.size w W) ?own ?ownx ⟨by simp; omega, hb1, hb2, hb3, hB0⟩
      (fun x => { tmps := #[.pointer (some ⟨t, 0, none⟩), .int .i64 i, undef, .pointer (some ⟨w.heap.size, 0, none⟩), .pointer (some ⟨w.heap.size + 1, 0, none⟩), .pointer (some ⟨w.heap.size + 1 + 1, 0, none⟩), pvF ((G x.1.id).getD 0), .int .i64 i, .bool false, undef, undef, undef, .pointer (some ⟨t, 0, none⟩), .func (.func 47) #[.pointer (some ⟨t, 0, none⟩)] #[], pvF ((G x.1.id).getD 0), undef, undef, undef, undef, undef, undef], defers := [] }) ?assign ?body ?done ?stop
    case own =>
      rintro s A B row ⟨h0, h1, h2, h3, h5⟩ hg hrow
      exact ⟨h0, boxed_own h1 hg hrow, boxed_own h2 hg hrow, boxed_own h3 hg hrow, below_own h5 (by omega) hg hrow⟩
    case ownx =>
      rintro c s A B row ⟨h0, ⟨pre', x, h1, h2, h4⟩, h6⟩ hg hrow
      exact ⟨h0, ⟨pre', x, h1, h2, boxed_own h4 hg hrow⟩, below_own h6 (by omega) hg hrow⟩
    case assign =>
      intro l x W K hK
      unfold encC
      gi_wp2
      first | exact hK | simpa using hK
    case body =>
      rintro l' pre x W1 ⟨h0, h1, h2, h3, h5⟩ hlen
      obtain ⟨g, hgd⟩ : ∃ g, (G x.1.id).getD 0 = g := ⟨_, rfl⟩
      rw [hgd]
      have hpg : pvF g = .pointer (some ⟨g, 0, none⟩) := rfl
      rw [hpg]
      have g1 := h1.cell
      have g2 := h2.cell
      have g3 := h3.cell
      have z2 := h2.frozen
      have z3 := h3.frozen
      have m1 := h1.kept (grownBy_setCell' W1 (w.heap.size + 2) (.int .i64 ((pre.length : Int) + 1))) (by simp)
      have m2 := h2.kept (grownBy_setCell' W1 (w.heap.size + 2) (.int .i64 ((pre.length : Int) + 1))) (by simp)
      have m3 := h3.set (.int .i64 ((pre.length : Int) + 1))
      have kk := KeepsFrom.set (B₀ := W0.heap.size) h3 (.int .i64 ((pre.length : Int) + 1))
      have kt := KT.set (n₀ := w.heap.size) h3 (by decide) (by decide) (by omega) (.int .i64 ((pre.length : Int) + 1))
      have kb := h5.setCell (p := ⟨w.heap.size + 2, 0, none⟩) (by simp) (.int .i64 ((pre.length : Int) + 1))
      by_cases hd : i = (pre.length : Int) + 1
      · have hb : (((pre.length : Int) + 1) == i) = true := by simp [hd]
        have q1 := m1.cell
        have q2 := m2.cell
        have q3 := m3.cell
        have y2 := m2.frozen
        have hend := hid (And.intro (kk.trans (KeepsFrom.set m2 (.pointer (some ⟨g, 0, none⟩)))) (And.intro (m2.set (.pointer (some ⟨g, 0, none⟩))) (kb.setCell (p := ⟨w.heap.size + 1, 0, none⟩) (Nat.le_succ _) (.pointer (some ⟨g, 0, none⟩)))))
        have hdH := hid hd
        clear hd h1 h2 h3 h5 m1 m2 m3 kk kt kb hsz
        gi_wp2
        refine ⟨hend.out.1, rfl, ⟨pre, x, rfl, hdH.out, ?_⟩, hend.out.2.2⟩
        rw [hgd]
        exact hend.out.2.1
      · have hb : (((pre.length : Int) + 1) == i) = false := by simp; omega
        have hno : ¬ (1 ≤ i ∧ i ≤ ((pre ++ [x]).length : Int)) := by simp; omega
        have hend := hid (And.intro kk (And.intro kt (And.intro hno (And.intro m1 (And.intro m2 (And.intro m3 kb))))))
        clear h0 hd h1 h2 h3 h5 m1 m2 m3 kk kt kb hno hsz
        gi_wp2
        refine ⟨hend.out.1, hend.out.2.1, ?_, hend.out.2.2.2.1, hend.out.2.2.2.2.1, ?_, hend.out.2.2.2.2.2.2⟩
        · have := hend.out.2.2.1
          simpa using this
        · have := hend.out.2.2.2.2.2.1
          simpa using this
    case done =>
      rintro D ys W1 hD hS ⟨h0, h1, h2, h3, h5⟩ hK
      have hl : ys.length = L.length := by have := congrArg List.length hS; simpa using this
      have hno : leftOf L i = none := by
        unfold leftOf
        rw [if_neg hi0]
        split
        · rename_i hi1
          rw [List.getElem?_eq_none (by omega)]
          rfl
        · rfl
      have hnoH := hid hno
      have g2 := h2.cell
      have z2 := h2.frozen
      have hKs : (W1.setCell ⟨w.heap.size + 1, 0, none⟩ (.pointer none)).heap[D]? = some (.deferred (some [])) := (heap_setCell_other _ ⟨w.heap.size + 1, 0, none⟩ _ _ (by simp; omega)).trans hK
      have m2 := h2.set (.pointer none)
      have p4 := (boxed_own (B₀ := 0) m2 (grownBy_putObj' _ D (.deferred none)) (fun r e => by cases e; exact ⟨Nat.zero_le _, _, hKs, rfl⟩)).cell
      have hfin := hid (below_put (h5.setCell (p := ⟨w.heap.size + 1, 0, none⟩) (Nat.le_succ _) (.pointer none)) (by omega) hKs rfl (.deferred none))
      clear h1 h2 h3 h5 m2 hno hl
      gi_wp2
      refine ⟨by simp, .inl ⟨_, _, rfl, run_takeDeferred hKs, ?_⟩⟩
      refine ⟨.pointer none, ?_, by rw [hnoH.out]; rfl, hfin.out⟩
      simp [results, Try.results51, go_sem, p4]
    case stop =>
      rintro D c pre W1 hD hS ⟨rfl, ⟨pre', x, rfl, hxd, h4⟩, h6⟩ hK
      obtain ⟨r, hr'⟩ := hS
      have hat : ahdV t G (leftOf L i) = pvF ((G x.1.id).getD 0) := by
        have e1 : L[pre'.length]? = some x.1 := by
          have e : L = pre'.map (·.1) ++ x.1 :: r := by have := hr'.symm; simpa using this
          have h1 : (pre'.map (·.1) ++ x.1 :: r)[pre'.length]? = some x.1 := by
            rw [List.getElem?_append_right (by simp)]
            simp
          have e2 : ∀ (A B : List Cr) (k : Nat), A = B → A[k]? = B[k]? := fun A B k h => by rw [h]
          rw [e2 _ _ pre'.length e]
          exact h1
        have e2 : leftOf L i = some x.1.id := by
          unfold leftOf
          rw [if_neg hi0, if_pos (by omega), show (i - 1).toNat = pre'.length by omega, e1]
          rfl
        rw [e2]
        show (if x.1.id = (0, 0) then _ else _) = _
        rw [if_neg (hnz x.1 x.2)]
      have hatH := hid hat
      clear hat
      have p4 := (boxed_own (B₀ := 0) h4 (grownBy_putObj' _ D (.deferred none)) (fun r e => by cases e; exact ⟨Nat.zero_le _, _, hK, rfl⟩)).cell
      have hfin := hid (below_put h6 (by omega) hK rfl (.deferred none))
      clear hxd
      gi_wp2
      refine ⟨by simp, .inl ⟨_, _, rfl, run_takeDeferred hK, ?_⟩⟩
      refine ⟨pvF ((G x.1.id).getD 0), ?_, by rw [hatH.out], hfin.out⟩
      simp [results, Try.results51, go_sem, p4]
end

section
set_option linter.unusedVariables false
open Go.RowKit Go.Shelf

/-- The block that a pointer leads to. -/
def blkOf : Value → Nat
  | .pointer (some a) => a.block
  | _ => 0

/-- When the character came that lies there. -/
def cameAt (T : List Cr) (G : Dt → Option Nat) (g : Nat) : Nat := T.findIdx (fun c : Cr => decide (G c.id = some g))

theorem TX.came {w : World} {t : Nat} {T : List Cr} {G M : Dt → Option Nat} {n : Nat} {R : Dt → Bool → Value} (h : TX w t T G M n R) {i g : Nat} {c : Cr} (hi : T[i]? = some c) (hg : G c.id = some g) : cameAt T G g = i := by
  unfold cameAt
  have hlt := (List.getElem?_eq_some_iff.1 hi).1
  have hex : ∃ x ∈ T, decide (G x.id = some g) = true := ⟨c, List.mem_of_getElem? hi, by simp [hg]⟩
  have hf := List.findIdx_lt_length_of_exists hex
  have hp : decide (G (T[T.findIdx (fun c : Cr => decide (G c.id = some g))]'hf).id = some g) = true := List.findIdx_getElem (p := fun c : Cr => decide (G c.id = some g)) (w := hf)
  have hp' : G (T[T.findIdx (fun c : Cr => decide (G c.id = some g))]'hf).id = some g := by simpa using hp
  have he := h.inj (List.getElem_mem hf) (List.mem_of_getElem? hi) hp' hg
  exact at_one h.wt (List.getElem?_eq_getElem hf) hi he

/-- A row's first one. -/
theorem TX.first_kid {w : World} {t : Nat} {T : List Cr} {G M : Dt → Option Nat} {n : Nat} {R : Dt → Bool → Value} (h : TX w t T G M n R) {d : Dt} {s : Bool} (hd : nodes T d) {k : Dt} {ks : List Dt} (hk : kids T d s = k :: ks) :
    ∃ b o cp g, R d s = .slice (some ⟨b, o, none⟩) (kids T d s).length cp ∧ G k = some g ∧ w.cell? ⟨b, o, none⟩ = some (pvF g) ∧ (kids T d s).length ≤ cp ∧ cp ≤ maxLen := by
  obtain ⟨a, c, gs, hR, hgs, hp⟩ := h.cm.row d s hd
  obtain ⟨g0, o, rfl, _, hx⟩ := hp.at_ (by rw [hk]; simp)
  have hl := hp.len
  have h0 : 0 < gs.length := by rw [hl, hk]; simp
  have e : (gs.map some)[0]? = ((kids T d s).map G)[0]? := by rw [hgs]
  rw [List.getElem?_map, List.getElem?_eq_getElem h0, hk] at e
  simp at e
  refine ⟨g0, o, c, gs[0], hR, e.symm, ?_, hp.cap, hp.max⟩
  have := hx 0 h0
  simpa using this

set_option maxRecDepth 100000 in
set_option maxHeartbeats 2000000 in
theorem ffirst_any {w : World} {t : Nat} {T : List Cr} {G M : Dt → Option Nat} {n : Nat} {R : Dt → Bool → Value} (h : TX w t T G M n R) (hTl : T.length ≤ 1000000) {d : Dt} (hd : ∃ c ∈ T, c.id = d) {g : Nat} (hg : G d = some g) :
    Calls Try.prog 52 #[pvF g] w fun e w' => ∃ g', G (frst T T.length d) = some g' ∧ e = .returned (pvF g') ∧ w = w' := by
  show Calls Try.prog 52 #[.pointer (some ⟨g, 0, none⟩)] w _
  go_enter Try.func52, Try.ntmps52
  go_wp2
  go_loopw [0] (fun c wr => w = wr ∧ Hid (∃ d1 g1, c = .pointer (some ⟨g1, 0, none⟩) ∧ G d1 = some g1 ∧ (∃ x ∈ T, x.id = d1) ∧ frst T T.length d1 = frst T T.length d)) (fun c _ => T.length - cameAt T G (blkOf c))
  case atStart => exact ⟨rfl, hid ⟨d, g, rfl, hg, hd, rfl⟩⟩
  case round =>
    obtain ⟨rfl, hh⟩ := hrel
    obtain ⟨d1, g1, rfl, hg1, hx1, hf1⟩ := hh.out
    clear hh
    obtain ⟨x, hx, rfl⟩ := hx1
    obtain ⟨g', hgx, htg, hblk⟩ := h.ch x hx
    rw [hg1] at hgx
    cases hgx
    obtain ⟨i, hi⟩ := List.mem_iff_getElem?.1 hx
    have hil := (List.getElem?_eq_some_iff.1 hi).1
    have hci := h.came hi hg1
    cases hk : kids T x.id false with
    | nil =>
      have hrow := (h.cm.row x.id false (Or.inr ⟨x, hx, rfl⟩))
      obtain ⟨a, c, gs, hR, _, hp⟩ := hrow
      rw [hk] at hR
      have c4 : w.cell? ⟨g1, 4, none⟩ = some (.slice a 0 c) := by simp [World.cell?, hblk, Cr.cells, hR]
      have hfx : frst T T.length x.id = x.id := by
        obtain ⟨m, hm⟩ : ∃ m, T.length = m + 1 := ⟨T.length - 1, by omega⟩
        rw [hm]
        simp [frst, hk]
      have hend := hid (show G (frst T T.length d) = some g1 by rw [← hf1, hfx]; exact hg1)
      clear hci hfx hf1 hR hblk hk
      go_wp2
      go_ret
      exact ⟨g1, hend.out, rfl, rfl⟩
    | cons k ks =>
      obtain ⟨b, o, cp, g2, hR, hG2, hcell, hcp, hmx⟩ := h.first_kid (s := false) (Or.inr ⟨x, hx, rfl⟩) hk
      have hkm : k ∈ kids T x.id false := by rw [hk]; simp
      obtain ⟨y, hy, hya, _, rfl⟩ := mem_kids.1 hkm
      obtain ⟨j, hj⟩ := List.mem_iff_getElem?.1 hy
      have hjl := (List.getElem?_eq_some_iff.1 hj).1
      have hij := under_lt h.wt hi hj hya
      have hcj := h.came hj hG2
      have hkl := kids_len T x.id false
      have hk0 : 0 < (kids T x.id false).length := by rw [hk]; simp
      obtain ⟨kl, hkl'⟩ : ∃ kl, kl = (kids T x.id false).length := ⟨_, rfl⟩
      have c4 : w.cell? ⟨g1, 4, none⟩ = some (.slice (some ⟨b, o, none⟩) kl cp) := by simp [World.cell?, hblk, Cr.cells, hR, hkl']
      rw [← hkl'] at hk0 hkl hcp
      have hcell : w.cell? ⟨b, o, none⟩ = some (.pointer (some ⟨g2, 0, none⟩)) := hcell
      have hfx : frst T T.length y.id = frst T T.length x.id := by
        obtain ⟨m, hm⟩ : ∃ m, T.length = m + 1 := ⟨T.length - 1, by omega⟩
        have e1 : frst T T.length x.id = frst T m y.id := by rw [hm]; simp [frst, hk]
        rw [e1, hm]
        refine frst_stable ?_
        have := h.wt.dep_all hx
        rw [hm] at this
        exact this false y.id hkm
      unfold maxLen at hmx
      have hnext := hid (show w = w ∧ Hid (∃ d1 g1, (Value.pointer (some ⟨g2, 0, none⟩)) = .pointer (some ⟨g1, 0, none⟩) ∧ G d1 = some g1 ∧ (∃ x ∈ T, x.id = d1) ∧ frst T T.length d1 = frst T T.length d) from ⟨rfl, hid ⟨y.id, g2, rfl, hG2, ⟨y, hy, rfl⟩, by rw [hfx, hf1]⟩⟩)
      have hms : Hid (T.length - cameAt T G g2 < T.length - cameAt T G g1) := hid (by rw [hci, hcj]; omega)
      clear hci hcj hfx hf1 hR hblk hk hkl' hkm
      go_wp2
      go_roundw
      case rel => exact ⟨by trivial, hnext.out.2⟩
      case measure => simpa [blkOf] using hms.out
end

section
set_option linter.unusedVariables false
open Go.RowKit Go.Shelf

/-- Those that are seen, in order. -/
def seenC (T : List Cr) : List Cr := (allC T).filter (·.seen)

/-- What Place tells. -/
def plcI (T : List Cr) (i : Int) : Dt × Int × Int := match leftOf (seenC T) i with
  | none => ((0, 0), 0, 41)
  | some l => ((plc T l).1, if (plc T l).2 then 1 else 0, 0)

theorem seenC_mem {T : List Cr} {c : Cr} (h : c ∈ seenC T) : c ∈ T := allC_mem (List.mem_filter.1 h).1

theorem leftOf_node {T : List Cr} {i : Int} {l : Dt} (h : leftOf (seenC T) i = some l) : l = (0, 0) ∨ ∃ c ∈ T, c.id = l := by
  unfold leftOf at h
  split at h
  · cases h; exact Or.inl rfl
  · split at h
    · obtain ⟨c, hc, rfl⟩ := Option.map_eq_some_iff.1 h
      exact Or.inr ⟨c, seenC_mem (List.mem_of_getElem? hc), rfl⟩
    · cases h

/-- The root, or a character, as it is read. -/
structure NodeAt (w : World) (T : List Cr) (R : Dt → Bool → Value) (l : Dt) (b o : Nat) : Prop where
  c0 : w.cell? ⟨b, o, none⟩ = some (.int .i64 l.1)
  c1 : w.cell? ⟨b, o + 1, none⟩ = some (.int .i64 l.2)
  c5 : w.cell? ⟨b, o + 5, none⟩ = some (R l true)

theorem TX.node_at {w : World} {t : Nat} {T : List Cr} {G M : Dt → Option Nat} {n : Nat} {R : Dt → Bool → Value} (h : TX w t T G M n R) {l : Dt} (hl : l = (0, 0) ∨ ∃ c ∈ T, c.id = l) : ∃ b o, ahdV t G (some l) = .pointer (some ⟨b, o, none⟩) ∧ (o = 0 ∨ o = 1) ∧ NodeAt w T R l b o := by
  rcases hl with rfl | ⟨c, hc, rfl⟩
  · obtain ⟨fm, h1, _⟩ := h.tb
    exact ⟨t, 1, by simp [ahdV], Or.inr rfl, by simp [World.cell?, h1, txCells], by simp [World.cell?, h1, txCells], by simp [World.cell?, h1, txCells]⟩
  · obtain ⟨g, h1, _, h3⟩ := h.ch c hc
    refine ⟨g, 0, ?_, Or.inl rfl, by simp [World.cell?, h3, Cr.cells], by simp [World.cell?, h3, Cr.cells], by simp [World.cell?, h3, Cr.cells]⟩
    show (if c.id = (0, 0) then _ else _) = _
    rw [if_neg (h.wt.nz c hc), h1]
    rfl

theorem TX.ahead {w : World} {t : Nat} {T : List Cr} {G M : Dt → Option Nat} {n : Nat} {R : Dt → Bool → Value} (h : TX w t T G M n R) (hTl : T.length ≤ 1000000) (i : Int) (hi : -9223372036854775808 ≤ i ∧ i ≤ 9223372036854775807) : Calls Try.prog 51 #[.pointer (some ⟨t, 0, none⟩), .int .i64 i] w fun e w' => e = .returned (ahdV t G (leftOf (seenC T) i)) ∧ Below w.heap.size w w' :=
  ahead_of (h.sight hTl) (fun c hc => h.rdc c (List.mem_filter.1 hc).1) (fun c hc => h.wt.nz c (seenC_mem hc)) hTl i hi

theorem dot_put {w1 : World} {B : Nat} {a b : Value} {T : TypeId} (hb : w1.heap[B]? = some (.cells #[a, b] T (0, 0))) (x y : Value) : ((w1.setCell ⟨B, 0, none⟩ x).setCell ⟨B, 1, none⟩ y).cell? ⟨B, 0, none⟩ = some x ∧ ((w1.setCell ⟨B, 0, none⟩ x).setCell ⟨B, 1, none⟩ y).cell? ⟨B, 1, none⟩ = some y := by
  have h1 : (w1.setCell ⟨B, 0, none⟩ x).heap[B]? = some (.cells #[x, b] T (0, 0)) := by rw [fset_block hb]; simp
  have h2 : ((w1.setCell ⟨B, 0, none⟩ x).setCell ⟨B, 1, none⟩ y).heap[B]? = some (.cells #[x, y] T (0, 0)) := by rw [fset_block h1]; simp
  exact ⟨by simp [World.cell?, h2], by simp [World.cell?, h2]⟩

theorem below_dot {w w1 : World} (h : Below w.heap.size w w1) (x y : Value) : Below w.heap.size w ((w1.setCell ⟨w.heap.size, 0, none⟩ x).setCell ⟨w.heap.size, 1, none⟩ y) := (h.setCell (p := ⟨w.heap.size, 0, none⟩) (Nat.le_refl _) x).setCell (p := ⟨w.heap.size, 1, none⟩) (Nat.le_refl _) y

set_option maxRecDepth 100000 in
set_option maxHeartbeats 2000000 in
theorem place_any {w : World} {t : Nat} {T : List Cr} {G M : Dt → Option Nat} {n : Nat} {R : Dt → Bool → Value} (h : TX w t T G M n R) (hTl : T.length ≤ 1000000) (i : Int) (hi : -9223372036854775808 ≤ i ∧ i ≤ 9223372036854775807) :
    Calls Try.prog 25 #[.pointer (some ⟨t, 0, none⟩), .int .i64 i] w fun e w' => e = .returned (.tuple #[.agg #[.int .i64 (plcI T i).1.1, .int .i64 (plcI T i).1.2], .int .i64 (plcI T i).2.1, .int .i64 (plcI T i).2.2]) ∧ Below w.heap.size w w' := by
  obtain ⟨wA, hwA⟩ : ∃ wA, wA = w.alloc (.cells #[.int .i64 0, .int .i64 0] 24) := ⟨_, rfl⟩
  have hBA : Below w.heap.size w wA := by rw [hwA]; exact (Below.refl _ w).alloc (Nat.le_refl _) _
  have hblk : wA.heap[w.heap.size]? = some (.cells #[.int .i64 0, .int .i64 0] 24 (0, 0)) := by rw [hwA]; exact World.alloc_heap_new _ _
  have hszA : w.heap.size < wA.heap.size := (Array.getElem?_eq_some_iff.1 hblk).1
  have hcall := (h.below hBA).ahead hTl i hi
  cases hlo : leftOf (seenC T) i with
  | none =>
    have hp : plcI T i = ((0, 0), 0, 41) := by unfold plcI; rw [hlo]
    rw [hlo] at hcall
    have hcall' : Calls Try.prog 51 #[.pointer (some ⟨t, 0, none⟩), .int .i64 i] wA fun e w1 => e = .returned (.pointer none) ∧ w1.cell? ⟨w.heap.size, 0, none⟩ = some (.int .i64 0) ∧ w1.cell? ⟨w.heap.size, 1, none⟩ = some (.int .i64 0) ∧ w1.frozen? ⟨w.heap.size, 0, none⟩ = false ∧ w1.frozen? ⟨w.heap.size, 1, none⟩ = false ∧ w.heap.size < w1.heap.size ∧ Hid (Below w.heap.size w w1 ∧ w1.heap[w.heap.size]? = some (.cells #[.int .i64 0, .int .i64 0] 24 (0, 0))) := hcall.mono (fun e w1 ⟨he, hb⟩ => by
      have hb1 : w1.heap[w.heap.size]? = _ := (hb.block _ hszA).trans hblk
      exact ⟨he, by simp [World.cell?, hb1], by simp [World.cell?, hb1], by simp [World.frozen?, hb1], by simp [World.frozen?, hb1], (Array.getElem?_eq_some_iff.1 hb1).1, hid ⟨hBA.trans (hb.mono hBA.size), hb1⟩⟩)
    rw [hp]
    have hwAH := hid hwA
    clear hlo hp hcall
    go_enter Try.func25, Try.ntmps25
    go_wp2_with (go_at_call 51; (try rw [← hwAH.out]); refine hcall'.mono ?_; rintro e w1 ⟨rfl, k0, k1, k2, k3, k4, hbH⟩)
    obtain ⟨q0, q1⟩ := dot_put hbH.out.2 (.int .i64 0) (.int .i64 0)
    exact bodyPost_ret (v := .tuple #[.agg #[.int .i64 0, .int .i64 0], .int .i64 0, .int .i64 41]) (by simp [results, Try.results25, go_sem, q0, q1]) rfl ⟨rfl, below_dot hbH.out.1 _ _⟩
  | some l =>
    have hln := leftOf_node hlo
    have hnode : nodes T l := hln
    obtain ⟨b, o, hv, ho, hna⟩ := (h.below hBA).node_at hln
    rw [hlo, hv] at hcall
    have hp : plcI T i = ((plc T l).1, if (plc T l).2 then 1 else 0, 0) := by unfold plcI; rw [hlo]
    rw [hp]
    have hwAH := hid hwA
    have hbA : b < wA.heap.size := by have := cell_in hna.c0; exact this
    cases hk : kids T l true with
    | nil =>
      have hpl : plc T l = (l, true) := by unfold plc; rw [hk]
      obtain ⟨ra, rc, gs, hR, _, _⟩ := h.cm.row l true hnode
      rw [hk] at hR
      have hcall' : Calls Try.prog 51 #[.pointer (some ⟨t, 0, none⟩), .int .i64 i] wA fun e w1 => e = .returned (.pointer (some ⟨b, o, none⟩)) ∧ w1.cell? ⟨b, o, none⟩ = some (.int .i64 l.1) ∧ w1.cell? ⟨b, o + 1, none⟩ = some (.int .i64 l.2) ∧ w1.cell? ⟨b, o + 5, none⟩ = some (.slice ra 0 rc) ∧ w1.cell? ⟨w.heap.size, 0, none⟩ = some (.int .i64 0) ∧ w1.cell? ⟨w.heap.size, 1, none⟩ = some (.int .i64 0) ∧ w1.frozen? ⟨w.heap.size, 0, none⟩ = false ∧ w1.frozen? ⟨w.heap.size, 1, none⟩ = false ∧ w.heap.size < w1.heap.size ∧ Hid (Below w.heap.size w w1 ∧ w1.heap[w.heap.size]? = some (.cells #[.int .i64 0, .int .i64 0] 24 (0, 0))) := hcall.mono (fun e w1 ⟨he, hb⟩ => by
        have hb1 : w1.heap[w.heap.size]? = _ := (hb.block _ hszA).trans hblk
        exact ⟨he, by rw [hb.cell (p := ⟨b, o, none⟩) hbA]; exact hna.c0, by rw [hb.cell (p := ⟨b, o + 1, none⟩) hbA]; exact hna.c1, by rw [hb.cell (p := ⟨b, o + 5, none⟩) hbA, hna.c5, hR]; rfl, by simp [World.cell?, hb1], by simp [World.cell?, hb1], by simp [World.frozen?, hb1], by simp [World.frozen?, hb1], (Array.getElem?_eq_some_iff.1 hb1).1, hid ⟨hBA.trans (hb.mono hBA.size), hb1⟩⟩)
      rw [hpl]
      clear hlo hp hcall hk hpl hR hv hna hwA
      go_enter Try.func25, Try.ntmps25
      rcases ho with rfl | rfl
      all_goals
        go_wp2_with (go_at_call 51; (try rw [← hwAH.out]); refine hcall'.mono ?_; rintro e w1 ⟨rfl, k0, k1, k5, r0, r1, r2, r3, r4, hbH⟩)
        obtain ⟨q0, q1⟩ := dot_put hbH.out.2 (.int .i64 l.1) (.int .i64 l.2)
        exact bodyPost_ret (v := .tuple #[.agg #[.int .i64 l.1, .int .i64 l.2], .int .i64 1, .int .i64 0]) (by simp [results, Try.results25, go_sem, q0, q1]) rfl ⟨rfl, below_dot hbH.out.1 _ _⟩
    | cons k ks =>
      have hpl : plc T l = (frst T T.length k, false) := by unfold plc; rw [hk]
      obtain ⟨rb, ro, rc, g1, hR, hGk, hcl, hlc, hmx⟩ := (h.below hBA).first_kid (s := true) hnode hk
      have hkm : k ∈ kids T l true := by rw [hk]; simp
      obtain ⟨y, hy, _, _, hyk⟩ := mem_kids.1 hkm
      have hkl := kids_len T l true
      have hk0 : 0 < (kids T l true).length := by rw [hk]; simp
      obtain ⟨kl, hkl'⟩ : ∃ kl, kl = (kids T l true).length := ⟨_, rfl⟩
      rw [← hkl'] at hR hk0 hkl hlc
      obtain ⟨f, hf, hfe⟩ := frst_mem (T := T) (f := T.length) ⟨y, hy, hyk⟩
      have hcall' : Calls Try.prog 51 #[.pointer (some ⟨t, 0, none⟩), .int .i64 i] wA fun e w1 => e = .returned (.pointer (some ⟨b, o, none⟩)) ∧ w1.cell? ⟨b, o + 5, none⟩ = some (.slice (some ⟨rb, ro, none⟩) kl rc) ∧ w1.cell? ⟨rb, ro, none⟩ = some (.pointer (some ⟨g1, 0, none⟩)) ∧ w1.cell? ⟨w.heap.size, 0, none⟩ = some (.int .i64 0) ∧ w1.cell? ⟨w.heap.size, 1, none⟩ = some (.int .i64 0) ∧ w1.frozen? ⟨w.heap.size, 0, none⟩ = false ∧ w1.frozen? ⟨w.heap.size, 1, none⟩ = false ∧ w.heap.size < w1.heap.size ∧ (Calls Try.prog 52 #[.pointer (some ⟨g1, 0, none⟩)] w1 fun e w2 => ∃ g', e = .returned (.pointer (some ⟨g', 0, none⟩)) ∧ w2.cell? ⟨g', 0, none⟩ = some (.int .i64 (frst T T.length k).1) ∧ w2.cell? ⟨g', 1, none⟩ = some (.int .i64 (frst T T.length k).2) ∧ w1 = w2) ∧ Hid (Below w.heap.size w w1 ∧ w1.heap[w.heap.size]? = some (.cells #[.int .i64 0, .int .i64 0] 24 (0, 0))) := hcall.mono (fun e w1 ⟨he, hb⟩ => by
        have hb1 : w1.heap[w.heap.size]? = _ := (hb.block _ hszA).trans hblk
        have h1 := (h.below hBA).below hb
        refine ⟨he, by rw [hb.cell (p := ⟨b, o + 5, none⟩) hbA, hna.c5, hR], by rw [hb.cell (p := ⟨rb, ro, none⟩) (cell_in hcl)]; exact hcl, by simp [World.cell?, hb1], by simp [World.cell?, hb1], by simp [World.frozen?, hb1], by simp [World.frozen?, hb1], (Array.getElem?_eq_some_iff.1 hb1).1, ?_, hid ⟨hBA.trans (hb.mono hBA.size), hb1⟩⟩
        refine (ffirst_any h1 hTl ⟨y, hy, hyk⟩ hGk).mono ?_
        rintro e2 w2 ⟨g', hG', rfl, rfl⟩
        rw [← hfe] at hG'
        have hid' := h1.id_at hf hG'
        rw [hfe] at hid'
        exact ⟨g', rfl, hid'.c0, hid'.c1, rfl⟩)
      rw [hpl]
      obtain ⟨F, hF⟩ : ∃ F, F = frst T T.length k := ⟨_, rfl⟩
      rw [← hF] at hcall' ⊢
      unfold maxLen at hmx
      clear hlo hp hcall hk hpl hR hv hna hwA hkl' hF hfe hkm
      go_enter Try.func25, Try.ntmps25
      rcases ho with rfl | rfl
      all_goals
        go_wp2_with (first
          | (go_at_call 51; (try rw [← hwAH.out]); refine hcall'.mono ?_; rintro e w1 ⟨rfl, k5, k6, r0, r1, r2, r3, r4, hfst, hbH⟩)
          | (go_at_call 52; refine hfst.mono ?_; rintro e w2 ⟨g', rfl, j0, j1, rfl⟩))
        obtain ⟨q0, q1⟩ := dot_put hbH.out.2 (.int .i64 F.1) (.int .i64 F.2)
        exact bodyPost_ret (v := .tuple #[.agg #[.int .i64 F.1, .int .i64 F.2], .int .i64 0, .int .i64 0]) (by simp [results, Try.results25, go_sem, q0, q1]) rfl ⟨rfl, below_dot hbH.out.1 _ _⟩
end

section
set_option linter.unusedVariables false
open Go.Shelf Go.RowKit

def renB : Ren := ⟨fun | 169 => 50 | 242 => 68 | 278 => 75 | n => n, fun | 0 => 0 | 70 => 90 | 72 => 93 | 37 => 91 | 127 => 116 | 21 => 21 | 51 => 125 | 46 => 117 | 4 => 4 | 5 => 5 | 3 => 3 | 9 => 9 | n => n, fun n => n⟩

theorem lays169 : Lays.n169 Try.prog renB := {
  mixed := by kernel_rfl
  f169 := Try.func50.trans (congrArg some (by kernel_rfl))
  t0 := Try.underlying0
  a0 := Try.isAgg0
  z0 := Try.sizeOf0
  v0 := Try.zeroValue0
  t3 := Try.underlying3
  a3 := Try.isAgg3
  z3 := Try.sizeOf3
  v3 := Try.zeroValue3
  t9 := Try.underlying9
  a9 := Try.isAgg9
  z9 := Try.sizeOf9
  v9 := Try.zeroValue9
  t37 := Try.underlying91
  a37 := Try.isAgg91
  z37 := Try.sizeOf91
  v37 := Try.zeroValue91
  t70 := Try.underlying90
  a70 := Try.isAgg90
  z70 := Try.sizeOf90
  v70 := Try.zeroValue90
  t72 := Try.underlying93
  a72 := Try.isAgg93
  z72 := Try.sizeOf93
  v72 := Try.zeroValue93
  t127 := Try.underlying116
  a127 := Try.isAgg116
  z127 := Try.sizeOf116
  v127 := Try.zeroValue116
}

theorem lays242 : Lays.n242 Try.prog renB := {
  mixed := by kernel_rfl
  f242 := Try.func68.trans (congrArg some (by kernel_rfl))
  f278 := Try.func75.trans (congrArg some (by kernel_rfl))
  t4 := Try.underlying4
  a4 := Try.isAgg4
  z4 := Try.sizeOf4
  v4 := Try.zeroValue4
  t5 := Try.underlying5
  a5 := Try.isAgg5
  z5 := Try.sizeOf5
  v5 := Try.zeroValue5
  t21 := Try.underlying21
  a21 := Try.isAgg21
  z21 := Try.sizeOf21
  v21 := Try.zeroValue21
  t37 := Try.underlying91
  a37 := Try.isAgg91
  z37 := Try.sizeOf91
  v37 := Try.zeroValue91
  t46 := Try.underlying117
  a46 := Try.isAgg117
  z46 := Try.sizeOf117
  v46 := Try.zeroValue117
  t51 := Try.underlying125
  a51 := Try.isAgg125
  z51 := Try.sizeOf125
  v51 := Try.zeroValue125
}

theorem bldX : Builder.Extra Try.prog renB where
  sizeBuilder := by kernel_rfl
  liesBuilder := by kernel_rfl
  t5 := Try.underlying5
  a5 := Try.isAgg5
  z5 := Try.sizeOf5
  v5 := Try.zeroValue5
  infoByte := by kernel_rfl
  cellsByte := by kernel_rfl
  sizeByte := by kernel_rfl
  neB5 := by decide


/-- A builder that holds these bytes. -/
abbrev Bld (B b : Nat) (bs : List Value) (w : World) : Prop := Lib.IsBuilderF 93 5 B b bs w

theorem bld_string (B b : Nat) (l : List UInt8) (w : World) (h : Bld B b (Lib.byteCells l) w) (hBw : B ≤ w.heap.size) :
    Calls Try.prog 50 #[.pointer (some ⟨b, 0, none⟩)] w fun e w' => e = .returned (.string ⟨l.toArray⟩) ∧ (Bld B b (Lib.byteCells l) w' ∧ Below B w w' ∧ Lib.OthersKept 5 (some b) w w') := Any.Builder_String_any_k lays169 bldX B b l w h hBw

theorem append_rune (B : Nat) (v : Value) (n : Nat) (xs : List Value) (r : Int) (hr0 : -2147483648 ≤ r) (hr1 : r ≤ 2147483647) (w : World) (hown : w.ownsRowF B 5 1 v n xs) (hlen : n + 4 ≤ 140737488355328) (hBw : B ≤ w.heap.size) :
    Calls Try.prog 68 #[v, .int .i32 r] w fun e w' => ∃ v', e = .returned v' ∧ w'.ownsRowF B 5 1 v' (n + (Lib.runeCells r).length) (xs ++ Lib.runeCells r) ∧ ∃ o, (w.alloc o).grownBy w' v.ownBlock := Any.utf8_AppendRune_own lays242 bldX B v n xs r hr0 hr1 w hown hlen hBw

theorem infoB : ∃ j, Try.prog.info? 93 = some j ∧ j.size = 2 := Option.map_eq_some_iff.1 bldX.sizeBuilder

set_option maxHeartbeats 1000000 in
set_option maxRecDepth 100000 in
theorem check_used (b : Nat) (w : World) (h0 : w.cell? ⟨b, 0, none⟩ = some (.pointer (some ⟨b, 0, none⟩))) :
    Calls Try.prog 67 #[.pointer (some ⟨b, 0, none⟩)] w fun e w' => e = .returned (.tuple #[]) ∧ w' = w := by
  obtain ⟨j, hj, _⟩ := infoB
  go_enter Try.func67, Try.ntmps67
  go_wp2
  rw [Lib.run_neq_ptr_same w _ Try.underlying90 hj]
  go_wp2
  go_end0
  exact ⟨rfl, rfl⟩

set_option maxHeartbeats 1000000 in
set_option maxRecDepth 100000 in
theorem check_fresh (b : Nat) (w : World) (h0 : w.cell? ⟨b, 0, none⟩ = some (.pointer none)) (hsh : w.shape? b = some (93, 2)) (hfz : w.frozen? ⟨b, 0, none⟩ = false) :
    Calls Try.prog 67 #[.pointer (some ⟨b, 0, none⟩)] w fun e w' => e = .returned (.tuple #[]) ∧ w' = w.setCell ⟨b, 0, none⟩ (.pointer (some ⟨b, 0, none⟩)) := by
  obtain ⟨j, hj, hjs⟩ := infoB
  go_enter Try.func67, Try.ntmps67
  go_wp2
  rw [Lib.run_to_unsafe w ⟨b, 0, none⟩ Try.underlying90 Try.underlying123 hj (by rw [hjs]; decide) hsh (Nat.zero_lt_succ 1)]
  simp only [Result.andThen]
  rw [Oper.upon_value]
  go_wp2
  rw [run_callFunc_extern Try.func74 (by kernel_rfl) (by kernel_rfl) (by kernel_rfl) (e := Extern.AbiNoEscape.same) (by kernel_rfl)]
  rw [Lib.run_noEscape]
  simp only [Result.andThen]
  rw [Oper.upon_value]
  go_wp2
  rw [Lib.run_from_unsafe w ⟨b, 0, none⟩ Try.underlying123 Try.underlying90 hj hsh bldX.liesBuilder]
  simp only [Result.andThen]
  rw [Oper.upon_value]
  go_wp2
  go_end0
  exact ⟨rfl, rfl⟩

theorem bcheck_any (B b : Nat) (bs : List Value) (w : World) (h : Bld B b bs w) :
    Calls Try.prog 67 #[.pointer (some ⟨b, 0, none⟩)] w fun e w' => e = .returned (.tuple #[]) ∧ (Lib.BuilderAtF 93 5 B b (.pointer (some ⟨b, 0, none⟩)) bs w' ∧ Below B w w' ∧ Lib.OthersKept 5 (some b) w w') := by
  rcases h with h | h
  · refine (check_fresh b w h.cell0 h.shape h.frozen0).mono ?_
    rintro e w' ⟨rfl, rfl⟩
    exact ⟨rfl, h.used _, (Below.refl B w).setCell (p := ⟨b, 0, none⟩) h.1 _, (Lib.OthersKept.refl _ _ w).setCell ⟨b, 0, none⟩ rfl _⟩
  · refine (check_used b w h.cell0).mono ?_
    rintro e w' ⟨rfl, rfl⟩
    exact ⟨rfl, h, Below.refl B _, Lib.OthersKept.refl _ _ _⟩

set_option maxHeartbeats 2000000 in
set_option maxRecDepth 100000 in
theorem write_rune (B b : Nat) (bs : List Value) (r : Int) (hr0 : -2147483648 ≤ r) (hr1 : r ≤ 2147483647) (w : World) (h : Bld B b bs w) (hlen : bs.length + 4 ≤ 140737488355328) (hBw : B ≤ w.heap.size) :
    Calls Try.prog 48 #[.pointer (some ⟨b, 0, none⟩), .int .i32 r] w fun e w' => e = .returned (.tuple #[.int .i64 (Lib.runeCells r).length, .nilIface]) ∧ (Lib.BuilderAtF 93 5 B b (.pointer (some ⟨b, 0, none⟩)) (bs ++ Lib.runeCells r) w' ∧ Below B w w' ∧ Lib.OthersKept 5 (some b) w w') := by
  have hk4 := Lib.runeCells_le r
  go_enter Try.func48, Try.ntmps48
  go_upto_region 2 with (go_at_call 67; refine (bcheck_any B b bs _ h).mono ?_; rintro e w1 ⟨rfl, h1, hb1, hk1⟩)
  obtain ⟨hB, v, hbk, hown, hne⟩ := h1
  obtain ⟨ao, cap, rfl⟩ : ∃ ao cap, v = .slice ao bs.length cap := by
    rcases hown.2 with ⟨hv, h0⟩ | ⟨g, cap, cur, fz, hv, _⟩
    · exact ⟨none, 0, by rw [hv, h0]⟩
    · exact ⟨_, _, hv⟩
  have c0 : w1.cell? ⟨b, 0, none⟩ = some (.pointer (some ⟨b, 0, none⟩)) := by rw [Lib.cell_of_heap hbk]; rfl
  have c1 : w1.cell? ⟨b, 1, none⟩ = some (.slice ao bs.length cap) := by rw [Lib.cell_of_heap hbk]; rfl
  go_wp2_with (go_at_call 68; refine (append_rune B _ bs.length bs r hr0 hr1 _ hown hlen (by have := hb1.size; omega)).mono ?_)
  rintro e w2 ⟨v', rfl, hown', o, hgrow⟩
  have hlt : b < w1.heap.size := by
    rcases Nat.lt_or_ge b w1.heap.size with h' | h'
    · exact h'
    · simp [Array.getElem?_eq_none h'] at hbk
  have hb2 : w2.heap[b]? = some (.cells #[.pointer (some ⟨b, 0, none⟩), .slice ao bs.length cap] 93 (0, 0)) := by
    rw [hgrow.block b (by simp; omega) (fun e => hne e.symm), Lib.alloc_old w1 _ b hlt]
    exact hbk
  have d0 : w2.cell? ⟨b, 0, none⟩ = some (.pointer (some ⟨b, 0, none⟩)) := by rw [Lib.cell_of_heap hb2]; rfl
  have d1 : w2.cell? ⟨b, 1, none⟩ = some (.slice ao bs.length cap) := by rw [Lib.cell_of_heap hb2]; rfl
  have f1 : w2.frozen? ⟨b, 1, none⟩ = false := Lib.frozen_of_heap hb2 1
  obtain ⟨g, cap', rfl⟩ : ∃ g cap', v' = .slice (some ⟨g, 0, none⟩) (bs.length + (Lib.runeCells r).length) cap' := by
    rcases hown'.2 with ⟨_, h0⟩ | ⟨g, cap', cur, fz, hv, _⟩
    · omega
    · exact ⟨g, cap', hv⟩
  go_wp2
  go_ret2
  refine ⟨?_, ?_, ?_, ((hk1.alloc _).grown hgrow (Lib.ownsRowF_kind (hown.alloc _))).setCell ⟨b, 1, none⟩ rfl _⟩
  · have e : ((bs.length : Int) + ((Lib.runeCells r).length : Int) - (bs.length : Int)) = ((Lib.runeCells r).length : Int) := by omega
    simp [e]
  · exact Lib.BuilderAtF.put (T := 93) (e := 5) hB hb2 (bs' := bs ++ Lib.runeCells r) (by simpa using hown') bldX.neB5
  · exact ((hb1.alloc (by have := hb1.size; omega) _).grown hgrow (by have := hb1.size; simp; omega) (fun k hk => (hown.lt k hk).1)).setCell (p := ⟨b, 1, none⟩) hB _
end
end Go.Proofs.Ytbpepmajpojacaa
