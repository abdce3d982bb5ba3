/- first: the first one of a character's tree. -/
import Derived.Test.YtbpepmajpojacaaFgAhead
set_option linter.unusedVariables false
namespace Go.Proofs.Ytbpepmajpojacaa
open Go.RowKit Go.Shelf

/-- The block that a pointer leads to. -/
def blkOf : Value → Nat
  | .pointer (some a) => a.block
  | _ => 0

/-- When the character came that lies there. -/
def cameAt (T : List Cr) (G : Dt → Option Nat) (g : Nat) : Nat := T.findIdx (fun c : Cr => decide (G c.id = some g))

theorem TX.came {w : World} {t : Nat} {T : List Cr} {G M : Dt → Option Nat} {n : Nat} {R : Dt → Bool → Value} (h : TX w t T G M n R) {i g : Nat} {c : Cr} (hi : T[i]? = some c) (hg : G c.id = some g) : cameAt T G g = i := by
  unfold cameAt
  have hlt := (List.getElem?_eq_some_iff.1 hi).1
  have hex : ∃ x ∈ T, decide (G x.id = some g) = true := ⟨c, List.mem_of_getElem? hi, by simp [hg]⟩
  have hf := List.findIdx_lt_length_of_exists hex
  have hp : decide (G (T[T.findIdx (fun c : Cr => decide (G c.id = some g))]'hf).id = some g) = true := List.findIdx_getElem (p := fun c : Cr => decide (G c.id = some g)) (w := hf)
  have hp' : G (T[T.findIdx (fun c : Cr => decide (G c.id = some g))]'hf).id = some g := by simpa using hp
  have he := h.inj (List.getElem_mem hf) (List.mem_of_getElem? hi) hp' hg
  exact at_one h.wt (List.getElem?_eq_getElem hf) hi he

/-- A row's first one. -/
theorem TX.first_kid {w : World} {t : Nat} {T : List Cr} {G M : Dt → Option Nat} {n : Nat} {R : Dt → Bool → Value} (h : TX w t T G M n R) {d : Dt} {s : Bool} (hd : nodes T d) {k : Dt} {ks : List Dt} (hk : kids T d s = k :: ks) :
    ∃ b o cp g, R d s = .slice (some ⟨b, o, none⟩) (kids T d s).length cp ∧ G k = some g ∧ w.cell? ⟨b, o, none⟩ = some (pvF g) ∧ (kids T d s).length ≤ cp ∧ cp ≤ maxLen := by
  obtain ⟨a, c, gs, hR, hgs, hp⟩ := h.cm.row d s hd
  obtain ⟨g0, o, rfl, _, hx⟩ := hp.at_ (by rw [hk]; simp)
  have hl := hp.len
  have h0 : 0 < gs.length := by rw [hl, hk]; simp
  have e : (gs.map some)[0]? = ((kids T d s).map G)[0]? := by rw [hgs]
  rw [List.getElem?_map, List.getElem?_eq_getElem h0, hk] at e
  simp at e
  refine ⟨g0, o, c, gs[0], hR, e.symm, ?_, hp.cap, hp.max⟩
  exact hx 0 h0

set_option maxRecDepth 100000 in
set_option maxHeartbeats 2000000 in
theorem ffirst_any {w : World} {t : Nat} {T : List Cr} {G M : Dt → Option Nat} {n : Nat} {R : Dt → Bool → Value} (h : TX w t T G M n R) (hTl : T.length ≤ 1000000) {d : Dt} (hd : ∃ c ∈ T, c.id = d) {g : Nat} (hg : G d = some g) :
    Calls Try.prog 52 #[pvF g] w fun e w' => ∃ g', G (frst T T.length d) = some g' ∧ e = .returned (pvF g') ∧ w = w' := by
  show Calls Try.prog 52 #[.pointer (some ⟨g, 0, none⟩)] w _
  go_enter Try.func52, Try.ntmps52
  go_wp2
  go_loopw [0] (fun c wr => w = wr ∧ Hid (∃ d1 g1, c = .pointer (some ⟨g1, 0, none⟩) ∧ G d1 = some g1 ∧ (∃ x ∈ T, x.id = d1) ∧ frst T T.length d1 = frst T T.length d)) (fun c _ => T.length - cameAt T G (blkOf c))
  case atStart => exact ⟨rfl, hid ⟨d, g, rfl, hg, hd, rfl⟩⟩
  case round =>
    obtain ⟨rfl, hh⟩ := hrel
    obtain ⟨d1, g1, rfl, hg1, hx1, hf1⟩ := hh.out
    clear hh
    obtain ⟨x, hx, rfl⟩ := hx1
    obtain ⟨g', hgx, htg, hblk⟩ := h.ch x hx
    rw [hg1] at hgx
    cases hgx
    obtain ⟨i, hi⟩ := List.mem_iff_getElem?.1 hx
    have hil := (List.getElem?_eq_some_iff.1 hi).1
    have hci := h.came hi hg1
    cases hk : kids T x.id false with
    | nil =>
      have hrow := (h.cm.row x.id false (Or.inr ⟨x, hx, rfl⟩))
      obtain ⟨a, c, gs, hR, _, hp⟩ := hrow
      rw [hk] at hR
      have c4 : w.cell? ⟨g1, 4, none⟩ = some (.slice a 0 c) := by simp [World.cell?, hblk, Cr.cells, hR]
      have hfx : frst T T.length x.id = x.id := by
        obtain ⟨m, hm⟩ : ∃ m, T.length = m + 1 := ⟨T.length - 1, by omega⟩
        rw [hm]
        simp [frst, hk]
      have hend := hid (show G (frst T T.length d) = some g1 by rw [← hf1, hfx]; exact hg1)
      clear hci hfx hf1 hR hblk hk
      go_wp2
      go_ret
      exact ⟨g1, hend.out, rfl, rfl⟩
    | cons k ks =>
      obtain ⟨b, o, cp, g2, hR, hG2, hcell, hcp, hmx⟩ := h.first_kid (s := false) (Or.inr ⟨x, hx, rfl⟩) hk
      have hkm : k ∈ kids T x.id false := by rw [hk]; simp
      obtain ⟨y, hy, hya, _, rfl⟩ := mem_kids.1 hkm
      obtain ⟨j, hj⟩ := List.mem_iff_getElem?.1 hy
      have hjl := (List.getElem?_eq_some_iff.1 hj).1
      have hij := under_lt h.wt hi hj hya
      have hcj := h.came hj hG2
      have hkl := kids_len T x.id false
      have hk0 : 0 < (kids T x.id false).length := by rw [hk]; simp
      obtain ⟨kl, hkl'⟩ : ∃ kl, kl = (kids T x.id false).length := ⟨_, rfl⟩
      have c4 : w.cell? ⟨g1, 4, none⟩ = some (.slice (some ⟨b, o, none⟩) kl cp) := by simp [World.cell?, hblk, Cr.cells, hR, hkl']
      rw [← hkl'] at hk0 hkl hcp
      have hcell : w.cell? ⟨b, o, none⟩ = some (.pointer (some ⟨g2, 0, none⟩)) := hcell
      have hfx : frst T T.length y.id = frst T T.length x.id := by
        obtain ⟨m, hm⟩ : ∃ m, T.length = m + 1 := ⟨T.length - 1, by omega⟩
        have e1 : frst T T.length x.id = frst T m y.id := by rw [hm]; simp [frst, hk]
        rw [e1, hm]
        refine frst_stable ?_
        have := h.wt.dep_all hx
        rw [hm] at this
        exact this false y.id hkm
      unfold maxLen at hmx
      have hnext := hid (show w = w ∧ Hid (∃ d1 g1, (Value.pointer (some ⟨g2, 0, none⟩)) = .pointer (some ⟨g1, 0, none⟩) ∧ G d1 = some g1 ∧ (∃ x ∈ T, x.id = d1) ∧ frst T T.length d1 = frst T T.length d) from ⟨rfl, hid ⟨y.id, g2, rfl, hG2, ⟨y, hy, rfl⟩, by rw [hfx, hf1]⟩⟩)
      have hms : Hid (T.length - cameAt T G g2 < T.length - cameAt T G g1) := hid (by rw [hci, hcj]; omega)
      clear hci hcj hfx hf1 hR hblk hk hkl' hkm
      go_wp2
      go_roundw
      case rel => exact ⟨by trivial, hnext.out.2⟩
      case measure => simpa [blkOf] using hms.out
end Go.Proofs.Ytbpepmajpojacaa
