/- The reference's Rising and Choose: a row put in order; of a row those that are in another one, or aren't. -/
import Derived.Test.YtmkjfgedhcidcaaDRefC
namespace Go.Proofs.Ytmkjfgedhcidcaa
open Go.RowKit
open Go.Sort (grow)

/-- A slice value that holds L. -/
def PV (w : World) (v : Value) (L : List Dt) : Prop := ∃ a c, v = .slice a L.length c ∧ PS w a L.length c L

theorem PV.below {w w' : World} {v : Value} {L : List Dt} (h : PV w v L) (hb : RowKit.Below w.heap.size w w') : PV w' v L := by
  obtain ⟨a, c, hv, hp⟩ := h
  exact ⟨a, c, hv, hp.below hb⟩

/-- A call answers a slice that holds L. -/
def Tels (w : World) (L : List Dt) (e : Ending) (w' : World) : Prop := ∃ v, e = .returned v ∧ PV w' v L ∧ RowKit.Below w.heap.size w w'

set_option maxHeartbeats 2000000 in
theorem rrising_any (a : Option Addr) (n c : Nat) (L : List Dt) (w : World) (hs : PS w a n c L) (hn : n ≤ 1000000) :
    Calls Try.prog 15 #[.slice a n c] w (Tels w (rise L)) := by
  have HL := hid hs.len
  go_enter Try.func15, Try.ntmps15
  go_wp2
  go_loopw [4, 3] (fun i v wr => ∃ k : Nat, k ≤ n ∧ i = .int .i64 k ∧ PV wr v (rise (L.take k)) ∧ RowKit.Below w.heap.size w wr) (fun i _ _ => n - (intOf i).toNat)
  case atStart => exact ⟨0, by omega, rfl, ⟨none, 0, rfl, PS.none w⟩, Below.refl _ _⟩
  case round =>
    obtain ⟨k, hk, rfl, ⟨a1, c1, rfl, hp⟩, hbl⟩ := hrel
    have hl := HL.out
    by_cases hlt : k < n
    · obtain ⟨g, o, rfl, hg, hcell⟩ := (hs.below hbl).at (by omega)
      obtain ⟨hc0, hc1⟩ := hcell k (by omega)
      have hts : Hid _ := hid (take_snoc (L := L) (k := k) (by omega))
      have hrl : (rise (L.take k)).length ≤ 1000000 := Nat.le_trans (rise_length _) (by rw [List.length_take]; omega)
      generalize (L[k]'(by omega)) = d at hc0 hc1 hts
      have hput := put1_any a1 _ c1 (rise (L.take k)) d wr hp hrl
      clear hs hl hcell
      go_wp2_with (first
        | (go_at_call 31; refine hput.mono ?_; rintro e w2 ⟨a2, c2, rfl, hp2, b2⟩))
      go_roundw
      case rel =>
        refine ⟨k + 1, by omega, by go_num, ?_, below2 hbl b2⟩
        rw [hts.out, rise_snoc]
        exact ⟨a2, c2, rfl, hp2⟩
      case measure => simp [intOf]; omega
    · obtain rfl : k = n := by omega
      clear hl
      go_wp2
      go_ret
      refine ⟨_, rfl, ?_, hbl⟩
      rw [List.take_of_length_le (by rw [HL.out]; exact Nat.le_refl _)] at hp ⊢
      exact ⟨a1, c1, rfl, hp⟩

theorem filter_none {d : Dt} {p : Dt → Bool} (h : p d = false) : [d].filter p = [] := by simp [h]

set_option maxHeartbeats 2000000 in
theorem choose_p (p : Dt → Bool) (a : Option Addr) (n c : Nat) (L : List Dt) (a' : Option Addr) (n' c' : Nat) (M : List Dt) (f : Bool) (w : World) (hs : PS w a n c L) (hn : n ≤ 1000000) (hs' : PS w a' n' c' M) (hn' : n' ≤ 1000000) (hpp : Hid (∀ d, p d = (decide (d ∈ M) == f))) :
    Calls Try.prog 18 #[.slice a n c, .slice a' n' c', .bool f] w (Tels w (rise (L.filter p))) := by
  have HL := hid hs.len
  go_enter Try.func18, Try.ntmps18
  go_wp2
  go_loopw [8, 7] (fun i v wr => ∃ k : Nat, k ≤ n ∧ i = .int .i64 k ∧ PV wr v (rise ((L.take k).filter p)) ∧ RowKit.Below w.heap.size w wr) (fun i _ _ => n - (intOf i).toNat)
  case atStart => exact ⟨0, by omega, rfl, ⟨none, 0, rfl, PS.none w⟩, Below.refl _ _⟩
  case round =>
    obtain ⟨k, hk, rfl, ⟨a1, c1, rfl, hp⟩, hbl⟩ := hrel
    have hl := HL.out
    by_cases hlt : k < n
    · have hs1 := hs.below hbl
      obtain ⟨g, o, rfl, hg, hcell⟩ := hs1.at (by omega)
      obtain ⟨hc0, hc1⟩ := hcell k (by omega)
      have hts : Hid _ := hid (take_snoc (L := L) (k := k) (by omega))
      have hrl : (rise ((L.take k).filter p)).length ≤ 1000000 := Nat.le_trans (rise_length _) (Nat.le_trans (List.length_filter_le _ _) (by rw [List.length_take]; omega))
      generalize (L[k]'(by omega)) = d at hc0 hc1 hts
      have hin := in_any a' n' c' M d wr (hs'.below hbl) hn'
      generalize hr : decide (d ∈ M) = r at hin
      have HR := hid hr
      clear hs hl hcell hs' hr hs1
      have hrf : r = f ∨ r ≠ f := by by_cases h : r = f; exact .inl h; exact .inr h
      rcases hrf with rfl | hne
      · go_wp2_with (first
          | (go_at_call 31; refine (put1_any a1 _ c1 _ d w2 (hp.below f2.below) hrl).mono ?_; rintro e w3 ⟨a3, c3, rfl, hp3, b3⟩)
          | (go_at_call 29; refine hin.mono ?_; rintro e w2 ⟨rfl, f2⟩; have hd0 := (f2.below.cell (p := ⟨g, o + k * 2, none⟩) hg).trans hc0; have hd1 := (f2.below.cell (p := ⟨g, o + k * 2 + 1, none⟩) hg).trans hc1))
        go_roundw
        case rel =>
          refine ⟨k + 1, by omega, by go_num, ?_, below2 (below2 hbl f2.below) b3⟩
          rw [hts.out, List.filter_append]
          have e1 : [d].filter p = [d] := by simp [hpp.out d, HR.out]
          rw [e1, rise_snoc]
          exact ⟨a3, c3, rfl, hp3⟩
        case measure => simp [intOf]; omega
      · cases r <;> cases f <;> first | (exact absurd rfl hne) | skip
        all_goals
          go_wp2_with (first
            | (go_at_call 29; refine hin.mono ?_; rintro e w2 ⟨rfl, f2⟩; have hd0 := (f2.below.cell (p := ⟨g, o + k * 2, none⟩) hg).trans hc0; have hd1 := (f2.below.cell (p := ⟨g, o + k * 2 + 1, none⟩) hg).trans hc1))
          go_roundw
          case rel =>
            refine ⟨k + 1, by omega, by go_num, ?_, below2 hbl f2.below⟩
            rw [hts.out, List.filter_append, filter_none (p := p) (by rw [hpp.out d, HR.out]; rfl), List.append_nil]
            exact ⟨a1, c1, rfl, hp.below f2.below⟩
          case measure => simp [intOf]; omega
    · obtain rfl : k = n := by omega
      clear hl
      go_wp2
      go_ret
      refine ⟨_, rfl, ?_, hbl⟩
      rw [List.take_of_length_le (by rw [HL.out]; exact Nat.le_refl _)] at hp ⊢
      exact ⟨a1, c1, rfl, hp⟩

theorem choose_any (a : Option Addr) (n c : Nat) (L : List Dt) (a' : Option Addr) (n' c' : Nat) (M : List Dt) (f : Bool) (w : World) (hs : PS w a n c L) (hn : n ≤ 1000000) (hs' : PS w a' n' c' M) (hn' : n' ≤ 1000000) :
    Calls Try.prog 18 #[.slice a n c, .slice a' n' c', .bool f] w (Tels w (rise (L.filter fun d => decide (d ∈ M) == f))) :=
  choose_p _ a n c L a' n' c' M f w hs hn hs' hn' (hid fun _ => rfl)

theorem choose_mee (L M : List Dt) : rise (L.filter fun d => decide (d ∈ M) == true) = mee L M := by
  unfold mee
  congr 1
  apply List.filter_congr
  intro d _
  simp
theorem choose_mis (L M : List Dt) : rise (L.filter fun d => decide (d ∈ M) == false) = mis L M := by
  unfold mis
  congr 1
  apply List.filter_congr
  intro d _
  simp

end Go.Proofs.Ytmkjfgedhcidcaa
