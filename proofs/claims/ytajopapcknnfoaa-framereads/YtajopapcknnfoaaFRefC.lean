/- The reference: all frames; rows that are the same. -/
import Derived.Test.YtajopapcknnfoaaFRefB
namespace Go.Proofs.Ytajopapcknnfoaa
open Go.RowKit

/-- Slices that each lead to the bytes of a body. -/
def Pcs (w : World) (R : List (List Int)) (Vs : List Value) : Prop :=
  Vs.length = R.length ∧ ∀ i, i < R.length → ∃ ai ci, Vs[i]? = some (.slice ai (R[i]?.getD []).length ci) ∧ Src w ai (R[i]?.getD []).length (R[i]?.getD []) ∧ (R[i]?.getD []).length ≤ ci ∧ (ai = none → (R[i]?.getD []).length = 0 ∧ ci = 0)
theorem pcs_snoc {w : World} {R : List (List Int)} {Vs : List Value} (h : Pcs w R Vs) (a : Option Addr) (c : Nat) (L : List Int) (hs : Src w a L.length L) (hc : L.length ≤ c) (hn : a = none → L.length = 0 ∧ c = 0) : Pcs w (R ++ [L]) (Vs ++ [.slice a L.length c]) := by
  refine ⟨by rw [List.length_append, List.length_append, h.1]; rfl, fun i hi => ?_⟩
  rw [List.length_append, List.length_singleton] at hi
  by_cases h1 : i < R.length
  · rw [List.getElem?_append_left h1, List.getElem?_append_left (by rw [h.1]; exact h1)]
    exact h.2 i h1
  · obtain rfl : i = R.length := by omega
    rw [List.getElem?_append_right (Nat.le_refl _), List.getElem?_append_right (by rw [h.1]; exact Nat.le_refl _), h.1, Nat.sub_self]
    exact ⟨a, c, rfl, hs, hc, hn⟩

/-- What the reference's Split tells. -/
def RS (w : World) (L : List Int) (e : Ending) (w' : World) : Prop := ∃ a' c', e = .returned (.tuple #[.slice a' (spl L).1.length c', .int .i64 (spl L).2]) ∧ BSrc w' a' (spl L).1.length (spl L).1 ∧ Below w.heap.size w w'
theorem rs_end {w wr : World} {L : List Int} {v : Value} {R : List (List Int)} {Vs : List Value} {k : Nat} (hown : wr.ownsRow w.heap.size 22 1 v R.length Vs) (hpcs : Pcs w R Vs) (hspl : spl L = (R, k)) (hbr : Below w.heap.size w wr) : RS w L (.returned (.tuple #[v, .int .i64 (k : Int)])) wr := by
  unfold RS
  rw [hspl]
  rcases hown.2 with ⟨rfl, h0⟩ | ⟨g, cap', cur, rfl, hB, hg, hn, hc, hcs, ht⟩
  · exact ⟨none, 0, by rw [h0], ⟨rfl, fun hp => absurd hp (by simp only at hp; omega)⟩, hbr⟩
  · refine ⟨_, cap', rfl, ⟨rfl, fun _ => ⟨g, 0, rfl, fun i hi => ?_⟩⟩, hbr⟩
    obtain ⟨ai, ci, h1, h2, h3⟩ := hpcs.2 i hi
    refine ⟨ai, ci, ?_, h2.below hbr, h3⟩
    have hil : i < R.length := hi
    have := hown.cellAt i (by have := hpcs.1; omega)
    rw [h1] at this
    rw [Nat.zero_add]
    exact this

set_option maxHeartbeats 1000000 in
theorem rsplit_any (a : Option Addr) (len cap : Nat) (L : List Int) (w : World) (hs : Src w a len L) (hb : Bts L) (hlc : len ≤ cap) (hm : len ≤ 5000) :
    Calls Try.prog 17 #[.slice a len cap] w (RS w L) := by
  obtain ⟨i0, hi, hz0, hz1, hz2⟩ := info_parts Try.info22
  by_cases hp : 0 < len
  · obtain ⟨g, off, rfl, _⟩ := hs.flat hp
    go_enter Try.func17, Try.ntmps17
    go_wp2
    go_loopw [4, 5] (fun v p wr => ∃ (k : Nat) (R : List (List Int)) (Vs : List Value), k ≤ len ∧ p = .int .i64 k ∧ wr.ownsRow w.heap.size 22 1 v R.length Vs ∧ Pcs w R Vs ∧ R.length ≤ k ∧ Hid (spl L = (R ++ (spl (L.drop k)).1, k + (spl (L.drop k)).2)) ∧ Below w.heap.size w wr) (fun _ p _ => len - (intOf p).toNat)
    case atStart => exact ⟨0, [], [], by omega, rfl, World.ownsRow_nil _ _ _ _, ⟨rfl, fun i hi => absurd hi (by simp)⟩, by simp, by show _ = _; simp, Below.refl _ _⟩
    case round =>
      obtain ⟨k, R, Vs, hk, rfl, hown, hpcs, hRk, hspl, hbr⟩ := hrel
      have hcut := src_cut hs cap k hlc
      have hN := rnext_any (cutA (some ⟨g, off, none⟩) cap k) (len - k) (cap - k) (L.drop k) wr (hcut.below hbr) (hb.drop k) (by omega) (by omega)
      have hcA : cutA (some ⟨g, off, none⟩) cap k = if cap = k then some ⟨g, off, none⟩ else some ⟨g, off + k, none⟩ := by unfold cutA; rw [Option.map_some, Addr.add_lit]
      by_cases h0 : (nx (L.drop k)).1 = 0
      · have hok := nx_ok (hb.drop k) h0
        have hsm := nx_small (hb.drop k) h0
        have hp8 := (src_pc hcut (hb.drop k) h0).1
        rw [hcut.1] at hok
        have hck : ¬ cap = k := by omega
        rw [if_neg hck] at hcA
        have hpc : pc (cutA (some ⟨g, off, none⟩) cap k) (cap - k) (L.drop k) = .slice (some ⟨g, off + k + 4, none⟩) (nx (L.drop k)).2.1.length (cap - k - 4) := by unfold pc; rw [if_pos h0, hcA, Option.map_some, Addr.add_lit]
        rw [hpc, hcA, h0, hok.1] at hN
        rw [hcA, Option.map_some, Addr.add_lit] at hp8
        have hpcs' := pcs_snoc hpcs (some ⟨g, off + k + 4, none⟩) (cap - k - 4) _ hp8 (by omega) (by simp)
        have hspl' : spl L = ((R ++ [(nx (L.drop k)).2.1]) ++ (spl (L.drop (k + ((nx (L.drop k)).2.1.length + 8)))).1, (k + ((nx (L.drop k)).2.1.length + 8)) + (spl (L.drop (k + ((nx (L.drop k)).2.1.length + 8)))).2) := by
          have h := hspl.out
          rw [spl_ok (hb.drop k) h0, hok.1, List.drop_drop] at h
          rw [h]
          simp [Nat.add_assoc]
        have hle : (nx (L.drop k)).2.1.length + 8 ≤ len - k := by omega
        have hspl'' := hid hspl'
        clear hpc hcA h0 hok hspl' hspl hpcs hcut
        generalize (nx (L.drop k)).2.1 = M at *
        obtain ⟨n, hn⟩ : ∃ n, n = M.length := ⟨_, rfl⟩
        rw [← hn] at hN hpcs' hspl'' hle hsm hp8
        clear hn
        have hbs := hbr.size
        have hrl : (R ++ [M]).length = R.length + 1 := by simp
        go_wp2_with (first
          | (go_at_call 15; refine hN.mono ?_; rintro e w1 ⟨rfl, q, rfl⟩; have ho1 : (wr.drewN q).ownsRow w.heap.size 22 1 u4 R.length Vs := hown)
          | (at_builtin; refine wpList_append_own _ rfl _ _ 34 rfl w.heap.size 22 i0 (.slice none 0 0) 1 24 Try.underlying34 hi hz0 hz1 hz2 rfl (by decide) _ _ _ rfl (ho1.alloc _) ⟨(wr.drewN q).heap.size, 0, none⟩ 1 1 [.slice (some ⟨g, off + k + 4, none⟩) n (cap - k - 4)] rfl rfl (cell_one_new _ _ _) (by simp [Value.oneCell']) (by unfold maxLen; omega) (by omega) (by simp; omega) ?_; intro v' w2 hown' hgrow _))
        have hb1 : Below w.heap.size w (wr.drewN q) := below_drewN hbr q
        have hb2 : Below w.heap.size w w2 := (hb1.alloc hb1.size _).grown hgrow (by simp; omega) (fun j hj => (hown.lt j hj).1)
        go_roundw
        case rel =>
          refine ⟨k + (n + 8), R ++ [M], _, by omega, by go_num, ?_, hpcs', by simp; omega, hspl'', hb2⟩
          rw [hrl]
          exact hown'
        case measure => simp [intOf]; omega
      · have hpc : pc (cutA (some ⟨g, off, none⟩) cap k) (cap - k) (L.drop k) = .slice none 0 0 := by unfold pc; rw [if_neg h0]
        rw [hpc, hcA] at hN
        have hne : ((nx (L.drop k)).1 != 0) = true := by simp [h0]
        have hsp := hspl.out
        rw [spl_bad h0, List.append_nil, Nat.add_zero] at hsp
        have hend := fun q => rs_end (wr := wr.drewN q) hown hpcs hsp (below_drewN hbr q)
        clear hpc hcA hsp hspl h0
        generalize nx (L.drop k) = E at *
        go_wp2_with (go_at_call 15; refine hN.mono ?_; rintro e w1 ⟨rfl, q, rfl⟩)
        · go_ret2
          exact hend q
        · go_ret2
          exact hend q
  · obtain rfl : len = 0 := by omega
    obtain rfl : L = [] := List.eq_nil_of_length_eq_zero hs.1
    have hN := rnext_any a 0 cap [] w hs hb hlc (by omega)
    have hnx : nx [] = (10, [], 0) := nx_short (by simp)
    have hpc : pc a cap [] = .slice none 0 0 := by unfold pc; rw [hnx]; rfl
    rw [hpc, hnx] at hN
    have hsp : spl [] = ([], 0) := spl_bad (by rw [hnx]; simp)
    have hend := fun q => rs_end (w := w) (wr := w.drewN q) (v := .slice none 0 0) (R := []) (Vs := []) (World.ownsRow_nil _ _ _ _) ⟨rfl, fun i hi => absurd hi (by simp)⟩ hsp (below_drewN (Below.refl _ _) q)
    clear hnx hpc hsp
    go_enter Try.func17, Try.ntmps17
    go_wp2_with fail
    go_loopw [4, 5] (fun v p wr => v = .slice none 0 0 ∧ p = .int .i64 0 ∧ wr = w) (fun _ _ _ => 0)
    case atStart => exact ⟨rfl, rfl, rfl⟩
    case round =>
      obtain ⟨rfl, rfl, rfl⟩ := hrel
      go_wp2_with (go_at_call 15; refine hN.mono ?_; rintro e w1 ⟨rfl, q, rfl⟩)
      go_ret2
      exact hend q

set_option maxHeartbeats 1000000 in
theorem same_any (a b : Option Addr) (n c d : Nat) (R : List (List Int)) (w : World) (ha : BSrc w a n R) (hb : BSrc w b n R) (hm : n ≤ 140737488355328) :
    Calls Try.prog 18 #[.slice a n c, .slice b n d] w fun e w' => e = .returned (.bool true) ∧ ∃ q, w' = w.drewN q := by
  go_enter Try.func18, Try.ntmps18
  go_wp2
  go_loopw [5] (fun i wr => ∃ (k q : Nat), k ≤ n ∧ i = .int .i64 k ∧ wr = w.drewN q) (fun i _ => n - (intOf i).toNat)
  case atStart => exact ⟨0, 0, by omega, rfl, rfl⟩
  case round =>
    obtain ⟨k, q, hk, rfl, hW⟩ := hrel
    have hWq := hid hW
    by_cases hlt : k < n
    · obtain ⟨g1, o1, rfl, hc1⟩ := ha.2 (by omega)
      obtain ⟨g2, o2, rfl, hc2⟩ := hb.2 (by omega)
      obtain ⟨x1, y1, e1, s1, _⟩ := hc1 k hlt
      obtain ⟨x2, y2, e2, s2, _⟩ := hc2 k hlt
      have s1' : Src wr x1 (R[k]?.getD []).length (R[k]?.getD []) := by rw [hW]; exact s1.drewN q
      have s2' : Src wr x2 (R[k]?.getD []).length (R[k]?.getD []) := by rw [hW]; exact s2.drewN q
      have k1 := fun p => conv_src (s1'.drewN p) y1
      have k2 := fun p => conv_src (s2'.drewN p) y2
      have e1' : wr.cell? ⟨g1, o1 + k, none⟩ = some (.slice x1 (R[k]?.getD []).length y1) := by rw [hW]; exact e1
      have e2' : wr.cell? ⟨g2, o2 + k, none⟩ = some (.slice x2 (R[k]?.getD []).length y2) := by rw [hW]; exact e2
      clear hc1 hc2 ha hb s1 s2 e1 e2 hW s1' s2'
      go_wp2
      go_quiet (fail)
      go_wp2
      go_roundw
      case rel => exact ⟨k + 1, q + nq, by omega, by go_num, by rw [hWq.out]; exact drewN_add w q nq⟩
      case measure => simp [intOf]; omega
    · obtain rfl : k = n := by omega
      clear hW
      go_wp2
      go_ret
      exact ⟨rfl, q, hWq.out⟩
end Go.Proofs.Ytajopapcknnfoaa
