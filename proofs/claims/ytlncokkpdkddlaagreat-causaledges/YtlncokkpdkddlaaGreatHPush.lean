/- Push and Pop: what they do to the heap. -/
import Derived.Test.YtlncokkpdkddlaaGreatHUp
import Derived.Test.YtlncokkpdkddlaaGreatHDown
import Derived.Test.YtlncokkpdkddlaaGreatVActs
namespace Go.Proofs.YtlncokkpdkddlaaGreat
open Go.RowKit
open Go.Sort (grow)

/-- Of the blocks that were there only b (where cell o now holds v') and g may have turned. -/
structure Two (w w' : World) (b o : Nat) (v' : Value) (g : Option Nat) : Prop where
  os : w'.os = w.os
  tape : w'.tape = w.tape
  output : w'.output = w.output
  size : w.heap.size ≤ w'.heap.size
  block : ∀ k, k < w.heap.size → k ≠ b → some k ≠ g → w'.heap[k]? = w.heap[k]?
  here : w'.heap[b]? = (w.setCell ⟨b, o, none⟩ v').heap[b]?

theorem setCell_block (w w' : World) (b o : Nat) (v : Value) (h : w'.heap[b]? = w.heap[b]?) : (w'.setCell ⟨b, o, none⟩ v).heap[b]? = (w.setCell ⟨b, o, none⟩ v).heap[b]? := by
  simp [World.setCell, Array.getElem?_modify, h]

theorem cell_one_new (w : World) (x : Value) (T : TypeId) : ∀ j u, ([x] : List Value)[j]? = some u → (w.alloc (.cells #[x] T)).cell? ((⟨w.heap.size, 0, none⟩ : Addr).add j) = some u := by
  intro j u hj
  match j, hj with
  | 0, hj => simp at hj; subst hj; simp [Addr.add]

theorem assert_int (x : Int) (w : World) : (Instr.typeAssert (.iface 3 (.int .i64 x)) 20 3 false).run Tryz.prog w = .ok (.int .i64 x) w := by kernel_rfl

set_option maxRecDepth 100000 in
set_option maxHeartbeats 1000000 in
theorem lpush_any (b o : Nat) (w : World) (base : Nat) (v : Value) (zs : List Int) (x : Int) (h : OI w base v zs) (hx : (Lit.int .i64 x).wf = true) (hbb : b < base) (hbs : base ≤ w.heap.size) (hv : w.cell? ⟨b, o, none⟩ = some v) (hf : w.frozen? ⟨b, o, none⟩ = false) (hl : zs.length ≤ 1000000) :
    Calls Tryz.prog 133 #[.pointer (some ⟨b, o, none⟩), .iface 3 (.int .i64 x)] w fun e w' => e = .returned (.tuple #[]) ∧
      ∃ v' w1, OI w1 base v' (zs ++ [x]) ∧ w' = w1.setCell ⟨b, o, none⟩ v' ∧ w.grownBy w1 v.ownBlock ∧ (v'.ownBlock = v.ownBlock ∨ ∃ g, v'.ownBlock = some g ∧ w.heap.size ≤ g) := by
  obtain ⟨i0, hi, hz0, hz1, hz2⟩ := info_parts Tryz.info3
  have hta := assert_int
  have f0 : (w.alloc (.cells #[.int .i64 x] 3)).frozen? ⟨b, o, none⟩ = w.frozen? ⟨b, o, none⟩ := (World.grownBy_alloc w _ none).frozen_far ⟨b, o, none⟩ (cell_in hv) (by simp)
  have hb0 : b < w.heap.size := cell_in hv
  have hne : some b ≠ v.ownBlock := fun e => by have := (h.1.lt b e.symm).1; omega
  go_enter Tryz.func133, Tryz.ntmps133
  go_wp2
  go_region_law (first | (refine step_append_lies _ rfl _ _ 48 rfl base 3 i0 _ 1 8 Tryz.underlying48 hi hz0 hz1 hz2 rfl (by decide) v zs.length (ints zs) rfl (h.1.alloc _) _ 1 1 [.int .i64 x] rfl rfl (cell_one_new w _ 3) (by simp [Value.oneCell']) (by decide) (by unfold maxLen; omega) (by omega) (by simp; omega) _ rfl ?_; intro g cap w1 hown hgrow hat hlt; have e1 : w1.cell? ⟨b, o, none⟩ = some v := (hgrow.cell_far ⟨b, o, none⟩ (by simp; omega) hne).trans ((World.cell?_alloc_lt _ _ _ hb0).trans hv); have f1 : w1.frozen? ⟨b, o, none⟩ = false := (hgrow.frozen_far ⟨b, o, none⟩ (by simp; omega) hne).trans (f0.trans hf)))
  all_goals (go_end0)
  all_goals
    refine ⟨rfl, _, w1, h.appended (by simpa using hown) hx, rfl, ((World.grownBy_alloc w _ _).trans (grownBy_drewN _ 1 _)).trans hgrow, ?_⟩
    rcases hat with hat | hat
    · exact .inl hat.symm
    · exact .inr ⟨g, rfl, by rw [hat]; show w.heap.size ≤ (w.alloc _).heap.size; simp⟩

theorem OI.kept {w w' : World} {base : Nat} {v : Value} {zs : List Int} {r : Option Nat} (h : OI w base v zs) (hg : w.grownBy w' r) (hne : v.ownBlock = none ∨ v.ownBlock ≠ r) : OI w' base v zs := World.ownsInts.kept h hg hne

set_option maxRecDepth 100000 in
set_option maxHeartbeats 1000000 in
theorem push_any (b o : Nat) (w : World) (base : Nat) (v : Value) (zs : List Int) (x : Int) (h : OI w base v zs) (hx : (Lit.int .i64 x).wf = true) (hbb : b < base) (hbs : base ≤ w.heap.size) (hv : w.cell? ⟨b, o, none⟩ = some v) (hf : w.frozen? ⟨b, o, none⟩ = false) (hl : zs.length ≤ 999999) (hp : Hp zs) :
    Calls Tryz.prog 45 #[.iface 53 (.pointer (some ⟨b, o, none⟩)), .iface 3 (.int .i64 x)] w fun e w' => e = .returned (.tuple #[]) ∧
      ∃ v' ys, OI w' base v' ys ∧ w'.cell? ⟨b, o, none⟩ = some v' ∧ ys.Perm (zs ++ [x]) ∧ Hp ys ∧ Two w w' b o v' v.ownBlock ∧ (v'.ownBlock = v.ownBlock ∨ ∃ g, v'.ownBlock = some g ∧ w.heap.size ≤ g) := by
  have hm := m_push (some ⟨b, o, none⟩)
  have hP := lpush_any b o w base v zs x h hx hbb hbs hv hf (by omega)
  have hb0 : b < w.heap.size := cell_in hv
  have hne : some b ≠ v.ownBlock := fun e => by have := (h.1.lt b e.symm).1; omega
  have hup := hid (hp.push x)
  go_enter Tryz.func45, Tryz.ntmps45
  go_wp2_with (first
    | (go_at_call 66; refine (up_any b o w2 base v' (zs ++ [x]) hO2 hbb hc2 zs.length hup.out (by simp; omega)).mono ?_; rintro e w3 ⟨rfl, ys, hO3, hp3, hH3, hG3⟩)
    | (go_at_call 129; refine (len_any w2 base v' (zs ++ [x]) hO2).mono ?_; rintro e w2' ⟨rfl, rfl⟩; have hlen1 : ((zs ++ [x]).length : Int) - 1 = (zs.length : Int) := by simp)
    | (go_at_call 133; refine hP.mono ?_; rintro e w2 ⟨rfl, v', w1, hO1, hw2, hG1, hL⟩; have hne' : some b ≠ v'.ownBlock := (fun e => by have := (hO1.1.lt b e.symm).1; omega); have hG2 : w1.grownBy w2 (some b) := (by rw [hw2]; exact grownBy_setCell w1 b o v'); have hO2 := hO1.kept hG2 (.inr (Ne.symm hne')); have hc2 : w2.cell? ⟨b, o, none⟩ = some v' := (by rw [hw2]; exact World.cell?_setCell_same _ _ _ ((hG1.cell_far ⟨b, o, none⟩ hb0 hne).trans hv)); have hml := m_len b o w2 v' hc2; have HW := hid hw2; clear hw2))
  go_end0
  have hG3' : w3.heap[b]? = w2.heap[b]? := hG3.block b (by have := hG1.size; have := hG2.size; omega) hne'
  refine ⟨rfl, v', ys, hO3, (hG3.cell_far ⟨b, o, none⟩ (by have := hG1.size; have := hG2.size; simp; omega) hne').trans hc2, hp3, hH3, ⟨?_, ?_, ?_, ?_, fun k hk hkb hkg => ?_, ?_⟩, hL⟩
  · rw [hG3.os, hG2.os, hG1.os]
  · rw [hG3.tape, hG2.tape, hG1.tape]
  · rw [hG3.output, hG2.output, hG1.output]
  · have := hG1.size; have := hG2.size; have := hG3.size; omega
  · rw [hG3.block k (by have := hG1.size; have := hG2.size; omega) ?_, hG2.block k (by have := hG1.size; omega) (by simp [hkb]), hG1.block k hk hkg]
    rcases hL with hL | ⟨g, hL, hLg⟩
    · rw [hL]; exact hkg
    · rw [hL]; simp; omega
  · rw [hG3', HW.out]
    exact setCell_block _ _ _ _ _ (hG1.block b hb0 hne)

set_option maxRecDepth 100000 in
set_option maxHeartbeats 1000000 in
theorem lpop_any (b o : Nat) (w : World) (base : Nat) (v : Value) (zs : List Int) (h : OI w base v zs) (h0 : zs ≠ []) (hv : w.cell? ⟨b, o, none⟩ = some v) (hf : w.frozen? ⟨b, o, none⟩ = false) (hl : zs.length ≤ 1000000) :
    Calls Tryz.prog 132 #[.pointer (some ⟨b, o, none⟩)] w fun e w' => e = .returned (.iface 3 (.int .i64 (nb zs (zs.length - 1)))) ∧
      ∃ v', OI w base v' (zs.take (zs.length - 1)) ∧ w' = w.setCell ⟨b, o, none⟩ v' ∧ v'.ownBlock = v.ownBlock := by
  have hpos : 0 < zs.length := List.length_pos_iff.2 h0
  have H := hid h
  obtain ⟨g, c, rfl, hc1, hc2, hb, hg, hcell, hfr⟩ := h.at hpos
  have e1 := hcell (zs.length - 1) (by omega)
  have hz : (zs.length : Int) - 1 = ((zs.length - 1 : Nat) : Int) := by omega
  have hO : OI w base (.slice (some ⟨g, 0, none⟩) (zs.length - 1) c) (zs.take (zs.length - 1)) := by
    have hh := H.out
    refine ⟨?_, fun z hz => hh.2 z (List.mem_of_mem_take hz)⟩
    rcases hh.1.2 with ⟨hv, _⟩ | ⟨g', cap', cur, hv, hg', hb', hn', hcap', hsz', ht'⟩
    · cases hv
    · cases hv
      refine ⟨by simp, .inr ⟨g, c, cur, by simp, hg', hb', by simp; omega, hcap', hsz', ?_⟩⟩
      have := congrArg (List.take (zs.length - 1)) ht'
      simp [List.take_take] at this ⊢
      rw [← this]
  generalize nb zs (zs.length - 1) = m at *
  generalize hn : zs.length - 1 = n at *
  have hnn : n < zs.length := by omega
  clear hcell hfr h hn
  go_enter Tryz.func132, Tryz.ntmps132
  go_wp2
  go_ret
  exact ⟨rfl, _, hO, rfl, rfl⟩

set_option maxRecDepth 100000 in
set_option maxHeartbeats 1000000 in
theorem pop_any (b o : Nat) (w : World) (base : Nat) (v : Value) (zs : List Int) (h : OI w base v zs) (h0 : zs ≠ []) (hbb : b < base) (hv : w.cell? ⟨b, o, none⟩ = some v) (hf : w.frozen? ⟨b, o, none⟩ = false) (hl : zs.length ≤ 1000000) (hp : Hp zs) :
    Calls Tryz.prog 22 #[.iface 53 (.pointer (some ⟨b, o, none⟩))] w fun e w' => e = .returned (.iface 3 (.int .i64 (nb zs 0))) ∧
      ∃ v' ys, OI w' base v' ys ∧ w'.cell? ⟨b, o, none⟩ = some v' ∧ Hp ys ∧ zs.Perm (nb zs 0 :: ys) ∧ (∀ z ∈ zs, nb zs 0 ≤ z) ∧ Two w w' b o v' v.ownBlock ∧ v'.ownBlock = v.ownBlock := by
  have hpos : 0 < zs.length := List.length_pos_iff.2 h0
  have hm0 := m_len b o w v hv
  have hm1 := m_swap b o w v hv
  have hm2 := m_pop (some ⟨b, o, none⟩)
  have hL := len_any w base v zs h
  have hb0 : b < w.heap.size := cell_in hv
  have hne : some b ≠ v.ownBlock := fun e => by have := (h.1.lt b e.symm).1; omega
  obtain ⟨n, hn⟩ : ∃ n, n = zs.length - 1 := ⟨_, rfl⟩
  have hz : (zs.length : Int) - 1 = (n : Int) := by omega
  have hnl : n < zs.length := by omega
  have hS := swap_any w base v zs h 0 n hpos hnl hl
  obtain ⟨hD, hN⟩ := hp.pop h0
  rw [← hn] at hD hN
  have hD := hid hD
  have hN := hid hN
  have HN := hid hn
  have hX := hid (And.intro h0 hp)
  clear hn h0 hp h
  go_enter Tryz.func22, Tryz.ntmps22
  go_wp2_with (first
    | (go_at_call 132; have hq := hO2; refine (lpop_any b o w2 base v ys hO2 hys0 hc2 hf2 (by have := hp2.length_eq; rw [sw_length] at this; omega)).mono ?_; rintro e w3 ⟨rfl, v', hO3, hw3, hov⟩; have HW := hid hw3; clear hw3)
    | (go_at_call 46; have hq := hO1; refine (down_any b o w1 base v (sw zs 0 n) hO1 hbb hc1 n hD.out (by rw [sw_length]; omega) (by rw [sw_length]; omega)).mono ?_; rintro e w2 ⟨r, ys, rfl, hO2, hp2, hN2, hm, hG2⟩; have hc2 := (hG2.cell_far ⟨b, o, none⟩ (by have := hG1.size; simp; omega) hne).trans hc1; have hf2 := (hG2.frozen_far ⟨b, o, none⟩ (by have := hG1.size; simp; omega) hne).trans hf1; have hys0 : ys ≠ [] := (fun e => by have := hp2.length_eq; rw [sw_length, e] at this; simp at this; omega); have hHm := hid hm; clear hm)
    | (go_at_call 131; refine hS.mono ?_; rintro e w1 ⟨rfl, hO1, hG1⟩; have hc1 := (hG1.cell_far ⟨b, o, none⟩ hb0 hne).trans hv; have hf1 := (hG1.frozen_far ⟨b, o, none⟩ hb0 hne).trans hf)
    | (go_at_call 129; refine hL.mono ?_; rintro e w0 ⟨rfl, rfl⟩))
  go_ret
  have hyl := hp2.length_eq
  rw [sw_length] at hyl
  have hn := HN.out
  have hpz : ys.Perm zs := hp2.trans (sw_perm hpos hnl)
  obtain ⟨r1, r2, r3⟩ := popped hX.out.1 hpz (by rw [← hn]; exact hN2) (by rw [← hn, hHm.out]; exact hN.out) hX.out.2
  have hyn : ys.length - 1 = zs.length - 1 := by omega
  have hne' : some b ≠ v'.ownBlock := by rw [hov]; exact hne
  have hG3 : w2.grownBy w3 (some b) := by rw [HW.out]; exact grownBy_setCell w2 b o v'
  refine ⟨?_, v', ys.take (ys.length - 1), hO3.kept hG3 (.inr (Ne.symm hne')), ?_, ?_, ?_, r3, ⟨?_, ?_, ?_, ?_, fun k hk hkb hkg => ?_, ?_⟩, hov⟩
  · rw [hyn, ← hn, hHm.out, hN.out]; rfl
  · rw [HW.out]; exact World.cell?_setCell_same _ _ _ hc2
  · rw [hyn]; exact r1
  · rw [hyn]; exact r2
  · rw [hG3.os, hG2.os, hG1.os]
  · rw [hG3.tape, hG2.tape, hG1.tape]
  · rw [hG3.output, hG2.output, hG1.output]
  · have := hG1.size; have := hG2.size; have := hG3.size; omega
  · rw [hG3.block k (by have := hG1.size; have := hG2.size; omega) (by simp [hkb]), hG2.block k (by have := hG1.size; omega) hkg, hG1.block k hk hkg]
  · rw [HW.out]
    exact setCell_block _ _ _ _ _ ((hG2.block b (by have := hG1.size; omega) hne).trans (hG1.block b hb0 hne))
end Go.Proofs.YtlncokkpdkddlaaGreat
