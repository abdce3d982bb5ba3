/- The way up in the heap. -/
import Derived.Test.YtlncokkpdkddlaaGreatHMath
import Derived.Test.YtlncokkpdkddlaaGreatGBase
import Derived.Deep.AppendLies
import Derived.Deep.RegionLaw
import Derived.Deep.RegionWith
import Derived.Maps.OwnRows
namespace Go.Proofs.YtlncokkpdkddlaaGreat
section
open Go.RowKit
open Go.Sort (grow)

/-- Numbers of the call's own, as a slice. -/
abbrev OI (w : World) (base : Nat) (v : Value) (zs : List Int) : Prop := w.ownsInts base 3 .i64 v zs

theorem OI.at {w : World} {base : Nat} {v : Value} {zs : List Int} (h : OI w base v zs) (hp : 0 < zs.length) :
    ∃ g c, v = .slice (some ⟨g, 0, none⟩) zs.length c ∧ zs.length ≤ c ∧ c ≤ maxLen ∧ base ≤ g ∧ g < w.heap.size ∧ (∀ k, k < zs.length → w.cell? ⟨g, k, none⟩ = some (.int .i64 (nb zs k))) ∧ ∀ k, w.frozen? ⟨g, k, none⟩ = false := by
  rcases h.1.2 with ⟨rfl, hn⟩ | ⟨g, cap, cur, rfl, hg, hb, hn, hcap, hsz, ht⟩
  · omega
  · refine ⟨g, cap, rfl, hn, hcap, hg, (Array.getElem?_eq_some_iff.1 hb).1, fun k hk => ?_, fun k => by simp [World.frozen?, hb]⟩
    have := h.1.cells (g := g) rfl k (.int .i64 zs[k]) (by simp [hk])
    rw [Addr.add_lit] at this
    rw [nb_get hk]
    simpa using this

theorem hless_any (w : World) (base : Nat) (v : Value) (zs : List Int) (h : OI w base v zs) (i j : Nat) (hi : i < zs.length) (hj : j < zs.length) (hl : zs.length ≤ 1000000) :
    Calls Tryz.prog 130 #[v, .int .i64 i, .int .i64 j] w fun e w' => e = .returned (.bool (decide (nb zs i < nb zs j))) ∧ ∃ n, w' = w.drewN n := by
  obtain ⟨g, c, rfl, hc1, hc2, hb, hg, hcell, hfr⟩ := h.at (by omega)
  have e1 := hcell i hi
  have e2 := hcell j hj
  clear hcell hfr h
  go_enter Tryz.func130, Tryz.ntmps130
  go_wp2
  go_quiet (fail)
  go_wp2
  go_ret
  exact ⟨rfl, _, rfl⟩

theorem OI.stored {w : World} {base g c : Nat} {zs : List Int} (h : OI w base (.slice (some ⟨g, 0, none⟩) zs.length c) zs) (j : Nat) {x : Int} (hx : (Lit.int .i64 x).wf = true) :
    OI (w.setCell ⟨g, j, none⟩ (.int .i64 x)) base (.slice (some ⟨g, 0, none⟩) zs.length c) (zs.set j x) ∧ w.grownBy (w.setCell ⟨g, j, none⟩ (.int .i64 x)) (some g) := by
  obtain ⟨h1, h2⟩ := h.1.stored j (.int .i64 x)
  refine ⟨⟨by simpa [List.map_set] using h1, fun z hz => ?_⟩, h2⟩
  rcases List.mem_or_eq_of_mem_set hz with hz | rfl
  · exact h.2 z hz
  · exact hx

theorem OI.wf {w : World} {base : Nat} {v : Value} {zs : List Int} (h : OI w base v zs) {k : Nat} (hk : k < zs.length) : (Lit.int .i64 (nb zs k)).wf = true := by
  rw [nb_get hk]; exact h.2 _ (List.getElem_mem _)

theorem OI.drewN {w : World} {base : Nat} {v : Value} {zs : List Int} (h : OI w base v zs) (n : Nat) : OI (w.drewN n) base v zs := h

theorem swap_any (w : World) (base : Nat) (v : Value) (zs : List Int) (h : OI w base v zs) (i j : Nat) (hi : i < zs.length) (hj : j < zs.length) (hl : zs.length ≤ 1000000) :
    Calls Tryz.prog 131 #[v, .int .i64 i, .int .i64 j] w fun e w' => e = .returned (.tuple #[]) ∧ OI w' base v (sw zs i j) ∧ w.grownBy w' v.ownBlock := by
  have w1 := h.wf hi
  have w2 := h.wf hj
  have H := hid h
  obtain ⟨g, c, rfl, hc1, hc2, hb, hg, hcell, hfr⟩ := h.at (by omega)
  have e1 := hcell i hi
  have e2 := hcell j hj
  have f1 := hfr i
  have f2 := hfr j
  clear hcell hfr h
  go_enter Tryz.func131, Tryz.ntmps131
  have e3 : (w.setCell ⟨g, i, none⟩ (.int .i64 (nb zs j))).cell? ⟨g, j, none⟩ = some (.int .i64 (nb zs j)) := by
    by_cases hij : i = j
    · subst hij; exact World.cell?_setCell_same _ _ _ e1
    · rw [World.cell?_setCell_other _ _ _ _ (fun e => hij (by cases e; rfl))]; exact e2
  go_wp2
  go_region
  all_goals (go_end0)
  have h1 := OI.stored H.out i w2
  have h2 := OI.stored (zs := zs.set i (nb zs j)) (by simpa using h1.1) j w1
  refine ⟨rfl, ?_, (h1.2.trans h2.2).trans (grownBy_drewN _ 1 _)⟩
  have h3 := h2.1
  simp only [List.length_set] at h3
  exact h3.drewN 1

theorem find_info {t : TypeId} {name : String} {f : FuncId} {r : Bool} (h : ((Tryz.prog.info? t).bind (fun i => i.methods.find? (fun x => x.name == name))).map (fun m => (m.path, m.func)) = some (#[], some (f, r))) :
    ∃ i m, Tryz.prog.info? t = some i ∧ i.methods.find? (fun x => x.name == name) = some m ∧ m.path = #[] ∧ m.func = some (f, r) := by
  cases hi : Tryz.prog.info? t with
  | none => rw [hi] at h; cases h
  | some i =>
    rw [hi] at h
    simp only [Option.bind_some] at h
    cases hm : i.methods.find? (fun x => x.name == name) with
    | none => rw [hm] at h; cases h
    | some m =>
      rw [hm] at h
      simp at h
      exact ⟨i, m, rfl, hm, h.1, h.2⟩

set_option maxRecDepth 100000 in
theorem meth_val {name : String} {f : FuncId} (h : ((Tryz.prog.info? 53).bind (fun i => i.methods.find? (fun x => x.name == name))).map (fun m => (m.path, m.func)) = some (#[], some (f, false))) (n b o : Nat) (w : World) (v : Value) (hv : w.cell? ⟨b, o, none⟩ = some v) : (method (n + 1) 53 (.pointer (some ⟨b, o, none⟩)) name).run Tryz.prog w = .ok (f, v) w := by
  obtain ⟨i, m, h1, h2, h3, h4⟩ := find_info h
  have hs : ∀ s, (Builtin.ssaWrapNilChk_ #[53] 53 #[.pointer (some ⟨b, o, none⟩), strVal "", strVal s]).run Tryz.prog w = .ok (.pointer (some ⟨b, o, none⟩)) w := fun _ => rfl
  unfold method
  simp [typeInfo, h1, h2, h3, h4, follow, receiverAt, Place.get, hs, asAddr, go_sem, hv, Result.andThen]

set_option maxRecDepth 100000 in
theorem meth_ptr {name : String} {f : FuncId} (h : ((Tryz.prog.info? 53).bind (fun i => i.methods.find? (fun x => x.name == name))).map (fun m => (m.path, m.func)) = some (#[], some (f, true))) (n : Nat) (a : Option Addr) (w : World) : (method (n + 1) 53 (.pointer a) name).run Tryz.prog w = .ok (f, .pointer a) w := by
  obtain ⟨i, m, h1, h2, h3, h4⟩ := find_info h
  unfold method
  simp [typeInfo, h1, h2, h3, h4, follow, receiverAt, Place.get, go_sem, Result.andThen]

theorem m_less (b o : Nat) (w : World) (v : Value) (hv : w.cell? ⟨b, o, none⟩ = some v) : (method 254 53 (.pointer (some ⟨b, o, none⟩)) "Less").run Tryz.prog w = .ok (130, v) w := meth_val (by kernel_rfl) _ b o w v hv
theorem m_swap (b o : Nat) (w : World) (v : Value) (hv : w.cell? ⟨b, o, none⟩ = some v) : (method 254 53 (.pointer (some ⟨b, o, none⟩)) "Swap").run Tryz.prog w = .ok (131, v) w := meth_val (by kernel_rfl) _ b o w v hv
theorem m_len (b o : Nat) (w : World) (v : Value) (hv : w.cell? ⟨b, o, none⟩ = some v) : (method 254 53 (.pointer (some ⟨b, o, none⟩)) "Len").run Tryz.prog w = .ok (129, v) w := meth_val (by kernel_rfl) _ b o w v hv
theorem m_push (a : Option Addr) (w : World) : (method 254 53 (.pointer a) "Push").run Tryz.prog w = .ok (133, .pointer a) w := meth_ptr (by kernel_rfl) _ a w
theorem m_pop (a : Option Addr) (w : World) : (method 254 53 (.pointer a) "Pop").run Tryz.prog w = .ok (132, .pointer a) w := meth_ptr (by kernel_rfl) _ a w

theorem len_any (w : World) (base : Nat) (v : Value) (zs : List Int) (h : OI w base v zs) : Calls Tryz.prog 129 #[v] w fun e w' => e = .returned (.int .i64 zs.length) ∧ w = w' := by
  obtain ⟨a, c, rfl⟩ : ∃ a c, v = .slice a zs.length c := by
    rcases h.1.2 with ⟨rfl, hn⟩ | ⟨g, cap, cur, rfl, _⟩
    · exact ⟨none, 0, by rw [hn]⟩
    · exact ⟨_, _, rfl⟩
  clear h
  go_enter Tryz.func129, Tryz.ntmps129
  go_wp2
  go_ret
  exact ⟨rfl, rfl⟩

end

section
open Go.RowKit
open Go.Sort (grow)

theorem tdiv_half {k : Nat} (h : 0 < k) : ((k : Int) - 1).tdiv 2 = (((k - 1) / 2 : Nat) : Int) := by
  rw [Int.tdiv_eq_ediv_of_nonneg (by omega)]
  omega
theorem tdiv_zero : ((0 : Nat) : Int) - 1 = -1 := by omega

set_option maxRecDepth 100000 in
set_option maxHeartbeats 1000000 in
theorem up_any (b o : Nat) (w : World) (base : Nat) (v : Value) (zs : List Int) (h : OI w base v zs) (hbb : b < base) (hv : w.cell? ⟨b, o, none⟩ = some v) (j : Nat) (hj : UpI zs j) (hl : zs.length ≤ 1000000) :
    Calls Tryz.prog 66 #[.iface 53 (.pointer (some ⟨b, o, none⟩)), .int .i64 j] w fun e w' => e = .returned (.tuple #[]) ∧ ∃ ys, OI w' base v ys ∧ ys.Perm zs ∧ Hp ys ∧ w.grownBy w' v.ownBlock := by
  go_enter Tryz.func66, Tryz.ntmps66
  go_wp2
  go_loopw [1] (fun i wr => ∃ (k : Nat) (ys : List Int), i = .int .i64 k ∧ OI wr base v ys ∧ ys.Perm zs ∧ UpI ys k ∧ w.grownBy wr v.ownBlock) (fun i _ => (intOf i).toNat)
  case atStart => exact ⟨j, zs, rfl, h, List.Perm.refl _, hj, World.grownBy.refl _ _⟩
  case round =>
    obtain ⟨k, ys, rfl, hO, hP, hU, hG⟩ := hrel
    have hlen := hP.length_eq
    have hkl := hU.lt
    have hbv : v.ownBlock ≠ some b := fun e => by have := (hO.1.lt b e).1; omega
    have hb0 : b < w.heap.size := cell_in hv
    have hv1 : wr.cell? ⟨b, o, none⟩ = some v := (hG.cell_far ⟨b, o, none⟩ hb0 (fun e => hbv e.symm)).trans hv
    have hm1 := m_less b o wr v hv1
    by_cases hk : k = 0
    · subst hk
      have q : (((0 : Nat) : Int) - 1).tdiv 2 = ((0 : Nat) : Int) := by decide
      have hT := hid hU.top
      clear hm1 hv1 hU
      go_wp2
      go_end0
      exact ⟨rfl, ys, hO, hP, hT.out, hG⟩
    · have q := tdiv_half (k := k) (by omega)
      have qn : ((((k - 1) / 2 : Nat) : Int) == (k : Int)) = false := by simp; omega
      have hkm : k ≤ 1000000 := by omega
      have him : (k - 1) / 2 ≤ 1000000 := by omega
      have hli : (k - 1) / 2 < ys.length := by omega
      have hL := hless_any wr base v ys hO k ((k - 1) / 2) hkl hli (by omega)
      have hKi := hid (show (k - 1) / 2 < k by omega)
      have hH := hid (And.intro hU (And.intro hP hlen))
      generalize hi : (k - 1) / 2 = i at q qn him hli hL hKi
      have hI := hid hi
      clear hi hU hP hlen
      by_cases hc : nb ys k < nb ys i
      · have hd : decide (nb ys k < nb ys i) = true := by simp [hc]
        rw [hd] at hL
        have hS := fun n => swap_any (wr.drewN n) base v ys (hO.drewN n) i k hli hkl (by have := hH.out.2.2; omega)
        have hms := fun n => m_swap b o (wr.drewN n) v hv1
        have HC := hid hc
        clear hc hd
        go_wp2_with (first
          | (go_at_call 131; refine (hS _).mono ?_; rintro e w2 ⟨rfl, hO2, hG2⟩)
          | (go_at_call 130; refine hL.mono ?_; rintro e w1 ⟨rfl, n1, rfl⟩))
        go_roundw
        case rel =>
          refine ⟨i, _, rfl, hO2, ?_, ?_, (hG.trans (grownBy_drewN _ _ _)).trans hG2⟩
          · exact (sw_perm hli hkl).trans hH.out.2.1
          · have hs := hH.out.1.step (by omega) (by rw [hI.out]; exact HC.out)
            rw [hI.out] at hs
            exact hs
        case measure => have := hKi.out; simp [intOf]; omega
      · have hd : decide (nb ys k < nb ys i) = false := by simpa using hc
        rw [hd] at hL
        have HC := hid hc
        clear hc hd
        go_wp2_with (first
          | (go_at_call 130; refine hL.mono ?_; rintro e w1 ⟨rfl, n1, rfl⟩))
        go_end0
        refine ⟨rfl, ys, hO, hH.out.2.1, hH.out.1.done ?_, hG.trans (grownBy_drewN _ _ _)⟩
        have := HC.out
        rw [hI.out]
        omega

end
end Go.Proofs.YtlncokkpdkddlaaGreat
